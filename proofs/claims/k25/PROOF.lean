import PyProof.Rows.All
import Wide.All
import OpenK.AllK
import Wide.FinOn
import Lean
import PyProof.EqAt
import PyProof.EqKinds
import PyProof.TupleCall
import PyProof.ZipIter
import PyProof.EnumMake
import PyProof.EnumFor
import PyProof.CollectIter
import PyProof.Rows.SeqMore
import PyProof.ConsumeWalk
import PyProof.Rows.SortShellK
import PyProof.DictItems
import PyProof.DictWalks
import PyProof.AttrMissHeap
import PyProof.DictIter
import PyProof.MaxThree
import PyProof.SeqI3
import PyProof.DictTruth
import PyProof.Rows.TupDisplay
import PyProof.ListCopy
import PyProof.NeKinds
import PyProof.RaisesDict
import KE.KDictOf
import KE.IntBitsLaws
import PySem.Challenge.RW_fewtimes_k25_programs_run
set_option Elab.async false
set_option linter.all false
set_option compiler.extract_closed false
set_option genSizeOf false
set_option bootstrap.genMatcherCode false
set_option maxRecDepth 100000
set_option maxHeartbeats 4000000
open PySem.W (Frag)
open PySem renaming wpAny_bind → g6, Value → gV, Shared → h7, wpAny_pure → i4, sizeLine_eq → q7, sizeLine → DL, wpAny → DU, model → DW, Program → E3, starEach → E4, compareOp → Eg, World → Ep, wpAny_setField_rec → Eu, Around → Ew, wpAny_callSpecial?_slot → Ey, Comprehension → EA, Paired → EE, sysModules → EF, wpAny_call_entry → EG, PyData → EH, wpAny_field → EI, mainGlobals → EM, wpAny_pyIter_tuple → EV, mem_of_lookup → F1, wpAny_truthy_bool → F3, binaryOp → F7, wpAny_mono → Fj, assignEach → Fk, foldedSetIterable → Fv, cellsFrom → Fw, wpAny_pyIter_list → Fy, wpAny_rule → Fz, bootBuiltins → FE, wpAny_holding → FI, wpAny_seqItems → FN, cLine → FQ, wpAny_passesOwn → FT, swappedStores → FY, IsPair → FZ, Builtin → G0, NameKind → G2, DictEntry → G3, tupleKind_room_in1 → Gc, wpAny_loadPart' → Gi, wpAny_standAt → Gj, wpAny_newObj_type → Gq, backTo → Gu, FuncData → Gv, wpAny_isInstance → GA, swapsWithSole → GD, behindInMarks → GF, wpAny_attempt → GK, wpAny_Call_Name_kw → GS, swapsWith → GY, pyNext → H9, codeAny_mono → Hc, Reads → Hi, Model → Hs, wpAny_of_eq → HH, wpAny_updateSeq_pair → HI, letOwnedTupleGo → HM, codeAny → I7, Keyword → I8, call_meetsIn → I9, wpAny_richCompare_same_room → Ic, tupleKind → Ih, firstArgMember → Il, wpAny_binaryOp_repeat_ref → Ir, standAt → Iz, IsZip → IC, wpAny_letGo → ID, wpAny_dictEntries → IE, attributeBase → IF, wpAny_newList → IG, wpAny_comprehension_free → IH, wpAny_onRaise → II, lastMarks → IP, noFill_tuple_add → IQ, rawInt → J4, seqIndex_neg → J6, wpAny_getItem_list_neg → J8, typeIs_int → Ja, call_meets → Jb, valueAt → Jc, IsEnum → Je, wpAny_execs_nil → Jk, pushCells_keeps → Jo, builtinLookup_eq_fast → Js, pyIter → Jy, seqIndex_of → JB, keywordEach → JC, newFunctionEnv → JD, ZipApart → JE, wpAny_newTuple → JG, isSubtype_stop → JH, ReadsAll → JL, isSubtype_type → JO, wpAny_ite_true → JP, intBits_mul_le → JU, callerA → JW, assignInOrder → K1, CmpOp → K2, seq_tuple_add → K3, mroOf_keyiter → K5, foldedForSure → K9, Operator → Ko, BindsTo → Ks, concat_meets → Kt, wpAny_Call_method → Kw, wpAny_pyIter_enum → KA, wpAny_Dict_empty → KY, pushCells → KZ, wpAny_pyIter_zip → L5, IsEnumOut → L6, atKey → Ll, richCompare → Lo, getItem → LD, builtinsNs → LH, wpAny_Name → LI, bindName → LJ, bindL → LK, bindC → LL, backToKw → LM, call → LN
open PySem.Str renaming ofString → h6
open Bool renaming and_eq_true → hH, false_ne_true → y2, false_eq_true → EK, not_eq_true' → ES, false_or → GJ, not_eq_true → Hx, or_eq_true → Jp, beq_eq_decide_eq → Jw, and_eq_true_iff → JK
open PySem.Heap renaming get?_push_of_some → i3, lt_size → DM, get?_push_size → DQ, size_push → EU, SameBut → F9, get?_update_ne → Fi, IsTuple → Ib, get?_update_other → J9, get?_update_self → Jq, IsList → JI, get?_push_cases → JJ, ExtBut → Lm
open List renaming length_map → i5, getElem?_append_right → r0, pairwise_append → z4, getElem?_eq_getElem → D0, replicate → DN, length_append → DO, getElem?_append_left → DS, mem_cons → DT, size_toArray → DV, getElem?_eq_some_iff → DY, append_assoc → DZ, mem_append_right → E1, mem_cons_of_mem → E2, mem_append → E5, map_cons → E6, toList_toArray → E9, mem_of_getElem? → Ef, getElem?_map → Ei, map_append → El, length_take → Er, not_mem_nil → Es, length_eq_zero_iff → Et, mem_cons_self → Ex, replicate_succ → Ez, mem_map → EO, getD_eq_getElem?_getD → EW, range → EZ, append_nil → Fb, map_nil → Fc, find?_cons → Fd, mem_append_left → Ff, length_cons → Fl, filter_append → Fm, any_cons → Fo, mem_iff_getElem → Ft, flatten_cons → Fx, mem_map_of_mem → FC, drop_eq_nil_of_le → FG, lookup_cons → FK, length_replicate → FO, take_append_drop → FP, drop_eq_getElem_cons → FR, length_nil → FU, ext_getElem? → FW, length_pos_iff → G1, getElem?_cons_succ → G4, filter_cons_of_neg → G5, filter_cons_of_pos → G6, getElem?_set_self → G8, map_map → Gf, forIn_cons → Gh, all_cons → Gk, length_filter_le → Gm, perm_append_comm → Gp, length → Gx, mem_reverse → GC, getElem?_take_of_lt → GG, nodup_cons → GO, getElem?_drop → GW, getElem?_replicate → GZ, Perm → H8, reverse_cons → Hg, extract → Hj, take_of_length_le → Hk, reverse_perm → Hl, pairwise_map → Hn, length_range → Hq, length_singleton → Ht, foldl → Hv, all_eq_true → HB, getElem?_set_ne → HE, mem_of_mem_drop → HJ, mem_of_mem_take → HK, mem_filter → HL, nil_append → HN, dropLast_concat_getLast → HS, filter_map → HW, filterMap_cons → HX, getElem?_range → HZ, zipIdx_map_fst → I0, pairwise_cons → Io, drop_drop → Ip, zipIdx_cons → IU, getElem?_cons_zero → IY, zipWith → Jh, of_mem_zip → Jl, foldl_cons → Jm, getElem?_zipWith → Jt, pairwise_reverse → Ju, dropLast_eq_take → Jv, getElem?_eq_none → Jx, forIn_nil → JF, getElem?_mapIdx → JM, length_zipWith → JY, length_reverse → JZ, map_congr_left → K0, mem_filterMap → Kd, set_cons_zero → Kk, set_cons_succ → Kl, take_add_one → KG, filter_cons → KW, drop_length → L7, length_drop → L8, getElem_mem → L9, cons_append → La, map_snd_zip → Ld, append_inj' → Li, zipIdx_nil → Lx
open PyProof.Rows renaming wpS_bind → D1, Keyed → D2, arrOf → Ea, SortSt → EB, wpS_forRange → EC, pendingOf → ET, kindOf → F8, failedOf → Fs, callWith_type1 → FF, wpS_modify → Gy, SortKind → GL, get?_update_seq → GQ, wpS_get → HC, listUpdate_at → HD, mem_zip_self → Ie, assignInOrder_cons → Ij, AllBare → Iy, seqSlot_of → IW, intBits_le → IZ, subscriptTail_builtinR → J7, envOfC → JA, assignInOrder_nil → Kn, listItems_at → KJ, seqObj → Lc, keyKind'_eq → Lp, seqEpoch_at → Lq, IntsAre → LF
open Nat renaming le_refl → DP, ne_of_lt → Ec, le_trans → Ed, lt_of_lt_of_le → Ee, lt_irrefl → F6, zero_le → FJ, ne_of_gt → G9, le_of_lt → Gz, min_eq_left → GP, lt_succ_of_lt → IB, succ_le_succ → IX, add_sub_cancel → Ki, one_le_two_pow → Km, sub_self → KI, add_zero → KN, not_lt → LO, succ → LW
open Array renaming toList_append → DR, toList_push → DX, getElem?_toList → E7, toList_reverse → Ek, length_toList → Em, getElem?_eq_getElem → EJ, toList_extract → Fu, size_append → Gs, getElem?_eq_none → Ho, toList_inj → Hz, map → HA, size_push → HU, toList → J3, append_assoc → Kc, all_eq_true → KL, filterMap → LB
open PySem.W renaming mg_of → E8, kia_one → EX, fnOf → Ga, keepIn → Gw, kitx_list → Ha, kitx_dict → Hb, cellsFrom_some → Hd, nsIn → Hh, codeIn → Ik, methodObj → Iw, instObj → Jj, OpenLaw → Jn, lookIn → Jz, kitAny → JQ, kitx_float → Ke, kitx_tuple → Kf, kitx_none → Kq, kitx_bool → Kr, plainGet → KQ, kitx_int → KR, kitx_str → KS
open PySem.NameKind renaming free → Eh, cell → Fp
open PySem.PyData renaming eqv → Ej, canLayAll0 → ER, depthAll → FA, depth → Gd, eqvAll → GN, canLay0 → Hm, strOk → Jg, list → Ln
open PySem.Value renaming ref → Eo, type → EN, none → FX, int → IK, str → IM, bool → J2, float → Lk
open Option renaming map_some → ED, bind_some → EY, isSome_iff_exists → Fn, some → Fq, isSome_map → Gr, isSome_some → Kg, join_some → Lf, bind_none → Lg, join_none → Lh, getD_some → Lj
open List.Perm renaming append_right → EL, append_left → F5, refl → JN, of_eq → Ly
open Int renaming toNat_natCast → F4, toNat_of_nonneg → Fh, emod_lt_of_pos → GX, emod_nonneg → HV
open True renaming intro → Fe
open PySem.SeqAt renaming readOf → Fg, readOf_eq → FV, eqAt_reads → Lb
open PySem.Paired renaming length → FH
open PySem.F renaming slot_tuple_iterator_next → FL, slot_enumerate_next → Gn, args_tuple_add_2 → GH, entry_tuple_add → H0, slot_tuple_add → He, slot_dict_get → Hu, slot_int_rmul → HP, args_tuple_iterator_next_1 → HQ, slot_zip_next → HR, entry_tuple_iterator_next → Ia, slot_dict_delitem → Iu, args_dict_get_3 → IS, plainAttrs_dict → IT, args_enumerate_next_1 → IV, entry_dict_get → Jd, entry_enumerate_next → Jf, slot_dict_pop → Jr, slot_dict_ne → JR, args_int_rmul_2 → Ku, args_zip_next_1 → Kx, entry_int_rmul → KU, entry_zip_next → L3, slot_dict_iter → Le, fills_int_mul → Lw, slot_tuple_lt → LA, slot_dict_len → LC
open PySem.Shared renaming heap → G7
open PySem.Obj renaming mapSeq → Gb, data_mapFields → Kh
open ForInStep renaming yield → Gg
open LawfulBEq renaming eq_of_beq → GB
open PySem.Builtin.List renaming listTooLong → GI, listLengthHint → Ig
open PySem.Calls renaming spliced_cons → GR, callWith_builtin → Hf, evalArgs_plain → HF, Name_function_global → Ii, spliced_nil → IA
open PySem.Around renaming in1_handled → GU
open PySem.Builtin.Tuple renaming tupleCompareSizes → Hr, tupleTooMany → Im
open And renaming intro → Hw
open PyProof.Rows.SortSt renaming mk' → Hy
open PySem.Data renaming seq → HG
open PySem.Builtin.Int renaming intBits → HY
open PySem.Builtin.Dict_items renaming isOneOf → Iq
open PySem.Builtin.Dict renaming dictSlotArgs → Iv, samePairs → Ji
open PySem.Env renaming blockKind → IJ, kindOf → Kj
open Sum renaming inl → J0, inr → J1
open PySem.Expr renaming Subscript → JS, Attribute → JT, Constant → K6, ListComp → K7, UnaryOp → KO, Compare → KP, BoolOp → Lr, BinOp → LQ, IfExp → LR, Tuple → LS, Name → LX, List → LY, Call → LZ, Dict → Ma
open PyProof.Rows.IsTup renaming new → JV
open PySem.Heap.SameBut renaming update → JX
open PySem.Stmt renaming Continue → K8, Assign → Ls, Delete → Lu, Return → Lv, While → LU, Break → LV, Expr → Mb, Pass → Mc
open PySem.SeqAt.EqAt renaming int_str → Ka, str_int → Kb
open List.Pairwise renaming nil → Kv
open PySem.Heap.IsTuple renaming push → Kz
open Option.some renaming injEq → KD
open Exists renaming intro → KH
open PySem.Heap.IsList renaming push → L4
open List.cons renaming injEq → Lz
open Iff renaming rfl → LG
namespace L2
open PySem PySem.Spec PyProof.Rows
section
noncomputable abbrev Key:=Sum Int Str
noncomputable def fU:Key->gV->Bool
 | .inl k,v=>Value.isInt k v
 | .inr x,v=>Value.isStrOf x v
noncomputable def B2 (w:Ep):Key->Int
 | .inl k=>hashInt k
 | .inr x=>hashStr w x
theorem aY:∀ {k:Key} {v:gV},fU k v=true->(∃ i t,k=J0 i/\v=IK i t)∨(∃ x t,k=J1 x/\v=IM x t)
 | .inl i,v,h=>by
  obtain ⟨t,e⟩:=Value.isInt_shape (k:=i) (v:=v) h;exact .inl ⟨i,t,rfl,e⟩
 | .inr x,v,h=>by
  obtain ⟨t,e⟩:=Value.isStrOf_shape (x:=x) (v:=v) h;exact .inr ⟨x,t,rfl,e⟩
theorem qt (i:Int) (t:Tok):fU (.inl i) (.int i t)=true:=by simp [fU,Value.isInt]
theorem qu (x:Str) (t:Tok):fU (.inr x) (.str x t)=true:=by simp [fU,Value.isStrOf]
theorem yr (a b:Int):decide ((J0 a:Key)=J0 b)=(a==b):=by
 by_cases e:a=b
 ·subst e;simp
 ·have h : ¬ (J0 a:Key)=J0 b:=fun q=>e (J0.inj q);rw [decide_eq_false h];exact (beq_eq_false_iff_ne.mpr e).symm
theorem yt (a b:Str):decide ((J1 a:Key)=J1 b)=decide (a=b):=by
 by_cases e:a=b
 ·subst e;simp
 ·have h : ¬ (J1 a:Key)=J1 b:=fun q=>e (J1.inj q);rw [decide_eq_false h,decide_eq_false e]
theorem yu (a:Int) (b:Str):decide ((J0 a:Key)=J1 b)=false:=decide_eq_false (fun q=>nomatch q)
theorem yv (a:Str) (b:Int):decide ((J1 a:Key)=J0 b)=false:=decide_eq_false (fun q=>nomatch q)
noncomputable def aP (prog:E3) (w:Ep):PySem.KeyKind prog w Key where
 is:=fU
 hash:=B2 w
 inj:=fun v a b ha hb=>by
  rcases aY ha with ⟨i,t,rfl,rfl⟩ | ⟨x,t,rfl,rfl⟩
  ·rcases aY hb with ⟨j,u,rfl,e⟩ | ⟨y,u,rfl,e⟩
   ·injection e with e1 _;rw [e1]
   ·exact nomatch e
  ·rcases aY hb with ⟨j,u,rfl,e⟩ | ⟨y,u,rfl,e⟩
   ·exact nomatch e
   ·injection e with e1 _;rw [e1]
 byValue:=fun k v h=>by
  rcases aY h with ⟨i,t,rfl,rfl⟩ | ⟨x,t,rfl,rfl⟩ <;> rfl
 pyHash:=fun hv h=>by
  rcases aY hv with ⟨i,t,rfl,rfl⟩ | ⟨x,t,rfl,rfl⟩
  ·exact wpAny_pyHash_int h
  ·exact wpAny_pyHash_str h
 eqBool:=fun hu hv h=>by
  rcases aY hu with ⟨i,t,rfl,rfl⟩ | ⟨x,t,rfl,rfl⟩
  ·rcases aY hv with ⟨j,u,rfl,rfl⟩ | ⟨y,u,rfl,rfl⟩
   ·rw [yr] at h;exact wpAny_eqBool_int h
   ·rw [yu] at h;exact Ka i t y u _ _ _ _ h
  ·rcases aY hv with ⟨j,u,rfl,rfl⟩ | ⟨y,u,rfl,rfl⟩
   ·rw [yv] at h;exact Kb x t j u _ _ _ _ h
   ·rw [yt] at h;exact wpAny_eqBool_str h
 «strs» := fun k x t v h=>by
  rcases aY h with ⟨i,u,rfl,e⟩ | ⟨y,u,rfl,e⟩
  ·exact nomatch e
  ·injection e with e1 _
   subst e1
   cases v <;> rfl
theorem nD (prog:E3) (w:Ep) (i:Int) (t:Tok):(aP prog w).is (.inl i) (.int i t)=true:=qt i t
theorem nE (prog:E3) (w:Ep) (x:Str) (t:Tok):(aP prog w).is (.inr x) (.str x t)=true:=qu x t
end
section
inductive V where
 | non | bl (b:Bool) | int (i:Int) | str (x:Str) | byt (b:Array UInt8) | flt (b:UInt64) | ref (a:Addr) | ty (n:String)
 deriving DecidableEq
noncomputable def RelV:V->gV->Prop
 | .non,u=>u=FX
 | .bl b,u=>u=J2 b
 | .int i,u => ∃ t,u=IK i t
 | .str x,u => ∃ t,u=IM x t
 | .byt b,u => ∃ t,u=Value.bytes b t
 | .flt b,u => ∃ t,u=Lk b t
 | .ref a,u=>u=Eo a
 | .ty n,u=>u=EN n
noncomputable abbrev Vals:List V->List gV->Prop:=EE RelV
theorem Vals.length {xs:List V} {us:List gV} (r:Vals xs us):xs.length=us.length:=FH r
theorem Vals.get:∀ {xs:List V} {us:List gV} {i:Nat} {x:V},Vals xs us->xs[i]? = some x -> ∃ u,us[i]? = some u/\RelV x u
 | _,_,_,_, .nil,e=>by simp at e
 | _,_,0,_, .cons r _,e=>by simp at e;subst e;exact ⟨_,rfl,r⟩
 | _,_,i+1,x, .cons _ t,e=>by
   obtain ⟨u,h1,h2⟩:=Vals.get (i:=i) (x:=x) t (by simpa using e)
   exact ⟨u,by simpa using h1,h2⟩
theorem Vals.set {x:V} {u:gV} (r:RelV x u):∀ {xs:List V} {us:List gV} (i:Nat),Vals xs us->Vals (xs.set i x) (us.set i u)
 | _,_,_, .nil => .nil
 | _,_,0, .cons _ t => .cons r t
 | _,_,i+1, .cons q t => .cons q (Vals.set r i t)
theorem Vals.append:∀ {xs ys:List V} {us ws:List gV},Vals xs us->Vals ys ws->Vals (xs++ys) (us++ws)
 | _,_,_,_, .nil,s=>s
 | _,_,_,_, .cons r t,s => .cons r (Vals.append t s)
theorem Vals.take:∀ {xs:List V} {us:List gV} (n:Nat),Vals xs us->Vals (xs.take n) (us.take n)
 | _,_,0,_ => .nil
 | _,_,_+1, .nil => .nil
 | _,_,n+1, .cons r t => .cons r (Vals.take n t)
theorem Vals.drop:∀ {xs:List V} {us:List gV} (n:Nat),Vals xs us->Vals (xs.drop n) (us.drop n)
 | _,_,0,r=>r
 | _,_,_+1, .nil => .nil
 | _,_,n+1, .cons _ t=>Vals.drop n t
noncomputable def RelO:Option V->Option gV->Prop
 | some v,some u=>RelV v u
 | none,none=>True
 | _,_=>False
noncomputable def KV {κ:Type}:List (κ × V)->List (κ × gV)->Prop:=EE fun (p : κ × V) (q : κ × gV)=>p.1=q.1/\RelV p.2 q.2
noncomputable def kV:Key->V
 | .inl i => .int i
 | .inr x => .str x
inductive HO where
 | lst (xs:List V)
 | tup (xs:List V)
 | dK (kvs:List (Key×V)) | dT (kvs:List (List Key×V))
 | set (S:Int->Bool) (n:Nat)
 | ins (C dx:Addr) (fs:List (Str×V))
 | own (x:Addr)
 | xd (fs:List (Str×V))
 | met (f x:Addr)
 | rng (lo hi:Int)
 | frz (o:Obj) (u:HO)
 | tbl (ps:Array gV)
 | ext (φ:Heap->Prop)
noncomputable abbrev Hp:=Addr->Option HO
noncomputable def upd (H:Hp) (a:Addr) (o:HO):Hp:=fun b=>if b=a then some o else H b
theorem aH {H:Hp} {a:Addr} {o:HO}:upd H a o a=some o:=by unfold upd;rw [if_pos rfl]
theorem am {H:Hp} {a b:Addr} {o:HO} (h:b≠a):upd H a o b=H b:=by unfold upd;rw [if_neg h]
theorem Af {H:Hp} {a b:Addr} {o u:HO} (h:H a=some o) (h':H b=some u) (d:o≠u):a≠b:=by
 intro e;subst e;rw [h] at h';exact d (Fq.inj h')
theorem b6 {H:Hp} {a b:Addr} {o:HO} (h:H a=some o) (h':H b=none):a≠b:=by
 intro e;subst e;rw [h] at h';cases h'
section
variable (P:E3) (w:Ep)
noncomputable def ObjOk (H:Hp) (h:Heap) (a:Addr):HO->Prop
 | .lst xs=>xs.length<=DL /\ ∃ (its:List gV) (n:Nat),Vals xs its/\h.get? a=some { cls := .type "list",data := .seq its.toArray n }
 | .tup xs=>xs.length<=DL /\ ∃ its:List gV,Vals xs its/\IsTup h a its.toArray
 | .dK kvs=>kvs.length<=DL/\(a==EF)=false /\ ∃ vs,KV kvs vs/\h.DictOf (aP P w) a vs
 | .dT kvs=>kvs.length<=DL/\(a==EF)=false /\ ∃ xs:List (List Key×Addr×gV),
  EE (fun (p:List Key×V) (q:List Key×Addr×gV)=>p.1=q.1/\H q.2.1=some (.tup (p.1.map kV))/\RelV p.2 q.2.2) kvs xs /\
  ∃ o es ep,h.get? a=some o/\o.ExactDict/\o.data = .dict es ep/\es.toList=xs.map (entryOfKey (Ih (aP P w)))/\(xs.map (·.1)).Nodup
 | .set S n=>h.SetOf (intKind P w) a S n
 | .ins C dx fs=>H dx=some (.own a)/\fs.length<=1000/\dx≠a/\h.get? a=some (Jj C dx) /\
  ∃ mA,h.Ns1 dx mA/\(∀ f,RelO (fs.lookup f) (mA f))/\PySem.Within mA (fs.map (·.1))
 | .own _ => ∃ o,h.get? a=some o
 | .xd fs => ∃ mA,h.Ns1 a mA /\ ∀ f,RelO (fs.lookup f) (mA f)
 | .rng lo hi => ∃ t u v,h.get? a=some { cls := .type "range",data := .fields #[.int lo t, .int hi u, .int 1 v] }
 | .frz o u=>h.get? a=some o/\ObjOk H h a u
 | .tbl ps=>h.get? a=some { cls := .none,data := .fields ps }
 | .met f x=>h.get? a=some (Iw (.ref f) (.ref x))
 | .ext φ => φ h/\(∃ o,h.get? a=some o) /\ ∀ h1 h2:Heap, φ h1->(∀ o,h1.get? a=some o->h2.get? a=some o) -> φ h2
def HOk (H:Hp) (h:Heap):Prop := ∀ a o,H a=some o->ObjOk P w H h a o
end
section
variable {P:E3} {w:Ep} {H H':Hp} {h h':Heap} {a:Addr} {o:HO}
theorem ObjOk.lt (x:ObjOk P w H h a o):a < h.objs.size:=by
 cases o with
 | lst xs=>obtain ⟨_,_,_,_,e⟩:=x;exact DM e
 | tup xs=>obtain ⟨_,_,_,p⟩:=x;exact p.lt
 | dK kvs=>obtain ⟨_,_,_,_,o,_,_,e,_⟩:=x;exact DM e
 | dT kvs=>obtain ⟨_,_,_,_,o,_,_,e,_⟩:=x;exact DM e
 | set S n=>obtain ⟨o,_,_,_,e,_⟩:=x;exact DM e
 | ins C dx fs=>obtain ⟨_,_,_,e,_⟩:=x;exact DM e
 | own y=>obtain ⟨_,e⟩:=x;exact DM e
 | xd fs=>obtain ⟨_,⟨_,_,_,e,_⟩,_⟩:=x;exact DM e
 | rng lo hi=>obtain ⟨_,_,_,e⟩:=x;exact DM e
 | frz ob u=>obtain ⟨e,_⟩:=x;exact DM e
 | tbl ps=>exact DM (show h.get? a=some _ from x)
 | met f y=>exact DM (show h.get? a=some _ from x)
 | ext φ => obtain ⟨_,⟨_,e⟩,_⟩:=x;exact DM e
theorem Mj {α β:Type} {F G : α -> β -> Prop}:∀ {l₁:List α} {l₂:List β},EE F l₁ l₂ -> (∀ a b,F a b->G a b)->EE G l₁ l₂
 | _,_, .nil,_ => .nil
 | _,_, .cons r t,f => .cons (f _ _ r) (Mj t f)
theorem ObjOk.stay (x:ObjOk P w H h a o) (k:∀ b u,(b=a∨H b=some (.own a))->h.get? b=some u->h'.get? b=some u)
 (ho:∀ b,H b=some (.own a)->H' b=some (.own a)) (j:∀ b xs,H b=some (.tup xs)->H' b=some (.tup xs)):ObjOk P w H' h' a o:=by
 induction o with
 | lst xs=>obtain ⟨z,its,n,r,e⟩:=x;exact ⟨z,its,n,r,k _ _ (.inl rfl) e⟩
 | tup xs=>obtain ⟨z,its,r,ob,e,c⟩:=x;exact ⟨z,its,r,ob,k _ _ (.inl rfl) e,c⟩
 | dK kvs=>obtain ⟨z,y,vs,r,ob,es,ep,e,c⟩:=x;exact ⟨z,y,vs,r,ob,es,ep,k _ _ (.inl rfl) e,c⟩
 | dT kvs =>
   obtain ⟨z,y,xs,r,ob,es,ep,e,c⟩:=x;exact ⟨z,y,xs,Mj r fun p q z=>⟨z.1,j _ _ z.2.1,z.2.2⟩,ob,es,ep,k _ _ (.inl rfl) e,c⟩
 | set S n=>obtain ⟨ob,es,ep,t,e,c⟩:=x;exact ⟨ob,es,ep,t,k _ _ (.inl rfl) e,c⟩
 | ins C dx fs =>
   obtain ⟨d,z,ne,e,mA,⟨od,es,ep,B,c⟩,r⟩:=x;exact ⟨ho _ d,z,ne,k _ _ (.inl rfl) e,mA,⟨od,es,ep,k _ _ (.inr d) B,c⟩,r⟩
 | own y=>obtain ⟨ob,e⟩:=x;exact ⟨ob,k _ _ (.inl rfl) e⟩
 | xd fs=>obtain ⟨mA,⟨od,es,ep,e,c⟩,r⟩:=x;exact ⟨mA,⟨od,es,ep,k _ _ (.inl rfl) e,c⟩,r⟩
 | rng lo hi=>obtain ⟨t,u,v,e⟩:=x;exact ⟨t,u,v,k _ _ (.inl rfl) e⟩
 | frz ob u ih=>obtain ⟨e,q⟩:=x;exact ⟨k _ _ (.inl rfl) e,ih q⟩
 | tbl ps =>
   have e:h.get? a=some { cls := .none,data := .fields ps }:=x;show h'.get? a=some { cls := .none,data := .fields ps };exact k a _ (.inl rfl) e
 | met f y =>
   have e:h.get? a=some (Iw (.ref f) (.ref y)):=x;show h'.get? a=some (Iw (.ref f) (.ref y));exact k a _ (.inl rfl) e
 | ext φ => obtain ⟨p,⟨o,e⟩,st⟩:=x;exact ⟨st _ _ p fun o q=>k _ _ (.inl rfl) q,⟨o,k _ _ (.inl rfl) e⟩,st⟩
theorem HOk.lt (x:HOk P w H h) (e:H a=some o):a < h.objs.size:=(x a o e).lt
theorem HOk.fresh (x:HOk P w H h) (e:h.objs.size<=a):H a=none:=by
 cases q:H a with
 | none=>rfl
 | some u=>exact absurd (Ee (x.lt q) e) (F6 _)
theorem HOk.kept (x:HOk P w H h) (k:∀ b u,h.get? b=some u->h'.get? b=some u):HOk P w H h':=fun a o e =>
 (x a o e).stay (fun b u _ q=>k b u q) (fun _ q=>q) fun _ _ q=>q
theorem HOk.laid (x:HOk P w H h) (k:∀ b u,h.get? b=some u->h'.get? b=some u) (j:h.objs.size<=a) (new:ObjOk P w (upd H a o) h' a o):HOk P w (upd H a o) h':=fun b u e=>by
 have hn:=x.fresh j
 by_cases hb:b=a
 ·subst hb;rw [aH] at e;cases e;exact new
 ·rw [am hb] at e;exact (x b u e).stay (fun c v _ q=>k c v q) (fun c q=>by rw [am (b6 q hn)];exact q) fun c xs q=>by rw [am (b6 q hn)];exact q
end
def Rd (H:Hp) (a:Addr) (u:HO):Prop:=H a=some u ∨ ∃ o,H a=some (.frz o u)
theorem Rd.of {H:Hp} {a:Addr} {u:HO} (h:H a=some u):Rd H a u := .inl h
theorem Rd.ok {P:E3} {w:Ep} {H:Hp} {h:Heap} {a:Addr} {u:HO} (r:Rd H a u) (x:HOk P w H h):ObjOk P w H h a u:=by
 rcases r with r | ⟨o,r⟩
 ·exact x a u r
 ·obtain ⟨_,q⟩:=x a _ r;exact q
noncomputable def Mut:Option HO->Prop
 | some (.lst _)=>True
 | some (.dK _)=>True
 | some (.dT _)=>True
 | some (.set _ _)=>True
 | some (.ins _ _ _)=>True
 | some (.ext _)=>True
 | _=>False
section
variable {P:E3} {w:Ep} {H:Hp} {h h':Heap} {x e:Addr} {o':HO}
theorem HOk.write (ok:HOk P w H h) (mu:Mut (H x)) (he:e=x∨H e=some (.own x)) (k:∀ b u,b≠e->h.get? b=some u->h'.get? b=some u) (F:∃ u,h'.get? e=some u)
 (new:ObjOk P w (upd H x o') h' x o'):HOk P w (upd H x o') h':=fun b u q=>by
 have nown:∀ c y,H c=some (.own y)->c≠x:=fun c y r z=>by subst z;rw [r] at mu;exact mu
 have ntup:∀ c xs,H c=some (.tup xs)->c≠x:=fun c xs r z=>by subst z;rw [r] at mu;exact mu
 by_cases hb:b=x
 ·subst hb;rw [aH] at q;cases q;exact new
 ·rw [am hb] at q
  by_cases j:b=e
  ·have q':H b=some (.own x):=by
    rcases he with z | z
    ·exact absurd (j.trans z) hb
    ·rw [j];exact z
   rw [q] at q';cases q';obtain ⟨v,G⟩:=F;exact ⟨v,by rw [j];exact G⟩
  ·refine (ok b u q).stay (fun c v B r=>k c v ?_ r) (fun c r=>by rw [am (nown c b r)];exact r) fun c xs r=>by rw [am (ntup c xs r)];exact r
   rcases B with rfl | B
   ·exact j
   ·rintro rfl
    rcases he with z | z
    ·exact nown c b B z
    ·rw [B] at z;cases z;exact hb rfl
end
structure Un (fs ex:List Addr) (H H':Hp) (h h':Heap):Prop where
 keep:∀ b o,h.get? b=some o->H b=none->b∉fs->b∉ex->h'.get? b=some o
 slot:∀ b o,h.get? b=some o->H b=none->b∈fs->b∉ex -> ∃ sl,h'.get? b=some { o with slots:=sl }
 free:∀ b o,h.get? b=some o->H b=none->b∉ex->H' b=none
 there:∀ b o,h.get? b=some o->b∉ex -> ∃ o',h'.get? b=some o'
 tups:∀ b xs,H b=some (.tup xs)->H' b=some (.tup xs)
 frzs:∀ b o u,H b=some (.frz o u)->H' b=some (.frz o u)
 tbls:∀ b ps,H b=some (.tbl ps) -> ∃ more,H' b=some (.tbl (ps++more))
section
variable {fs fs' ex ex':List Addr} {H H1 H2:Hp} {h h1 h2 h':Heap} {a x e:Addr} {o:HO}
theorem Un.any (u:Un fs ex H H1 h h1) {b:Addr} {ob:Obj} (q:h.get? b=some ob) (n:H b=none) (hx:b∉ex):∃ sl,h1.get? b=some { ob with slots:=sl }:=by
 by_cases j:b∈fs
 ·exact u.slot b ob q n j hx
 ·exact ⟨ob.slots,u.keep b ob q n j hx⟩
theorem Un.trans (a:Un fs ex H H1 h h1) (b:Un fs ex H1 H2 h1 h2):Un fs ex H H2 h h2 where
 keep:=fun c ob q n z hx=>b.keep c ob (a.keep c ob q n z hx) (a.free c ob q n hx) z hx
 slot:=fun c ob q n z hx=>by
  obtain ⟨sl,j⟩:=a.slot c ob q n z hx;obtain ⟨sl',B⟩:=b.slot c _ j (a.free c ob q n hx) z hx;exact ⟨sl',B⟩
 free:=fun c ob q n hx=>by
  obtain ⟨o',j⟩:=a.there c ob q hx;exact b.free c o' j (a.free c ob q n hx) hx
 there:=fun c ob q hx=>by
  obtain ⟨o',j⟩:=a.there c ob q hx;exact b.there c o' j hx
 tups:=fun c xs q=>b.tups c xs (a.tups c xs q)
 frzs:=fun c ob xs q=>b.frzs c ob xs (a.frzs c ob xs q)
 tbls:=fun c ps q=>by
  obtain ⟨F,j⟩:=a.tbls c ps q;obtain ⟨G,B⟩:=b.tbls c _ j;exact ⟨F++G,by rw [B,Kc]⟩
theorem Un.kept (k:∀ b u,h.get? b=some u->h'.get? b=some u):Un fs ex H H h h' :=
 ⟨fun b ob q _ _ _=>k b ob q,fun b ob q _ _ _=>⟨ob.slots,k b ob q⟩,fun _ _ _ n _=>n,fun b ob q _=>⟨ob,k b ob q⟩,fun _ _ q=>q,fun _ _ _ q=>q,fun _ ps q=>⟨#[],by rw [q];simp⟩⟩
theorem Un.refl:Un fs ex H H h h:=Un.kept fun _ _ q=>q
theorem Un.laid (k:∀ b u,h.get? b=some u->h'.get? b=some u) (j:h.objs.size<=a) (hn:H a=none):Un fs ex H (upd H a o) h h' where
 keep:=fun b u q _ _ _=>k b u q
 slot:=fun b u q _ _ _=>⟨u.slots,k b u q⟩
 free:=fun b u q n _=>by rw [am (Ec (Ee (DM q) j))];exact n
 there:=fun b u q _=>⟨u,k b u q⟩
 tups:=fun b xs q=>by rw [am (b6 q hn)];exact q
 frzs:=fun b u xs q=>by rw [am (b6 q hn)];exact q
 tbls:=fun b ps q=>⟨#[],by rw [am (b6 q hn),q];simp⟩
theorem Un.write (mu:Mut (H x)) (he:e=x∨H e=some (.own x)) (k:∀ b u,b≠e->h.get? b=some u->h'.get? b=some u) (B:∃ u,h'.get? e=some u):Un fs ex H (upd H x o) h h':=by
 have hx:∀ b,H b=none->b≠x:=fun b n z=>by subst z;rw [n] at mu;exact mu
 have F:∀ b,H b=none->b≠e:=fun b n z=>by
  subst z
  rcases he with r | r
  ·exact hx b n r
  ·rw [n] at r;cases r
 have hm:∀ b u,H b=some u -> ¬ Mut (some u)->b≠x:=fun b u q nm z=>by subst z;rw [q] at mu;exact nm mu
 refine ⟨fun b u q n _ _=>k b u (F b n) q,fun b u q n _ _=>⟨u.slots,k b u (F b n) q⟩,fun b u q n _=>by rw [am (hx b n)];exact n,fun b u q _ => ?_,
  fun b xs q=>by rw [am (hm b _ q fun z=>z)];exact q,fun b u xs q=>by rw [am (hm b _ q fun z=>z)];exact q,fun b ps q=>⟨#[],by rw [am (hm b _ q fun z=>z),q];simp⟩⟩
 by_cases j:b=e
 ·subst j;exact B
 ·exact ⟨u,k b u j q⟩
end
noncomputable def trk (h:Heap) (H:Hp):List Addr:=(EZ h.objs.size).filter fun a=>(H a).isSome
noncomputable def eV (h:Heap) (H:Hp):Heap:=PySem.W.hideAll h (trk h H)
theorem qv (h:Heap) (H:Hp):(eV h H).objs.size=h.objs.size:=PySem.W.hideAll_size _ _
theorem tN {h:Heap} {H:Hp} {b:Addr} {o:Obj} (e:h.get? b=some o) (n:H b=none):(eV h H).get? b=some o :=
 PySem.W.hideAll_get _ e fun hm=>by
  have q:(H b).isSome=true:=(HL.mp hm).2;rw [n] at q;simp at q
theorem wx {h:Heap} {H:Hp} {b:Addr} {o:Obj} (e:(eV h H).get? b=some o):h.get? b=some o/\H b=none:=by
 have e':h.get? b=some o:=PySem.W.of_hideAll (trk h H) e;refine ⟨e', ?_⟩
 cases q:H b with
 | none=>rfl
 | some x =>
   have hm:b∈trk h H:=HL.mpr ⟨List.mem_range.mpr (DM e'),by simp [q]⟩
   have z:(eV h H).get? b=none:=PySem.W.hideAll_none (trk h H) hm;rw [z] at e;cases e
noncomputable def wy (g h:Heap) (L:Addr):List (Addr×Obj):=(EZ h.objs.size).filterMap fun a=>if a=L∨(g.get? a).isSome=true then none else (h.get? a).map fun o=>(a,o)
noncomputable def rest (g h:Heap) (L d:Addr):List (Addr×Obj):=(wy g h L).filter fun p=>decide (p.1≠d)
end
section
structure Mod (K:Frag) (mg:Str->Option gV) (base:Heap):Prop where
 kin:K.In base
 glob:base.Ns EM mg
 blt:∃ mb,base.Ns LH mb /\ ∀ x:Str,x ≠ "__name__" -> mb x=FE x
 nolimit:base.NoLimit
structure Cx where
 prog:E3
 w:Ep
 K:Frag
 mg:Str->Option gV
 base:Heap
 A:Ew
 N:List Str
 s₀:h7
 H₀:Hp
 env:Env
 outer:List Env
 stack:List Env
 ex:List Addr
 fn:Str->Bool
 calm:Bool
 pn:List (Addr×Obj)
 xe:gV->h7->Prop
noncomputable def frs (l:List Env):List Addr:=l.filterMap (·.frame)
noncomputable abbrev Cx.fs (X:Cx):List Addr:=frs X.outer
def Vis (sc:Scope) (x:Str):Prop:=sc.names.lookup x=some .local∨sc.names.lookup x=some .cell∨sc.names.lookup x=some .free
def Loc (sc:Scope) (x:Str):Prop:=sc.names.lookup x=some .local∨sc.names.lookup x=some .cell
def B3 (env:Env) (h:Heap) (m:Str->Option gV) (x:Str) (u:gV):Prop :=
 (env.kindOf x=some .local/\m x=some u)∨((env.kindOf x=some .cell∨env.kindOf x=some .free) /\ ∃ c,env.cells.lookup x=some c/\h.IsCell c (some u))
structure Cx.Ok (X:Cx):Prop where
 mod:Mod X.K X.mg X.base
 kind:X.env.scope.kind = .function
 glob:X.env.globals=EM
 blt:X.env.builtins=LH
 above:X.s₀.heap.objs.size<=X.env.locals
 inj:∀ x y c,X.env.cells.lookup x=some c->X.env.cells.lookup y=some c->x=y
 has:∀ x,(X.env.kindOf x=some .cell∨X.env.kindOf x=some .free) -> ∃ c,X.env.cells.lookup x=some c
 cab:∀ x c,X.fn x=true->X.env.cells.lookup x=some c->X.s₀.heap.objs.size<=c
 hd:X.calm=true->X.A.handled=none
 frames:X.A.frames=some X.stack
 stk:X.stack=X.outer∨(X.stack=X.env::X.outer/\X.env.frame=some X.env.locals)
 exf:∀ b∈X.ex,b≠X.env.locals /\ ∀ x c,X.env.cells.lookup x=some c->c≠b
 bs:∀ b o,X.base.get? b=some o->X.s₀.heap.get? b=some o/\X.H₀ b=none
 bsz:X.base.objs.size<=X.s₀.heap.objs.size
 noex:∀ b o,X.base.get? b=some o->b∉X.ex
 exfs:∀ b∈X.ex,b∉X.fs
 funs:X.s₀.heap.FunFrames X.base X.outer
 frf:∀ b∈X.fs,X.H₀ b=none
structure Inv (X:Cx) (pins:List (Addr×Obj)) (σ:List (Option V)) (H:Hp) (s:h7):Prop where
 ok:X.Ok
 os:s.os=X.s₀.os
 bare:Iy s.gens
 base:Un X.fs X.ex X.H₀ H X.s₀.heap s.heap
 loc:∃ m,s.heap.Ns X.env.locals m /\ ∀ (i:Nat) (x:Str) (v:V),X.N[i]? = some x -> σ[i]? = some (some v)->Vis X.env.scope x -> ∃ u,RelV v u/\B3 X.env s.heap m x u
 cell:∀ x c,X.env.cells.lookup x=some c -> ∃ v,s.heap.IsCell c v
 free:H X.env.locals=none
 freeC:∀ x c,X.env.cells.lookup x=some c->H c=none
 pin:∀ p∈X.pn++pins,s.heap.get? p.1=some p.2/\H p.1=none/\p.1≠X.env.locals/\p.1∉X.fs /\ ∀ v,p.2.data ≠ .cell v
 hok:HOk X.prog X.w H s.heap
 len : σ.length=X.N.length
section
variable {X:Cx} {pins:List (Addr×Obj)} {σ:List (Option V)} {H H':Hp} {s:h7} {h':Heap}
theorem Cx.Ok.nofr (ok:X.Ok) {b:Addr} {o:Obj} (e:X.base.get? b=some o):b∉X.fs:=fun j=>by
 have:=(ok.funs.mem j).1;rw [e] at this;cases this
theorem Inv.bs (I:Inv X pins σ H s):∀ b o,X.base.get? b=some o->s.heap.get? b=some o/\H b=none:=fun b o e =>
 ⟨I.base.keep b o (I.ok.bs b o e).1 (I.ok.bs b o e).2 (I.ok.nofr e) (I.ok.noex b o e),I.base.free b o (I.ok.bs b o e).1 (I.ok.bs b o e).2 (I.ok.noex b o e)⟩
theorem Inv.bk (I:Inv X pins σ H s):∀ b o,X.base.get? b=some o->s.heap.get? b=some o:=fun b o e=>(I.bs b o e).1
theorem Inv.mod (I:Inv X pins σ H s):Mod X.K X.mg X.base:=I.ok.mod
theorem Inv.kIn (I:Inv X pins σ H s):X.K.In s.heap:=I.ok.mod.kin.keeps I.bk
theorem Inv.lt (I:Inv X pins σ H s):X.env.locals < s.heap.objs.size:=let ⟨_,hn,_⟩:=I.loc;hn.lt
theorem Inv.sz (I:Inv X pins σ H s):X.s₀.heap.objs.size<=s.heap.objs.size:=Ed I.ok.above (Gz I.lt)
theorem Inv.nofs (I:Inv X pins σ H s) {a:Addr} (h:s.heap.objs.size<=a):a∉X.fs:=fun j=>by
 obtain ⟨_,o,ho,_⟩:=I.ok.funs.mem j;exact absurd (Ee (DM ho) (Ed I.sz h)) (F6 _)
theorem Inv.cne (I:Inv X pins σ H s):∀ x c,X.env.cells.lookup x=some c->c≠X.env.locals:=fun x c e z=>by
 obtain ⟨v,o,ho,hd⟩:=I.cell x c e;obtain ⟨m,⟨o',es,ep,j,q,_⟩,_⟩:=I.loc;rw [z,j] at ho;cases ho;rw [q] at hd;cases hd
theorem Inv.funs (I:Inv X pins σ H s):s.heap.FunFrames X.base X.outer:=by
 have all:∀ (l:List Env),(∀ b∈frs l,b∈X.fs)->X.s₀.heap.FunFrames X.base l->s.heap.FunFrames X.base l:=by
  intro l
  induction l with
  | nil=>intro _ _;trivial
  | cons env r ih =>
    intro hs B;obtain ⟨F,⟨L,o,hf,hn,ho,hd⟩,G⟩:=B;have j:L∈X.fs:=hs L (by unfold frs;rw [HX,hf];exact Ex)
    obtain ⟨sl,e⟩:=I.base.slot L o ho (I.ok.frf L j) j fun z=>I.ok.exfs L z j;exact ⟨F,⟨L,_,hf,hn,e,hd⟩,ih (fun b q=>hs b (by unfold frs;rw [HX,hf];exact E2 _ q)) G⟩
 exact all X.outer (fun _ q=>q) I.ok.funs
theorem Inv.stack (I:Inv X pins σ H s):s.heap.FunFrames X.base X.stack:=by
 rcases I.ok.stk with e | ⟨e,hf⟩
 ·rw [e];exact I.funs
 ·rw [e];obtain ⟨m,hn,_⟩:=I.loc;refine .cons (by rw [I.ok.kind];decide) hf hn ?_ I.funs
  exact Heap.get?_none_of_le (Ed I.ok.bsz I.ok.above)
theorem Inv.stkSub (I:Inv X pins σ H s):∀ b∈frs X.stack,b∈X.env.locals::X.fs:=fun b j=>by
 rcases I.ok.stk with e | ⟨e,hf⟩
 ·rw [e] at j;exact E2 _ j
 ·rw [e] at j;unfold frs at j;rw [HX,hf] at j;exact j
theorem Inv.stkFree (I:Inv X pins σ H s):∀ b∈frs X.stack,H b=none:=fun b j=>by
 rcases DT.mp (I.stkSub b j) with e | j
 ·rw [e];exact I.free
 ·obtain ⟨_,o,ho,_⟩:=I.ok.funs.mem j;exact I.base.free b o ho (I.ok.frf b j) fun z=>I.ok.exfs b z j
theorem Inv.step {g':Array GenState} {t':Nat} {d':Drawn} {ch:List Addr} (I:Inv X pins σ H s)
 (j:∀ b∈ch,(b∈X.ex∨X.s₀.heap.objs.size<=b)/\b≠X.env.locals/\(∀ x c,X.env.cells.lookup x=some c->c≠b) /\ ∀ p∈X.pn++pins,p.1≠b)
 (keep:∀ b o,b≠X.env.locals->b∉X.fs->b∉ch->s.heap.get? b=some o->H b=none->h'.get? b=some o)
 (slot:∀ b o,b≠X.env.locals->b∈X.fs->b∉ch->s.heap.get? b=some o->H b=none -> ∃ sl,h'.get? b=some { o with slots:=sl }) (free:∀ b o,b∉ch->s.heap.get? b=some o->H b=none->H' b=none)
 (there:∀ b o,b∉ch->s.heap.get? b=some o -> ∃ o',h'.get? b=some o')
 (tups:∀ b xs,H b=some (.tup xs)->H' b=some (.tup xs)) (frzs:∀ b o u,H b=some (.frz o u)->H' b=some (.frz o u)) (tbls:∀ b ps,H b=some (.tbl ps) -> ∃ more,H' b=some (.tbl (ps++more)))
 (ns:∀ m,s.heap.Ns X.env.locals m->h'.Ns X.env.locals m) (hok:HOk X.prog X.w H' h') (O:Iy g') :
 Inv X pins σ H' { s with heap:=h',gens:=g',drawn:=d',toks:=t' }:=by
 have neL:∀ b o,X.s₀.heap.get? b=some o->b≠X.env.locals:=fun b o e=>Ec (Ee (DM e) I.ok.above);have neC:∀ b o,X.s₀.heap.get? b=some o->b∉X.ex->b∉ch:=fun b o e hx F=>by
  rcases (j b F).1 with z | z
  ·exact hx z
  ·exact absurd (Ee (DM e) z) (F6 _)
 have cellK:∀ x c,X.env.cells.lookup x=some c -> ∀ v,s.heap.IsCell c v->h'.IsCell c v:=fun x c e v ⟨o,ho,hd⟩=>by
  have nch:c∉ch:=fun z=>(j c z).2.2.1 x c e rfl
  by_cases J:c∈X.fs
  ·obtain ⟨sl,q⟩:=slot c o (I.cne x c e) J nch ho (I.freeC x c e);exact ⟨_,q,hd⟩
  ·exact ⟨o,keep c o (I.cne x c e) J nch ho (I.freeC x c e),hd⟩
 refine ⟨I.ok,I.os,O,⟨fun b o e n F hx => ?_,fun b o e n F hx => ?_,fun b o e n hx => ?_,fun b o e hx => ?_,fun b xs e=>tups b xs (I.base.tups b xs e),fun b o xs e=>frzs b o xs (I.base.frzs b o xs e),fun b ps e => ?_⟩, ?_,fun x c e => ?_, ?_,fun x c e => ?_,fun p L => ?_,hok,I.len⟩
 ·exact keep b o (neL b o e) F (neC b o e hx) (I.base.keep b o e n F hx) (I.base.free b o e n hx)
 ·obtain ⟨sl,B⟩:=I.base.slot b o e n F hx;obtain ⟨sl',G⟩:=slot b _ (neL b o e) F (neC b o e hx) B (I.base.free b o e n hx);exact ⟨sl',G⟩
 ·obtain ⟨o',B⟩:=I.base.there b o e hx;exact free b o' (neC b o e hx) B (I.base.free b o e n hx)
 ·obtain ⟨o',B⟩:=I.base.there b o e hx;exact there b o' (neC b o e hx) B
 ·obtain ⟨U,B⟩:=I.base.tbls b ps e;obtain ⟨Y,G⟩:=tbls b _ B;exact ⟨U++Y,by rw [G,Kc]⟩
 ·obtain ⟨m,hn,Z⟩:=I.loc;refine ⟨m,ns m hn,fun i x v B G e3 => ?_⟩;obtain ⟨u,r,l⟩:=Z i x v B G e3;refine ⟨u,r, ?_⟩
  rcases l with l | ⟨k,c,e,z⟩
  ·exact .inl l
  ·exact .inr ⟨k,c,e,cellK x c e _ z⟩
 ·obtain ⟨v,z⟩:=I.cell x c e;exact ⟨v,cellK x c e v z⟩
 ·obtain ⟨m,⟨o,_,_,ho,_⟩,_⟩:=I.loc;exact free _ o (fun z=>(j _ z).2.1 rfl) ho I.free
 ·obtain ⟨v,o,ho,hd⟩:=I.cell x c e;exact free c o (fun z=>(j c z).2.2.1 x c e rfl) ho (I.freeC x c e)
 ·obtain ⟨e,n,ne,nf,d⟩:=I.pin p L;have nch:p.1∉ch:=fun z=>(j p.1 z).2.2.2 p L rfl;exact ⟨keep p.1 p.2 ne nf nch e n,free p.1 p.2 nch e n,ne,nf,d⟩
theorem Inv.un {t':Nat} (I:Inv X pins σ H s) (u:Un X.fs [] H H' s.heap h') (hok:HOk X.prog X.w H' h'):Inv X pins σ H' { s with heap:=h',toks:=t' }:=by
 obtain ⟨m,⟨o,es,ep,ho,r⟩,_⟩:=id I.loc;obtain ⟨sl,B⟩:=u.any ho I.free (by simp)
 exact I.step (g':=s.gens) (d':=s.drawn) (ch := []) (fun _ z=>nomatch z) (fun b o _ q _ e n=>u.keep b o e n q (by simp)) (fun b o _ q _ e n=>u.slot b o e n q (by simp)) (fun b o _ e n=>u.free b o e n (by simp)) (fun b o _ e=>u.there b o e (by simp)) u.tups u.frzs u.tbls (fun m' hm=>by
  obtain ⟨o',es',ep',j,r'⟩:=hm;rw [ho] at j;cases j;exact ⟨_,es',ep',B,r'⟩) hok I.bare
theorem Inv.call {g':Array GenState} {t':Nat} {d':Drawn} {ch:List Addr} (I:Inv X pins σ H s) (u:Un (frs X.stack) ch H H' s.heap h') (hok:HOk X.prog X.w H' h') (G:Iy g')
 (q:∀ b∈ch,(b∈X.ex∨X.s₀.heap.objs.size<=b)/\b≠X.env.locals/\(∀ x c,X.env.cells.lookup x=some c->c≠b) /\ ∀ p∈X.pn++pins,p.1≠b) :
 Inv X pins σ H' { s with heap:=h',gens:=g',drawn:=d',toks:=t' }:=by
 obtain ⟨m,⟨o,es,ep,ho,r⟩,_⟩:=id I.loc;obtain ⟨sl,F⟩:=u.any ho I.free fun z=>(q _ z).2.1 rfl;exact I.step (ch:=ch) q (fun b o F J j e n=>u.keep b o e n (fun z=>(DT.mp (I.stkSub b z)).elim F J) j) (fun b o _ _ j e n=>u.any e n j) (fun b o j e n=>u.free b o e n j) (fun b o j e=>u.there b o e j) u.tups u.frzs u.tbls (fun m' hm=>by
  obtain ⟨o',es',ep',B,r'⟩:=hm;rw [ho] at B;cases B;exact ⟨_,es',ep',F,r'⟩) hok G
theorem Inv.turned {t':Nat} {it:Addr} (I:Inv X pins σ H s) (k:∀ b o,b≠it->s.heap.get? b=some o->h'.get? b=some o) (hn:H it=none) (B:it≠X.env.locals)
 (h1:it∈X.ex∨X.s₀.heap.objs.size<=it) (h2:∀ x c,X.env.cells.lookup x=some c->c≠it) (F:∀ p∈X.pn++pins,p.1≠it):Inv X pins σ H { s with heap:=h',toks:=t' }:=by
 have nit:∀ b u,H b=some u->b≠it:=fun b u e z=>by rw [z,hn] at e;cases e
 refine I.step (g':=s.gens) (d':=s.drawn) (ch := [it]) (fun b G => ?_) (fun b o _ _ j e _=>k b o (fun z=>j (by simp [z])) e) (fun b o _ _ j e _=>⟨o.slots,k b o (fun z=>j (by simp [z])) e⟩) (fun _ _ _ _ n=>n)
  (fun b o j e=>⟨o,k b o (fun z=>j (by simp [z])) e⟩) (fun _ _ e=>e) (fun _ _ _ e=>e) (fun b ps e=>⟨#[],by rw [e];simp⟩) (fun m hm => ?_) (fun b u e => ?_) I.bare
 ·have e:b=it:=by simpa using G
  subst e;exact ⟨h1,B,h2,F⟩
 ·obtain ⟨o,es,ep,ho,r⟩:=hm;exact ⟨o,es,ep,k _ o (Ne.symm B) ho,r⟩
 ·refine (I.hok b u e).stay (fun c v j q=>k c v ?_ q) (fun _ q=>q) fun _ _ q=>q
  rcases j with z | z
  ·rw [z];exact nit b u e
  ·exact nit c _ z
theorem Inv.tok (I:Inv X pins σ H s) (t:Nat):Inv X pins σ H { s with toks:=t }:=I.un (h':=s.heap) (t':=t) Un.refl I.hok
theorem Inv.kept {t':Nat} (I:Inv X pins σ H s) (k:∀ b u,s.heap.get? b=some u->h'.get? b=some u):Inv X pins σ H { s with heap:=h',toks:=t' }:=I.un (Un.kept k) (I.hok.kept k)
theorem Inv.laid {a:Addr} {o:HO} {t':Nat} (I:Inv X pins σ H s) (k:∀ b u,s.heap.get? b=some u->h'.get? b=some u) (j:s.heap.objs.size<=a) (new:ObjOk X.prog X.w (upd H a o) h' a o) :
 Inv X pins σ (upd H a o) { s with heap:=h',toks:=t' }:=I.un (Un.laid k j (I.hok.fresh j)) (I.hok.laid k j new)
theorem Inv.write {x e:Addr} {o:HO} {t':Nat} (I:Inv X pins σ H s) (mu:Mut (H x)) (he:e=x∨H e=some (.own x)) (k:∀ b u,b≠e->s.heap.get? b=some u->h'.get? b=some u) (j:∃ u,h'.get? e=some u)
 (new:ObjOk X.prog X.w (upd H x o) h' x o):Inv X pins σ (upd H x o) { s with heap:=h',toks:=t' }:=I.un (Un.write mu he k j) (I.hok.write mu he k j new)
theorem Inv.pins_of {pins':List (Addr×Obj)} (I:Inv X pins σ H s) (h:∀ p∈pins',s.heap.get? p.1=some p.2/\H p.1=none/\p.1≠X.env.locals/\p.1∉X.fs /\ ∀ v,p.2.data ≠ .cell v):Inv X pins' σ H s :=
 ⟨I.ok,I.os,I.bare,I.base,I.loc,I.cell,I.free,I.freeC,fun p j=>(E5.mp j).elim (fun z=>I.pin p (Ff _ z)) (h p),I.hok,I.len⟩
theorem kH {N:List Str} (q:N.Nodup) {i j:Nat} {x:Str} (a:N[i]? = some x) (b:N[j]? = some x):i=j:=by
 obtain ⟨h1,z⟩:=DY.mp a;obtain ⟨h2,B⟩:=DY.mp b;exact (List.getElem_inj q).mp (z.trans B.symm)
theorem qw {M:Hs} {A:Ew} {E:gV->h7->Prop} {i:Nat} {x:Str} {v:V} {u:gV} {Q:Unit->h7->Prop} (I:Inv X pins σ H s) (hN:X.N.Nodup) (hi:X.N[i]? = some x) (hx:Loc X.env.scope x) (r:RelV v u)
 (h:∀ s',Inv X pins (σ.set i (some v)) H s'->(∃ a,F9 a s.heap s'.heap/\(a=X.env.locals∨X.env.cells.lookup x=some a))->Q () s') (hf:X.fn x=true∨X.env.scope.names.lookup x=some .local:=by first | exact .inl rfl | exact .inr rfl | assumption):DU M A (storeName X.env x u) Q E s:=by
 obtain ⟨m,hn,hl⟩:=id I.loc;have Z:(X.env.scope.kind == .class || (X.env.scope.kind == .module&&X.env.locals != X.env.globals))=false:=by rw [I.ok.kind];rfl
 have By:i < σ.length:=by rw [I.len];exact (DY.mp hi).1
 have cne:=I.cne;have tracked:∀ {a:Addr} {h':Heap},(∃ o,s.heap.get? a=some o/\H a=none)->F9 a s.heap h'->HOk X.prog X.w H h':=fun {a h'} ha hs b ob e=>by
  obtain ⟨_,_,G⟩:=ha;refine (I.hok b ob e).stay (fun c w' F q=>(hs.2 c ?_).trans q) (fun _ q=>q) fun _ _ q=>q;rintro rfl
  rcases F with rfl | F
  ·rw [G] at e;cases e
  ·rw [G] at F;cases F
 rcases hx with L | L
 ·refine wpAny_storeName_local L hn (fun h' BD hs => ?_) Z;obtain ⟨oL,_,_,BE,_⟩:=id hn;refine h _ ⟨I.ok,I.os,I.bare,⟨fun b o e n O hx => ?_,fun b o e n O hx => ?_,I.base.free,fun b o e hx => ?_,I.base.tups,I.base.frzs,I.base.tbls⟩,⟨_,BD,fun j y v' B J e3 => ?_⟩,fun y c e => ?_,I.free,I.freeC,fun p hp => ?_,tracked ⟨oL,BE,I.free⟩ hs,by simpa using I.len⟩ ⟨_,hs, .inl rfl⟩
  ·exact (hs.2 b (Ec (Ee (DM e) I.ok.above))).trans (I.base.keep b o e n O hx)
  ·obtain ⟨sl,B⟩:=I.base.slot b o e n O hx;exact ⟨sl,(hs.2 b (Ec (Ee (DM e) I.ok.above))).trans B⟩
  ·obtain ⟨o',B⟩:=I.base.there b o e hx;exact ⟨o',(hs.2 b (Ec (Ee (DM e) I.ok.above))).trans B⟩
  ·by_cases U:j=i
   ·subst U;rw [hi] at B;cases B;rw [G8 By] at J
    cases J
    exact ⟨u,r, .inl ⟨L,by simp⟩⟩
   ·rw [HE (Ne.symm U)] at J;obtain ⟨u',r',q⟩:=hl j y v' B J e3;refine ⟨u',r', ?_⟩
    rcases q with ⟨k,e⟩ | ⟨k,c,e,z⟩
    ·refine .inl ⟨k, ?_⟩;have:y≠x:=fun e=>U (kH hN B (e ▸ hi));simp [this,e]
    ·exact .inr ⟨k,c,e,z.sameBut hs (cne y c e)⟩
  ·obtain ⟨w',z⟩:=I.cell y c e;exact ⟨w',z.sameBut hs (cne y c e)⟩
  ·obtain ⟨e,n,ne,nf,d⟩:=I.pin p hp;exact ⟨(hs.2 p.1 ne).trans e,n,ne,nf,d⟩
 ·have Y:X.fn x=true:=by
   rcases hf with z | z
   ·exact z
   ·rw [z] at L;cases L
  obtain ⟨c,F⟩:=I.ok.has x (.inl L);obtain ⟨w',z⟩:=I.cell x c F;refine wpAny_storeName_cell I.ok.kind L F z (fun h' Bz hs => ?_);obtain ⟨oc,BA,BB⟩:=id z;refine h { s with heap:=h' } ⟨I.ok,I.os,I.bare,⟨fun b o e n O hx => ?_,fun b o e n O hx => ?_,I.base.free,fun b o e hx => ?_,I.base.tups,I.base.frzs,I.base.tbls⟩,⟨m,hn.sameBut hs (Ne.symm (cne x c F)),fun j y v' B J e3 => ?_⟩,fun y c' e => ?_,I.free,I.freeC,fun p hp => ?_,tracked ⟨oc,BA,I.freeC x c F⟩ hs,by simpa using I.len⟩ ⟨c,hs, .inr F⟩
  ·exact (hs.2 b (Ec (Ee (DM e) (I.ok.cab x c Y F)))).trans (I.base.keep b o e n O hx)
  ·obtain ⟨sl,B⟩:=I.base.slot b o e n O hx;exact ⟨sl,(hs.2 b (Ec (Ee (DM e) (I.ok.cab x c Y F)))).trans B⟩
  ·obtain ⟨o',B⟩:=I.base.there b o e hx;exact ⟨o',(hs.2 b (Ec (Ee (DM e) (I.ok.cab x c Y F)))).trans B⟩
  ·by_cases U:j=i
   ·subst U;rw [hi] at B;cases B;rw [G8 By] at J
    cases J
    exact ⟨u,r, .inr ⟨.inl L,c,F,Bz⟩⟩
   ·rw [HE (Ne.symm U)] at J;obtain ⟨u',r',q⟩:=hl j y v' B J e3;refine ⟨u',r', ?_⟩
    rcases q with q | ⟨k,c',e,z'⟩
    ·exact .inl q
    ·refine .inr ⟨k,c',e,z'.sameBut hs ?_⟩;rintro rfl;exact U (kH hN B (I.ok.inj _ _ _ e F ▸ hi))
  ·by_cases BC:c'=c
   ·subst BC;exact ⟨_,Bz⟩
   ·obtain ⟨w2,z2⟩:=I.cell y c' e;exact ⟨w2,z2.sameBut hs BC⟩
  ·obtain ⟨e,n,ne,nf,d⟩:=I.pin p hp;refine ⟨(hs.2 p.1 ?_).trans e,n,ne,nf,d⟩;intro q;rw [q,BA] at e;have q':oc=p.2:=Fq.inj e;exact d w' (by rw [<- q'];exact BB)
theorem gH {M:Hs} {A:Ew} {E:gV->h7->Prop} {i:Nat} {x:Str} {v:V} {u:gV} {Q:Unit->h7->Prop} (I:Inv X pins σ H s) (j:X.N.Nodup) (hi:X.N[i]? = some x) (hx:Loc X.env.scope x) (r:RelV v u)
 (h:∀ s',Inv X pins (σ.set i (some v)) H s'->Q () s') (hf:X.fn x=true∨X.env.scope.names.lookup x=some .local:=by first | exact .inl rfl | exact .inr rfl | assumption):DU M A (storeName X.env x u) Q E s :=
 qw I j hi hx r (fun s' I' _=>h s' I') hf
theorem Inv.call' {s':h7} {ch:List Addr} (I:Inv X pins σ H s) (ho:s'.os=s.os) (u:Un (frs X.stack) ch H H' s.heap s'.heap) (hok:HOk X.prog X.w H' s'.heap) (q:Iy s'.gens)
 (j:∀ b∈ch,(b∈X.ex∨X.s₀.heap.objs.size<=b)/\b≠X.env.locals/\(∀ x c,X.env.cells.lookup x=some c->c≠b) /\ ∀ p∈X.pn++pins,p.1≠b):Inv X pins σ H' s':=by
 obtain ⟨h',g',d',t',o'⟩:=s';have e:o'=s.os:=ho;subst e;exact I.call (g':=g') (t':=t') (d':=d') u hok q j
end
noncomputable abbrev XK:=gV->Option Addr->Hp->Prop
noncomputable abbrev St:=List (Option V)
noncomputable abbrev VK:=V->Hp->Prop
noncomputable abbrev TE:=St->Hp->VK->Prop
noncomputable abbrev TT:=St->Hp->(Bool->Hp->Prop)->Prop
noncomputable abbrev TA:=St->Hp->(List V->Hp->Prop)->Prop
structure bD where
 nx:St->Hp->Prop
 rt:VK
 bk:St->Hp->Prop:=fun _ _=>False
 ct:St->Hp->Prop:=fun _ _=>False
noncomputable abbrev TS:=bD->St->Hp->Prop
def EP (X:Cx) (pins:List (Addr×Obj)) (σ:St) (Q:VK) (u:gV) (s':h7):Prop := ∃ v H',Inv X pins σ H' s'/\RelV v u/\Q v H'
def TP (X:Cx) (pins:List (Addr×Obj)) (σ:St) (Q:Bool->Hp->Prop) (b:Bool) (s':h7):Prop := ∃ H',Inv X pins σ H' s'/\Q b H'
def AP (X:Cx) (pins:List (Addr×Obj)) (σ:St) (Q:List V->Hp->Prop) (us:List gV) (s':h7):Prop := ∃ vs H',Inv X pins σ H' s'/\Vals vs us/\Q vs H'
def SP (X:Cx) (pins:List (Addr×Obj)) (D:bD) (f:Flow) (s':h7):Prop :=
 match f with
 | .next => ∃ σ' H',Inv X pins σ' H' s'/\D.nx σ' H'
 | .brk => ∃ σ' H',Inv X pins σ' H' s'/\D.bk σ' H'
 | .cont => ∃ σ' H',Inv X pins σ' H' s'/\D.ct σ' H'
 | .ret u => ∃ v σ' H',Inv X pins σ' H' s'/\RelV v u/\D.rt v H'
def PE (X:Cx) (e:Expr) (t:TE):Prop :=
 ∀ (pins:List (Addr×Obj)) (s:h7) (σ:St) (H:Hp) (Q:VK),Inv X pins σ H s->t σ H Q->DU (model X.prog X.w) X.A (eval e X.env) (EP X pins σ Q) X.xe s
def PT (X:Cx) (e:Expr) (t:TT):Prop :=
 ∀ (pins:List (Addr×Obj)) (s:h7) (σ:St) (H:Hp) (Q:Bool->Hp->Prop),Inv X pins σ H s->t σ H Q->DU (model X.prog X.w) X.A (isTrue e X.env (eval e X.env)) (TP X pins σ Q) X.xe s
def PW (X:Cx) (e:Expr) (t:TT):Prop :=
 ∀ (whole:Sem gV) (pins:List (Addr×Obj)) (s:h7) (σ:St) (H:Hp) (Q:Bool->Hp->Prop),Inv X pins σ H s->t σ H Q->DU (model X.prog X.w) X.A (isTrue e X.env whole) (TP X pins σ Q) X.xe s
theorem PW.pt {X:Cx} {e:Expr} {t:TT} (h:PW X e t):PT X e t:=h _
def PA (X:Cx) (es:List Expr) (t:TA):Prop :=
 ∀ (pos:Pos) (pins:List (Addr×Obj)) (s:h7) (σ:St) (H:Hp) (Q:List V->Hp->Prop),Inv X pins σ H s->t σ H Q->DU (model X.prog X.w) X.A (spliced (Gu pos (E4 es X.env))) (AP X pins σ Q) X.xe s
def PS (X:Cx) (st:Stmt) (t:TS):Prop :=
 ∀ (pins:List (Addr×Obj)) (s:h7) (σ:St) (H:Hp) (D:bD),Inv X pins σ H s->t D σ H->DU (model X.prog X.w) X.A (exec st X.env) (SP X pins D) X.xe s
def PSs (X:Cx) (st:List Stmt) (t:TS):Prop :=
 ∀ (pins:List (Addr×Obj)) (s:h7) (σ:St) (H:Hp) (D:bD),Inv X pins σ H s->t D σ H->DU (model X.prog X.w) X.A (execs st X.env) (SP X pins D) X.xe s
theorem thn {α:Type} {t:Sem α} {Q Q' : α -> h7->Prop} {M:Hs} {A:Ew} {E:gV->h7->Prop} {s:h7} (h:DU M A t Q E s) (j:∀ a s,Q a s->Q' a s):DU M A t Q' E s:=Fj h j fun _ _ x=>x
end
section
section
variable {X:Cx}
noncomputable def B4 (i:Nat):TE:=fun σ H Q => ∃ v, σ[i]? = some (some v)/\Q v H
noncomputable def tC (v:V):TE:=fun _ H Q=>Q v H
theorem yw {i:Nat} {x:Str} {pos:Pos} (F:X.N[i]? = some x) (G:Vis X.env.scope x) (hd:(x==("__debug__":Str))=false:=by decide) (z:(x==("__classdict__":Str))=false:=by decide):PE X (.Name x pos) (B4 i):=by
 intro pins s σ H Q I h;obtain ⟨v,e,h⟩:=h;obtain ⟨m,hn,J⟩:=I.loc;obtain ⟨u,r,l⟩:=J i x v F e G;have fin:EP X pins σ Q u s:=⟨v,H,I,r,h⟩
 rcases l with ⟨q,hm⟩ | ⟨q,c,B,j⟩
 ·exact LI (wpAny_loadName_local I.ok.kind q hn hm fin) hd
 ·rcases q with q | q
  ·exact LI (wpAny_loadName_cell I.ok.kind q B j fin) hd
  ·exact LI (wpAny_loadName_free I.ok.kind q B j fin z) hd
theorem yx {i j pos}:PE X (.Constant (.int i) j pos) (tC (.int i)):=fun _ _ _ H _ I h=>wpAny_Constant_int ⟨.int i,H,I.tok _,⟨_,rfl⟩,h⟩
theorem Ag {b j pos}:PE X (.Constant (.bool b) j pos) (tC (.bl b)):=fun _ _ _ H _ I h=>Constant_bool ⟨.bl b,H,I,rfl,h⟩
theorem yz {j pos}:PE X (.Constant .none j pos) (tC .non):=fun _ _ _ H _ I h=>Constant_none ⟨.non,H,I,rfl,h⟩
theorem yA {x j pos}:PE X (.Constant (.str x) j pos) (tC (.str x)):=fun _ _ _ H _ I h=>Calls.Constant_str ⟨.str x,H,I.tok _,⟨_,rfl⟩,h⟩
def Gl (X:Cx) (x:Str):Prop:=X.env.kindOf x=some .globalImplicit
theorem nR {E:gV->h7->Prop} {pins:List (Addr×Obj)} {s:h7} {σ:St} {H:Hp} {x:Str} {u:gV} {pos:Pos} {Q:gV->h7->Prop} (I:Inv X pins σ H s) (j:Gl X x) (hm:X.mg x=some u) (h:Q u s)
 (hd:(x==("__debug__":Str))=false:=by decide):DU (model X.prog X.w) X.A (eval (.Name x pos) X.env) Q E s :=
 Ii I.ok.kind j (Calls.loadGlobal_global (by rw [I.ok.glob];exact I.mod.glob.keeps I.bk) hm h) hd
theorem eA {E:gV->h7->Prop} {pins:List (Addr×Obj)} {s:h7} {σ:St} {H:Hp} {x:Str} {u:gV} {pos:Pos} {Q:gV->h7->Prop} (I:Inv X pins σ H s) (j:Gl X x) (hm:X.mg x=none) (q:FE x=some u) (h:Q u s)
 (hn:x ≠ "__name__" := by decide) (hd:(x==("__debug__":Str))=false:=by decide):DU (model X.prog X.w) X.A (eval (.Name x pos) X.env) Q E s:=by
 obtain ⟨mb,h1,h2⟩:=I.mod.blt;exact Ii I.ok.kind j (Calls.loadGlobal_builtin (by rw [I.ok.glob];exact I.mod.glob.keeps I.bk) hm (by rw [I.ok.blt];exact h1.keeps I.bk) ((h2 x hn).trans q) h) hd
theorem jd {x:Str} {v:V} {u:gV} {pos:Pos} (j:Gl X x) (hm:X.mg x=none) (q:FE x=some u) (r:RelV v u) (hn:x ≠ "__name__" := by decide) (hd:(x==("__debug__":Str))=false:=by decide):PE X (.Name x pos) (tC v) :=
 fun _ _ _ H _ I h=>eA I j hm q ⟨v,H,I,r,h⟩ hn hd
variable {a b:Expr} {ta tb:TE} {pos:Pos}
variable {tA tB':TT} {rest:List Expr}
noncomputable def B5 (t u:TT):TT:=fun σ H Q=>t σ H fun c H1=>if c=true then u σ H1 Q else Q false H1
noncomputable def tOr (t u:TT):TT:=fun σ H Q=>t σ H fun c H1=>if c=true then Q true H1 else u σ H1 Q
noncomputable def B6 (t:TT):TT:=fun σ H Q=>t σ H fun c H1=>Q (!c) H1
theorem wz (j:PT X a tA):PW X (.BoolOp .And [a] pos) tA:=by
 intro wh pins s σ H Q I h;refine isTrue_and (thn (j pins s σ H Q I h) fun c s1 e => ?_)
 cases c with
 | true=>exact isTrue_and_nil e
 | false=>exact e
theorem yB (j:PT X a tA):PW X (.BoolOp .Or [a] pos) tA:=by
 intro wh pins s σ H Q I h;refine isTrue_or (thn (j pins s σ H Q I h) fun c s1 e => ?_)
 cases c with
 | false=>exact isTrue_or_nil e
 | true=>exact e
theorem yC (z:PT X a tA) (B:PW X (.BoolOp .And (b::rest) pos) tB'):PW X (.BoolOp .And (a::b::rest) pos) (B5 tA tB'):=by
 intro wh pins s σ H Q I h;refine isTrue_and (thn (z pins s σ H _ I h) fun c s1 ⟨H1,j,q⟩ => ?_)
 cases c with
 | true=>exact B wh pins s1 σ H1 Q j q
 | false=>exact ⟨H1,j,q⟩
theorem Ah (z:PT X a tA) (B:PW X (.BoolOp .Or (b::rest) pos) tB'):PW X (.BoolOp .Or (a::b::rest) pos) (tOr tA tB'):=by
 intro wh pins s σ H Q I h;refine isTrue_or (thn (z pins s σ H _ I h) fun c s1 ⟨H1,j,q⟩ => ?_)
 cases c with
 | true=>exact ⟨H1,j,q⟩
 | false=>exact B wh pins s1 σ H1 Q j q
theorem yD (j:PT X a tA):PT X (.UnaryOp .Not a pos) (B6 tA):=by
 intro pins s σ H Q I h;exact isTrue_not (j pins s σ H (fun c H1=>Q (!c) H1) I h)
noncomputable def Ai (ta tb:TE):TE:=fun σ H Q=>ta σ H fun x H1 => ∃ c,x = .bl c/\if c=true then tb σ H1 Q else Q (.bl false) H1
noncomputable def B7 (ta tb:TE):TE:=fun σ H Q=>ta σ H fun x H1 => ∃ c,x = .bl c/\if c=true then Q (.bl true) H1 else tb σ H1 Q
noncomputable def Aj (ta:TE):TE:=fun σ H Q=>ta σ H fun x H1 => ∃ c,x = .bl c/\Q (.bl (!c)) H1
theorem yE {op} {t:TE} (h:PE X a t):PE X (.BoolOp op [a] pos) t:=fun pins s σ H Q I hw=>BoolOp_one (h pins s σ H Q I hw)
theorem yF (z:PE X a ta) (B:PE X (.BoolOp .And (b::rest) pos) tb):PE X (.BoolOp .And (a::b::rest) pos) (Ai ta tb):=by
 intro pins s σ H Q I h;refine BoolOp_and (thn (z pins s σ H _ I h) fun v s1 ⟨x,H1,q,F,j⟩ => ?_);obtain ⟨c,rfl,j⟩:=j
 cases F
 refine F3 ?_
 cases c with
 | true=>exact B pins s1 σ H1 Q q j
 | false=>exact ⟨.bl false,H1,q,rfl,j⟩
theorem Ak (z:PE X a ta) (B:PE X (.BoolOp .Or (b::rest) pos) tb):PE X (.BoolOp .Or (a::b::rest) pos) (B7 ta tb):=by
 intro pins s σ H Q I h;refine BoolOp_or (thn (z pins s σ H _ I h) fun v s1 ⟨x,H1,q,F,j⟩ => ?_);obtain ⟨c,rfl,j⟩:=j
 cases F
 refine F3 ?_
 cases c with
 | false=>exact B pins s1 σ H1 Q q j
 | true=>exact ⟨.bl true,H1,q,rfl,j⟩
theorem yG (q:PE X a ta):PE X (.UnaryOp .Not a pos) (Aj ta):=by
 intro pins s σ H Q I h;refine UnaryOp_ (thn (q pins s σ H _ I h) fun v s1 ⟨x,H1,z,B,j⟩ => ?_);obtain ⟨c,rfl,j⟩:=j
 cases B
 exact not_of (F3 ⟨.bl (!c),H1,z,rfl,j⟩)
noncomputable def tIf (t:TT) (ta tb:TE):TE:=fun σ H Q=>t σ H fun c H1=>if c=true then ta σ H1 Q else tb σ H1 Q
theorem tO {c:Expr} (z:PT X c tA) (B:PE X a ta) (F:PE X b tb):PE X (.IfExp c a b pos) (tIf tA ta tb):=by
 intro pins s σ H Q I h;refine wpAny_IfExp (thn (z pins s σ H _ I h) fun d s1 ⟨H1,j,q⟩ => ?_)
 cases d with
 | true=>exact B pins s1 σ H1 Q j q
 | false=>exact F pins s1 σ H1 Q j q
end
end
section
def SqL (K:Frag) (H:Hp) (a:Addr) (xs:List V):Prop :=
 Rd H a (.lst xs) ∨
  ∃ (o:Obj) (its:Array gV) (n:Nat),K.lookup a=some o/\o.cls = .type "list" /\ o.dict=none/\o.data = .seq its n/\its.size<=DL/\Vals xs its.toList
def SqT (K:Frag) (H:Hp) (a:Addr) (xs:List V):Prop :=
 Rd H a (.tup xs) ∨
  ∃ (o:Obj) (its:Array gV) (n:Nat),K.lookup a=some o/\o.cls = .type "tuple" /\ o.data = .seq its n/\its.size<=DL/\Vals xs its.toList
noncomputable def B8:gV->Option V
 | .none=>some .non
 | .bool b=>some (.bl b)
 | .int i _=>some (.int i)
 | .str x _=>some (.str x)
 | .bytes b _=>some (.byt b)
 | .float b _=>some (.flt b)
 | .ref a=>some (.ref a)
 | .type n=>some (.ty n)
 | _=>none
theorem RelV.abs {x:V} {u:gV} (r:RelV x u):B8 u=some x:=by
 cases x with
 | non=>cases r;rfl
 | bl _=>cases r;rfl
 | int _=>obtain ⟨t,rfl⟩:=r;rfl
 | str _=>obtain ⟨t,rfl⟩:=r;rfl
 | byt _=>obtain ⟨t,rfl⟩:=r;rfl
 | flt _=>obtain ⟨t,rfl⟩:=r;rfl
 | ref _=>cases r;rfl
 | ty _=>cases r;rfl
theorem RelV.inj {x y:V} {u:gV} (r:RelV x u) (q:RelV y u):x=y:=Fq.inj (r.abs.symm.trans q.abs)
theorem Vals.inj:∀ {xs ys:List V} {us:List gV},Vals xs us->Vals ys us->xs=ys
 | _,_,_, .nil, .nil=>rfl
 | _,_,_, .cons r t, .cons r' t'=>by rw [r.inj r',Vals.inj t t']
section
variable {X:Cx} {pins:List (Addr×Obj)} {σ:St} {H:Hp} {s:h7} {a:Addr} {xs ys:List V}
theorem SqL.of {K:Frag} (h:H a=some (.lst xs)):SqL K H a xs := .inl (.inl h)
theorem SqT.of {K:Frag} (h:H a=some (.tup xs)):SqT K H a xs := .inl (.inl h)
theorem Inv.list (I:Inv X pins σ H s) (h:SqL X.K H a xs):∃ its:List gV,Vals xs its/\PlainL s.heap a its.toArray/\xs.length<=DL:=by
 rcases h with h | ⟨o,its,n,j,q,hd,hs,B,r⟩
 ·obtain ⟨z,its,n,r,e⟩:=h.ok I.hok;exact ⟨its,r,⟨_,n,e,rfl,rfl,rfl⟩,z⟩
 ·refine ⟨its.toList,r,⟨o,n,I.kIn a o j,q,hd,by simpa using hs⟩, ?_⟩
  have e:=r.length;simp only [Em] at e;omega
theorem Inv.tuple (I:Inv X pins σ H s) (h:SqT X.K H a xs):∃ its:List gV,Vals xs its/\IsTup s.heap a its.toArray/\xs.length<=DL:=by
 rcases h with h | ⟨o,its,n,j,q,hs,B,r⟩
 ·obtain ⟨z,its,r,p⟩:=h.ok I.hok;exact ⟨its,r,p,z⟩
 ·refine ⟨its.toList,r,⟨o,I.kIn a o j,q,n,by simpa using hs⟩, ?_⟩
  have e:=r.length;simp only [Em] at e;omega
theorem Inv.list_inj (I:Inv X pins σ H s) (h:SqL X.K H a xs) (h':SqL X.K H a ys):xs=ys:=by
 obtain ⟨its,r,⟨o,n,e,_,_,d⟩,_⟩:=I.list h;obtain ⟨its',r',⟨o',n',e',_,_,d'⟩,_⟩:=I.list h';rw [e] at e';cases e';rw [d] at d'
 injection d' with d1 _
 have:its=its':=by simpa using congrArg J3 d1
 subst this;exact r.inj r'
theorem Inv.tuple_inj (I:Inv X pins σ H s) (h:SqT X.K H a xs) (h':SqT X.K H a ys):xs=ys:=by
 obtain ⟨its,r,⟨o,e,_,n,d⟩,_⟩:=I.tuple h;obtain ⟨its',r',⟨o',e',_,n',d'⟩,_⟩:=I.tuple h';rw [e] at e';cases e';rw [d] at d'
 injection d' with d1 _
 have:its=its':=by simpa using congrArg J3 d1
 subst this;exact r.inj r'
end
noncomputable abbrev Cx.wish (X:Cx) (E:gV->h7->Prop):Cx := { X with xe:=E }
noncomputable abbrev Cx.nox (X:Cx):Cx:=X.wish fun _ _=>False
theorem Cx.Ok.wish {X:Cx} (ok:X.Ok) (E:gV->h7->Prop):(X.wish E).Ok :=
 ⟨ok.mod,ok.kind,ok.glob,ok.blt,ok.above,ok.inj,ok.has,ok.cab,ok.hd,ok.frames,ok.stk,ok.exf,ok.bs,ok.bsz,ok.noex,ok.exfs,ok.funs,ok.frf⟩
theorem Cx.Ok.unwish {X:Cx} {E:gV->h7->Prop} (ok:(X.wish E).Ok):X.Ok :=
 ⟨ok.mod,ok.kind,ok.glob,ok.blt,ok.above,ok.inj,ok.has,ok.cab,ok.hd,ok.frames,ok.stk,ok.exf,ok.bs,ok.bsz,ok.noex,ok.exfs,ok.funs,ok.frf⟩
section
variable {X:Cx} {pins:List (Addr×Obj)} {σ:St} {H:Hp} {s:h7} {E:gV->h7->Prop}
theorem Inv.wish (I:Inv X pins σ H s) (E:gV->h7->Prop):Inv (X.wish E) pins σ H s:=⟨I.ok.wish E,I.os,I.bare,I.base,I.loc,I.cell,I.free,I.freeC,I.pin,I.hok,I.len⟩
theorem Inv.unwish (I:Inv (X.wish E) pins σ H s):Inv X pins σ H s:=⟨I.ok.unwish,I.os,I.bare,I.base,I.loc,I.cell,I.free,I.freeC,I.pin,I.hok,I.len⟩
theorem SP.unwish {D:bD} {f:Flow} {s':h7} (h:SP (X.wish E) pins D f s'):SP X pins D f s':=by
 cases f with
 | next=>obtain ⟨σ',H',I,q⟩:=h;exact ⟨σ',H',I.unwish,q⟩
 | brk=>obtain ⟨σ',H',I,q⟩:=h;exact ⟨σ',H',I.unwish,q⟩
 | cont=>obtain ⟨σ',H',I,q⟩:=h;exact ⟨σ',H',I.unwish,q⟩
 | ret u=>obtain ⟨v, σ',H',I,r,q⟩:=h;exact ⟨v, σ',H',I.unwish,r,q⟩
theorem PSs.nox {st:List Stmt} {t:TS} (h:PSs X.nox st t):PSs X st t:=fun pins s σ H D I hw =>
 Fj (h pins s σ H D (I.wish _) hw) (fun _ _ q=>q.unwish) fun _ _ z=>False.elim z
end
section
variable {X:Cx} {st:Stmt} {rest:List Stmt} {t u:TS} {e:Expr} {te:TE} {pos:Pos}
noncomputable def oR:TS:=fun D σ H=>D.nx σ H
noncomputable def yH (t u:TS):TS:=fun D σ H=>t { D with nx:=u D } σ H
theorem wB:PSs X [] oR:=fun _ _ σ H _ I h=>Jk ⟨σ,H,I,h⟩
theorem tP (h1:PS X st t) (h2:PSs X rest u):PSs X (st::rest) (yH t u):=by
 intro pins s σ H D I h;refine wpAny_execs_cons (thn (h1 pins s σ H { D with nx:=u D } I h) fun f s1 q => ?_)
 cases f with
 | next =>
   obtain ⟨σ',H',I',q⟩:=q;exact h2 pins s1 σ' H' D I' q
 | ret v=>exact q
 | brk=>exact q
 | cont=>exact q
noncomputable def qz:TS:=fun D σ H=>D.bk σ H
noncomputable def vO:TS:=fun D σ H=>D.ct σ H
theorem wD:PS X (.Pass pos) oR:=fun _ _ σ H _ I h=>wpAny_Pass ⟨σ,H,I,h⟩
theorem tQ:PS X (.Break pos) qz:=fun _ _ σ H _ I h=>wpAny_Break ⟨σ,H,I,h⟩
theorem nF:PS X (.Continue pos) vO:=fun _ _ σ H _ I h=>wpAny_Continue ⟨σ,H,I,h⟩
theorem Inv.quiet {pins:List (Addr×Obj)} {σ:St} {H:Hp} {s:h7} (I:Inv X pins σ H s):interactive X.env=false:=by simp [interactive,I.ok.kind]
noncomputable def vP (te:TE):TS:=fun D σ H=>te σ H fun _ H1=>D.nx σ H1
theorem wF (he:PE X e te) (hs:GY e none pos.line X.env=pure false:=by rfl):PS X (.Expr e pos) (vP te):=by
 intro pins s σ H D I h;exact wpAny_Expr_any (thn (he pins s σ H _ I h) fun v s1 ⟨x,H1,j,z,q⟩=>⟨σ,H1,j,q⟩) I.quiet hs
noncomputable def yI (te:TE):TS:=fun D σ H=>te σ H D.rt
theorem yJ (he:PE X e te):PS X (.Return (some e) pos) (yI te):=by
 intro pins s σ H D I h;exact wpAny_Return_some (thn (he pins s σ H _ I h) fun v s1 ⟨x,H1,j,q,z⟩=>⟨x, σ,H1,j,q,z⟩)
noncomputable def yK (c:TT) (t u:TS):TS:=fun D σ H=>c σ H fun b H1=>if b=true then t D σ H1 else u D σ H1
theorem Al {c:Expr} {a b:List Stmt} {tc:TT} (z:PT X c tc) (B:PSs X a t) (F:PSs X b u):PS X (.If c a b pos) (yK tc t u):=by
 intro pins s σ H D I h;refine wpAny_If (thn (z pins s σ H _ I h) fun d s1 ⟨H1,j,q⟩ => ?_)
 cases d with
 | true=>exact B pins s1 σ H1 D j q
 | false=>exact F pins s1 σ H1 D j q
end
noncomputable abbrev TG:=V->St->Hp->(St->Hp->Prop)->Prop
noncomputable abbrev TGs:=List V->St->Hp->(St->Hp->Prop)->Prop
def PG (X:Cx) (target:Expr) (t:TG):Prop :=
 ∀ (pins:List (Addr×Obj)) (s:h7) (σ:St) (H:Hp) (v:V) (u:gV) (Q:St->Hp->Prop),Inv X pins σ H s->RelV v u->t v σ H Q ->
  DU (model X.prog X.w) X.A (assign target X.env u) (fun _ s' => ∃ σ' H',Inv X pins σ' H' s'/\Q σ' H') X.xe s
def PGs (X:Cx) (ts:List Expr) (t:TGs):Prop :=
 ∀ (pins:List (Addr×Obj)) (s:h7) (σ:St) (H:Hp) (vs:List V) (us:List gV) (Q:St->Hp->Prop),Inv X pins σ H s->Vals vs us->t vs σ H Q ->
  DU (model X.prog X.w) X.A (K1 ((Fk ts X.env).map (·.2)) us) (fun _ s' => ∃ σ' H',Inv X pins σ' H' s'/\Q σ' H') X.xe s
noncomputable abbrev oS:=V->V->V->Hp->(Hp->Prop)->Prop
def PSet (X:Cx) (t:oS):Prop :=
 ∀ (pins:List (Addr×Obj)) (s:h7) (σ:St) (H:Hp) (o i v:V) (ov iv u:gV) (Q:Hp->Prop),Inv X pins σ H s->RelV o ov->RelV i iv->RelV v u->t o i v H Q ->
  DU (model X.prog X.w) X.A (setItem ov iv u) (fun _ s' => ∃ H',Inv X pins σ H' s'/\Q H') X.xe s
section
variable {X:Cx} {pos:Pos}
noncomputable def ik (i:Nat):TG:=fun v σ H Q=>Q (σ.set i (some v)) H
theorem nS {i:Nat} {x:Str} (j:X.N.Nodup) (hi:X.N[i]? = some x) (hx:Loc X.env.scope x) (hf:X.fn x=true∨X.env.scope.names.lookup x=some .local:=by first | exact .inl rfl | exact .inr rfl | assumption):PG X (.Name x pos) (ik i):=by
 intro pins s σ H v u Q I r h;exact wpAny_assign_Name (gH I j hi hx r (fun s' I'=>⟨_,H,I',h⟩) hf)
noncomputable def B9:TGs:=fun vs σ H Q=>vs=[]/\Q σ H
noncomputable def Am (t:TG) (u:TGs):TGs:=fun vs σ H Q => ∃ v r,vs=v::r/\t v σ H fun σ' H'=>u r σ' H' Q
theorem wG:PGs X [] B9:=by
 intro pins s σ H vs us Q I r h;obtain ⟨e,h⟩:=h;subst e
 cases r
 exact Kn ⟨σ,H,I,h⟩
theorem tR {e:Expr} {es:List Expr} {t:TG} {u:TGs} (h1:PG X e t) (h2:PGs X es u)
 (hs:(Fk (e::es) X.env).map (·.2)=assign e X.env::(Fk es X.env).map (·.2):=by rfl):PGs X (e::es) (Am t u):=by
 intro pins s σ H vs us Q I r h;obtain ⟨v,vr,j,h⟩:=h;subst j
 cases r with
 | cons r rr =>
   rw [hs];refine Ij (thn (h1 pins s σ H _ _ _ I r h) fun _ s1 ⟨σ1,H1,q,z⟩ => ?_);exact h2 pins s1 σ1 H1 _ _ Q q rr z
noncomputable def Ba (K:Frag) (n:Nat) (t:TGs):TG:=fun v σ H Q => ∃ a xs,v = .ref a/\SqT K H a xs/\xs.length=n/\t xs σ H Q
theorem yL {es:List Expr} {k:Nat} {t:TGs} {n:Nat} (q:X.calm=true) (h:PGs X es t)
 (hn:(Fk es X.env).length=n:=by rfl) (j:(Fk es X.env).findIdx? (·.1)=none:=by rfl):PG X (.Tuple es k pos) (Ba X.K n t):=by
 intro pins s σ H v u Q I r hw;obtain ⟨a,xs,z,B,F,hw⟩:=hw;subst z
 cases r
 obtain ⟨its,rv,G,L⟩:=I.tuple B;refine assign_Tuple_tuple (I.ok.hd q) G (by simp [hn, <- F,rv.length]) j fun h' hx => ?_
 have J:Inv X pins σ H { s with heap:=h' }:=I.kept (t':=s.toks) fun b o e=>hx b o (Ec (DM e)) e
 exact h pins _ σ H xs _ Q J (by simpa using rv) hw
noncomputable def Bb (to ti:TE) (t:oS):TG:=fun v σ H Q=>to σ H fun o H1=>ti σ H1 fun i H2=>t o i v H2 fun H3=>Q σ H3
theorem yM {o i:Expr} {to ti:TE} {t:oS} (ho:PE X o to) (hi:PE X i ti) (hs:PSet X t)
 (j:∀ v,assign (.Subscript o i pos) X.env v=(do
   let ov <- holding [v] (eval o X.env)
   let iv <- holding [v,ov] (eval i X.env)
   Iz pos
   holding [v,ov,iv] (setItem ov iv v)
   release [v,ov,iv] []):=by intro _;rfl):PG X (.Subscript o i pos) (Bb to ti t):=by
 intro pins s σ H v u Q I r h;rw [j];refine g6 (FI (thn (ho pins s σ H _ I h) fun ov s1 ⟨x,H1,q,z,B⟩ => ?_));refine g6 (FI (thn (hi pins s1 σ H1 _ q B) fun iv s2 ⟨y,H2,F,G,J⟩ => ?_));refine g6 (Gj (g6 (FI (thn (hs pins s2 σ H2 x y v ov iv u _ F z G r J) fun _ s3 ⟨L,O,U⟩ => ?_))));exact wpAny_release ⟨σ,L,O,U⟩
noncomputable def oT (te:TE) (g:TG):TS:=fun D σ H=>te σ H fun x H1=>g x σ H1 D.nx
theorem qA {tg e:Expr} {te:TE} {g:TG} (he:PE X e te) (j:PG X tg g) (hs:GD [tg] e pos.line X.env=pure false:=by rfl) (hw:FY [tg] e X.env=pure none:=by rfl)
 (h1:(Fk [tg] X.env).map (·.2)=[assign tg X.env]:=by rfl):PS X (.Assign [tg] e pos) (oT te g):=by
 intro pins s σ H D I h;refine wpAny_Assign_stores (thn (he pins s σ H _ I h) fun v s1 ⟨x,H1,z,B,F⟩ => ?_) hs hw;rw [h1];exact thn (j pins s1 σ H1 x v _ z B F) fun _ s2 q=>q
noncomputable def yN (i j:Nat) (ta:TA):TS:=fun D σ H=>ta σ H fun vs H1 => ∃ v w,vs=[v,w]/\D.nx ((σ.set i (some v)).set j (some w)) H1
theorem yO {i j:Nat} {x y:Str} {a b:Expr} {ta:TA} {px py pt:Pos} {kt G z} (hc:X.calm=true) (U:X.N.Nodup) (hi:X.N[i]? = some x) (hj:X.N[j]? = some y) (J:i≠j)
 (hx:X.env.scope.names.lookup x=some .local) (Y:X.env.scope.names.lookup y=some .local) (ha:PA X [a,b] ta)
 (hw:FY [.Tuple [.Name x px, .Name y py] kt pt] (.Tuple [a,b] G z) X.env=pure (some [x,y]))
 (hs:GD [.Tuple [.Name x px, .Name y py] kt pt] (.Tuple [a,b] G z) pos.line X.env=pure false:=by rfl) :
 PS X (.Assign [.Tuple [.Name x px, .Name y py] kt pt] (.Tuple [a,b] G z) pos) (yN i j ta):=by
 intro pins s σ H D I h;rw [exec_Assign_arm];refine g6 (Gj ?_);rw [hs];refine g6 (i4 ?_);rw [if_neg (by decide)]
 refine g6 (Tuple_ (thn (ha _ pins s σ H _ I h) fun us s1 ⟨vs,H1,I1,r1,L⟩ => ?_));obtain ⟨v,w,e1,L⟩:=L;subst e1;obtain ⟨B,F,rfl,rv,rw'⟩:∃ B F,us=[B,F]/\RelV v B/\RelV w F:=by
  cases r1 with
  | cons p q =>
    cases q with
    | cons p' q' =>
      cases q'
      exact ⟨_,_,rfl,p,p'⟩
 refine Gq ?_ (by show 2<=DL;decide)
 have I2:Inv X pins σ H1 { s1 with heap:=s1.heap.push { cls := .type "tuple",data := .seq [B,F].toArray } }:=I1.kept (t':=s1.toks) fun b o e=>i3 _ e
 rw [hw];refine g6 (i4 ?_);show DU (model X.prog X.w) X.A (do rule "assign.swapped-stores";let items <- unpackItems (.ref s1.heap.objs.size) 2 none;K1 [fun v=>LJ X.env y v,fun v=>LJ X.env x v] items.reverse;pure Flow.next) _ _ _
 refine g6 (Fz (g6 (unpackItems_tuple (items := #[B,F]) (I.ok.hd hc) (JV s1.heap _) fun h' O => ?_)));have I3:=I2.kept (h':=h') (t':=s1.toks) fun b o e=>O b o (Ec (DM e)) e;show DU _ _ (K1 [fun v=>LJ X.env y v,fun v=>LJ X.env x v] [F,B] >>= fun _=>pure Flow.next) _ _ _;refine g6 (Ij (wpAny_bindName (gH I3 U hj (.inl Y) rw' (fun s2 I4 => ?_) (.inr Y))));refine Ij (wpAny_bindName (gH I4 U hi (.inl hx) rv (fun s3 Z=>Kn (i4 ?_)) (.inr hx)));rw [List.set_comm _ _ (Ne.symm J)] at Z;exact ⟨_,H1,Z,L⟩
def Bc (X:Cx) (t:V->V->Hp->VK->Prop):Prop :=
 ∀ (pins:List (Addr×Obj)) (s:h7) (σ:St) (H:Hp) (o i:V) (ov iv:gV) (Q:VK),Inv X pins σ H s->RelV o ov->RelV i iv->t o i H Q ->
  DU (model X.prog X.w) X.A (LD ov iv) (EP X pins σ Q) X.xe s
end
section
variable {X:Cx} {pos:Pos}
noncomputable def qB (c:TT) (tb:TS):TS:=fun D σ H => ∃ W:Nat->St->Hp->Prop,(∃ m,W m σ H) /\ ∀ m σ H,W m σ H ->
 c σ H fun b H1=>if b=true then ∃ N:St->Hp->Prop,(∀ σ' H',N σ' H' -> ∃ m',m' < m/\W m' σ' H')/\tb { D with nx:=N,ct:=N,bk:=D.nx } σ H1 else D.nx σ H1
theorem tS {c:Expr} {body:List Stmt} {tc:TT} {tb:TS} (J:PassesOwn (model X.prog X.w) X.A X.env X.xe) (U:PT X c tc) (Y:PSs X body tb):PS X (.While c body [] pos) (qB tc tb):=by
 intro pins s σ H D I h;obtain ⟨W,⟨m0,Z⟩,turn⟩:=h;refine wpAny_While (codeAny_whileLoop (fun n s' => ∃ σ' H',Inv X pins σ' H' s'/\W n σ' H') ?_ m0 ⟨σ,H,I,Z⟩);rintro n s1 ⟨σ1,H1,I1,w1⟩;refine FT J (thn (U pins s1 σ1 H1 _ I1 (turn n σ1 H1 w1)) fun b s2 ⟨H2,L,q⟩ => ?_)
 cases b with
 | true =>
   obtain ⟨N,O,q⟩:=q;rw [if_pos rfl];refine FT J (thn (Y pins s2 σ1 H2 _ L q) fun f s3 z => ?_)
   cases f with
   | next =>
     obtain ⟨σ3,j,B,F⟩:=z;obtain ⟨m',hm,G⟩:=O σ3 j F;exact ⟨m',hm, σ3,j,B,G⟩
   | cont =>
     obtain ⟨σ3,j,B,F⟩:=z;obtain ⟨m',hm,G⟩:=O σ3 j F;exact ⟨m',hm, σ3,j,B,G⟩
   | brk=>exact z
   | ret v=>exact z
 | false =>
   rw [if_neg y2];exact Jk ⟨σ1,H2,L,q⟩
end
structure It where
 go:Nat->Hp->Prop
 yld:Nat->Hp->V->Hp->Prop
 stop:Nat->Hp->Prop
def cj (X:Cx) (pins:List (Addr×Obj)) (H:Hp) (b:Addr):Prop :=
 H b=none/\b≠X.env.locals/\b∉X.fs/\(b∈X.ex∨X.s₀.heap.objs.size<=b)/\(∀ x c,X.env.cells.lookup x=some c->c≠b) /\ ∀ p∈X.pn++pins,p.1≠b
theorem Inv.fpOk {X:Cx} {pins:List (Addr×Obj)} {σ:St} {H H':Hp} {s:h7} {b:Addr} (I:Inv X pins σ H s) (j:s.heap.objs.size<=b) (hn:H' b=none):cj X pins H' b:=by
 refine ⟨hn,G9 (Ee I.lt j),I.nofs j, .inr (Ed I.sz j),fun x c e z => ?_,fun p B z => ?_⟩
 ·obtain ⟨v,q⟩:=I.cell x c e;exact absurd (Ee q.lt (by rw [z];exact j)) (F6 _)
 ·exact absurd (Ee (DM (I.pin p B).1) (by rw [z];exact j)) (F6 _)
structure gI (P:E3) (w:Ep) (K:Frag) (tg:Expr) (J:It) (fp:List Addr) (it:Addr) (tn:Nat->Heap->Prop):Prop where
 mem:it∈fp
 obj:∀ i h,tn i h -> ∀ b∈fp, ∃ o,h.get? b=some o /\ ∀ v,o.data ≠ .cell v
 keep:∀ i h h',tn i h->(∀ b∈fp, ∀ o,h.get? b=some o->h'.get? b=some o)->tn i h'
 item:∀ (X:Cx),X.prog=P->X.w=w->X.K=K->X.calm=true -> ∀ (i:Nat) (pins:List (Addr×Obj)) (s:h7) (σ:St) (H:Hp) (E:gV->h7->Prop),Inv X pins σ H s->(∀ b∈fp,cj X pins H b)->tn i s.heap->J.go i H ->
  DU (model P w) X.A (H9 (.ref it)) (fun r s1 => ∃ u,r=some u /\
   DU (model P w) X.A (HM tg (.ref it) u) (fun _ s2 => ∃ x H',Inv X pins σ H' s2/\RelV x u/\J.yld i H x H'/\tn (i+1) s2.heap /\ ∀ b∈fp,H' b=none) E s1) E s
 done:∀ (X:Cx),X.prog=P->X.w=w->X.K=K->X.calm=true -> ∀ (i:Nat) (pins:List (Addr×Obj)) (s:h7) (σ:St) (H:Hp) (E:gV->h7->Prop),Inv X pins σ H s->(∀ b∈fp,cj X pins H b)->tn i s.heap->J.stop i H ->
  DU (model P w) X.A (H9 (.ref it)) (fun r s1=>r=none/\Inv X pins σ H s1) E s
 self:∀ (A:Ew) (i:Nat) (s:h7) (Q:gV->h7->Prop) (E:gV->h7->Prop),tn i s.heap->Q (.ref it) s->DU (model P w) A (Jy (.ref it)) Q E s
noncomputable abbrev TI:=St->Hp->(It->Hp->Prop)->Prop
def PIE (X:Cx) (pins:List (Addr×Obj)) (σ:St) (tg:Expr) (R:It->Hp->Prop) (itv:gV) (s2:h7):Prop :=
 ∃ (it:Addr) (fp:List Addr) (tn:Nat->Heap->Prop) (J:It) (H':Hp),itv = .ref it/\Inv X pins σ H' s2/\gI X.prog X.w X.K tg J fp it tn/\tn 0 s2.heap/\(∀ b∈fp,cj X pins H' b)/\R J H'
def PI (X:Cx) (tg iter:Expr) (wi:TI):Prop :=
 ∀ (pins:List (Addr×Obj)) (s:h7) (σ:St) (H:Hp) (R:It->Hp->Prop),Inv X pins σ H s->wi σ H R ->
  DU (model X.prog X.w) X.A (eval iter X.env) (fun v s1=>DU (model X.prog X.w) X.A (Jy v) (PIE X pins σ tg R) X.xe s1) X.xe s
theorem oU {M:Hs} {A:Ew} {E:gV->h7->Prop} {s:h7} {tg:Expr} {it:Addr} {u:gV} {o:Obj} {n:String} {vs:Array gV} {Q:Unit->h7->Prop} (ho:s.heap.get? it=some o) (q:o.cls = .type n) (hd:o.data = .fields vs)
 (hn : ["enumerate", "zip", "dict_itemiterator", "dict_reverseitemiterator", "odict_iterator", "itertools.zip_longest", "itertools.pairwise"].contains n=false) (j:Q () s):DU M A (HM tg (.ref it) u) Q E s:=by
 unfold HM
 cases tg <;> first
  | exact i4 j
  | (cases u <;> first
      | exact i4 j
      | (refine g6 (wpAny_load ho ?_)
         rw [q,hd];show DU M A (if (["enumerate", "zip", "dict_itemiterator", "dict_reverseitemiterator", "odict_iterator", "itertools.zip_longest", "itertools.pairwise"].contains n&&vs[0]? == some (J4 _))=true then _ else _) Q E s
         rw [if_neg (by intro h;rw [hn,Bool.false_and] at h;cases h)]
         exact i4 j))
noncomputable def Itl (K:Frag) (a:Addr):It :=
 ⟨fun i H => ∃ xs x,SqL K H a xs/\xs[i]? = some x,fun i H x H'=>H'=H /\ ∀ xs,SqL K H a xs->xs[i]? = some x,fun i H => ∃ xs,SqL K H a xs/\xs.length<=i⟩
noncomputable def Itt (K:Frag) (a:Addr):It :=
 ⟨fun i H => ∃ xs x,SqT K H a xs/\xs[i]? = some x,fun i H x H'=>H'=H /\ ∀ xs,SqT K H a xs->xs[i]? = some x,fun i H => ∃ xs,SqT K H a xs/\xs.length<=i⟩
noncomputable def Itr (lo:Int) (n:Nat):It:=⟨fun i _=>i < n,fun i H x H'=>H'=H/\x = .int (lo+i),fun i _=>n<=i⟩
theorem qC {P:E3} {w:Ep} {K:Frag} {tg:Expr} (a it:Addr):gI P w K tg (Itl K a) [it] it (fun i h=>h.IsListIter it a i) where
 mem:=by simp
 obj:=fun i h st b j=>by
  have e:b=it:=by simpa using j
  subst e;obtain ⟨o,e,c,d⟩:=st;exact ⟨o,e,fun v z=>by rw [d] at z;cases z⟩
 keep:=fun i h h' st k=>st.at fun o e=>k it (by simp) o e
 item:=by
  intro X B hw F L i pins s σ H E I hf st hg;subst B hw F;obtain ⟨xs,x,q,hx⟩:=hg;obtain ⟨its,rv,p,O⟩:=I.list q;obtain ⟨u,U,ru⟩:=rv.get hx;obtain ⟨f0,f1,f2,G,f4,J⟩:=hf it (by simp)
  refine wpAny_pyNext_list_item st p.isList (x:=u) (by simpa using U) fun h' st' sb => ?_
  have Y:Inv X pins σ H { s with heap:=h' }:=I.turned (t':=s.toks) (fun b o j e=>(sb.2 b j).trans e) f0 f1 G f4 J
  obtain ⟨o,e,c,d⟩:=id st';exact ⟨u,rfl,oU (s := { s with heap:=h' }) e c d (by decide) ⟨x,H,Y,ru,⟨rfl,fun ys Z=>by rw [I.list_inj Z q];exact hx⟩,st',fun b j=>(hf b j).1⟩⟩
 done:=by
  intro X B hw F L i pins s σ H E I hf st hg;subst B hw F;obtain ⟨xs,q,hx⟩:=hg;obtain ⟨its,rv,p,O⟩:=I.list q;obtain ⟨f0,f1,f2,G,f4,J⟩:=hf it (by simp)
  have hl:=rv.length;exact wpAny_pyNext_list_end (I.ok.hd L) st p.isList (by simp;omega) fun h' eb=>⟨rfl,I.turned (t':=s.toks) (fun b o j e=>eb b o j e) f0 f1 G f4 J⟩
 self:=fun _ _ _ _ _ st h=>wpAny_pyIter_listiter st h
theorem oV {P:E3} {w:Ep} {K:Frag} {tg:Expr} (a it:Addr):gI P w K tg (Itt K a) [it] it (fun i h=>h.IsTupleIter it a i) where
 mem:=by simp
 obj:=fun i h st b j=>by
  have e:b=it:=by simpa using j
  subst e;obtain ⟨o,e,c,d⟩:=st;exact ⟨o,e,fun v z=>by rw [d] at z;cases z⟩
 keep:=fun i h h' st k=>st.at fun o e=>k it (by simp) o e
 item:=by
  intro X B hw F L i pins s σ H E I hf st hg;subst B hw F;obtain ⟨xs,x,q,hx⟩:=hg;obtain ⟨its,rv,p,O⟩:=I.tuple q;obtain ⟨u,U,ru⟩:=rv.get hx;obtain ⟨f0,f1,f2,G,f4,J⟩:=hf it (by simp)
  refine wpAny_pyNext_tuple_item st (show s.heap.IsTuple a its.toArray from p) (x:=u) (by simpa using U) fun h' st' sb => ?_
  have Y:Inv X pins σ H { s with heap:=h' }:=I.turned (t':=s.toks) (fun b o j e=>(sb.2 b j).trans e) f0 f1 G f4 J
  obtain ⟨o,e,c,d⟩:=id st';exact ⟨u,rfl,oU (s := { s with heap:=h' }) e c d (by decide) ⟨x,H,Y,ru,⟨rfl,fun ys Z=>by rw [I.tuple_inj Z q];exact hx⟩,st',fun b j=>(hf b j).1⟩⟩
 done:=by
  intro X B hw F L i pins s σ H E I hf st hg;subst B hw F;obtain ⟨xs,q,hx⟩:=hg;obtain ⟨its,rv,p,O⟩:=I.tuple q;obtain ⟨f0,f1,f2,G,f4,J⟩:=hf it (by simp)
  have hl:=rv.length;exact wpAny_pyNext_tuple_end (I.ok.hd L) st (show s.heap.IsTuple a its.toArray from p) (by simp;omega) fun h' eb=>⟨rfl,I.turned (t':=s.toks) (fun b o j e=>eb b o j e) f0 f1 G f4 J⟩
 self:=fun _ _ _ _ _ st h=>wpAny_pyIter_tupleiter st h
theorem oW {P:E3} {w:Ep} {K:Frag} {tg:Expr} (it:Addr) (lo:Int) (n:Nat):gI P w K tg (Itr lo n) [it] it (fun i h=>IsRangeIter h it (lo+(i:Nat)*1) ((n:Int) - (i:Nat)) 1) where
 mem:=by simp
 obj:=fun i h st b j=>by
  have e:b=it:=by simpa using j
  subst e;exact ⟨_,st,fun v z=>by
   have z':Data.fields _=Data.cell v:=z
   cases z'⟩
 keep:=fun i h h' st k=>k it (by simp) _ st
 item:=by
  intro X q hw B F i pins s σ H E I hf st hg;subst q hw B;obtain ⟨f0,f1,f2,G,f4,J⟩:=hf it (by simp)
  have W:=Walks.range (prog:=X.prog) (w:=X.w) (I.ok.hd F) it lo 1 n;refine W.item i s _ _ hg st fun v h' tk L st' kk => ?_;obtain ⟨t,rfl⟩:=L;have O:Inv X pins σ H { s with heap:=h',toks:=tk }:=I.turned (fun b o j e=>kk b o (by simpa using j) e) f0 f1 G f4 J
  refine ⟨_,rfl,oU (s := { s with heap:=h',toks:=tk }) (n := "range_iterator") st' rfl rfl (by decide) ⟨.int (lo+i),H,O,⟨t, ?_⟩,⟨rfl,rfl⟩,st',fun b j=>(hf b j).1⟩⟩
  rw [Int.mul_one]
 done:=by
  intro X q hw B F i pins s σ H E I hf st hg;subst q hw B;obtain ⟨f0,f1,f2,G,f4,J⟩:=hf it (by simp)
  exact wpAny_pyNext_range_end (I.ok.hd F) st (by have:n<=i:=hg;omega) fun h' eb=>⟨rfl,I.turned (t':=s.toks) (fun b o j e=>eb b o j e) f0 f1 G f4 J⟩
 self:=fun _ _ _ _ _ st h=>wpAny_pyIter_rangeiter st h
end
section
section
variable {X:Cx} {tg:Expr}
theorem tT {pins:List (Addr×Obj)} {σ:St} {H:Hp} {s:h7} {R:It->Hp->Prop} {E:gV->h7->Prop} {lo hi:Int} {t u v:Tok} {tk:Nat} (I:Inv X pins σ H s) (h1 : -(2 ^ 62)<=lo) (h2:lo < 2 ^ 62) (z : -(2 ^ 62)<=hi) (B:hi < 2 ^ 62)
 (q:R (Itr lo (hi - lo).toNat) H):DU (model X.prog X.w) X.A (Jy (.ref s.heap.objs.size)) (PIE X pins σ tg R) E { s with heap:=s.heap.push { cls := .type "range",data := .fields #[.int lo t, .int hi u, .int 1 v] },toks:=tk }:=by
 refine wpAny_pyIter_range (IsRange.new ..) (small_one h1 h2 z B) ?_;have j:Inv X pins σ H { s with heap:=s.heap.push { cls := .type "range",data := .fields #[.int lo t, .int hi u, .int 1 v] },toks:=tk }:=I.kept fun b o e=>i3 _ e
 refine ⟨(s.heap.push { cls := .type "range",data := .fields #[.int lo t, .int hi u, .int 1 v] }).objs.size,[(s.heap.push { cls := .type "range",data := .fields #[.int lo t, .int hi u, .int 1 v] }).objs.size],_,_,H,rfl,
  j.kept (t':=tk) fun b o e=>i3 _ e,oW _ lo (hi - lo).toNat, ?_,fun b F => ?_,q⟩
 ·have G:lo+((0:Nat):Int)*1=lo:=by simp
  have J:(((hi - lo).toNat:Nat):Int) - ((0:Nat):Int)=Builtin.Range.rangeSize lo hi 1:=by rw [rangeSize_one];split <;> omega
  show IsRangeIter _ _ (lo+((0:Nat):Int)*1) ((((hi - lo).toNat:Nat):Int) - ((0:Nat):Int)) 1;rw [G,J];exact DQ _ rfl
 ·have e:b=(s.heap.push { cls := .type "range",data := .fields #[.int lo t, .int hi u, .int 1 v] }).objs.size:=by simpa using F
  subst e;exact j.fpOk (DP _) (j.hok.fresh (DP _))
noncomputable def An (ta:TA):TI:=fun σ H R=>ta σ H fun vs H1 => ∃ j:Int,vs=[.int j] /\ -(2 ^ 62)<=j/\j < 2 ^ 62/\R (Itr 0 j.toNat) H1
theorem qD {a:Expr} {ta:TA} {p pos:Pos} (B:Gl X "range") (hm:X.mg "range" = none) (F:PA X [a] ta) (hs:E4 [a] X.env=[(false,eval a X.env)]:=by rfl):PI X tg (.Call (.Name "range" p) [a] [] pos) (An ta):=by
 intro pins s σ H R I h;refine Call_ (eA I B hm boot_range (FF (thn (F pos pins s σ H _ I h) fun us s1 ⟨vs,H1,G,J,z⟩ => ?_) hs rfl));obtain ⟨j,e,z,L,q⟩:=z;subst e
 cases J with
 | cons r rr =>
   cases rr
   obtain ⟨t,rfl⟩:=r;exact call_range_1 (tT G (by omega) (by omega) z L (by simpa using q))
noncomputable def yP (wi:TI) (g:TG) (tb:TS):TS:=fun D σ H=>wi σ H fun J H1 => ∃ W:Nat->Nat->St->Hp->Prop,(∃ m,W 0 m σ H1) /\ ∀ i m σ H,W i m σ H ->
 (J.stop i H/\D.nx σ H)∨(J.go i H /\ ∃ N:St->Hp->Prop,(∀ σ' H',N σ' H' -> ∃ m',m' < m/\W (i+1) m' σ' H') /\ ∀ x H',J.yld i H x H'->g x σ H' fun σ2 H2=>tb { D with nx:=N,ct:=N,bk:=D.nx } σ2 H2)
noncomputable def il (fp:List Addr) (h:Heap):List (Addr×Obj):=fp.filterMap fun b=>(h.get? b).map fun o=>(b,o)
theorem cS {fp:List Addr} {h:Heap} {b:Addr} {o:Obj} (j:b∈fp) (e:h.get? b=some o):(b,o)∈il fp h:=Kd.mpr ⟨b,j,by rw [e];rfl⟩
theorem qE {fp:List Addr} {h:Heap} {p:Addr×Obj} (j:p∈il fp h):p.1∈fp/\h.get? p.1=some p.2:=by
 obtain ⟨b,z,e⟩:=Kd.mp j
 cases q:h.get? b with
 | none=>rw [q] at e;cases e
 | some o =>
   rw [q] at e;have e':(b,o)=p:=Fq.inj e;subst e';exact ⟨z,q⟩
theorem Inv.pinned {pins:List (Addr×Obj)} {σ:St} {H:Hp} {s:h7} {fp:List Addr} (I:Inv X pins σ H s) (hf:∀ b∈fp,cj X pins H b) (ho:∀ b∈fp, ∃ o,s.heap.get? b=some o /\ ∀ v,o.data ≠ .cell v):Inv X (pins++il fp s.heap) σ H s :=
 I.pins_of fun p q=>(E5.mp q).elim (fun z=>I.pin p (E1 _ z)) fun z=>by
  obtain ⟨j,e⟩:=qE z;obtain ⟨f0,f1,f2,_⟩:=hf p.1 j;obtain ⟨o,e',d⟩:=ho p.1 j;rw [e] at e';cases e';exact ⟨e,f0,f1,f2,d⟩
theorem Inv.unpinned {pins pl:List (Addr×Obj)} {σ:St} {H:Hp} {s:h7} (I:Inv X (pins++pl) σ H s):Inv X pins σ H s:=I.pins_of fun p j=>I.pin p (E1 _ (Ff _ j))
theorem yQ {iter:Expr} {body:List Stmt} {wi:TI} {g:TG} {tb:TS} {pos:Pos} (G:PassesOwn (model X.prog X.w) X.A X.env X.xe) (hc:X.calm=true) (hi:PI X tg iter wi) (hg:PG X tg g) (j:PSs X body tb)
 (hs:∀ x,Fv iter X.env x=pure x:=by intro _;rfl):PS X (.For tg iter body [] pos) (yP wi g tb):=by
 intro pins s σ H D I h;refine wpAny_For (thn (hi pins s σ H _ I h) fun v s1 h1=>thn h1 fun itv s2 h2 => ?_) hs;obtain ⟨it,fp,tn,J,H2,e,I2,T,Z,f2,W,⟨m0,w0⟩,turn⟩:=h2;subst e;have stat:∀ {H':Hp},(∀ b∈fp,H' b=none) -> ∀ b∈fp,cj X pins H' b:=fun hn b j=>⟨hn b j,(f2 b j).2⟩;refine codeAny_forLoop_any (fun n s' => ∃ i σ' H',Inv X pins σ' H' s'/\tn i s'.heap/\(∀ b∈fp,H' b=none)/\W i n σ' H') ?_ m0 ⟨0, σ,H2,I2,Z,fun b j=>(f2 b j).1,w0⟩;rintro n s3 ⟨i, σ3,Y,I3,L,O,w3⟩
 rcases turn i n σ3 Y w3 with ⟨stop,qn⟩ | ⟨go,N,hN,step⟩
 ·refine FT G (thn (T.done X rfl rfl rfl hc i pins s3 σ3 Y X.xe I3 (stat O) L stop) fun r s4 ⟨hr,I4⟩ => ?_);subst hr;exact Jk ⟨σ3,Y,I4,qn⟩
 ·refine FT G (thn (T.item X rfl rfl rfl hc i pins s3 σ3 Y X.xe I3 (stat O) L go) fun r s4 ⟨u,hr,h4⟩ => ?_);subst hr;refine FT G (thn h4 fun _ s5 ⟨x,H5,I5,r5,y5,F,By⟩ => ?_);have Bz:=I5.pinned (stat By) (T.obj _ _ F);refine FT G (thn (hg _ s5 σ3 H5 x u _ Bz r5 (step x H5 y5)) fun _ s6 ⟨σ6,H6,I6,q6⟩ => ?_);refine FT G (thn (j _ s6 σ6 H6 _ I6 q6) fun f s7 B => ?_);have again:∀ {σ7:St} {q:Hp},Inv X (pins++il fp s5.heap) σ7 q s7->N σ7 q -> ∃ m,m < n /\ ∃ i σ' H',Inv X pins σ' H' s7/\tn i s7.heap/\(∀ b∈fp,H' b=none)/\W i m σ' H':=fun {σ7 q} z U=>by
   obtain ⟨m',hm,w7⟩:=hN σ7 q U;refine ⟨m',hm,i+1, σ7,q,z.unpinned,T.keep _ _ _ F fun b j o e=>(z.pin (b,o) (E1 _ (E1 _ (cS j e)))).1,fun b j => ?_,w7⟩;obtain ⟨o,e,d⟩:=T.obj _ _ F b j;exact (z.pin (b,o) (E1 _ (E1 _ (cS j e)))).2.1
  cases f with
  | next=>obtain ⟨σ7,q,z,U⟩:=B;exact again z U
  | cont=>obtain ⟨σ7,q,z,U⟩:=B;exact again z U
  | brk=>obtain ⟨σ7,q,z,B⟩:=B;exact ⟨σ7,q,z.unpinned,B⟩
  | ret v=>obtain ⟨x7, σ7,q,z,r7,B⟩:=B;exact ⟨x7, σ7,q,z.unpinned,r7,B⟩
end
end
section
noncomputable abbrev R2:=V->V->Hp->VK->Prop
def OpR (X:Cx) (f:gV->gV->Sem gV) (r:R2):Prop :=
 ∀ (pins:List (Addr×Obj)) (s:h7) (σ:St) (H:Hp) (x y:V) (v u:gV) (Q:VK),Inv X pins σ H s->RelV x v->RelV y u->r x y H Q ->
  DU (model X.prog X.w) X.A (f v u) (EP X pins σ Q) X.xe s
def UnR (X:Cx) (f:gV->Sem gV) (r:V->Hp->VK->Prop):Prop :=
 ∀ (pins:List (Addr×Obj)) (s:h7) (σ:St) (H:Hp) (x:V) (v:gV) (Q:VK),Inv X pins σ H s->RelV x v->r x H Q ->
  DU (model X.prog X.w) X.A (f v) (EP X pins σ Q) X.xe s
def CallR (X:Cx) (f:gV) (r:List V->Hp->VK->Prop):Prop :=
 ∀ (pins:List (Addr×Obj)) (s:h7) (σ:St) (H:Hp) (xs:List V) (us:List gV) (Q:VK),Inv X pins σ H s->Vals xs us->r xs H Q ->
  DU (model X.prog X.w) X.A (call f us) (EP X pins σ Q) X.xe s
def Bd (X:Cx) (r:V->Hp->(Bool->Hp->Prop)->Prop):Prop :=
 ∀ (pins:List (Addr×Obj)) (s:h7) (σ:St) (H:Hp) (x:V) (v:gV) (Q:Bool->Hp->Prop),Inv X pins σ H s->RelV x v->r x H Q ->
  DU (model X.prog X.w) X.A (truthy v) (TP X pins σ Q) X.xe s
noncomputable def tOp (r:R2) (ta tb:TE):TE:=fun σ H Q=>ta σ H fun x H1=>tb σ H1 fun y H2=>r x y H2 Q
noncomputable def tUn (r:V->Hp->VK->Prop) (ta:TE):TE:=fun σ H Q=>ta σ H fun x H1=>r x H1 Q
noncomputable def rI (C:Int->Int->Prop) (g:Int->Int->V):R2:=fun x y H Q => ∃ i j,x = .int i/\y = .int j/\C i j/\Q (g i j) H
noncomputable def rI0 (g:Int->Int->V):R2:=fun x y H Q => ∃ i j,x = .int i/\y = .int j/\Q (g i j) H
noncomputable def rU (g:Int->V):V->Hp->VK->Prop:=fun x H Q => ∃ i,x = .int i/\Q (g i) H
section
variable {X:Cx} {a b c:Expr} {ta tb tc:TE} {pos:Pos}
theorem tU (j:PE X a ta) (q:PE X b tb) {pins:List (Addr×Obj)} {s:h7} {σ:St} {H:Hp} {R:V->V->Hp->Prop} (I:Inv X pins σ H s)
 (h:ta σ H fun x H1=>tb σ H1 fun y H2=>R x y H2) {Q:gV->h7->Prop} {f:gV->gV->Sem gV}
 (hf:∀ v u s2 x y H2,Inv X pins σ H2 s2->RelV x v->RelV y u->R x y H2->DU (model X.prog X.w) X.A (f v u) Q X.xe s2) :
 DU (model X.prog X.w) X.A (eval a X.env) (fun v s₁ => DU (model X.prog X.w) X.A (eval b X.env) (fun u s₂ => DU (model X.prog X.w) X.A (f v u) Q X.xe s₂) X.xe s₁) X.xe s:=by
 refine thn (j pins s σ H _ I h) fun v s1 ⟨x,H1,z,B,F⟩ => ?_;refine thn (q pins s1 σ H1 _ z F) fun u s2 ⟨y,H2,G,J,L⟩ => ?_;exact hf v u s2 x y H2 G B J L
theorem Ao {op:Ko} {r:R2} (ho:OpR X (F7 op) r) (j:PE X a ta) (z:PE X b tb):PE X (.BinOp a op b pos) (tOp r ta tb):=by
 intro pins s σ H Q I h;exact wpAny_BinOp (tU j z I h fun v u s2 x y H2 B rx ry q=>ho pins s2 σ H2 x y v u Q B rx ry q)
theorem Ap {op:UnaryOp} {r:V->Hp->VK->Prop} (ho:UnR X (unaryOp op) r) (j:PE X a ta):PE X (.UnaryOp op a pos) (tUn r ta):=by
 intro pins s σ H Q I h;exact UnaryOp_ (thn (j pins s σ H _ I h) fun v s1 ⟨x,H1,q,z,B⟩=>ho pins s1 σ H1 x v Q q z B)
theorem opI {f:gV->gV->Sem gV} {C:Int->Int->Prop} {g:Int->Int->Int}
 (rule:∀ (i j:Int) (t u:Tok) (s:h7) (Q:gV->h7->Prop) (E:gV->h7->Prop),C i j->Q (.int (g i j) s.toks) { s with toks:=s.toks+1 }->DU (model X.prog X.w) X.A (f (.int i t) (.int j u)) Q E s) :
 OpR X f (rI C fun i j => .int (g i j)):=by
 intro pins s σ H x y v u Q I rx ry h;obtain ⟨i,j,rfl,rfl,z,q⟩:=h;obtain ⟨t,rfl⟩:=rx;obtain ⟨t',rfl⟩:=ry;exact rule i j t t' s _ _ z ⟨.int (g i j),H,I.tok _,⟨_,rfl⟩,q⟩
theorem yR {f:gV->gV->Sem gV} {g:Int->Int->Int}
 (rule:∀ (i j:Int) (t u:Tok) (s:h7) (Q:gV->h7->Prop) (E:gV->h7->Prop),Q (.int (g i j) s.toks) { s with toks:=s.toks+1 }->DU (model X.prog X.w) X.A (f (.int i t) (.int j u)) Q E s) :
 OpR X f (rI0 fun i j => .int (g i j)):=by
 intro pins s σ H x y v u Q I rx ry h;obtain ⟨i,j,rfl,rfl,q⟩:=h;obtain ⟨t,rfl⟩:=rx;obtain ⟨t',rfl⟩:=ry;exact rule i j t t' s _ _ ⟨.int (g i j),H,I.tok _,⟨_,rfl⟩,q⟩
theorem oZ {f:gV->gV->Sem gV} {g:Int->Int->Bool}
 (rule:∀ (i j:Int) (t u:Tok) (s:h7) (Q:gV->h7->Prop) (E:gV->h7->Prop),Q (.bool (g i j)) s->DU (model X.prog X.w) X.A (f (.int i t) (.int j u)) Q E s) :
 OpR X f (rI0 fun i j => .bl (g i j)):=by
 intro pins s σ H x y v u Q I rx ry h;obtain ⟨i,j,rfl,rfl,q⟩:=h;obtain ⟨t,rfl⟩:=rx;obtain ⟨t',rfl⟩:=ry;exact rule i j t t' s _ _ ⟨.bl (g i j),H,I,rfl,q⟩
def Be (i j:Int):Prop := 0<=j/\j<=1000000/\i.natAbs < 2 ^ 64
theorem op_add:OpR X (F7 .Add) (rI0 fun i j => .int (i+j)):=yR fun _ _ _ _ _ _ _ q=>add_int q
theorem yS:OpR X (F7 .Sub) (rI0 fun i j => .int (i - j)):=yR fun _ _ _ _ _ _ _ q=>sub_int q
theorem yT:OpR X (F7 .Mod) (rI (fun _ j => 0 < j) fun i j => .int (i % j)):=opI fun i j _ _ _ _ _ z q=>by
 have h1:(0:Int) < j:=z;exact mod_int' (by omega) (by rw [Int.fmod_eq_emod_of_nonneg i (by omega)];exact q)
theorem yU:OpR X (F7 .Pow) (rI Be fun i j => .int (i ^ j.toNat)):=opI fun _ _ _ _ _ _ _ z q=>pow_int_small z.1 z.2.1 z.2.2 q
theorem unI {f:gV->Sem gV} {g:Int->Int}
 (rule:∀ (i:Int) (t:Tok) (s:h7) (Q:gV->h7->Prop) (E:gV->h7->Prop),Q (.int (g i) s.toks) { s with toks:=s.toks+1 }->DU (model X.prog X.w) X.A (f (.int i t)) Q E s) :
 UnR X f (rU fun i => .int (g i)):=by
 intro pins s σ H x v Q I rx h;obtain ⟨i,rfl,q⟩:=h;obtain ⟨t,rfl⟩:=rx;exact rule i t s _ _ ⟨.int (g i),H,I.tok _,⟨_,rfl⟩,q⟩
theorem yV:UnR X (unaryOp .USub) (rU fun i => .int (-i)):=unI fun _ _ _ _ _ q=>neg_int q
end
section
variable {X:Cx} {a b c:Expr} {ta tb tc:TE} {pos:Pos}
theorem Aq:OpR X (Eg .Lt) (rI0 fun i j => .bl (decide (i < j))):=oZ fun _ _ _ _ _ _ _ q=>lt_int q
theorem Ar:OpR X (Eg .LtE) (rI0 fun i j => .bl (decide (i<=j))):=oZ fun _ _ _ _ _ _ _ q=>le_int q
theorem As:OpR X (Eg .Gt) (rI0 fun i j => .bl (decide (j < i))):=oZ fun _ _ _ _ _ _ _ q=>gt_int q
theorem Au:OpR X (Eg .GtE) (rI0 fun i j => .bl (decide (j<=i))):=oZ fun _ _ _ _ _ _ _ q=>ge_int q
theorem OpR.or {f:gV->gV->Sem gV} {r r':R2} (h:OpR X f r) (h':OpR X f r'):OpR X f (fun x y H Q=>r x y H Q∨r' x y H Q):=by
 intro pins s σ H x y v u Q I rx ry q
 rcases q with q | q
 ·exact h pins s σ H x y v u Q I rx ry q
 ·exact h' pins s σ H x y v u Q I rx ry q
theorem wH {op:K2} {r:R2} (ho:OpR X (Eg op) r) (j:PE X a ta) (z:PE X b tb) (hm:GF op b=false):PE X (.Compare a [op] [b] pos) (tOp r ta tb):=by
 intro pins s σ H Q I h;exact wpAny_Compare1 (tU j z I h fun v u s2 x y H2 B rx ry q=>ho pins s2 σ H2 x y v u Q B rx ry q) hm
noncomputable def pc (t:TE):TT:=fun σ H Q=>t σ H fun x H' => ∃ k,x = .bl k/\Q k H'
theorem wJ {op:K2} {r:R2} (ho:OpR X (Eg op) r) (j:PE X a ta) (q:PE X b tb) (hm:GF op b=false):PT X (.Compare a [op] [b] pos) (pc (tOp r ta tb)):=by
 intro pins s σ H Q I h;refine wpAny_isTrue_Compare1 (thn (j pins s σ H _ I h) fun v s1 ⟨x,H1,B,F,G⟩=>thn (q pins s1 σ H1 _ B G) fun u s2 ⟨y,H2,J,L,O⟩ =>
  thn (ho pins s2 σ H2 x y v u _ J F L O) fun c s3 ⟨z,U,Y,Z,k,e,q3⟩ => ?_) hm
 subst e
 cases Z
 exact F3 ⟨U,Y,q3⟩
noncomputable def kI (r r':R2) (ta tb tc:TE):TE:=fun σ H Q=>ta σ H fun x H1=>tb σ H1 fun y H2=>r x y H2 fun z H3 => ∃ k,z = .bl k /\
 (if k=true then tc σ H3 fun w' H4=>r' y w' H4 Q else Q (.bl false) H3)
theorem tV {op op':K2} {r r':R2} (ho:OpR X (Eg op) r) (j:OpR X (Eg op') r') (J:PE X a ta) (L:PE X b tb) (O:PE X c tc)
 (hm:IP [op,op'] [b,c]=false:=by with_unfolding_all rfl):PE X (.Compare a [op,op'] [b,c] pos) (kI r r' ta tb tc):=by
 intro pins s σ H Q I h;refine Compare_chain (thn (J pins s σ H _ I h) fun v s1 ⟨x,H1,U,Y,Z⟩=>chain_link (thn (L pins s1 σ H1 _ U Z) fun u s2 ⟨y,H2,I2,q,q2⟩ =>
  thn (ho pins s2 σ H2 x y v u _ I2 Y q q2) fun d s3 ⟨z,B,F,r3,k,e,G⟩ => ?_)) hm
 subst e
 cases r3
 refine F3 ?_
 cases k with
 | false=>exact ite_ff ⟨.bl false,B,F,rfl,G⟩
 | true=>exact ite_tt (chain_last (thn (O pins s3 σ B _ F G) fun w' s4 ⟨z',H4,I4,r4,q4⟩=>j pins s4 σ H4 y z' u w' Q I4 q r4 q4))
theorem tW {op op':K2} {r r':R2} (ho:OpR X (Eg op) r) (j:OpR X (Eg op') r') (J:PE X a ta) (L:PE X b tb) (O:PE X c tc)
 (hm:IP [op,op'] [b,c]=false:=by with_unfolding_all rfl):PT X (.Compare a [op,op'] [b,c] pos) (pc (kI r r' ta tb tc)):=by
 intro pins s σ H Q I h;refine isTrue_chain (thn (J pins s σ H _ I h) fun v s1 ⟨x,H1,U,Y,Z⟩=>test_link (thn (L pins s1 σ H1 _ U Z) fun u s2 ⟨y,H2,I2,q,q2⟩ =>
  thn (ho pins s2 σ H2 x y v u _ I2 Y q q2) fun d s3 ⟨z,B,F,r3,k,e,G⟩ => ?_)) hm
 subst e
 cases r3
 refine F3 ?_
 cases k with
 | false =>
   obtain ⟨k',e',q'⟩:=G
   cases e'
   exact ite_ff ⟨B,F,q'⟩
 | true =>
   refine ite_tt (test_last (thn (O pins s3 σ B _ F G) fun w' s4 ⟨z',H4,I4,r4,q4⟩=>thn (j pins s4 σ H4 y z' u w' _ I4 q r4 q4) fun d' s5 ⟨z2,H5,I5,r5,k2,e2,q5⟩ => ?_));subst e2
   cases r5
   exact F3 ⟨H5,I5,q5⟩
def tX (K:Frag) (x:V) (H:Hp) (k:Bool):Prop :=
 match x with
 | .non=>k=false
 | .bl b=>k=b
 | .int i=>k=(i != 0)
 | .str y=>y.length<=DL/\k=((y.length:Int) != 0)
 | .byt y=>y.size<=DL/\k=((y.size:Int) != 0)
 | .ref p=>(∃ xs,SqL K H p xs/\k = !xs.isEmpty)∨(∃ xs,SqT K H p xs/\k = !xs.isEmpty) ∨ ∃ kvs,H p=some (.dK kvs)/\k = !kvs.isEmpty
 | _=>False
theorem pf {κ:Type} {kvs:List (κ × V)} {vs:List (κ × gV)} (r:KV kvs vs):(!vs.isEmpty) = !kvs.isEmpty:=by
 cases r <;> rfl
theorem im {xs:List V} {its:List gV} (r:Vals xs its):(!its.toArray.isEmpty) = !xs.isEmpty:=by
 cases r <;> simp
theorem dw:(DL:Nat) < 2 ^ 63:=by rw [q7];decide
theorem yW:Bd X (fun x H Q => ∃ k,tX X.K x H k/\Q k H):=by
 intro pins s σ H x v Q I rx h;obtain ⟨k,e,q⟩:=h;have F:=dw;have hs:DL=16777216:=q7
 cases x with
 | non =>
   cases rx
   have e':k=false:=e;subst e';exact truthy_none ⟨H,I,q⟩
 | bl b =>
   cases rx
   have e':k=b:=e;subst e';exact F3 ⟨H,I,q⟩
 | int i =>
   obtain ⟨t,rfl⟩:=rx;have e':k=(i != 0):=e;subst e';exact PySem.P.truthy_int ⟨H,I,q⟩
 | str y =>
   obtain ⟨t,rfl⟩:=rx;obtain ⟨z,e'⟩:y.length<=DL/\k=((y.length:Int) != 0):=e;subst e';exact PySem.P.truthy_str (by omega) ⟨H,I.tok _,q⟩
 | byt y =>
   obtain ⟨t,rfl⟩:=rx;obtain ⟨z,e'⟩:y.size<=DL/\k=((y.size:Int) != 0):=e;subst e';exact PySem.W.truthy_bytes (by omega) ⟨H,I.tok _,q⟩
 | ref p =>
   cases rx
   have e':(∃ xs,SqL X.K H p xs/\k = !xs.isEmpty)∨(∃ xs,SqT X.K H p xs/\k = !xs.isEmpty) ∨ ∃ kvs,H p=some (.dK kvs)/\k = !kvs.isEmpty:=e
   rcases e' with ⟨xs,hx,e'⟩ | ⟨xs,hx,e'⟩ | ⟨kvs,hx,e'⟩
   ·subst e';obtain ⟨its,r,pl,j⟩:=I.list hx;have hlen:=r.length;exact wpAny_truthy_list pl.isList (by simp only [DV];omega) ⟨H,I.tok _,by rw [im r];exact q⟩
   ·subst e';obtain ⟨its,r,pl,j⟩:=I.tuple hx;have hlen:=r.length;exact truthy_tuple pl (by simp only [DV];omega) ⟨H,I.tok _,by rw [im r];exact q⟩
   ·subst e';obtain ⟨j,B,vs,r,m⟩:kvs.length<=DL/\(p==EF)=false /\ ∃ vs,KV kvs vs/\s.heap.DictOf (aP X.prog X.w) p vs:=I.hok p _ hx;have hlen:kvs.length=vs.length:=FH r;exact wpAny_truthy_dict B m (by omega) ⟨H,I.tok _,by rw [pf r];exact q⟩
 | _=>exact (show False from e).elim
theorem tY (j:PE X a ta) (he:∀ whole,isTrue a X.env whole=(do let v <- whole;Iz a.pos;holding [v] (truthy v))) :
 PT X a (fun σ H Q=>ta σ H fun x H' => ∃ k,tX X.K x H' k/\Q k H'):=by
 intro pins s σ H Q I h;exact isTrue_plain (thn (j pins s σ H _ I h) fun v s1 ⟨x,H1,q,z,B⟩=>yW pins s1 σ H1 x v Q q z B) (he _)
theorem ph:OpR X (F7 .Add) (fun x y H Q => ∃ i j,x = .str i/\y = .str j/\i.length+j.length<=DL/\Q (.str (i++j)) H):=by
 intro pins s σ H x y v u Q I rx ry h;obtain ⟨i,j,rfl,rfl,z,q⟩:=h;obtain ⟨t,rfl⟩:=rx;obtain ⟨t',rfl⟩:=ry;exact add_str (fun t' tk=>⟨.str (i++j),H,I.tok _,⟨_,rfl⟩,q⟩) z
theorem cT {x:V} {us:List gV} (r:Vals [x] us):∃ u,us=[u]/\RelV x u:=by
 cases r with
 | cons j q=>cases q;exact ⟨_,rfl,j⟩
theorem kw {x y:V} {us:List gV} (r:Vals [x,y] us):∃ u w',us=[u,w']/\RelV x u/\RelV y w':=by
 cases r with
 | cons j q =>
   cases q with
   | cons z B=>cases B;exact ⟨_,_,rfl,j,z⟩
theorem tZ:CallR X (.builtin "abs") (fun xs H Q => ∃ i,xs=[.int i]/\Q (.int (if i < 0 then -i else i)) H):=by
 intro pins s σ H xs us Q I r h;obtain ⟨i,rfl,q⟩:=h;obtain ⟨u,rfl,t,rfl⟩:=cT r;exact call_abs_int fun u tk=>⟨.int (if i < 0 then -i else i),H,I.tok _,⟨_,rfl⟩,q⟩
theorem qF (B:X.calm=true):CallR X (.builtin "max") (fun xs H Q => ∃ i j,xs=[.int i, .int j]/\Q (.int (if j > i then j else i)) H):=by
 intro pins s σ H xs us Q I r h;obtain ⟨i,j,rfl,q⟩:=h;obtain ⟨u,w',rfl,⟨t,rfl⟩,⟨t',rfl⟩⟩:=kw r;refine max_two_ints (I.ok.hd B) fun h' tk k=>⟨_,H,I.kept k, ?_,q⟩
 by_cases z:j > i
 ·rw [if_pos z,if_pos z];exact ⟨_,rfl⟩
 ·rw [if_neg z,if_neg z];exact ⟨_,rfl⟩
theorem qG (B:X.calm=true):CallR X (.builtin "min") (fun xs H Q => ∃ i j,xs=[.int i, .int j]/\Q (.int (if j < i then j else i)) H):=by
 intro pins s σ H xs us Q I r h;obtain ⟨i,j,rfl,q⟩:=h;obtain ⟨u,w',rfl,⟨t,rfl⟩,⟨t',rfl⟩⟩:=kw r;refine min_two_ints (I.ok.hd B) fun h' tk k=>⟨_,H,I.kept k, ?_,q⟩
 by_cases z:j < i
 ·rw [if_pos z,if_pos z];exact ⟨_,rfl⟩
 ·rw [if_neg z,if_neg z];exact ⟨_,rfl⟩
theorem qH:CallR X (.type "int") (fun xs H Q=>(∃ i,xs=[.int i]/\Q (.int i) H) ∨ ∃ k,xs=[.bl k]/\Q (.int (if k then 1 else 0)) H):=by
 intro pins s σ H xs us Q I r h
 rcases h with ⟨i,rfl,q⟩ | ⟨k,rfl,q⟩
 ·obtain ⟨u,rfl,t,rfl⟩:=cT r;exact call_int_int ⟨.int i,H,I,⟨_,rfl⟩,q⟩
 ·obtain ⟨u,rfl,j⟩:=cT r
  cases j
  exact call_int_bool ⟨.int (if k then 1 else 0),H,I.tok _,⟨_,rfl⟩,q⟩
def Bf (K:Frag) (x:V) (H:Hp) (n:Nat):Prop :=
 match x with
 | .str y=>y.length<=DL/\n=y.length
 | .byt y=>y.size<=DL/\n=y.size
 | .ref p=>(∃ xs,SqL K H p xs/\n=xs.length) ∨ ∃ xs,SqT K H p xs/\n=xs.length
 | _=>False
theorem u5:CallR X (.builtin "len") (fun xs H Q => ∃ x n,xs=[x]/\Bf X.K x H n/\Q (.int n) H):=by
 intro pins s σ H xs us Q I r h;obtain ⟨x,n,rfl,e,q⟩:=h;obtain ⟨u,rfl,rx⟩:=cT r;have B:=dw;have hs:DL=16777216:=q7
 cases x with
 | str y =>
   obtain ⟨t,rfl⟩:=rx;obtain ⟨j,e'⟩:y.length<=DL/\n=y.length:=e;subst e';exact len_str (by omega) ⟨.int _,H,I.tok _,⟨_,rfl⟩,q⟩
 | byt y =>
   obtain ⟨t,rfl⟩:=rx;obtain ⟨j,e'⟩:y.size<=DL/\n=y.size:=e;subst e';exact PySem.W.len_bytes (by omega) ⟨.int _,H,I.tok _,⟨_,rfl⟩,q⟩
 | ref p =>
   cases rx
   have e':(∃ xs,SqL X.K H p xs/\n=xs.length) ∨ ∃ xs,SqT X.K H p xs/\n=xs.length:=e
   rcases e' with ⟨xs,hx,e'⟩ | ⟨xs,hx,e'⟩
   ·subst e';obtain ⟨its,r',pl,z⟩:=I.list hx;have hlen:=r'.length;exact Calls.call_len_list pl.isList (by simp only [DV];omega) ⟨.int xs.length,H,I.tok _,⟨_,by simp only [DV];rw [hlen]⟩,q⟩
   ·subst e';obtain ⟨its,r',pl,z⟩:=I.tuple hx;have hlen:=r'.length;exact len_tuple pl (by simp only [DV];omega) ⟨.int xs.length,H,I.tok _,⟨_,by simp only [DV];rw [hlen]⟩,q⟩
 | _=>exact (show False from e).elim
end
end
section
structure ObjM (h:Heap) (x dx C:Addr) (mA:Str->Option gV):Prop where
 obj:h.get? x=some (Jj C dx)
 ns:h.Ns1 dx mA
 ne:dx≠x
theorem qI {h:Heap} {dx:Addr} {mA:Str->Option gV} (n:h.Ns1 dx mA):∃ od,h.get? dx=some od /\ ∀ name,Jz name od=some (mA name):=by
 obtain ⟨o,es,ep,ho,hd,B,_,hm⟩:=n;refine ⟨o,ho,fun name => ?_⟩;have e:=hm name;unfold nsFind findBy at e;rw [<- Array.find?_toList] at e;unfold Jz;rw [hd];dsimp only
 split
 ·rename_i y q;rw [q] at e;exact congrArg some e
 ·rename_i q;rw [q] at e;have a:es.toList.any (·.refKey)=false:=by
   rw [List.any_eq_false];intro y F;obtain ⟨z,t,j⟩:=B y (Array.mem_toList_iff.mp F);simp [DictEntry.refKey,j]
  have a' : ¬ es.toList.any (·.refKey)=true:=by rw [a];exact y2
  rw [if_neg a'];exact congrArg some e
theorem ObjM.look {h:Heap} {x dx C:Addr} {mA:Str->Option gV} (I:ObjM h x dx C mA):∃ od,PySem.W.InstAt h x (Jj C dx) C (some od) /\ ∀ name,Jz name od=some (mA name) :=
 let ⟨od,ho,j⟩:=qI I.ns
 ⟨od,⟨I.obj,rfl,rfl,ho⟩,j⟩
theorem Mo {v:V} {o:Option gV} (r:RelO (some v) o):∃ u,o=some u/\RelV v u:=by
 cases o with
 | none=>exact (show False from r).elim
 | some u=>exact ⟨u,rfl,r⟩
section
variable {P:E3} {w:Ep} {H H':Hp} {h h':Heap} {a C dx:Addr} {fs fs':List (Str×V)}
theorem wK (hok:HOk P w H h) (e:H a=some (.ins C dx fs)):∃ mA,ObjM h a dx C mA/\(∀ f,RelO (fs.lookup f) (mA f))/\PySem.Within mA (fs.map (·.1))/\fs.length<=1000/\H dx=some (.own a):=by
 obtain ⟨d,z,ne,ob,mA,n,r,q⟩:=(show ObjOk P w H h a (.ins C dx fs) from hok a _ e);exact ⟨mA,⟨ob,n,ne⟩,r,q,z,d⟩
end
structure Cls (K:Frag) (C:Addr):Prop where
 pg:KQ K C Str.empty=true
 hd:PySem.W.hasDictIn K C=true
 po:PySem.W.plainOver K C=true
 sa:PySem.W.findIn K (.ref C) "__setattr__" = some (some (.builtin "object.__setattr__"))
theorem Cls.get {K:Frag} {C:Addr} (c:Cls K C) (f:Str):KQ K C f=true:=c.pg
section
variable {X:Cx} {pins:List (Addr×Obj)} {σ:St} {H:Hp} {s:h7} {A:Ew} {E:gV->h7->Prop} {Q:gV->h7->Prop} {c:gV} {b:Bool}
inductive bW (K:Frag) (H:Hp):V->gV->Prop where
 | non:bW K H .non (.type "NoneType")
 | bl (x:Bool):bW K H (.bl x) (.type "bool")
 | int (i:Int):bW K H (.int i) (.type "int")
 | str (x:Str):bW K H (.str x) (.type "str")
 | flt (x:UInt64):bW K H (.flt x) (.type "float")
 | lst {a:Addr} {xs:List V} (e:H a=some (.lst xs)):bW K H (.ref a) (.type "list")
 | frz {a:Addr} {o:Obj} {xs:List V} (e:H a=some (.frz o (.lst xs))):bW K H (.ref a) (.type "list")
 | tup {a:Addr} {xs:List V} (e:SqT K H a xs):bW K H (.ref a) (.type "tuple")
 | dK {a:Addr} {kvs:List (Key×V)} (e:H a=some (.dK kvs)):bW K H (.ref a) (.type "dict")
 | dT {a:Addr} {kvs:List (List Key×V)} (e:H a=some (.dT kvs)):bW K H (.ref a) (.type "dict")
 | ins {a C dx:Addr} {fs:List (Str×V)} (e:H a=some (.ins C dx fs)) (cl:Cls K C) (ha:PySem.W.findIn K (.ref C) "__class__" = some (some (.builtin "object.__class__")))
    (hn:PySem.W.specialIn K (.builtin "object.__class__") "__get__" = some (some (.builtin "getset_descriptor.__get__"))) (htk:PySem.W.takesIn K (.builtin "object.__class__")=some true)
    (hm:PySem.W.mroIn K C (.type "object")=some true):bW K H (.ref a) (.ref C)
theorem qJ {x:V} {u t:gV} (I:Inv X pins σ H s) (rx:RelV x u) (ty:bW X.K H x t) (e:PySem.W.kitOne X.K t c=some b) (h:∀ tk,Q (.bool b) { s with toks:=tk }) :
 DU (model X.prog X.w) A (call (.builtin "isinstance") [u,c]) Q E s:=by
 cases ty with
 | non=>cases (show u=FX from rx);exact EX Kq I.kIn Fe e (fun z=>nomatch z) h
 | bl y=>cases (show u=J2 y from rx);exact EX Kr I.kIn Fe e (fun z=>nomatch z) h
 | int i=>obtain ⟨t,q⟩:=(show ∃ t,u=IK i t from rx);cases q;exact EX KR I.kIn Fe e (fun z=>nomatch z) h
 | str y=>obtain ⟨t,q⟩:=(show ∃ t,u=IM y t from rx);cases q;exact EX KS I.kIn Fe e (fun z=>nomatch z) h
 | flt y=>obtain ⟨t,q⟩:=(show ∃ t,u=Lk y t from rx);cases q;exact EX Ke I.kIn Fe e (fun z=>nomatch z) h
 | @lst a xs ea =>
  cases (show u=Eo a from rx)
  obtain ⟨_,_,n,_,h1⟩:=(show ObjOk X.prog X.w H s.heap a (.lst xs) from I.hok a _ ea);exact EX Ha I.kIn ⟨_,h1,rfl⟩ e (fun z=>nomatch z) h
 | @frz a ob xs ea =>
  cases (show u=Eo a from rx)
  obtain ⟨_,_,_,n,_,h1⟩:=(show ObjOk X.prog X.w H s.heap a (.frz ob (.lst xs)) from I.hok a _ ea);exact EX Ha I.kIn ⟨_,h1,rfl⟩ e (fun z=>nomatch z) h
 | @tup a xs ea =>
  cases (show u=Eo a from rx)
  obtain ⟨_,_,p,_⟩:=I.tuple ea;obtain ⟨o,h1,h2,_⟩:=p;exact EX Kf I.kIn ⟨o,h1,h2⟩ e (fun z=>nomatch z) h
 | @dK a kvs ea =>
  cases (show u=Eo a from rx)
  obtain ⟨_,_,vs,_,p⟩:=(show ObjOk X.prog X.w H s.heap a (.dK kvs) from I.hok a _ ea);obtain ⟨o,es,ep,h1,h2,_⟩:=p;exact EX Hb I.kIn ⟨o,h1,h2.1⟩ e (fun z=>nomatch z) h
 | @dT a kvs ea =>
  cases (show u=Eo a from rx)
  obtain ⟨_,_,xs,_,o,es,ep,h1,h2,_⟩:=(show ObjOk X.prog X.w H s.heap a (.dT kvs) from I.hok a _ ea);exact EX Hb I.kIn ⟨o,h1,h2.1⟩ e (fun z=>nomatch z) h
 | @ins a C dx fs ea cl ha hn htk hm =>
  cases (show u=Eo a from rx)
  obtain ⟨mA,O,_⟩:=wK I.hok ea;obtain ⟨od,J,_⟩:=O.look;exact EX (PySem.W.kitx_own (cl.get _) cl.hd ha hn htk hm) I.kIn J e (fun z=>nomatch z) h
end
end
section
structure Room (k:Nat) (A:Ew):Prop where
 hd:A.handled=none
 dp:A.depth+3*k+5 < recursionLimit
 un:A.units+16*k+200 < FQ
theorem Room.deeper {k:Nat} {A:Ew} (r:Room (k+1) A) (env:Env):Room k (A.deeper env) :=
 ⟨r.hd,by have:=r.dp;show A.depth+1+3*k+5 < _;omega,by have:=r.un;show A.units+3+16*k+200 < _;omega⟩
theorem Room.depth {k:Nat} {A:Ew} (r:Room k A):A.depth < recursionLimit:=by have:=r.dp;omega
theorem Room.units {k:Nat} {A:Ew} (r:Room k A):A.units+64 < FQ:=by have:=r.un;omega
noncomputable def yX:TA:=fun _ H Q=>Q [] H
noncomputable def vQ (ta:TE) (tr:TA):TA:=fun σ H Q=>ta σ H fun x H1=>tr σ H1 fun xs H2=>Q (x::xs) H2
section
variable {X:Cx} {e:Expr} {es:List Expr} {te:TE} {t:TA} {pos:Pos}
theorem io:PA X [] yX:=fun _ _ _ _ H Q I h=>IA ⟨[],H,I, .nil,h⟩
theorem cw (j:PE X e te) (q:PA X es t) (hs:E4 (e::es) X.env=(false,eval e X.env)::E4 es X.env:=by rfl):PA X (e::es) (vQ te t):=by
 intro pos pins s σ H Q I h;rw [hs];show DU _ _ (spliced ((false,eval e X.env)::Gu pos (E4 es X.env))) _ _ s;refine GR (thn (j pins s σ H _ I h) fun u s1 ⟨x,H1,z,B,F⟩ => ?_);exact thn (q pos pins s1 σ H1 _ z F) fun us s2 ⟨xs,H2,G,J,L⟩=>⟨x::xs,H2,G, .cons B J,L⟩
noncomputable def Bg (t:TA):TE:=fun σ H Q=>t σ H fun xs H1=>xs.length<=DL /\ ∀ p,H1 p=none->Q (.ref p) (upd H1 p (.tup xs))
noncomputable def Bh (t:TA):TE:=fun σ H Q=>t σ H fun xs H1=>xs.length<=DL /\ ∀ p,H1 p=none->Q (.ref p) (upd H1 p (.lst xs))
theorem qK {B} (h:PA X es t):PE X (.Tuple es B pos) (Bg t):=by
 intro pins s σ H Q I hq;refine wpAny_Tuple_spliced (thn (h pos pins s σ H _ I hq) fun us s1 ⟨xs,H1,j,r,z,q⟩=>⟨by rw [<- r.length];exact z, ?_⟩)
 have hf:H1 s1.heap.objs.size=none:=j.hok.fresh (DP _);refine ⟨.ref s1.heap.objs.size,upd H1 s1.heap.objs.size (.tup xs),j.laid (t':=s1.toks) (fun b u e=>i3 _ e) (DP _) ?_,rfl,q _ hf⟩;exact ⟨z,us,r,⟨_,DQ _ rfl,rfl,_,rfl⟩⟩
theorem yY (h:PA X es t):PE X (.List es pos) (Bh t):=by
 intro pins s σ H Q I hq;refine wpAny_List_spliced (thn (h pos pins s σ H _ I hq) fun us s1 ⟨xs,H1,j,r,z,q⟩=>⟨by rw [<- r.length];exact z, ?_⟩)
 have hf:H1 s1.heap.objs.size=none:=j.hok.fresh (DP _);refine ⟨.ref s1.heap.objs.size,upd H1 s1.heap.objs.size (.lst xs),j.laid (t':=s1.toks) (fun b u e=>i3 _ e) (DP _) ?_,rfl,q _ hf⟩;exact ⟨z,us,0,r,DQ _ rfl⟩
end
noncomputable abbrev Sp:=List V->Hp->VK->XK->Prop
noncomputable abbrev CXT:=List Env->Hp->h7->XK->gV->h7->Prop
structure pj (P:E3) (w:Ep) (K:Frag) (mg:Str->Option gV) (base:Heap) (A:Ew) (outer:List Env) (s:h7) (H:Hp):Prop where
 frames:A.frames=some outer
 mod:Mod K mg base
 bs:∀ b o,base.get? b=some o->s.heap.get? b=some o/\H b=none
 bsz:base.objs.size<=s.heap.objs.size
 funs:s.heap.FunFrames base outer
 frf:∀ b∈frs outer,H b=none
 hok:HOk P w H s.heap
 bare:Iy s.gens
def CE (outer:List Env) (P:E3) (w:Ep) (H:Hp) (s:h7) (Q:VK) (u:gV) (s':h7):Prop :=
 ∃ v H',s'.os=s.os/\Iy s'.gens/\Un (frs outer) [] H H' s.heap s'.heap/\HOk P w H' s'.heap/\RelV v u/\Q v H'
def CR (CX:CXT) (outer:List Env) (P:E3) (w:Ep) (H:Hp) (s:h7) (Q:VK) (E:XK) (r:Result) (s':h7):Prop :=
 match r with
 | .ok (.ret u)=>CE outer P w H s Q u s'
 | .ok _=>False
 | .error e=>CX outer H s E e s'
structure dy (P:E3) (w:Ep) (K:Frag) (mg:Str->Option gV) (base:Heap) (CX:CXT) (k:Nat) (f:Addr) (fd:Gv) (ps:List Str) (sp:Sp):Prop where
 len:∀ vs H Q E,sp vs H Q E->vs.length=ps.length
 run:∀ (A:Ew) (outer:List Env) (s:h7) (H:Hp) (args:Args) (us:List gV) (vs:List V) (Q:VK) (E:XK),Room k A->pj P w K mg base A outer s H->Ks s fd args (ps.zip us)->Vals vs us->sp vs H Q E ->
  I7 (model P w) A (.call (.ref f) args) (CR CX outer P w H s Q E) s
section
variable {X:Cx} {pins:List (Addr×Obj)} {σ:St} {H:Hp} {s s':h7}
theorem Inv.env0 (I:Inv X pins σ H s):pj X.prog X.w X.K X.mg X.base X.A X.stack s H :=
 ⟨I.ok.frames,I.ok.mod,I.bs,Ed I.ok.bsz I.sz,I.stack,I.stkFree,I.hok,I.bare⟩
theorem Inv.after {Q:VK} {u:gV} (I:Inv X pins σ H s) (h:CE X.stack X.prog X.w H s Q u s'):EP X pins σ Q u s':=by
 obtain ⟨v,H',os,bare,un,hok,r,q⟩:=h;obtain ⟨j,g,d,t,os'⟩:=s';obtain rfl:os'=s.os:=os;exact ⟨v,H',I.call (h':=j) (g':=g) (d':=d) (t':=t) (ch := []) un hok bare (fun b z=>absurd z (by simp)),r,q⟩
end
noncomputable def vR (sp:Sp) (dvs:List V) (E:XK) (t:TA):TE:=fun σ H Q=>t σ H fun vs H1=>sp (vs++dvs) H1 Q E
def Binds (K:Frag) (fd:Gv) (ps:List Str) (ds:List gV):Prop :=
 ∀ (s:h7) (us:List gV),K.In s.heap->(us++ds).length=ps.length->Ks s fd ⟨us,[]⟩ (ps.zip (us++ds))
theorem Binds.all {K:Frag} {fd:Gv} {ps:List Str} (h:∀ us:List gV,us.length=ps.length->bindArgs fd ⟨us,[]⟩=pure (ps.zip us)):Binds K fd ps []:=fun s us _ j=>by
 rw [Fb] at j ⊢;exact .of_eq (h us j)
def iq (CX:CXT) (X:Cx) (E:XK):Prop := ∀ (pins:List (Addr×Obj)) (σ:St) (H:Hp) (s:h7) (e:gV) (s':h7),Inv X pins σ H s->CX X.stack H s E e s'->X.xe e s'
section
variable {X:Cx} {CX:CXT} {k:Nat} {f C:Addr} {fd:Gv} {ps:List Str} {sp:Sp} {dvs:List V} {ds:List gV} {E:XK} {x m:Str} {p pos apos:Pos} {e o:Expr} {es:List Expr} {ta:TE} {t:TA}
theorem qL {pins:List (Addr×Obj)} {σ:St} {H:Hp} {s:h7} {Q:VK} {us:List gV} {vs:List V} (F:dy X.prog X.w X.K X.mg X.base CX k f fd ps sp) (z:Room k X.A) (B:Binds X.K fd ps ds) (hd:Vals dvs ds) (hx:iq CX X E)
 (I:Inv X pins σ H s) (r:Vals vs us) (h:sp (vs++dvs) H Q E):DU (model X.prog X.w) X.A (call (.ref f) us) (EP X pins σ Q) X.xe s:=by
 have q:Vals (vs++dvs) (us++ds):=r.append hd;have G:(us++ds).length=ps.length:=by rw [<- q.length];exact F.len _ _ _ _ h
 refine wpAny_call (Hc (F.run X.A X.stack s H ⟨us,[]⟩ (us++ds) (vs++dvs) Q E z I.env0 (B s us I.kIn G) q h) fun r s' j => ?_)
 cases r with
 | error e=>exact hx pins σ H s e s' I j
 | ok fl =>
   cases fl with
   | ret u=>exact I.after j
   | next=>exact False.elim j
   | brk=>exact False.elim j
   | cont=>exact False.elim j
theorem wL (F:dy X.prog X.w X.K X.mg X.base CX k f fd ps sp) (G:Room k X.A) (J:Gl X x) (hm:X.mg x=some (.ref f)) (L:Gw X.K (.ref f)=true) (O:Binds X.K fd ps ds) (hd:Vals dvs ds) (hx:iq CX X E)
 (U:PA X (e::es) t) (j:(x==("__debug__":Str))=false:=by decide) (he:E4 (e::es) X.env=(false,eval e X.env)::E4 es X.env:=by rfl) (z:(Gu pos (E4 es X.env)).any (·.1)=false:=by rfl) :
 PE X (.Call (.Name x p) (e::es) [] pos) (vR sp dvs E t):=by
 intro pins s σ H Q I h;refine GS (nR I J hm ?_ j);refine PySem.W.callWith_K (h₀ := X.base) I.ok.mod.kin L (thn (U pos pins s σ H _ I h) fun us s1 ⟨vs,H1,B,r,q⟩=>⟨B.kIn, ?_⟩) he z;exact qL F G O hd hx B r q
theorem u6 (F:dy X.prog X.w X.K X.mg X.base CX k f fd ps sp) (q:Room k X.A) (z:Gl X x) (hm:X.mg x=some (.ref f)) (B:Gw X.K (.ref f)=true) (G:Binds X.K fd ps ds) (hd:Vals dvs ds) (hx:iq CX X E)
 (j:(x==("__debug__":Str))=false:=by decide):PE X (.Call (.Name x p) [] [] pos) (vR sp dvs E yX):=by
 intro pins s σ H Q I h;refine GS (nR I z hm ?_ j);exact PySem.W.callWith_K0 I.kIn B (qL (us := []) F q G hd hx I .nil h)
end
structure fV (N P:List Str) (sc:Scope):Prop where
 kind:sc.kind = .function
 co:sc.isCoroutine=false
 gen:sc.isGenerator=false
 nd:N.Nodup
 pre:N.take P.length=P
 par:∀ x∈P,sc.names.lookup x=some .local∨sc.names.lookup x=some .cell
 nofree:∀ y∈sc.names,y.2 ≠ .free
theorem jz {F8:Str->Option G2} {x:Str}:∀ {binds:List (Str×gV)} {m:Str->Option gV},(∀ v,(x,v)∉binds)->LK F8 binds m x=m x
 | [],_,_=>rfl
 | (n,v)::r,m,h=>by
  unfold LK;rw [jz fun w hw=>h w (E2 _ hw)]
  split
  ·have:x≠n:=by rintro rfl;exact h v Ex
   simp [this]
  ·rfl
theorem jA {F8:Str->Option G2} {x:Str}:∀ {binds:List (Str×gV)} {m:Str->Option gV},(∀ v,(x,v)∉binds)->LL F8 binds m x=m x
 | [],_,_=>rfl
 | (n,v)::r,m,h=>by
  unfold LL;rw [jA fun w hw=>h w (E2 _ hw)]
  split
  ·rfl
  ·have:x≠n:=by rintro rfl;exact h v Ex
   simp [this]
theorem jB {F8:Str->Option G2} {x:Str} {v:gV}:∀ {P:List Str} {vs:List gV} {i:Nat} {m:Str->Option gV},P.Nodup->P[i]? = some x->vs[i]? = some v->F8 x=some .local ->
 LK F8 (P.zip vs) m x=some v
 | [],_,_,_,_,h,_,_=>by simp at h
 | _::_,[],_,_,_,_,h,_=>by simp at h
 | p::P,w::vs,0,m,nd,h1,h2,j=>by
   simp at h1 h2;subst h1;subst h2;show LK F8 ((p,w)::P.zip vs) m p=_;unfold LK;rw [jz fun v q=>(GO.mp nd).1 (Jl q).1,if_pos j];simp
 | p::P,w::vs,i+1,m,nd,h1,h2,j=>by
   show LK F8 ((p,w)::P.zip vs) m x=_;unfold LK;exact jB (i:=i) (GO.mp nd).2 (by simpa using h1) (by simpa using h2) j
theorem jC {F8:Str->Option G2} {x:Str} {v:gV}:∀ {P:List Str} {vs:List gV} {i:Nat} {m:Str->Option gV},P.Nodup->P[i]? = some x->vs[i]? = some v->F8 x≠some .local ->
 LL F8 (P.zip vs) m x=some v
 | [],_,_,_,_,h,_,_=>by simp at h
 | _::_,[],_,_,_,_,h,_=>by simp at h
 | p::P,w::vs,0,m,nd,h1,h2,j=>by
   simp at h1 h2;subst h1;subst h2;show LL F8 ((p,w)::P.zip vs) m p=_;unfold LL;rw [jA fun v q=>(GO.mp nd).1 (Jl q).1,if_neg j];simp
 | p::P,w::vs,i+1,m,nd,h1,h2,j=>by
   show LL F8 ((p,w)::P.zip vs) m x=_;unfold LL;exact jC (i:=i) (GO.mp nd).2 (by simpa using h1) (by simpa using h2) j
noncomputable def cF (N:List Str) (vs:List V):St:=vs.map some++DN (N.length - vs.length) none
noncomputable def gJ (CX:CXT) (P:E3) (w:Ep) (K:Frag) (mg:Str->Option gV) (base:Heap) (N:List Str) (qual:Str) (scope:Scope) (f:Addr) (cd:gV) (A:Ew) (outer:List Env) (s:h7) (H:Hp) (E:XK):Cx where
 prog:=P
 w:=w
 K:=K
 mg:=mg
 base:=base
 A:=A.deeper (JA qual scope s.heap.objs.size f cd)
 N:=N
 s₀ := s
 H₀ := H
 env:=JA qual scope s.heap.objs.size f cd
 outer:=outer
 stack:=JA qual scope s.heap.objs.size f cd::outer
 ex := []
 calm:=true
 fn:=fun _=>true
 pn := []
 xe:=fun e s'=>DU (model P w) (A.deeper (JA qual scope s.heap.objs.size f cd)) (leaving (JA qual scope s.heap.objs.size f cd) e) (fun _ s''=>CX outer H s E e s'') (fun e' s''=>CX outer H s E e' s'') s'
theorem kJ {sc:Scope} {n:Nat} {x:Str} (h:sc.names.lookup x=some .cell):∃ c,(Fw n sc.names []).lookup x=some c:=by
 have q:=Hd sc.names n [] (.inl h);exact Fn.mp q
theorem qM {CX:CXT} {P:E3} {w:Ep} {K:Frag} {mg:Str->Option gV} {base:Heap} {N ps:List Str} {qual:Str} {scope:Scope} {f:Addr} {cd:gV} {A:Ew} {outer:List Env} {s s1:h7} {H:Hp} {E:XK} {us:List gV} {vs:List V}
 (S:fV N ps scope) (hd:A.handled=none) (j:pj P w K mg base A outer s H) (U:vs.length=ps.length) (r:Vals vs us)
 (x:InCallC s s.heap.objs.size (LK (JA qual scope s.heap.objs.size f cd).kindOf (ps.zip us) fun _=>none) (Fw (s.heap.objs.size+1) scope.names []) (LL (JA qual scope s.heap.objs.size f cd).kindOf (ps.zip us) fun _=>none) s1) :
 Inv (gJ CX P w K mg base N qual scope f cd A outer s H E) [] (cF N vs) H s1:=by
 have L:ps.length<=N.length:=by have:=congrArg Gx S.pre;rw [Er] at this;omega
 obtain ⟨h1,tk,rfl,G⟩:=x.done;have noA:∀ b:Addr,b∉(gJ CX P w K mg base N qual scope f cd A outer s H E).ex:=fun b z=>absurd (show b∈([]:List Addr) from z) (by simp)
 refine ⟨⟨j.mod,S.kind,rfl,rfl,DP _,fun y z c h1 h2 => ?_,fun y B => ?_,fun y c _ h => ?_,fun _=>hd,Around.frames_deeper j.frames, .inr ⟨rfl,rfl⟩,fun b z=>absurd z (noA b),j.bs,j.bsz,fun b _ _=>noA b,fun b z=>absurd z (noA b),j.funs,j.frf⟩,
  rfl,j.bare,Un.kept G,⟨_,x.toInCall.ns,fun i y v h1 h2 Y => ?_⟩,fun y c h=>⟨_,x.cell y c h⟩,j.hok.fresh (DP _),fun y c h => ?_,fun p F=>absurd (show p∈([]:List (Addr×Obj)) from F) (by simp),j.hok.kept G, ?_⟩
 ·exact name_of_addr x.apart (F1 h1) (F1 h2)
 ·have B:scope.names.lookup y=some .cell∨scope.names.lookup y=some .free:=B
  rcases B with B | B
  ·exact kJ B
  ·exact absurd rfl (S.nofree _ (F1 B))
 ·exact Gz (x.above y c (F1 h))
 ·have hi:i < vs.length:=by
   unfold cF at h2
   by_cases hi:i < vs.length
   ·exact hi
   ·rw [r0 (by simpa using hi)] at h2
    rw [GZ] at h2
    split at h2 <;> cases h2
  have O:vs[i]? = some v:=by
   unfold cF at h2;rw [DS (by simpa using hi),Ei] at h2
   cases e:vs[i]? with
   | none=>rw [e] at h2;cases h2
   | some a=>rw [e] at h2;cases h2;rfl
  obtain ⟨u,J,rv⟩:=r.get O;have F:ps[i]? = some y:=by
   rw [<- S.pre,GG (by omega)];exact h1
  have ndP:ps.Nodup:=by rw [<- S.pre];exact S.nd.sublist (List.take_sublist _ _)
  refine ⟨u,rv, ?_⟩
  rcases S.par y (Ef F) with k | k
  ·exact .inl ⟨k,jB ndP F J k⟩
  ·obtain ⟨c,e⟩:=kJ (n:=s.heap.objs.size+1) k;refine .inr ⟨.inl k,c,e, ?_⟩;have q:=x.cell y c e;rw [jC ndP F J (by show scope.names.lookup y≠_;rw [k];decide)] at q
   exact q
 ·exact j.hok.fresh (Gz (x.above y c (F1 h)))
 ·unfold cF;show _=N.length;rw [DO,i5,FO];omega
theorem Av {CX:CXT} {P:E3} {w:Ep} {K:Frag} {mg:Str->Option gV} {base:Heap} {k:Nat} {f:Addr} {name qual:Str} {params:Arguments} {body:List Stmt} {scope:Scope} {dV kV doc pm cdv ct oc:gV} {an od:Option Addr}
 {osl:Array (Option gV)} {N ps:List Str} {sp:Sp} (lk:K.lookup f=some ⟨oc,od, .func (Ga name qual params body scope dV kV doc pm an cdv ct),osl⟩) (G:Ik K cdv qual=true) (S:fV N ps scope)
 (len:∀ vs H Q E,sp vs H Q E->vs.length=ps.length)
 (j:∀ (A:Ew) (outer:List Env) (s:h7) (H:Hp) (vs:List V) (Q:VK) (E:XK),Room k (A.deeper (JA qual scope s.heap.objs.size f cdv))->sp vs H Q E ->
   ∃ t,PSs (gJ CX P w K mg base N qual scope f cdv A outer s H E) body t/\t { nx:=fun _ H'=>Q .non H',rt:=Q } (cF N vs) H) :
 dy P w K mg base CX (k+1) f (Ga name qual params body scope dV kV doc pm an cdv ct) ps sp:=by
 refine ⟨len,fun A outer s H args us vs Q E L B O r F => ?_⟩;have U:=len _ _ _ _ F;have KX:K.In s.heap:=B.mod.kin.keeps fun b o e=>(B.bs b o e).1;have lim:s.heap.NoLimit:=B.mod.nolimit.keeps fun b o e=>(B.bs b o e).1;have z:∀ y∈ps.zip us,scope.names.lookup y.1=some .local∨(scope.names.lookup y.1=some .cell/\((Fw (s.heap.objs.size+1) scope.names []).lookup y.1).isSome=true):=fun ⟨n,v⟩ hy=>by
  rcases S.par n (Jl hy).1 with q | q
  ·exact .inl q
  ·exact .inr ⟨q,Hd _ _ _ (.inl q)⟩
 refine codeAny_call_function L.depth (KX _ _ lk) rfl S.co S.gen rfl (PySem.W.codeRec_of KX G) (O _ _ _ _ ?_);refine wpAny_newFunctionEnv_cells S.kind z fun env he s1 x => ?_;subst he;refine ⟨lim.keeps x.toInCall.keep,codeAny_func ?_⟩;obtain ⟨t,Y,Z⟩:=j A outer s H vs Q E (L.deeper _) F;have I:Inv (gJ CX P w K mg base N qual scope f cdv A outer s H E) [] (cF N vs) H s1:=qM S L.hd B U r x;refine Fj (Y [] s1 (cF N vs) H _ I Z) (fun fl s' hs => ?_) fun e s' hs=>hs;have fin:∀ {σ':St} {H':Hp} {v:V} {u:gV},Inv (gJ CX P w K mg base N qual scope f cdv A outer s H E) [] σ' H' s'->RelV v u->Q v H'->CE outer P w H s Q u s' :=
  fun {σ' H' v u} J rv q=>⟨v,H',J.os,J.bare,J.base,J.hok,rv,q⟩
 cases fl with
 | ret u =>
   obtain ⟨v, σ',H',J,rv,q⟩:=hs;exact fin J rv q
 | next =>
   obtain ⟨σ',H',J,q⟩:=hs;exact fin (v:=V.non) (u:=FX) J rfl q
 | brk =>
   obtain ⟨_,_,_,q⟩:=hs;exact False.elim q
 | cont =>
   obtain ⟨_,_,_,q⟩:=hs;exact False.elim q
end
section
section
variable {X:Cx} {x:Str} {p pos:Pos} {e:Expr} {es:List Expr} {t:TA} {id T:String} {r:List V->Hp->VK->Prop}
noncomputable def tCB (r:List V->Hp->VK->Prop) (t:TA):TE:=fun σ H Q=>t σ H fun vs H1=>r vs H1 Q
theorem bw (z:CallR X (.builtin id) r) (B:Gl X x) (hm:X.mg x=none) (F:FE x=some (.builtin id)) (G:PA X (e::es) t) (hn:x ≠ "__name__" := by decide) (j:(x==("__debug__":Str))=false:=by decide)
 (he:E4 (e::es) X.env=(false,eval e X.env)::E4 es X.env:=by rfl) (q:(Gu pos (E4 es X.env)).any (·.1)=false:=by rfl):PE X (.Call (.Name x p) (e::es) [] pos) (tCB r t):=by
 intro pins s σ H Q I h;refine GS (eA I B hm F ?_ hn j);exact PyProof.Rows.callWith_builtin1 (thn (G pos pins s σ H _ I h) fun us s1 ⟨vs,H1,J,L,O⟩=>z pins s1 σ H1 vs us Q J L O) he q
theorem jD (z:CallR X (.type T) r) (B:Gl X x) (hm:X.mg x=none) (F:FE x=some (.type T)) (G:PA X (e::es) t) (hn:x ≠ "__name__" := by decide) (j:(x==("__debug__":Str))=false:=by decide)
 (he:E4 (e::es) X.env=(false,eval e X.env)::E4 es X.env:=by rfl) (q:(Gu pos (E4 es X.env)).any (·.1)=false:=by rfl):PE X (.Call (.Name x p) (e::es) [] pos) (tCB r t):=by
 intro pins s σ H Q I h;refine GS (eA I B hm F ?_ hn j);exact FF (thn (G pos pins s σ H _ I h) fun us s1 ⟨vs,H1,J,L,O⟩=>z pins s1 σ H1 vs us Q J L O) he q
end
end
end L2
namespace HT
open PySem PyProof.Rows
section
variable {prog:E3} {w:Ep} {A:Ew} {E:gV->h7->Prop} {s:h7}
theorem cat_tup {t b:Addr} {vs ws:List gV} {Q:gV->h7->Prop} (U:IsTup s.heap t vs.toArray) (Y:IsTup s.heap b ws.toArray) (G:vs≠[])
 (h1:ws=[]->Q (.ref t) s) (h2:ws≠[]->Q (.ref s.heap.objs.size) { s with heap:=s.heap.push { cls := .type "tuple",data := .seq (vs++ws).toArray } })
 (hsz:vs.length+ws.length<=DL):DU (model prog w) A (F7 .Add (.ref t) (.ref b)) Q E s:=by
 obtain ⟨⟨cls,dd,data,sl⟩,ho,J,n,hd⟩:=id U;obtain ⟨⟨L,q,data2,z⟩,j,B,O,hd2⟩:=id Y;simp only at J hd B hd2;subst J hd B hd2;have e:vs.toArray++ws.toArray=(vs++ws).toArray:=by simp
 by_cases hw:ws=[]
 ·exact Kt ⟨_,ho,rfl⟩ ⟨_,j,rfl⟩ IQ K3 He H0 (GH _ _)
   (tuple_addW1 t b vs.toArray ws.toArray n O dd q sl z (by simpa using G) (by simp [hw])) ⟨ho,j,h1 hw⟩
 ·refine Kt ⟨_,ho,rfl⟩ ⟨_,j,rfl⟩ IQ K3 He H0 (GH _ _)
   (tuple_addW2 t b vs.toArray ws.toArray n O dd q sl z (by simpa using G) (by simpa using hw) (by rw [DV,DV];exact hsz)) ⟨ho,j, ?_⟩
  rw [e];exact h2 hw
end
end HT
namespace L2
open PySem PySem.Spec PyProof.Rows
section
noncomputable abbrev TO:=St->Hp->(Option Int->Hp->Prop)->Prop
def PO (X:Cx) (e:Option Expr) (t:TO):Prop :=
 ∀ (pins:List (Addr×Obj)) (s:h7) (σ:St) (H:Hp) (Q:Option Int->Hp->Prop),Inv X pins σ H s->t σ H Q ->
  DU (model X.prog X.w) X.A (evalPart e X.env) (fun u s' => ∃ o H',Inv X pins σ H' s'/\IsPart u o/\Q o H') X.xe s
noncomputable def wM:TO:=fun _ H Q=>Q none H
noncomputable def Aw (t:TE):TO:=fun σ H Q=>t σ H fun x H1 => ∃ i,x = .int i/\Q (some i) H1
section
variable {X:Cx} {e:Expr} {te:TE} {lo hi:Option Expr} {tl th:TO} {pos p2:Pos}
theorem wN:PO X none wM:=by
 intro pins s σ H Q I h;rw [evalPart_none];exact i4 ⟨none,H,I, .none,h⟩
theorem wP (h:PE X e te):PO X (some e) (Aw te):=by
 intro pins s σ H Q I hw;rw [evalPart_some];refine thn (h pins s σ H _ I hw) fun u s1 ⟨x,H1,j,z,B⟩ => ?_;obtain ⟨i,rfl,q⟩:=B;obtain ⟨t,rfl⟩:=z;exact ⟨some i,H1,j, .int i t,q⟩
def SlR (X:Cx) (r:V->Option Int->Option Int->Hp->VK->Prop):Prop :=
 ∀ (pins:List (Addr×Obj)) (s:h7) (σ:St) (H:Hp) (x:V) (v vl vu:gV) (lo hi:Option Int) (sl:Addr) (Q:VK),Inv X pins σ H s->RelV x v->s.heap.IsSliceOf sl vl vu .none->IsPart vl lo->IsPart vu hi->r x lo hi H Q ->
  ∃ T id,typeLookup (.type T) "__getitem__" = pure (some (.builtin id))/\s.TypeIs v T/\DU (model X.prog X.w) X.A (LD v (.ref sl)) (EP X pins σ Q) X.xe s
theorem SlR.or {r r':V->Option Int->Option Int->Hp->VK->Prop} (h:SlR X r) (h':SlR X r'):SlR X (fun x lo hi H Q=>r x lo hi H Q∨r' x lo hi H Q):=by
 intro pins s σ H x v vl vu lo hi sl Q I rx hs pl pu q
 rcases q with q | q
 ·exact h pins s σ H x v vl vu lo hi sl Q I rx hs pl pu q
 ·exact h' pins s σ H x v vl vu lo hi sl Q I rx hs pl pu q
noncomputable def vS (K:Frag):R2:=fun x y H Q => ∃ a b xs ys,x = .ref a/\y = .ref b/\SqT K H a xs/\SqT K H b ys/\xs≠[]/\xs.length+ys.length<=DL /\
 (ys=[]->Q (.ref a) H)/\(ys≠[] -> ∀ p,H p=none->Q (.ref p) (upd H p (.tup (xs++ys))))
theorem Vals.nil_iff {xs:List V} {us:List gV} (r:Vals xs us):us=[]↔xs=[]:=by
 cases r with
 | nil=>simp
 | cons _ _=>simp
theorem op_catT:OpR X (F7 .Add) (vS X.K):=by
 intro pins s σ H x y v u Q I rx ry h;obtain ⟨a,b,xs,ys,rfl,rfl,J,L,hx,F,O,U⟩:=h
 cases rx
 cases ry
 obtain ⟨its,B,Y,_⟩:=I.tuple J;obtain ⟨G,j,p2,_⟩:=I.tuple L;refine HT.cat_tup Y p2 (fun z=>hx (B.nil_iff.mp z)) (fun z=>⟨.ref a,H,I,rfl,O (j.nil_iff.mp z)⟩) (fun z => ?_) (by rw [<- B.length, <- j.length];exact F)
 refine ⟨.ref s.heap.objs.size,_,I.laid (t':=s.toks) (o := .tup (xs++ys)) (fun b ob q=>i3 _ q) (DP _) ?_,rfl,U (fun w=>z (j.nil_iff.mpr w)) _ (I.hok.fresh (DP _))⟩;exact ⟨by rw [DO];exact F,_,B.append j,JV _ _⟩
end
end
section
noncomputable def ixN (n:Nat) (i:Int):Option Nat:=if 0<=i then (if i < n then some i.toNat else none) else if -(n:Int)<=i then some (i+n).toNat else none
noncomputable def atI {α:Type} (xs:List α) (i:Int):Option α := (ixN xs.length i).bind fun j=>xs[j]?
theorem nT {n:Nat} {i:Int} {j:Nat} (h:ixN n i=some j):seqIndex? i n=some j/\j < n /\ -(n:Int)<=i/\i < n:=by
 unfold ixN at h
 by_cases h0 : 0<=i
 ·rw [if_pos h0] at h
  by_cases h1:i < n
  ·rw [if_pos h1] at h;have e:i.toNat=j:=Fq.inj h;exact ⟨by rw [JB h0 h1,e],by omega,by omega,h1⟩
  ·rw [if_neg h1] at h;cases h
 ·rw [if_neg h0] at h
  by_cases h1 : -(n:Int)<=i
  ·rw [if_pos h1] at h;have e:(i+n).toNat=j:=Fq.inj h;exact ⟨by rw [J6 (by omega) h1,e],by omega,h1,by omega⟩
  ·rw [if_neg h1] at h;cases h
theorem je {α:Type} {xs:List α} {i:Int} {v : α} (h:atI xs i=some v):∃ j,seqIndex? i xs.length=some j/\xs[j]? = some v/\j < xs.length /\ -(xs.length:Int)<=i/\i < xs.length:=by
 unfold atI at h
 cases e:ixN xs.length i with
 | none=>rw [e] at h;cases h
 | some j =>
   rw [e] at h;obtain ⟨h1,h2,q,z⟩:=nT e;exact ⟨j,h1,h,h2,q,z⟩
def jf (b:Expr):Prop := ∀ o i,subscripted b false o i=operate [o,i] (LD o i)
def IxR (X:Cx) (r:R2):Prop :=
 ∀ (value slice:Expr) (pins:List (Addr×Obj)) (s:h7) (σ:St) (H:Hp) (x y:V) (v u:gV) (Q:VK),Inv X pins σ H s->RelV x v->RelV y u->r x y H Q ->
  subscripted slice false v u=operate [v,u] (LD v u)->DU (model X.prog X.w) X.A (subscriptTail value slice v u) (EP X pins σ Q) X.xe s
def MtR (X:Cx) (id:String) (r:V->List V->Hp->VK->Prop):Prop :=
 ∀ (pins:List (Addr×Obj)) (s:h7) (σ:St) (H:Hp) (x:V) (xs:List V) (v:gV) (us:List gV) (Q:VK),Inv X pins σ H s->RelV x v->Vals xs us->r x xs H Q ->
  DU (model X.prog X.w) X.A (call (.builtin id) (v::us)) (EP X pins σ Q) X.xe s
section
variable {X:Cx} {a b:Expr} {ta tb:TE} {pos:Pos}
theorem IxR.or {r r':R2} (h:IxR X r) (h':IxR X r'):IxR X (fun x y H Q=>r x y H Q∨r' x y H Q):=by
 intro value slice pins s σ H x y v u Q I rx ry q hs
 rcases q with q | q
 ·exact h value slice pins s σ H x y v u Q I rx ry q hs
 ·exact h' value slice pins s σ H x y v u Q I rx ry q hs
theorem MtR.or {id:String} {r r':V->List V->Hp->VK->Prop} (h:MtR X id r) (h':MtR X id r'):MtR X id (fun x xs H Q=>r x xs H Q∨r' x xs H Q):=by
 intro pins s σ H x xs v us Q I rx rs q
 rcases q with q | q
 ·exact h pins s σ H x xs v us Q I rx rs q
 ·exact h' pins s σ H x xs v us Q I rx rs q
theorem Ax {r:R2} (j:IxR X r) (z:PE X a ta) (B:PE X b tb) (hs:jf b):PE X (.Subscript a b pos) (tOp r ta tb):=by
 intro pins s σ H Q I h;exact Subscript_ (tU z B I h fun v u s2 x y H2 F rx ry q=>j a b pins s2 σ H2 x y v u Q F rx ry q (hs _ _))
noncomputable def Bi (K:Frag):R2:=fun x y H Q => ∃ p xs i v,x = .ref p/\y = .int i/\SqL K H p xs/\atI xs i=some v/\Q v H
noncomputable def Bj (K:Frag):R2:=fun x y H Q => ∃ p xs i v,x = .ref p/\y = .int i/\SqT K H p xs/\atI xs i=some v/\Q v H
theorem ix_list:IxR X (Bi X.K):=by
 intro value slice pins s σ H x y v u Q I rx ry h hs;obtain ⟨p,xs,i,z,rfl,rfl,F,he,q⟩:=h
 cases rx
 obtain ⟨t,rfl⟩:=ry;obtain ⟨its,r,pl,O⟩:=I.list F;obtain ⟨j,h1,h2,U,G,J⟩:=je he;obtain ⟨w,ew,rw'⟩:=r.get h2;have L:=r.length;have hn:=dw;have fin:EP X pins σ Q w s:=⟨z,H,I,rw',q⟩
 by_cases h0 : 0<=i
 ·have B:i.toNat=j:=by
   rw [JB h0 J] at h1;exact Fq.inj h1
  exact item_listR pl.isList h0 (by omega) (by rw [B];simpa using ew) fin hs
 ·have B:(i+(its.toArray.size:Int)).toNat=j:=by
   rw [J6 (by omega) G] at h1
   rw [DV, <- L];exact Fq.inj h1
  exact J7 (x:=w) pl.isList.typeIs slot_list_getitem.lookup
   (J8 (Q:=fun r s'=>r=w/\EP X pins σ Q r s') pl.isList (by omega) (by rw [DV] <;> omega) (by omega) (by rw [B];simpa using ew) ⟨rfl,fin⟩) hs
theorem ix_tup:IxR X (Bj X.K):=by
 intro value slice pins s σ H x y v u Q I rx ry h hs;obtain ⟨p,xs,i,z,rfl,rfl,B,he,q⟩:=h
 cases rx
 obtain ⟨t,rfl⟩:=ry;obtain ⟨its,r,pl,G⟩:=I.tuple B;obtain ⟨j,h1,h2,J,L,O⟩:=je he;obtain ⟨w,ew,rw'⟩:=r.get h2;have F:=r.length;have hn:=dw;have fin:EP X pins σ Q w s:=⟨z,H,I,rw',q⟩;exact J7 (x:=w) pl.typeIs slot_tuple_getitem.lookup
  (getItem_tuple (j:=j) (Q:=fun r s'=>r=w/\EP X pins σ Q r s') pl (by omega) (by omega) (by rw [DV, <- F];exact h1) (by simpa using ew) ⟨rfl,fin⟩) hs
theorem pq (its:List gV) (n j:Nat) (u:gV):Gb (·.setIfInBounds j u) { cls := .type "list",data := .seq its.toArray n } = { cls := .type "list",data := .seq (its.set j u).toArray n }:=by
 simp [Gb]
theorem Inv.lst {pins:List (Addr×Obj)} {σ:St} {H:Hp} {s:h7} {p:Addr} {xs:List V} (I:Inv X pins σ H s) (h:H p=some (.lst xs)) :
 ∃ (its:List gV) (n:Nat),Vals xs its/\s.heap.get? p=some { cls := .type "list",data := .seq its.toArray n }/\xs.length<=DL:=by
 obtain ⟨z,its,n,r,e⟩:=I.hok p _ h;exact ⟨its,n,r,e,z⟩
theorem Inv.lstUpd {pins:List (Addr×Obj)} {σ:St} {H:Hp} {s:h7} {p:Addr} {xs ys:List V} {its its':List gV} {n n':Nat} {f:Obj->Obj} (I:Inv X pins σ H s) (h:H p=some (.lst xs))
 (ho:s.heap.get? p=some { cls := .type "list",data := .seq its.toArray n }) (hf:f { cls := .type "list",data := .seq its.toArray n } = { cls := .type "list",data := .seq its'.toArray n' }) (r:Vals ys its') (j:ys.length<=DL) (t:Nat) :
 Inv X pins σ (upd H p (.lst ys)) { s with heap:=s.heap.update p f,toks:=t }:=by
 have e:(s.heap.update p f).get? p=some { cls := .type "list",data := .seq its'.toArray n' }:=by
  rw [Jq f ho (by rw [hf] <;> rfl),hf]
 refine I.write (x:=p) (e:=p) (by rw [h];trivial) (.inl rfl) (fun b u z q=>(J9 _ _ (Ne.symm z)).trans q) ⟨_,e⟩ ?_
 exact ⟨j,its',n',r,e⟩
noncomputable def vT:V->V->V->Hp->(Hp->Prop)->Prop:=fun o i v H Q => ∃ p xs k j,o = .ref p/\i = .int k/\H p=some (.lst xs)/\ixN xs.length k=some j/\Q (upd H p (.lst (xs.set j v)))
theorem u7:PSet X vT:=by
 intro pins s σ H o i v ov iv u Q I ro ri rv h;obtain ⟨p,xs,k,j,rfl,rfl,F,L,q⟩:=h
 cases ro
 obtain ⟨t,rfl⟩:=ri;obtain ⟨its,n,r,ho,O⟩:=I.lst F;obtain ⟨h1,h2,G,J⟩:=nT L;have z:=r.length;have hn:=dw;have I':Inv X pins σ (upd H p (.lst (xs.set j v))) { s with heap:=s.heap.update p (Gb (·.setIfInBounds j u)) } :=
  I.lstUpd F ho (pq its n j u) (r.set rv j) (by rw [List.length_set];exact O) s.toks
 by_cases h0 : 0<=k
 ·have B:k.toNat=j:=by
   rw [JB h0 J] at h1;exact Fq.inj h1
  exact PySem.W.ki_setAt ho h0 (by omega) (by rw [DV, <- z];exact J) (by rw [B];exact ⟨_,I',q⟩)
 ·have B:(k+(its.toArray.size:Int)).toNat=j:=by
   rw [J6 (by omega) G] at h1
   rw [DV, <- z];exact Fq.inj h1
  exact PySem.W.ki_setBack ho (by omega) (by rw [DV, <- z];exact G) (by omega) (by rw [B];exact ⟨_,I',q⟩)
noncomputable def cG:V->Bool
 | .non=>true
 | .bl _=>true
 | .int _=>true
 | .str _=>true
 | _=>false
noncomputable def eqV:V->V->Bool
 | .non, .non=>true
 | .bl a, .bl b=>a==b
 | .bl a, .int b=>(if a then 1 else 0)==b
 | .int a, .bl b=>a==(if b then 1 else 0)
 | .int a, .int b=>a==b
 | .str a, .str b=>a==b
 | _,_=>false
theorem yZ {A:Ew} {s:h7} {y x:V} {u v:gV} (ry:RelV y u) (rx:RelV x v) (fy:cG y=true) (fx:cG x=true):SeqAt.EqAt A s u v (eqV y x):=by
 cases y with
 | non =>
   cases ry
   cases x with
   | non=>cases rx;exact SeqAt.EqAt.same _
   | bl b=>cases rx;exact SeqAt.EqAt.none_bool b
   | int b=>obtain ⟨t,rfl⟩:=rx;exact SeqAt.EqAt.none_int b t
   | str b=>obtain ⟨t,rfl⟩:=rx;exact SeqAt.EqAt.none_str b t
   | _=>exact absurd (show false=true from fx) y2
 | bl a =>
   cases ry
   cases x with
   | non=>cases rx;exact SeqAt.EqAt.bool_none a
   | bl b=>cases rx;exact SeqAt.EqAt.bool_bool a b
   | int b=>obtain ⟨t,rfl⟩:=rx;exact SeqAt.EqAt.bool_int a b t
   | str b=>obtain ⟨t,rfl⟩:=rx;exact SeqAt.EqAt.bool_str a b t
   | _=>exact absurd (show false=true from fx) y2
 | int a =>
   obtain ⟨t',rfl⟩:=ry
   cases x with
   | non=>cases rx;exact SeqAt.EqAt.int_none a t'
   | bl b=>cases rx;exact SeqAt.EqAt.int_bool a t' b
   | int b=>obtain ⟨t,rfl⟩:=rx;exact SeqAt.EqAt.int_int a t' b t
   | str b=>obtain ⟨t,rfl⟩:=rx;exact Ka a t' b t
   | _=>exact absurd (show false=true from fx) y2
 | str a =>
   obtain ⟨t',rfl⟩:=ry
   cases x with
   | non=>cases rx;exact SeqAt.EqAt.str_none a t'
   | bl b=>cases rx;exact SeqAt.EqAt.str_bool a t' b
   | int b=>obtain ⟨t,rfl⟩:=rx;exact Kb a t' b t
   | str b=>obtain ⟨t,rfl⟩:=rx;exact SeqAt.EqAt.str_str a t' b t
   | _=>exact absurd (show false=true from fx) y2
 | _=>exact absurd (show false=true from fy) y2
noncomputable def eqU (x:V) (u:gV):Bool:=match u with
 | .none=>eqV .non x
 | .bool b=>eqV (.bl b) x
 | .int i _=>eqV (.int i) x
 | .str z _=>eqV (.str z) x
 | _=>false
theorem qN {x y:V} {u:gV} (r:RelV y u) (f:cG y=true):eqU x u=eqV y x:=by
 cases y with
 | non=>cases r;rfl
 | bl b=>cases r;rfl
 | int i=>obtain ⟨t,rfl⟩:=r;rfl
 | str z=>obtain ⟨t,rfl⟩:=r;rfl
 | _=>exact absurd (show false=true from f) y2
theorem eB {x:V}:∀ {xs:List V} {us:List gV},Vals xs us->xs.all cG=true->us.any (eqU x)=xs.any fun y=>eqV y x
 | _,_, .nil,_=>rfl
 | y::xs,u::us, .cons r t,f=>by
   rw [Gk,hH] at f;rw [Fo,Fo,qN r f.1,eB t f.2]
theorem dz {A:Ew} {s:h7} {x:V} {v:gV} (rx:RelV x v) (fx:cG x=true):∀ {xs:List V} {us:List gV},Vals xs us->xs.all cG=true -> ∀ u∈us,SeqAt.EqAt A s u v (eqU x u)
 | _,_, .nil,_=>fun u j=>by cases j
 | y::xs,u::us, .cons r t,f=>fun u' j=>by
   rw [Gk,hH] at f
   rcases DT.mp j with rfl | j
   ·rw [qN r f.1];exact yZ r rx f.1 fx
   ·exact dz rx fx t f.2 u' j
noncomputable def inV (x:V) (xs:List V):Bool:=xs.any fun y=>eqV y x
noncomputable def rIn (K:Frag) (neg:Bool):R2:=fun x y H Q => ∃ p xs,y = .ref p/\(SqL K H p xs∨SqT K H p xs)/\cG x=true/\xs.all cG=true/\Q (.bl (if neg then !inV x xs else inV x xs)) H
theorem qO:OpR X (Eg .In) (rIn X.K false):=by
 intro pins s σ H x y v u Q I rx ry h;obtain ⟨p,xs,rfl,j,fx,fs,q⟩:=h
 cases ry
 rcases j with j | j
 ·obtain ⟨its,r,pl,z⟩:=I.list j;refine SeqAt.in_listAt (eqU x) pl.isList (fun w hw=>dz rx fx r fs w (by simpa using hw)) ⟨.bl _,H,I,rfl, ?_⟩
  rw [show its.toArray.any (eqU x)=its.any (eqU x) by simp,eB r fs]
  exact q
 ·obtain ⟨its,r,pl,z⟩:=I.tuple j;refine SeqAt.in_tupleAt (eqU x) pl (fun w hw=>dz rx fx r fs w (by simpa using hw)) ⟨.bl _,H,I,rfl, ?_⟩
  rw [show its.toArray.any (eqU x)=its.any (eqU x) by simp,eB r fs]
  exact q
theorem kK:OpR X (Eg .NotIn) (rIn X.K true):=by
 intro pins s σ H x y v u Q I rx ry h;obtain ⟨p,xs,rfl,j,fx,fs,q⟩:=h
 cases ry
 rcases j with j | j
 ·obtain ⟨its,r,pl,z⟩:=I.list j;refine SeqAt.notIn_listAt (eqU x) pl.isList (fun w hw=>dz rx fx r fs w (by simpa using hw)) ⟨.bl _,H,I,rfl, ?_⟩
  rw [show its.toArray.any (eqU x)=its.any (eqU x) by simp,eB r fs]
  exact q
 ·obtain ⟨its,r,pl,z⟩:=I.tuple j;refine SeqAt.notIn_tupleAt (eqU x) pl (fun w hw=>dz rx fx r fs w (by simpa using hw)) ⟨.bl _,H,I,rfl, ?_⟩
  rw [show its.toArray.any (eqU x)=its.any (eqU x) by simp,eB r fs]
  exact q
theorem CallR.or {f:gV} {r r':List V->Hp->VK->Prop} (h:CallR X f r) (h':CallR X f r'):CallR X f (fun xs H Q=>r xs H Q∨r' xs H Q):=by
 intro pins s σ H xs us Q I rs q
 rcases q with q | q
 ·exact h pins s σ H xs us Q I rs q
 ·exact h' pins s σ H xs us Q I rs q
theorem kL:CallR X (.type "list") (fun xs H Q => ∃ p ys,xs=[.ref p]/\(SqL X.K H p ys∨SqT X.K H p ys) /\ ∀ l,H l=none->Q (.ref l) (upd H l (.lst ys))):=by
 intro pins s σ H xs us Q I r h;obtain ⟨p,ys,rfl,j,q⟩:=h;obtain ⟨u,rfl,rx⟩:=cT r
 cases rx
 have fin:∀ (its:List gV),Vals ys its->ys.length<=DL -> ∀ (h':Heap) (c':Nat),(∀ b o',s.heap.get? b=some o'->h'.get? b=some o') ->
  h'.get? s.heap.objs.size=some { cls := .type "list",dict:=none,data := .seq its.toArray c',slots := #[] }->EP X pins σ Q (.ref s.heap.objs.size) { s with heap:=h' }:=fun its r' z h' c' kp e =>
  ⟨.ref s.heap.objs.size,_,I.laid (t':=s.toks) kp (DP _) (show ObjOk X.prog X.w _ h' _ (.lst ys) from ⟨z,its,c',r',e⟩),rfl,q _ (I.hok.fresh (DP _))⟩
 rcases j with j | j
 ·obtain ⟨its,r',pl,z⟩:=I.list j;have hlen:=r'.length;obtain ⟨o,ho,B,n,hd⟩:=pl.isList;exact call_list_seq p (.inl rfl) ho B hd (fun h' c' kp e=>fin its r' z h' c' kp e) (by simp only [DV] <;> omega)
 ·obtain ⟨its,r',pl,z⟩:=I.tuple j;have hlen:=r'.length;obtain ⟨o,ho,B,n,hd⟩:=pl;exact call_list_seq p (.inr rfl) ho B hd (fun h' c' kp e=>fin its r' z h' c' kp e) (by simp only [DV] <;> omega)
def tyV (K:Frag) (T:String) (x:V) (H:Hp):Prop:=match x with
 | .str _=>T = "str"
 | .int _=>T = "int"
 | .ref p=>(T = "list" /\ ∃ xs,SqL K H p xs)∨(T = "tuple" /\ ∃ o,K.lookup p=some o/\o.cls = .type "tuple" /\ o.dict=none) ∨
  (T = "dict" /\ ((∃ kvs,H p=some (.dK kvs)) ∨ ∃ kvs,H p=some (.dT kvs)))∨(T = "set" /\ ∃ S n,H p=some (.set S n))
 | _=>False
theorem z9 {pins:List (Addr×Obj)} {σ:St} {H:Hp} {s:h7} {T:String} {x:V} {v:gV} (I:Inv X pins σ H s) (r:RelV x v) (ty:tyV X.K T x H) :
 s.TypeIs v T /\ ∀ a,v = .ref a -> ∃ ob,s.heap.get? a=some ob/\ob.dict=none:=by
 cases x with
 | str z =>
   obtain ⟨t,rfl⟩:=r
   cases (show T = "str" from ty)
   exact ⟨typeIs_str s z t,fun _ e=>nomatch e⟩
 | int i =>
   obtain ⟨t,rfl⟩:=r
   cases (show T = "int" from ty)
   exact ⟨Ja s i t,fun _ e=>nomatch e⟩
 | ref p =>
   cases r
   rcases ty with ⟨rfl,xs,B⟩ | ⟨rfl,o,j,F,hd⟩ | ⟨rfl,j⟩ | ⟨rfl,S,n,j⟩
   ·obtain ⟨its,_,pl,_⟩:=I.list B;refine ⟨pl.isList.typeIs,fun a e => ?_⟩
    cases e
    obtain ⟨o,n,e,c,hd,_⟩:=pl;exact ⟨o,e,hd⟩
   ·refine ⟨⟨o,I.kIn p o j,F⟩,fun a e => ?_⟩
    cases e
    exact ⟨o,I.kIn _ o j,hd⟩
   ·have z:∃ o,s.heap.get? p=some o/\o.ExactDict:=by
     rcases j with ⟨kvs,j⟩ | ⟨kvs,j⟩
     ·obtain ⟨_,_,_,_,o,_,_,e,ex,_⟩:=I.hok p _ j;exact ⟨o,e,ex⟩
     ·obtain ⟨_,_,_,_,o,_,_,e,ex,_⟩:=I.hok p _ j;exact ⟨o,e,ex⟩
    obtain ⟨o,e,ex⟩:=z;refine ⟨⟨o,e,ex.1⟩,fun a q => ?_⟩
    cases q
    exact ⟨o,e,ex.2.1⟩
   ·obtain ⟨o,_,_,_,e,ex,_⟩:=I.hok p _ j;refine ⟨⟨o,e,ex.1⟩,fun a q => ?_⟩
    cases q
    exact ⟨o,e,ex.2.1⟩
 | _=>exact False.elim ty
noncomputable def tBM (K:Frag) (T:String) (r:V->List V->Hp->VK->Prop) (to:TE) (t:TA):TE:=fun σ H Q=>to σ H fun x H1=>tyV K T x H1/\t σ H1 fun xs H2=>r x xs H2 Q
variable {o e:Expr} {es:List Expr} {to:TE} {t:TA} {name:Str} {apos cpos:Pos} {T id:String} {r:V->List V->Hp->VK->Prop}
theorem Ay (pa:PlainAttrs T) (slot:Slot T name id) (F:typeOf (.builtin id)=pure (.type "method_descriptor")) (hm:MtR X id r) (ho:PE X o to) (O:PA X (e::es) t)
 (q:IF o name X.env (eval o X.env)=eval o X.env:=by rfl)
 (B:((Gu cpos (E4 (e::es) X.env)).all (fun x => !x.1)&&(LM cpos (JC [] X.env)).all (fun x=>x.1.isSome)
   && decide ((e::es).length+([]:List I8).length+(if ([]:List I8).isEmpty then 0 else 1) < 30))=true:=by rfl)
 (z:(apos.endLine==cpos.line)=true:=by rfl) (hs:E4 (e::es) X.env=(false,eval e X.env)::E4 es X.env:=by rfl) (j:(Gu cpos (E4 es X.env)).any (·.1)=false:=by rfl) :
 PE X (.Call (.Attribute o name apos) (e::es) [] cpos) (tBM X.K T r to t):=by
 intro pins s σ H Q I h;refine wpAny_Call_method_late q B z rfl (thn (ho pins s σ H _ I h) fun v s1 ⟨x,H1,G,J,ty,U⟩ => ?_);obtain ⟨h1,h2⟩:=z9 G J ty;refine ⟨T,id,pa,slot,F,h1,h2, ?_⟩;have L:=O cpos pins s1 σ H1 _ G U;rw [hs] at L ⊢;refine Hf (by show (false || (Gu cpos (E4 es X.env)).any (·.1))=false;rw [j] <;> rfl) (HF ?_)
 exact thn L fun us s2 ⟨vs,H2,Y,Z,q2⟩=>hm pins s2 σ H2 x vs v us Q Y J Z q2
end
end
section
def MtM (X:Cx) (id:String) (r:V->List V->Hp->VK->Prop):Prop :=
 ∀ (pins:List (Addr×Obj)) (s:h7) (σ:St) (H:Hp) (x:V) (xs:List V) (v:gV) (us:List gV) (Q:VK),Inv X pins σ H s->RelV x v->Vals xs us->r x xs H Q ->
  DU (model X.prog X.w) X.A (call (.builtin id) (v::us)) (EP X pins σ Q) X.xe s
theorem Vals.one:∀ {x:V} {us:List gV},Vals [x] us -> ∃ u,us=[u]/\RelV x u
 | _,_, .cons r .nil=>⟨_,rfl,r⟩
theorem Vals.dropLast {xs:List V} {us:List gV} (h:Vals xs us):Vals xs.dropLast us.dropLast:=by
 induction h with
 | nil=>exact .nil
 | cons r t ih =>
   cases t with
   | nil=>exact .nil
   | cons q t'=>exact .cons r ih
theorem Vals.reverse {xs:List V} {us:List gV} (h:Vals xs us):Vals xs.reverse us.reverse:=by
 induction h with
 | nil=>exact .nil
 | cons r t ih=>rw [Hg,Hg];exact Vals.append ih (.cons r .nil)
theorem Vals.rep {xs:List V} {us:List gV} (h:Vals xs us):∀ k:Nat,Vals (DN k xs).flatten (DN k us).flatten
 | 0 => .nil
 | k+1=>by
   rw [Ez,Ez,Fx,Fx];exact Vals.append h (Vals.rep h k)
theorem fC (its:List gV):∀ (k:Nat) (acc:List gV),
 Hv (fun j q=>j++q) acc.toArray (DN k its.toArray)=(acc++(DN k its).flatten).toArray
 | 0,acc=>by simp
 | k+1,acc=>by
   have e:acc.toArray++its.toArray=(acc++its).toArray:=by simp
   have z:(acc++its)++(DN k its).flatten=acc++(DN (k+1) its).flatten:=by
    rw [Ez,Fx,DZ]
   rw [<- z, <- fC its k (acc++its), <- e,Ez,Jm]
section
variable {X:Cx} {pins:List (Addr×Obj)} {σ:St} {H:Hp} {s:h7} {l b:Addr} {xs ys zs:List V}
theorem Inv.lset {its its':List gV} {n:Nat} {f:Array gV->Array gV} {t':Nat} (I:Inv X pins σ H s) (j:H l=some (.lst xs))
 (e:s.heap.get? l=some { cls := .type "list",data := .seq its.toArray n }) (hf:f its.toArray=its'.toArray) (z:Vals ys its') (B:ys.length<=DL) :
 Inv X pins σ (upd H l (.lst ys)) { s with heap:=s.heap.update l (Gb f),toks:=t' }:=by
 have q:=PySem.IsL.update e f;rw [hf] at q;refine I.write (x:=l) (e:=l) (by rw [j];exact trivial) (.inl rfl) (fun b' u F G=>(J9 s.heap (Gb f) (Ne.symm F)).trans G) ⟨_,q⟩ ?_
 exact ⟨B,its',_,z,q⟩
theorem Inv.lnew {its:List gV} {t':Nat} (I:Inv X pins σ H s) (j:Vals ys its) (z:ys.length<=DL) :
 Inv X pins σ (upd H s.heap.objs.size (.lst ys)) { s with heap:=s.heap.push { cls := .type "list",data := .seq its.toArray },toks:=t' } :=
 I.laid (fun _ _ q=>i3 _ q) (DP _) ⟨z,its,0,j,DQ _ rfl⟩
theorem Inv.fresh (I:Inv X pins σ H s):H s.heap.objs.size=none:=I.hok.fresh (DP _)
theorem Inv.lstM (I:Inv X pins σ H s) (j:H l=some (.lst xs)):xs.length<=DL /\ ∃ (its:List gV) (n:Nat),Vals xs its/\xs.length=its.length/\s.heap.get? l=some { cls := .type "list",data := .seq its.toArray n }:=by
 obtain ⟨z,its,n,r,e⟩:=I.hok l _ j;exact ⟨z,its,n,r,r.length,e⟩
theorem u8 {n:Nat} (h:n<=DL):GI n=false:=by
 unfold GI;exact decide_eq_false (by omega)
end
section
variable {X:Cx}
noncomputable def nU:V->List V->Hp->VK->Prop:=fun x vs H Q => ∃ l xs y,x = .ref l/\vs=[y]/\H l=some (.lst xs)/\xs.length < DL/\Q .non (upd H l (.lst (xs++[y])))
theorem jE:MtM X "list.append" nU:=by
 intro pins s σ H x vs v us Q I rx rv h;obtain ⟨l,xs,y,rfl,rfl,j,B,q⟩:=h
 cases rx
 obtain ⟨u,rfl,ru⟩:=rv.one;obtain ⟨z,its,n,r,G,e⟩:=I.lstM j;refine Jb F.slot_list_append ⟨_,e,rfl⟩ F.entry_list_append (F.args_list_append_2 _ _) (PySem.list_append l its.toArray n u (by rw [DV];omega)) ⟨e, ?_⟩
 refine ⟨.non,_,I.lset (its':=its++[u]) j e (by simp) (r.append (.cons ru .nil)) ?_,rfl,q⟩
 rw [DO,Ht];omega
noncomputable def Bk:R2:=fun x y H Q => ∃ l b xs zs,x = .ref l/\y = .ref b/\H l=some (.lst xs)/\H b=some (.lst zs)/\xs.length+zs.length<=DL /\ ∀ p,H p=none->Q (.ref p) (upd H p (.lst (xs++zs)))
theorem op_cat:OpR X (F7 .Add) Bk:=by
 intro pins s σ H x y v u Q I rx ry h;obtain ⟨l,b,xs,zs,rfl,rfl,B,F,O,q⟩:=h
 cases rx
 cases ry
 obtain ⟨z,its,n,r,U,e⟩:=I.lstM B;obtain ⟨Y,j,Z,G,J,L⟩:=I.lstM F;refine PySem.P.add_list e L ?_ (by rw [DV,DV];omega)
 have ea:its.toArray++j.toArray=(its++j).toArray:=by simp
 rw [ea];exact ⟨.ref _,_,I.lnew (t':=s.toks) (r.append G) (by rw [DO];omega),rfl,q _ I.fresh⟩
noncomputable def Bl:R2:=fun x y H Q => ∃ l k xs,x = .ref l/\y = .int k/\H l=some (.lst xs) /\ -(2 ^ 63)<=k/\k < 2 ^ 63/\xs.length*k.toNat<=DL /\
 ∀ p,H p=none->Q (.ref p) (upd H p (.lst (DN k.toNat xs).flatten))
theorem nV {α:Type} (xs:List α) (k:Nat):(DN k xs).flatten.length=k*xs.length:=by
 induction k with
 | zero=>simp
 | succ k ih=>rw [Ez,Fx,DO,ih,Nat.succ_mul,Nat.add_comm]
theorem op_rep:OpR X (F7 .Mult) Bl:=by
 intro pins s σ H x y v u Q I rx ry h;obtain ⟨l,k,xs,rfl,rfl,Z,h1,h2,Y,q⟩:=h
 cases rx
 obtain ⟨t,rfl⟩:=ry;obtain ⟨z,its,n,r,hl,e⟩:=I.lstM Z;have hlen:its.toArray.size*k.toNat<=DL:=by rw [DV, <- hl];exact Y
 have B : ¬ its.toArray.size*k.toNat > (2 ^ 63 - 1) / 8:=by
  have:(DL:Nat)<=(2 ^ 63 - 1) / 8:=by decide
  omega
 have G : ¬ (!Builtin.List.listFitsIndex k)=true:=by
  rw [fitsIndex_both h1 h2];exact y2
 have j : ¬ GI (its.toArray.size*k.toNat)=true:=by
  rw [u8 hlen];exact y2
 have J:Hv (fun L O=>L++O) #[] (DN (if its.toArray.isEmpty=true then 0 else k.toNat) its.toArray)=(DN k.toNat its).flatten.toArray:=by
  have f0:∀ m:Nat,Hv (fun L O=>L++O) #[] (DN m its.toArray)=(DN m its).flatten.toArray:=fun m=>by
   have:=fC its m [];rw [HN] at this;exact this
  rw [f0]
  cases its with
  | nil=>simp
  | cons a r'=>rw [if_neg (by simp)]
 refine Ir (T := "list") (U := "int") (by decide) ⟨_,e,rfl⟩ (fun s'=>Ja s' k t) noFill_list_mul Lw HP repeat_list F.slot_int_index.lookup
  (Jb HP (Ja s k t) KU (Ku _ _) (int___rmul___int_list k t l its.toArray n)
    ⟨e,rfl,⟨_,e,rfl⟩,Jb F.slot_list_mul ⟨_,e,rfl⟩ F.entry_list_mul (F.args_list_mul_2 _ _) (AutoListH.list___mul___list_int_3 l its.toArray n k t G B j) ⟨e, ?_⟩⟩)
 rw [J];exact ⟨.ref _,_,I.lnew (t':=s.toks) (r.rep k.toNat) (by rw [nV,Nat.mul_comm];exact Y),rfl,q _ I.fresh⟩
end
end
end L2
namespace Att
open PySem PySem.W PySem.Calls PyProof.Rows
theorem ir {P:Params} {h:Heap}:∀ (ns:List Int) (vs:List gV),WellAll P h vs (ns.map WData.int)->LF vs ns:=by
 intro ns
 induction ns with
 | nil =>
   intro vs w;rw [Fc] at w
   cases w
   exact .nil
 | cons n ns ih =>
   intro vs w;rw [E6] at w
   cases w with
   | cons a b =>
     cases a
     exact .cons _ _ (ih _ b)
theorem qP {l:OpenLaw} {n:Nat} (hn:l.most=some n) {P:Params} {h:Heap} {args:List WData} {vals:List gV}
 (j:l.row.toRowW.claim.pre args=true) (G:WellAll P h vals args) :
 ∃ a vs ns,vals=[Eo a]/\args=[WData.list (ns.map WData.int)]/\h.get? a=some { cls := .type "list",data := .seq vs.toArray }/\LF vs ns/\ns.length<=n:=by
 have J:WShape.hasAll [] args [.list .int]=true:=(pre_splitW j).1;have L:l.pre.holds [] { args:=args }=true:=(pre_splitW j).2;obtain ⟨d,r,rfl,h1,h2⟩:=hasAllW_cons J;obtain rfl:=hasAllW_nil h2;obtain ⟨xs,rfl,O⟩:=hasW_list h1;obtain ⟨ns,rfl⟩:=items_int O;have hlen:ns.length<=n:=by
  unfold OpenLaw.pre at L;have B:(WTm.not (.lt (.lit (.int (n:Int))) (.len (.arg 0)))).holds [] { args := [.list (ns.map .int)] }=true:=by
   have B:=(holds_andW L).1;rw [hn] at B;exact B
  have F:=condW_of B (w_not (w_lt w_lit (w_len_list (w_arg rfl))));rw [i5] at F;refine Nat.le_of_not_lt fun q => ?_;have q':(n:Int) < ((ns.length:Nat):Int):=by omega
  first
   | (rw [decide_eq_true q'] at F;exact absurd F (by decide))
   | (simp at F;omega)
 cases G with
 | cons U Y =>
   cases Y
   cases U with
   | list ho z=>exact ⟨_,_,ns,rfl,rfl,ho,ir ns _ z,hlen⟩
theorem qQ (l:OpenLaw) (args:List WData):l.row.toRowW.claim.post args (.bool true) args=true :=
 postW_of (r:=l.row.toRowW) (X:=(true==true))
  (show WShape.has [] (.bool true) .bool=true by first | rfl | decide | simp [WShape.has,WShape.arms,WShape.armsAll])
  (show (WTm.eq .res (.lit (.bool true))).value [] { args:=args,res:=some (.bool true),after:=args }=some (.bool (true==true)) from w_eq_bool (w_res rfl) w_lit) rfl
theorem attach_call {l:OpenLaw} {n:Nat} {q:E3} {loose:List Str} {XP:(Str->Option gV)->Heap->Prop} {YP:Ep->Heap->Prop} {d:DefRec}
 (hn:l.most=some n) (B:d.params.defaults=[])
 (call:∀ (w:Ep) (s₀ s₁:h7) (mg mb:Str->Option gV) (fa:Addr) (o:Obj) (pm cd doc:gV) (a:Addr) (vs:List gV) (ns:List Int),
   Ground q loose [] XP w s₀ mg mb s₁.heap->YP w s₁.heap ->
   s₁.heap.get? fa=some o->o.data = .func (docDef d.name d.params d.body d.scope pm cd doc)->s₁.heap.CodeRec cd d.name->mg d.name=some (.ref fa) ->
   s₁.heap.get? a=some { cls := .type "list",data := .seq vs.toArray }->LF vs ns->ns.length<=n->s₁.gens = #[] ->
   I7 (model l.prog w) JW (.call (.ref fa) ⟨[.ref a],[]⟩) (fun r s'=>r = .ok (.ret (.bool true))/\OldK s₁.heap s'.heap/\s'.os=s₁.os/\Iy s'.gens) s₁) :
 WalkO q loose XP YP l.row.toRowW d [] (fun f vs=>LN f vs):=by
 intro w s₀ s₁ mg mb G Y fa o pm cd doc dV kV ho hd F hD J U args vals as j O Z L By;obtain rfl:dV = .none:=Dflts.none hD B;obtain rfl:kV = .none:=Dflts.noKw hD;obtain ⟨a,vs,ns,rfl,rfl,z,hints,hlen⟩:=qP hn j L;refine enter_call (Hc (call w s₀ s₁ mg mb fa o pm cd doc a vs ns G Y ho (fd_plain hd) F J z hints hlen U) fun r s' hq => ?_);obtain ⟨rfl,h2,h3,h4⟩:=hq;exact ⟨.inl ⟨.bool true, .bool true,[],rfl,fun _=>rfl, .bool true,qQ l _,fun _=>⟨Kv,fun _ hm=>(nomatch hm)⟩⟩,h2,h3,h4⟩
section
variable {prog:E3} {w:Ep} {A:Ew} {E:gV->h7->Prop} {s:h7} {K:Frag}
noncomputable def Bv (h:Heap) (L d:Addr):List (Addr×Obj):=(EZ h.objs.size).filterMap fun a=>if a=L∨a=d then none else (h.get? a).map fun o=>(a,o)
end
end Att
namespace L2
open PySem PySem.Spec PyProof.Rows
section
theorem jF:∀ {vs:List gV} {ns:List Int},LF vs ns->Vals (ns.map V.int) vs
 | _,_, .nil => .nil
 | _,_, .cons n t h => .cons ⟨t,rfl⟩ (jF h)
def pv (H:Hp):Prop := ∀ b,H b=none ∨ ∃ o xs,H b=some (.frz o (.lst xs))
theorem u9 {P:E3} {w:Ep} {K:Frag} {mg mb:Str->Option gV} {CX:CXT} {k:Nat} {fa a:Addr} {fd:Gv} {x:Str} {sp:Sp} {s₁:h7} {vs:List gV} {ns:List Int}
 (KX:K.In s₁.heap) (G:s₁.heap.Ns EM mg) (j:s₁.heap.Ns LH mb) (Y:∀ x:Str,x ≠ "__name__" -> mb x=FE x) (J:s₁.heap.NoLimit) (hg:s₁.gens = #[])
 (U:s₁.heap.get? a=some { cls := .type "list",data := .seq vs.toArray }) (hi:LF vs ns) (hl:ns.length<=DL) (hr:Room k JW)
 (F:∀ base:Heap,K.In base->base.Ns EM mg->dy P w K mg base CX k fa fd [x] sp) (B:∀ (s:h7) (u:gV),Ks s fd ⟨[u],[]⟩ [(x,u)])
 (Z:∀ H:Hp,pv H->SqL K H a (ns.map V.int)->sp [.ref a] H (fun v _=>v = .bl true) fun _ _ _=>False)
 (By:∀ H e s',CX [] H s₁ (fun _ _ _=>False) e s'->False) :
 I7 (model P w) JW (.call (.ref fa) ⟨[.ref a],[]⟩) (fun r s'=>r = .ok (.ret (.bool true))/\OldK s₁.heap s'.heap/\s'.os=s₁.os/\Iy s'.gens) s₁ := by
 have rv:=jF hi;have lenV:=hi.length;have core:∀ H:Hp,pv H->SqL K H a (ns.map V.int)->HOk P w H s₁.heap->(∀ b,H b≠none->b=a)->(H a≠none->K.lookup a=none) ->
  I7 (model P w) JW (.call (.ref fa) ⟨[.ref a],[]⟩) (fun r s'=>r = .ok (.ret (.bool true))/\OldK s₁.heap s'.heap/\s'.os=s₁.os/\Iy s'.gens) s₁ := by
  intro H hO hS hok hA hK;have base_of:∀ {b:Addr} {o:Obj},s₁.heap.get? b=some o->H b=none->(eV s₁.heap H).get? b=some o:=fun e n=>tN e n;have noA:∀ {b:Addr} {o:Obj} {es:Array G3} {ep:Nat},s₁.heap.get? b=some o->o.data = .dict es ep->H b=none:=fun {b o es ep} e d=>by
   cases q:H b with
   | none=>rfl
   | some u =>
     have e':b=a:=hA b (by rw [q];simp)
     subst e';rw [U] at e;cases e;have d':HG vs.toArray _=Data.dict es ep:=d
     cases d'
  have nsK:∀ {b:Addr} {m:Str->Option gV},s₁.heap.Ns b m->(eV s₁.heap H).Ns b m:=fun {b m} ⟨o,es,ep,e,d,r⟩=>⟨o,es,ep,base_of e (noA e d),d,r⟩;have L:K.In (eV s₁.heap H):=fun b o e=>base_of (KX b o e) (by
   cases q:H b with
   | none=>rfl
   | some u =>
     have e':b=a:=hA b (by rw [q];simp)
     subst e';rw [hK (by rw [q];simp)] at e;cases e)
  have hM:Mod K mg (eV s₁.heap H):=⟨L,nsK G,⟨mb,nsK j,Y⟩,let ⟨mc,h1,h2⟩:=J; ⟨mc,nsK h1,h2⟩⟩;have e0:pj P w K mg (eV s₁.heap H) JW [] s₁ H:=⟨rfl,hM,fun b o e=>wx e,Nat.le_of_eq (qv _ _),trivial,fun b j=>absurd (show b∈([]:List Addr) from j) (by simp),hok, .of_eq hg⟩
  refine Hc ((F _ L (nsK G)).run JW [] s₁ H ⟨[.ref a],[]⟩ [.ref a] [.ref a] _ _ hr e0 (B s₁ (.ref a)) (.cons rfl .nil) (Z H hO hS)) fun r s' h => ?_
  cases r with
  | error e=>exact (By H e s' h).elim
  | ok fl =>
    cases fl with
    | next=>exact False.elim h
    | brk=>exact False.elim h
    | cont=>exact False.elim h
    | ret u =>
      obtain ⟨v,H',os,bare,un,O,r',q⟩:=h;have q':v = .bl true:=q;subst q';obtain rfl:u=J2 true:=r';refine ⟨rfl,OldK.of_keep fun b o e => ?_,os,bare⟩
      cases q:H b with
      | none=>exact un.keep b o e q (by intro z;exact absurd (show b∈([]:List Addr) from z) (by simp)) (by simp)
      | some u =>
        rcases hO b with z | ⟨ob,xs,z⟩
        ·rw [q] at z;cases z
        ·have z2:=un.frzs b ob _ z;obtain ⟨e1,_⟩:=hok b _ z;obtain ⟨e2,_⟩:=O b _ z2;rw [e] at e1;cases e1;exact e2
 cases hk:K.lookup a with
 | some o =>
   have e:=KX a o hk;rw [U] at e
   cases e
   refine core (fun _=>none) (fun _ => .inl rfl) (.inr ⟨_,vs.toArray,_,hk,rfl,rfl,rfl,by rw [DV,lenV];exact hl,by simpa using rv⟩) (fun b u z=>by have z':(none:Option HO)=some u:=z;cases z') (fun b z=>absurd rfl z) fun z=>absurd rfl z
 | none =>
   refine core (fun b=>if b=a then some (.frz { cls := .type "list",data := .seq vs.toArray } (.lst (ns.map V.int))) else none) (fun b => ?_) (.inl (.inr ⟨{ cls := .type "list",data := .seq vs.toArray },if_pos rfl⟩)) (fun b u z => ?_) (fun b z => ?_) fun _=>hk
   ·by_cases j:b=a
    ·exact .inr ⟨_,_,if_pos j⟩
    ·exact .inl (if_neg j)
   ·by_cases j:b=a
    ·have z':=(if_pos j).symm.trans z
     cases z'
     subst j;exact ⟨U,by rw [i5];exact hl,vs,_,rv,U⟩
    ·have z':=(if_neg j).symm.trans z
     cases z'
   ·by_cases j:b=a
    ·exact j
    ·exact absurd (if_neg j) z
end
section
theorem walk_of {l:Jn} {n k:Nat} {q:E3} {loose:List Str} {XP:(Str->Option gV)->Heap->Prop} {YP:Ep->Heap->Prop} {d:DefRec} {K:Params->Frag} {CX:Ep->CXT} {sp:Ep->Sp} {x:Str}
 (hn:l.most=some n) (z:n<=DL) (B:d.params.defaults=[]) (U:Room k JW)
 (Z:∀ (w:Ep) (h:Heap),YP w h->(K w.params).In h)
 (F:∀ (w:Ep) (mg:Str->Option gV) (fa:Addr) (h:Heap),(K w.params).In h->h.Ns EM mg->mg d.name=some (.ref fa) ->
   ∃ fd:Gv,(∀ (s:h7) (u:gV),Ks s fd ⟨[u],[]⟩ [(x,u)]) /\
    ∀ base:Heap,(K w.params).In base->base.Ns EM mg->dy l.prog w (K w.params) mg base (CX w) k fa fd [x] (sp w))
 (J:∀ (w:Ep) (H:Hp) (a:Addr) (ns:List Int),ns.length<=n->pv H->SqL (K w.params) H a (ns.map V.int)->sp w [.ref a] H (fun v _=>v = .bl true) fun _ _ _=>False)
 (L:∀ (w:Ep) (H:Hp) (s:h7) (e:gV) (s':h7),CX w [] H s (fun _ _ _=>False) e s'->False) :
 PySem.W.WalkO q loose XP YP l.row.toRowW d [] (fun f vs=>LN f vs):=by
 refine Att.attach_call hn B fun w s₀ s₁ mg mb fa o pm cd doc a vs ns G Y ho hd By O j hints hlen hg => ?_;have KX:=Z w _ Y;obtain ⟨fd,hb,hF⟩:=F w mg fa _ KX G.T.g O;exact u9 KX G.T.g G.T.b G.T.builtins G.T.nolimit hg j hints (Ed hlen z) U hF hb (fun H hO hS=>J w H a ns hlen hO hS) fun H e s'=>L w H s₁ e s'
end
section
noncomputable def dh (s:Stmt):Arguments:=match s with
 | .FunctionDef _ a _ _ _ _ _ _ _ _=>a
 | _ => { posonlyargs := [],args := [],vararg:=none,kwonlyargs := [],kw_defaults := [],kwarg:=none,defaults := [] }
noncomputable def bR (s:Stmt):List Stmt:=match s with
 | .FunctionDef _ _ b _ _ _ _ _ _ _=>b
 | _ => []
noncomputable def aB (s:Stmt):Scope:=match s with
 | .FunctionDef _ _ _ _ _ _ sc _ _ _=>sc
 | _ => { kind := .function,names := [],isGenerator:=false,isCoroutine:=false }
noncomputable abbrev CX0:CXT:=fun _ _ _ _ _ _=>False
noncomputable abbrev E0:XK:=fun _ _ _=>False
theorem vU {X:Cx}:iq CX0 X E0:=fun _ _ _ _ _ _ _ h=>h.elim
structure Fun (K:Frag) (x qual:Str) (st:Stmt) (f:Addr) (fd:Gv):Prop where
 ex:∃ (oc:gV) (od:Option Addr) (kV doc pm:gV) (an:Option Addr) (cdv ct:gV) (osl:Array (Option gV)),
  fd=Ga x qual (dh st) (bR st) (aB st) .none kV doc pm an cdv ct/\K.lookup f=some ⟨oc,od, .func fd,osl⟩/\Ik K cdv qual=true
 kp:Gw K (.ref f)=true
section
variable {P:E3} {w:Ep} {K:Frag} {mg:Str->Option gV} {base:Heap}
theorem Fun.ok {x qual:Str} {st:Stmt} {f:Addr} {fd:Gv} {N ps:List Str} {k:Nat} {sp:Sp} (F:Fun K x qual st f fd) (S:fV N ps (aB st)) (len:∀ vs H Q E,sp vs H Q E->vs.length=ps.length)
 (j:∀ (cdv:gV) (A:Ew) (outer:List Env) (s:h7) (H:Hp) (vs:List V) (Q:VK) (E:XK),Room k (A.deeper (JA qual (aB st) s.heap.objs.size f cdv))->sp vs H Q E ->
   ∃ t,PSs (gJ CX0 P w K mg base N qual (aB st) f cdv A outer s H E).nox (bR st) t/\t { nx:=fun _ H'=>Q .non H',rt:=Q } (cF N vs) H):dy P w K mg base CX0 (k+1) f fd ps sp:=by
 obtain ⟨oc,od,kV,doc,pm,an,cdv,ct,osl,rfl,lk,z⟩:=F.ex;refine Av lk z S len fun A outer s H vs Q E G B => ?_;obtain ⟨t,h,q⟩:=j cdv A outer s H vs Q E G B;exact ⟨t,h.nox,q⟩
theorem Fun.binds {x qual:Str} {st:Stmt} {f:Addr} {fd:Gv} {ps:List Str} (F:Fun K x qual st f fd)
 (h:∀ (kV doc pm:gV) (an:Option Addr) (cdv ct:gV) (us:List gV),us.length=ps.length->bindArgs (Ga x qual (dh st) (bR st) (aB st) .none kV doc pm an cdv ct) ⟨us,[]⟩=pure (ps.zip us)):Binds K fd ps []:=by
 obtain ⟨oc,od,kV,doc,pm,an,cdv,ct,osl,rfl,lk,j⟩:=F.ex;exact .all (h kV doc pm an cdv ct)
theorem ai {x qual:Str} {st:Stmt} {f:Addr} {oc:gV} {od an:Option Addr} {osl:Array (Option gV)} {kV doc pm cdv ct:gV} (l:K.lookup f=some ⟨oc,od, .func (Ga x qual (dh st) (bR st) (aB st) .none kV doc pm an cdv ct),osl⟩)
 (c:Ik K cdv qual=true) (k:Gw K (.ref f)=true):Fun K x qual st f (Ga x qual (dh st) (bR st) (aB st) .none kV doc pm an cdv ct):=⟨⟨oc,od,kV,doc,pm,an,cdv,ct,osl,rfl,l,c⟩,k⟩
end
def Same (H H':Hp):Prop := ∀ b o,H b=some o->H' b=some o
theorem Same.refl (H:Hp):Same H H:=fun _ _ h=>h
theorem Same.trans {H H1 H2:Hp} (a:Same H H1) (b:Same H1 H2):Same H H2:=fun c o h=>b c o (a c o h)
theorem Same.free {H H':Hp} (e:Same H H') {l:Addr} (h:H' l=Option.none):H l=Option.none:=by
 cases q:H l with
 | none=>rfl
 | some o =>
   rw [e l o q] at h
   cases h
theorem Same.seq {K:Frag} {H H':Hp} {a:Addr} {xs:List V} (e:Same H H') (h:SqL K H a xs):SqL K H' a xs:=by
 rcases h with (h | ⟨o,h⟩) | h
 ·exact .inl (.inl (e _ _ h))
 ·exact .inl (.inr ⟨o,e _ _ h⟩)
 ·exact .inr h
end
end L2
namespace HT
open PySem PySem.Spec PyProof.Rows
end HT
namespace L2
open PySem PySem.Spec PyProof.Rows
section
section
variable {κ:Type} [DecidableEq κ]
noncomputable def bq (kvs:List (κ × V)) (k : κ):Option V:=(kvs.find? fun kv=>decide (kv.1=k)).map (·.2)
noncomputable def bX (kvs:List (κ × V)) (k : κ) (v:V):List (κ × V) :=
 if (kvs.any fun kv=>decide (kv.1=k))=true then kvs.map (fun kv=>if kv.1=k then (kv.1,v) else kv) else kvs++[(k,v)]
noncomputable def bS (kvs:List (κ × V)) (k : κ):List (κ × V):=kvs.filter fun kv=>decide (kv.1≠k)
theorem eW {p : κ × V} {r:List (κ × V)} {k : κ} (e:p.1=k):bq (p::r) k=some p.2:=by simp [bq,Fd,e]
theorem eX {p : κ × V} {r:List (κ × V)} {k : κ} (e : ¬ p.1=k):bq (p::r) k=bq r k:=by simp [bq,Fd,e]
theorem kM (k : κ):∀ kvs:List (κ × V),(kvs.any fun kv=>decide (kv.1=k))=(bq kvs k).isSome
 | [] => rfl
 | p::r=>by
   rw [Fo]
   by_cases e:p.1=k
   ·simp only [eW e,decide_eq_true e,Bool.true_or,Kg]
   ·rw [eX e,decide_eq_false e,GJ];exact kM k r
theorem gB (kvs:List (κ × V)) (k : κ) (v:V):(bX kvs k v).length<=kvs.length+1:=by
 unfold bX
 split
 ·rw [i5];omega
 ·rw [DO,Fl,FU];omega
theorem RelO.isSome_eq {o:Option V} {u:Option gV} (r:RelO o u):o.isSome=u.isSome:=by
 cases o with
 | none=>cases u with
   | none=>rfl
   | some _=>exact (show False from r).elim
 | some _=>cases u with
   | none=>exact (show False from r).elim
   | some _=>rfl
theorem RelO.getD {o:Option V} {u:Option gV} {d:V} {d':gV} (r:RelO o u) (rd:RelV d d'):RelV (o.getD d) (u.getD d'):=by
 cases o with
 | none=>cases u with
   | none=>exact rd
   | some _=>exact (show False from r).elim
 | some _=>cases u with
   | none=>exact (show False from r).elim
   | some _=>exact r
theorem KV.val {kvs:List (κ × V)} {vs:List (κ × gV)} (r:KV kvs vs) (k : κ):RelO (bq kvs k) (Jc vs k):=by
 unfold KV at r
 induction r with
 | nil=>exact Fe
 | @cons p q ps qs h t ih =>
  obtain ⟨h1,h2⟩:=h
  by_cases e:p.1=k
  ·have e':q.1=k:=h1.symm.trans e;have b:Jc (q::qs) k=some q.2:=by simp [Jc,Fd,e']
   rw [eW e,b];exact h2
  ·have e' : ¬ q.1=k:=fun z=>e (h1.trans z);have b:Jc (q::qs) k=Jc qs k:=by simp [Jc,Fd,e']
   rw [eX e,b];exact ih
theorem KV.any {kvs:List (κ × V)} {vs:List (κ × gV)} (r:KV kvs vs) (k : κ):(kvs.any fun kv=>decide (kv.1=k))=vs.any fun kv=>decide (kv.1=k):=by
 unfold KV at r
 induction r with
 | nil=>rfl
 | cons h t ih=>rw [Fo,Fo,ih,h.1]
theorem KV.repl {kvs:List (κ × V)} {vs:List (κ × gV)} (r:KV kvs vs) (k : κ) {y:V} {u:gV} (ry:RelV y u) :
 KV (kvs.map fun kv=>if kv.1=k then (kv.1,y) else kv) (vs.map fun kv=>if kv.1=k then (kv.1,u) else kv):=by
 unfold KV at r ⊢
 induction r with
 | nil=>exact .nil
 | @cons p q ps qs h t ih =>
  rw [E6,E6];refine .cons ?_ ih;obtain ⟨h1,h2⟩:=h
  by_cases e:p.1=k
  ·rw [if_pos e,if_pos (h1.symm.trans e)];exact ⟨h1,ry⟩
  ·rw [if_neg e,if_neg (fun z=>e (h1.trans z))];exact ⟨h1,h2⟩
theorem KV.put {kvs:List (κ × V)} {vs:List (κ × gV)} (r:KV kvs vs) (k : κ) {y:V} {u:gV} (ry:RelV y u):KV (bX kvs k y) (stored vs k u):=by
 unfold bX stored;rw [r.any k]
 by_cases e:(vs.any fun kv=>decide (kv.1=k))=true
 ·rw [if_pos e,if_pos e];exact r.repl k ry
 ·rw [if_neg e,if_neg e];exact Paired.snoc r ⟨rfl,ry⟩
theorem KV.drop {kvs:List (κ × V)} {vs:List (κ × gV)} (r:KV kvs vs) (k : κ):KV (bS kvs k) (without vs k):=by
 unfold KV at r ⊢;unfold bS without
 induction r with
 | nil=>exact .nil
 | @cons p q ps qs h t ih =>
  obtain ⟨h1,h2⟩:=h;rw [KW,KW]
  by_cases e:p.1=k
  ·have a : ¬ decide (p.1≠k)=true:=by simp [e]
   have b : ¬ decide (q.1≠k)=true:=by simp [h1.symm.trans e]
   rw [if_neg a,if_neg b];exact ih
  ·have e' : ¬ q.1=k:=fun z=>e (h1.trans z);have a:decide (p.1≠k)=true:=by simp [e]
   have b:decide (q.1≠k)=true:=by simp [e']
   rw [if_pos a,if_pos b];exact .cons ⟨h1,h2⟩ ih
theorem Mx {kvs:List (κ × V)} {vs:List (κ × gV)} (r:KV kvs vs):kvs.map (·.1)=vs.map (·.1):=by
 unfold KV at r
 induction r with
 | nil=>rfl
 | cons h t ih=>rw [E6,E6,ih,h.1]
theorem KV.length {kvs:List (κ × V)} {vs:List (κ × gV)} (r:KV kvs vs):kvs.length=vs.length:=FH r
theorem kN (kvs:List (κ × V)) (k : κ):(bS kvs k).length<=kvs.length:=Gm _ _
end
theorem dP {P:E3} {w:Ep} {k:Key} {u:gV} (r:RelV (kV k) u):(aP P w).is k u=true:=by
 cases k with
 | inl i=>obtain ⟨t,e⟩:=(show ∃ t,u=IK i t from r);subst e;exact nD P w i t
 | inr x=>obtain ⟨t,e⟩:=(show ∃ t,u=IM x t from r);subst e;exact nE P w x t
theorem jG {P:E3} {w:Ep}:∀ {ks:List Key} {us:List gV},Vals (ks.map kV) us->ItemsAre (aP P w) ks us
 | [],_,r=>by rw [Fc] at r;cases r;exact .nil
 | k::ks,_,r=>by
   rw [E6] at r
   cases r with
   | cons h t=>exact .cons (dP h) (jG t)
noncomputable abbrev KT (H:Hp):List (List Key×V)->List (List Key×Addr×gV)->Prop:=EE fun p q=>p.1=q.1/\H q.2.1=some (.tup (p.1.map kV))/\RelV p.2 q.2.2
theorem KT.val {H:Hp} {kvs:List (List Key×V)} {xs:List (List Key×Addr×gV)} (r:KT H kvs xs) (k:List Key):RelO (bq kvs k) ((Ll xs k).map (·.2)):=by
 induction r with
 | nil=>exact Fe
 | @cons p q ps qs h t ih =>
  obtain ⟨h1,_,h2⟩:=h
  by_cases e:p.1=k
  ·have e':q.1=k:=h1.symm.trans e;have b:Ll (q::qs) k=some q.2:=by simp [Ll,Fd,e']
   rw [eW e,b];exact h2
  ·have e' : ¬ q.1=k:=fun z=>e (h1.trans z);have b:Ll (q::qs) k=Ll qs k:=by simp [Ll,Fd,e']
   rw [eX e,b];exact ih
theorem KT.repl {H:Hp} {kvs:List (List Key×V)} {xs:List (List Key×Addr×gV)} (r:KT H kvs xs) (k:List Key) {y:V} {u:gV} (ry:RelV y u) :
 KT H (kvs.map fun kv=>if kv.1=k then (kv.1,y) else kv) (xs.map (putAt k u)):=by
 induction r with
 | nil=>exact .nil
 | @cons p q ps qs h t ih =>
  rw [E6,E6];refine .cons ?_ ih;obtain ⟨h1,h2,j⟩:=h;unfold putAt
  by_cases e:p.1=k
  ·rw [if_pos e,if_pos (h1.symm.trans e)];exact ⟨h1,h2,ry⟩
  ·rw [if_neg e,if_neg (fun z=>e (h1.trans z))];exact ⟨h1,h2,j⟩
theorem KT.put {H:Hp} {kvs:List (List Key×V)} {xs:List (List Key×Addr×gV)} (r:KT H kvs xs) (k:List Key) {b:Addr} {y:V} {u:gV} (j:H b=some (.tup (k.map kV))) (ry:RelV y u) :
 KT H (bX kvs k y) (storedH xs k b u):=by
 have e:(kvs.any fun kv=>decide (kv.1=k))=(Ll xs k).isSome:=by
  rw [kM,(r.val k).isSome_eq,Gr]
 unfold bX storedH;rw [e]
 by_cases q:(Ll xs k).isSome=true
 ·rw [if_pos q,if_pos q];exact r.repl k ry
 ·rw [if_neg q,if_neg q];exact Paired.snoc r ⟨rfl,j,ry⟩
theorem KT.keeps {H H':Hp} {kvs:List (List Key×V)} {xs:List (List Key×Addr×gV)} (r:KT H kvs xs) (j:∀ b ys,H b=some (.tup ys)->H' b=some (.tup ys)):KT H' kvs xs :=
 Mj r fun _ _ z=>⟨z.1,j _ _ z.2.1,z.2.2⟩
section
variable {P:E3} {w:Ep} {H:Hp} {h:Heap} {a:Addr}
theorem vW {u:HO} (ok:HOk P w H h) (e:Rd H a u):ObjOk P w H h a u:=e.ok ok
theorem fW {kvs:List (Key×V)} (ok:HOk P w H h) (e:Rd H a (.dK kvs)):kvs.length<=DL/\(a==EF)=false /\ ∃ vs,KV kvs vs/\h.DictOf (aP P w) a vs :=
 show ObjOk P w H h a (.dK kvs) from vW ok e
theorem iu {kvs:List (Key×V)} (ok:HOk P w H h) (e:H a=some (.dK kvs)):kvs.length<=DL/\(a==EF)=false /\ ∃ vs,KV kvs vs/\h.DictOf (aP P w) a vs:=fW ok (.inl e)
theorem eC {ks:List Key} (ok:HOk P w H h) (e:H a=some (.tup (ks.map kV))):(Ih (aP P w)).is h ks a:=by
 obtain ⟨_,its,r,o,h1,h2,n,j⟩:=(show ObjOk P w H h a (.tup (ks.map kV)) from ok a _ e);exact ⟨o,its.toArray,n,h1,h2,j,by simpa using jG r⟩
theorem fX {kvs:List (List Key×V)} (ok:HOk P w H h) (e:Rd H a (.dT kvs)):kvs.length<=DL/\(a==EF)=false /\
 ∃ xs,KT H kvs xs/\h.DictOfH (Ih (aP P w)) a xs:=by
 obtain ⟨z,y,xs,r,o,es,ep,h1,h2,j,B,F⟩:=(show ObjOk P w H h a (.dT kvs) from vW ok e);refine ⟨z,y,xs,r,o,es,ep,h1,h2,j,B,fun x hx => ?_,F⟩;have all:∀ {l:List (List Key×V)} {m:List (List Key×Addr×gV)},KT H l m -> ∀ x∈m,(Ih (aP P w)).is h x.1 x.2.1:=by
  intro l m q
  induction q with
  | nil=>intro x hx;exact nomatch hx
  | @cons p q ps qs hq t ih =>
   intro x hx
   rcases DT.mp hx with e | hx
   ·subst e;exact eC ok (by rw [<- hq.1];exact hq.2.1)
   ·exact ih x hx
 exact all r x hx
theorem Az {kvs:List (List Key×V)} (ok:HOk P w H h) (e:H a=some (.dT kvs)):kvs.length<=DL/\(a==EF)=false /\
 ∃ xs,KT H kvs xs/\h.DictOfH (Ih (aP P w)) a xs:=fX ok (.inl e)
end
def DGet (H:Hp) (a:Addr) (y:V) (r:Option V):Prop :=
 (∃ kvs k,Rd H a (.dK kvs)/\y=kV k/\r=bq kvs k) ∨ ∃ kvs k b,Rd H a (.dT kvs)/\y = .ref b/\H b=some (.tup (k.map kV))/\r=bq kvs k
def DPut (H:Hp) (a:Addr) (y v:V) (H':Hp):Prop :=
 (∃ kvs k,H a=some (.dK kvs)/\y=kV k/\kvs.length < DL/\H'=upd H a (.dK (bX kvs k v))) ∨
 ∃ kvs k b,H a=some (.dT kvs)/\y = .ref b/\H b=some (.tup (k.map kV))/\kvs.length < DL/\H'=upd H a (.dT (bX kvs k v))
theorem DGet.k {H:Hp} {a:Addr} {kvs:List (Key×V)} {k:Key} (e:H a=some (.dK kvs)):DGet H a (kV k) (bq kvs k) := .inl ⟨kvs,k, .inl e,rfl,rfl⟩
theorem DGet.t {H:Hp} {a b:Addr} {kvs:List (List Key×V)} {k:List Key} (e:H a=some (.dT kvs)) (eb:H b=some (.tup (k.map kV))):DGet H a (.ref b) (bq kvs k) := .inr ⟨kvs,k,b, .inl e,rfl,eb,rfl⟩
theorem DPut.k {H:Hp} {a:Addr} {kvs:List (Key×V)} {k:Key} {v:V} (e:H a=some (.dK kvs)) (j:kvs.length < DL):DPut H a (kV k) v (upd H a (.dK (bX kvs k v))) := .inl ⟨kvs,k,e,rfl,j,rfl⟩
theorem DPut.t {H:Hp} {a b:Addr} {kvs:List (List Key×V)} {k:List Key} {v:V} (e:H a=some (.dT kvs)) (eb:H b=some (.tup (k.map kV))) (j:kvs.length < DL) :
 DPut H a (.ref b) v (upd H a (.dT (bX kvs k v))) := .inr ⟨kvs,k,b,e,rfl,eb,j,rfl⟩
section
variable {X:Cx} {pins:List (Addr×Obj)} {σ:St} {H:Hp} {s:h7} {a:Addr} {y v:V} {u r:gV} {o:Option V} {A:Ew} {E:gV->h7->Prop}
theorem Inv.big (I:Inv X pins σ H s):EF < s.heap.objs.size:=by
 have h:EM < s.heap.objs.size:=(I.mod.glob.keeps I.bk).lt;exact Nat.lt_trans (by decide) h
theorem qR {Q:gV->h7->Prop} (q:A.units+1 < FQ) (I:Inv X pins σ H s) (g:DGet H a y (some v)) (ry:RelV y u) (h:∀ w' s',Inv X pins σ H s'->RelV v w'->Q w' s') :
 DU (model X.prog X.w) A (LD (.ref a) u) Q E s:=by
 rcases g with ⟨kvs,k,e,ey,l⟩ | ⟨kvs,k,b,e,ey,eb,l⟩
 ·subst ey;obtain ⟨z,hd,vs,rel,dd⟩:=fW I.hok e;obtain ⟨w',hw,rw'⟩:=Mo (v:=v) (o:=Jc vs k) (by rw [l];exact rel.val k)
  exact wpAny_getItem_of (dP ry) dd.mapOf hw (h w' _ (I.tok _) rw')
 ·subst ey
  cases (show u=Eo b from ry)
  obtain ⟨z,hd,xs,rel,dd⟩:=fX I.hok e;obtain ⟨w',hw,rw'⟩:=Mo (v:=v) (o:=(Ll xs k).map (·.2)) (by rw [l];exact rel.val k)
  obtain ⟨p,B,j⟩:=Option.map_eq_some_iff.mp hw;refine wpAny_getItem_heap (Gc q) (eC I.hok eb) dd B ?_;rw [j];exact h w' _ (I.tok _) rw'
theorem Bm {Q:gV->h7->Prop} (j:A.units+1 < FQ) (I:Inv X pins σ H s) (g:DGet H a y o) (ry:RelV y u) (h:∀ s',Inv X pins σ H s'->Q (.bool o.isSome) s') :
 DU (model X.prog X.w) A (Eg .In u (.ref a)) Q E s:=by
 rcases g with ⟨kvs,k,e,ey,l⟩ | ⟨kvs,k,b,e,ey,eb,l⟩
 ·subst ey;obtain ⟨z,hd,vs,rel,dd⟩:=fW I.hok e;refine wpAny_in_of (dP ry) hd dd.mapOf ?_;rw [<- (rel.val k).isSome_eq, <- l];exact h _ (I.tok _)
 ·subst ey
  cases (show u=Eo b from ry)
  obtain ⟨z,hd,xs,rel,dd⟩:=fX I.hok e;refine wpAny_in_heap (Gc j) (eC I.hok eb) hd dd ?_;have q:=(rel.val k).isSome_eq;rw [Gr] at q;rw [<- q, <- l];exact h _ (I.tok _)
theorem wQ {Q:gV->h7->Prop} (j:A.units+1 < FQ) (I:Inv X pins σ H s) (g:DGet H a y o) (ry:RelV y u) (h:∀ s',Inv X pins σ H s'->Q (.bool (!o.isSome)) s') :
 DU (model X.prog X.w) A (Eg .NotIn u (.ref a)) Q E s:=by
 rcases g with ⟨kvs,k,e,ey,l⟩ | ⟨kvs,k,b,e,ey,eb,l⟩
 ·subst ey;obtain ⟨z,hd,vs,rel,dd⟩:=fW I.hok e;refine wpAny_notIn_of (dP ry) hd dd.mapOf ?_;rw [<- (rel.val k).isSome_eq, <- l];exact h _ (I.tok _)
 ·subst ey
  cases (show u=Eo b from ry)
  obtain ⟨z,hd,xs,rel,dd⟩:=fX I.hok e;refine wpAny_notIn_heap (Gc j) (eC I.hok eb) hd dd ?_;have q:=(rel.val k).isSome_eq;rw [Gr] at q;rw [<- q, <- l];exact h _ (I.tok _)
theorem fY {h':Heap} {t':Nat} {ob:HO} (I:Inv X pins σ H s) (mu:Mut (H a)) (hs:F9 a s.heap h') (he:∃ q,h'.get? a=some q) (new:ObjOk X.prog X.w (upd H a ob) h' a ob) :
 Inv X pins σ (upd H a ob) { s with heap:=h',toks:=t' } :=
 I.write (x:=a) (e:=a) mu (.inl rfl) (fun b q j z=>(hs.2 b j).trans z) he new
theorem kP {P:E3} {w:Ep} {H':Hp} {h':Heap} {kvs:List (Key×V)} {vs:List (Key×gV)} (z:kvs.length<=DL) (hd:(a==EF)=false) (rel:KV kvs vs) (dd:h'.DictOf (aP P w) a vs) :
 ObjOk P w H' h' a (.dK kvs):=⟨z,hd,vs,rel,dd⟩
theorem qS {H':Hp} {Q:Unit->h7->Prop} (G:A.units+1 < FQ) (I:Inv X pins σ H s) (g:DPut H a y v H') (ry:RelV y u) (rv:RelV v r) (h:∀ s',Inv X pins σ H' s'->Q () s') :
 DU (model X.prog X.w) A (setItem (.ref a) u r) Q E s:=by
 rcases g with ⟨kvs,k,e,ey,l,eH⟩ | ⟨kvs,k,b,e,ey,eb,l,eH⟩
 ·subst ey eH;obtain ⟨z,hd,vs,rel,dd⟩:=iu I.hok e;have B:vs.length<=DL:=by rw [<- rel.length];exact z
  have F:(bX kvs k v).length<=DL:=by have:=gB kvs k v;omega
  refine wpAny_setItem_pairs (hsz:=B) (dP ry) dd fun h' dd' hs=>h _ ?_;have he:∃ q,h'.get? a=some q:=let ⟨q,_,_,j,_⟩:=dd'; ⟨q,j⟩;exact fY I (by rw [e];exact Fe) hs he (kP F hd (rel.put k rv) dd')
 ·subst ey eH
  cases (show u=Eo b from ry)
  obtain ⟨z,hd,xs,rel,dd⟩:=Az I.hok e;have B:xs.length<=DL:=by rw [<- FH rel];exact z
  have F:(bX kvs k v).length<=DL:=by have:=gB kvs k v;omega
  refine wpAny_setItem_heap (hsz:=B) (Gc G) (eC I.hok eb) dd fun h' dd' hs=>h _ ?_;obtain ⟨q,es,ep,j,h2,J,L,_,O⟩:=dd';refine fY I (by rw [e];exact Fe) hs ⟨q,j⟩ ⟨F,hd,_,(rel.put k eb rv).keeps fun c ys ec => ?_,q,es,ep,j,h2,J,L,O⟩
  rw [am (Af ec e (fun z=>nomatch z))];exact ec
end
section
variable {X:Cx} {pins:List (Addr×Obj)} {σ:St} {H:Hp} {s:h7} {a:Addr} {kvs:List (Key×V)} {k:Key} {u:gV} {A:Ew} {E:gV->h7->Prop}
theorem qT {Q:Unit->h7->Prop} (I:Inv X pins σ H s) (e:H a=some (.dK kvs)) (ry:RelV (kV k) u) (l:(bq kvs k).isSome=true) (h:∀ s',Inv X pins σ (upd H a (.dK (bS kvs k))) s'->Q () s') :
 DU (model X.prog X.w) A (delItem (.ref a) u) Q E s:=by
 obtain ⟨z,hd,vs,rel,dd⟩:=iu I.hok e;refine wpAny_delItem_slot dd.typeIs (by decide) Iu
  (I9 Iu dd.typeIs PySem.F.entry_dict_delitem (PySem.F.args_dict_delitem_2 _ _) (meets_dict_delitem_pairs (aP X.prog X.w) a (dP ry)) ⟨vs,dd,by rw [<- rel.length];exact z,by rw [<- (rel.val k).isSome_eq];exact l,fun h' dd' hs=>h _ ?_⟩)
 have he:∃ q,h'.get? a=some q:=let ⟨q,_,_,j,_⟩:=dd'; ⟨q,j⟩;exact fY I (by rw [e];exact Fe) hs he (kP (Ed (kN kvs k) z) hd (rel.drop k) dd')
theorem AA {v:V} {more:List gV} {Q:gV->h7->Prop} (I:Inv X pins σ H s) (e:H a=some (.dK kvs)) (ry:RelV (kV k) u) (l:bq kvs k=some v) (hm:more=[] ∨ ∃ x,more=[x])
 (h:∀ w' s',Inv X pins σ (upd H a (.dK (bS kvs k))) s'->RelV v w'->Q w' s'):DU (model X.prog X.w) A (call (.builtin "dict.pop") (.ref a::u::more)) Q E s:=by
 obtain ⟨z,hd,vs,rel,dd⟩:=iu I.hok e;obtain ⟨w',hw,rw'⟩:=Mo (v:=v) (o:=Jc vs k) (by rw [<- l];exact rel.val k)
 have j:(keyPart u).isSome=true:=by
  cases k with
  | inl i=>obtain ⟨t,q⟩:=(show ∃ t,u=IK i t from ry);subst q;rfl
  | inr x=>obtain ⟨t,q⟩:=(show ∃ t,u=IM x t from ry);subst q;rfl
 have B:argsOk "dict.pop" ⟨.ref a::u::more,[]⟩:=by
  rcases hm with q | ⟨x,q⟩
  ·subst q;exact PySem.F.args_dict_pop_2 _ _
  ·subst q;exact PySem.F.args_dict_pop_3 _ _ _
 refine I9 Jr dd.typeIs PySem.F.entry_dict_pop B (meets_dict_pop_there (aP X.prog X.w) a (dP ry) more hm j)
  ⟨vs,w',dd,by rw [<- rel.length];exact z,hw,fun h' dd' hs=>h w' _ ?_ rw'⟩
 have he:∃ q,h'.get? a=some q:=let ⟨q,_,_,G,_⟩:=dd'; ⟨q,G⟩;exact fY I (by rw [e];exact Fe) hs he (kP (Ed (kN kvs k) z) hd (rel.drop k) dd')
end
noncomputable def AB (td ty:TE):TS:=fun D σ H=>td σ H fun x H1=>ty σ H1 fun y H2 => ∃ a kvs k,x = .ref a/\H2 a=some (.dK kvs)/\y=kV k/\(bq kvs k).isSome=true/\D.nx σ (upd H2 a (.dK (bS kvs k)))
section
variable {X:Cx} {o i e value:Expr} {pos pos' tpos:Pos} {td ty tv:TE}
theorem wR (ho:PE X o td) (hi:PE X i ty):PS X (.Delete [.Subscript o i tpos] pos) (AB td ty):=by
 intro pins s σ H D I h;refine wpAny_Delete (wpAny_deleteEach_cons (wpAny_delete_Subscript (thn (ho pins s σ H _ I h) fun u s1 ⟨x,H1,j,rx,q⟩=>thn (hi pins s1 σ H1 _ j q) fun iv s2 ⟨y,H2,z,ry,a,kvs,k,ex,e,ey,l,B⟩ => ?_)));subst ex ey;obtain rfl:u=Eo a:=rx;exact qT z e ry l fun s3 F=>wpAny_deleteEach_nil ⟨σ,_,F,B⟩
end
theorem ua {P:E3} {w:Ep} {H:Hp} (h:Heap) (j:EF < h.objs.size):ObjOk P w H (h.push { cls := .type "dict",data := .dict #[] }) h.objs.size (.dK []) :=
 ⟨FJ _,beq_eq_false_iff_ne.mpr (Ne.symm (Ec j)),[], .nil,Heap.DictOf.new h⟩
theorem ub {P:E3} {w:Ep} {H:Hp} (h:Heap) (j:EF < h.objs.size):ObjOk P w H (h.push { cls := .type "dict",data := .dict #[] }) h.objs.size (.dT []) :=
 ⟨FJ _,beq_eq_false_iff_ne.mpr (Ne.symm (Ec j)),[], .nil,_, #[],0,DQ _ rfl,⟨rfl,rfl,rfl⟩,rfl,rfl,List.nodup_nil⟩
noncomputable def za:TE:=fun _ H Q => ∀ p,H p=none->Q (.ref p) (upd H p (.dK []))
noncomputable def zb:TE:=fun _ H Q => ∀ p,H p=none->Q (.ref p) (upd H p (.dT []))
section
variable {X:Cx} {pos:Pos}
theorem uc:PE X (.Dict [] [] pos) za:=fun pins s σ H Q I h =>
 KY ⟨.ref s.heap.objs.size,_,I.laid (a:=s.heap.objs.size) (o := .dK []) (t':=s.toks) (fun _ _ q=>i3 _ q) (DP _) (ua s.heap I.big),rfl,h _ (I.hok.fresh (DP _))⟩
theorem ud:PE X (.Dict [] [] pos) zb:=fun pins s σ H Q I h =>
 KY ⟨.ref s.heap.objs.size,_,I.laid (a:=s.heap.objs.size) (o := .dT []) (t':=s.toks) (fun _ _ q=>i3 _ q) (DP _) (ub s.heap I.big),rfl,h _ (I.hok.fresh (DP _))⟩
end
structure M1 (X:Cx) (o:Expr) (m:Str) (apos:Pos) (e:Expr) (cpos:Pos):Prop where
 base:IF o m X.env (eval o X.env)=eval o X.env
 few:((Gu cpos (E4 [e] X.env)).all (fun x => !x.1)&&(LM cpos (JC [] X.env)).all (fun x=>x.1.isSome)
  && decide (([e]:List Expr).length+([]:List I8).length+(if ([]:List I8).isEmpty then 0 else 1) < 30))=true
 line:(apos.endLine==cpos.line)=true
 trees:Gu cpos (E4 [e] X.env)=[(false,eval e X.env)]
structure M2 (X:Cx) (o:Expr) (m:Str) (apos:Pos) (e f:Expr) (cpos:Pos):Prop where
 base:IF o m X.env (eval o X.env)=eval o X.env
 few:((Gu cpos (E4 [e,f] X.env)).all (fun x => !x.1)&&(LM cpos (JC [] X.env)).all (fun x=>x.1.isSome)
  && decide (([e,f]:List Expr).length+([]:List I8).length+(if ([]:List I8).isEmpty then 0 else 1) < 30))=true
 line:(apos.endLine==cpos.line)=true
 trees:Gu cpos (E4 [e,f] X.env)=[(false,eval e X.env),(false,eval f X.env)]
def IsD (H:Hp) (a:Addr):Prop:=(∃ kvs,Rd H a (.dK kvs)) ∨ ∃ kvs,Rd H a (.dT kvs)
theorem iw {X:Cx} {pins:List (Addr×Obj)} {σ:St} {H:Hp} {s:h7} {a:Addr} (I:Inv X pins σ H s) (d:IsD H a) :
 s.TypeIs (.ref a) "dict" /\ (∀ b,Eo a = .ref b -> ∃ ob,s.heap.get? b=some ob/\ob.dict=none)/\(a==EF)=false:=by
 rcases d with ⟨kvs,e⟩ | ⟨kvs,e⟩
 ·obtain ⟨_,hd,vs,_,dd⟩:=fW I.hok e;refine ⟨dd.typeIs,fun b q => ?_,hd⟩
  cases q
  obtain ⟨ob,_,_,h1,h2,_⟩:=dd;exact ⟨ob,h1,h2.2.1⟩
 ·obtain ⟨_,hd,xs,_,dd⟩:=fX I.hok e;refine ⟨dd.typeIs,fun b q => ?_,hd⟩
  cases q
  obtain ⟨ob,_,_,h1,h2,_⟩:=dd;exact ⟨ob,h1,h2.2.1⟩
section
variable {X:Cx} {pins:List (Addr×Obj)} {σ:St} {H:Hp} {s:h7} {a:Addr} {y d:V} {u r:gV} {o:Option V} {A:Ew} {E:gV->h7->Prop}
theorem zc {Q:gV->h7->Prop} (j:A.units+1 < FQ) (I:Inv X pins σ H s) (g:DGet H a y o) (ry:RelV y u) (rd:RelV d r) (h:∀ w' s',Inv X pins σ H s'->RelV (o.getD d) w'->Q w' s') :
 DU (model X.prog X.w) A (call (.builtin "dict.get") [.ref a,u,r]) Q E s:=by
 rcases g with ⟨kvs,k,e,ey,l⟩ | ⟨kvs,k,b,e,ey,eb,l⟩
 ·subst ey;obtain ⟨z,hd,vs,rel,dd⟩:=fW I.hok e;refine I9 Hu dd.typeIs Jd (IS _ _ _) (meets_dict_get_default (aP X.prog X.w) a (dP ry) hd r) ⟨_,dd.mapOf,h _ _ (I.tok _) ?_⟩;rw [l];exact (rel.val k).getD rd
 ·subst ey
  cases (show u=Eo b from ry)
  obtain ⟨z,hd,xs,rel,dd⟩:=fX I.hok e;refine I9 Hu dd.typeIs Jd (IS _ _ _) (meetsH_dict_get_default (Ih (aP X.prog X.w)) a b hd r) ⟨Gc j,k,xs,eC I.hok eb,dd,h _ _ (I.tok _) ?_⟩;rw [l];exact (rel.val k).getD rd
end
noncomputable def zd (td ty tx:TE):TE:=fun σ H Q=>td σ H fun x H1 => ∃ a,x = .ref a/\IsD H1 a/\ty σ H1 fun y H2=>tx σ H2 fun z H3 => ∃ o,DGet H3 a y o/\Q (o.getD z) H3
noncomputable def ze (td ty:TE):TE:=fun σ H Q=>td σ H fun x H1 => ∃ a,x = .ref a/\IsD H1 a/\ty σ H1 fun y H2 => ∃ kvs k v,H2 a=some (.dK kvs)/\y=kV k/\bq kvs k=some v/\Q v (upd H2 a (.dK (bS kvs k)))
section
variable {X:Cx} {o e f:Expr} {apos cpos:Pos} {td ty tx:TE}
theorem ue (q:X.A.units+1 < FQ) (ho:PE X o td) (he:PE X e ty) (hf:PE X f tx) (m:M2 X o "get" apos e f cpos):PE X (.Call (.Attribute o "get" apos) [e,f] [] cpos) (zd td ty tx):=by
 intro pins s σ H Q I h;refine Kw m.base m.few m.line IT Hu PySem.F.type_dict_get (thn (ho pins s σ H _ I h) fun u s1 ⟨x,H1,j,rx,a,ex,d,B⟩ => ?_);subst ex;obtain rfl:u=Eo a:=rx;obtain ⟨t1,G,_⟩:=iw j d;refine ⟨t1,G, ?_⟩;rw [m.trees];refine Hf rfl (HF (GR (thn (he pins s1 σ H1 _ j B) fun iv s2 ⟨y,H2,J,ry,L⟩ =>
  GR (thn (hf pins s2 σ H2 _ J L) fun fv s3 ⟨z,O,U,rz,ov,g,Y⟩=>IA ?_))))
 exact zc q U g ry rz fun w' s4 Z rw'=>⟨_,O,Z,rw',Y⟩
theorem uf (ho:PE X o td) (he:PE X e ty) (m:M1 X o "pop" apos e cpos):PE X (.Call (.Attribute o "pop" apos) [e] [] cpos) (ze td ty):=by
 intro pins s σ H Q I h;refine Kw m.base m.few m.line IT Jr PySem.F.type_dict_pop (thn (ho pins s σ H _ I h) fun u s1 ⟨x,H1,j,rx,a,ex,d,q⟩ => ?_);subst ex;obtain rfl:u=Eo a:=rx;obtain ⟨t1,z,_⟩:=iw j d;refine ⟨t1,z, ?_⟩;rw [m.trees];refine Hf rfl (HF (GR (thn (he pins s1 σ H1 _ j q) fun iv s2 ⟨y,H2,B,ry,kvs,k,v,ea,ey,l,G⟩=>IA ?_)));subst ey;exact AA B ea ry l (.inl rfl) fun w' s3 J rw'=>⟨v,_,J,rw',G⟩
end
end
section
noncomputable def b9 (elt:Expr) (gens:List EA) (scope:Scope) (pos:Pos) (d:Nat) (acc:gV) (env:Env) (k:Sem Fin):Sem Fin :=
 match gens[d+1]? with
 | some g'=>eval g'.iter env >>= fun x=>Iz g'.iter.pos >>= fun _=>Fv g'.iter env x >>= fun x=>holding [x] (Jy x) >>= fun it' =>
    runOwn (.compStart (.ListComp elt gens scope pos) (d+1) it' acc env) env >>= fun _=>k
 | none=>(eval elt env >>= fun x=>call (.builtin "list.append") [acc,x] >>= fun _=>pure ()) >>= fun _=>k
noncomputable def bn (ifs:List Expr) (env:Env):Sem Bool :=
 forIn ifs true fun c r=>if r=true then do let ok <- isTrue c env (eval c env);pure (Gg ok) else pure (Gg r)
theorem kQ (elt target iter:Expr) (ifs:List Expr) (gens:List EA) (scope:Scope) (pos:Pos) (d:Nat) (it acc:gV) (env:Env)
 (hd:gens[d]? = some ⟨target,iter,ifs,0⟩) (j:∀ g',gens[d+1]? = some g'->g'.is_async=0) :
 compTurn (.ListComp elt gens scope pos) d it acc env=(Iz iter.pos >>= fun _=>H9 it >>= fun r=>match r with
  | none=>pure (.done .next)
  | some v=>HM target it v >>= fun _=>assign target env v >>= fun _=>bn ifs env >>= fun ok =>
    (if ok=true then b9 elt gens scope pos d acc env (again (.compLoop (.ListComp elt gens scope pos) d it acc env)) else again (.compLoop (.ListComp elt gens scope pos) d it acc env))):=by
 unfold compTurn;simp only [hd];unfold b9 bn
 cases hn:gens[d+1]? with
 | none=>rfl
 | some g' =>
   obtain ⟨t',i',f',a'⟩:=g';have e:a'=0:=j _ hn;subst e;rfl
noncomputable abbrev TC:=St->Hp->(St->Hp->Prop)->Prop
def ck (J:It) (g:TG) (tb:TC) (N:St->Hp->Prop) (σ:St) (H:Hp):Prop :=
 ∃ W:Nat->Nat->St->Hp->Prop,(∃ m,W 0 m σ H) /\ ∀ i m σ H,W i m σ H ->
  (J.stop i H/\N σ H)∨(J.go i H /\ ∃ N':St->Hp->Prop,(∀ σ' H',N' σ' H' -> ∃ m',m' < m/\W (i+1) m' σ' H') /\ ∀ x H',J.yld i H x H'->g x σ H' fun σ2 H2=>tb σ2 H2 N')
def PB (X:Cx) (F:Sem Fin->Sem Fin) (t:TC):Prop :=
 ∀ (pins:List (Addr×Obj)) (s:h7) (σ:St) (H:Hp) (N:St->Hp->Prop) (k:Sem Fin) (Q:Fin->h7->Prop) (E:gV->h7->Prop),Inv X pins σ H s->t σ H N ->
  (∀ s' σ' H',Inv X pins σ' H' s'->N σ' H'->DU (model X.prog X.w) X.A k Q E s')->DU (model X.prog X.w) X.A (F k) Q E s
section
variable {X:Cx}
theorem nox {α:Type} {m:Sem α} {Q : α -> h7->Prop} {E:gV->h7->Prop} {s:h7} (hx:∀ e s,X.xe e s->False) (h:DU (model X.prog X.w) X.A m Q X.xe s):DU (model X.prog X.w) X.A m Q E s :=
 Fj h (fun _ _ q=>q) fun e s' q=>(hx e s' q).elim
noncomputable def iy (ts:List TT) (tb:TC):TC:=match ts with
 | [] => tb
 | t::r=>fun σ H N=>t σ H fun b H1=>if b=true then iy r tb σ H1 N else N σ H1
theorem iz {env:Env} {M:Hs} {A:Ew} {Q:Bool->h7->Prop} {E:gV->h7->Prop} {s:h7} (h:Q false s):∀ ifs:List Expr,
 DU M A (forIn ifs false fun c r=>if r=true then do let ok <- isTrue c env (eval c env);pure (Gg ok) else pure (Gg r)) Q E s
 | [] => i4 h
 | c::r=>by
   rw [Gh];simp only [EK,if_false];exact g6 (i4 (iz h r))
theorem kR (hx:∀ e s,X.xe e s->False) {tb:TC} {N:St->Hp->Prop}:∀ {ifs:List Expr} {ts:List TT},EE (fun c t=>PT X c t) ifs ts ->
 ∀ (pins:List (Addr×Obj)) (s:h7) (σ:St) (H:Hp) (E:gV->h7->Prop),Inv X pins σ H s->iy ts tb σ H N ->
 DU (model X.prog X.w) X.A (bn ifs X.env) (fun ok s' => ∃ H',Inv X pins σ H' s'/\if ok=true then tb σ H' N else N σ H') E s
 | _,_, .nil=>fun pins s σ H E I h=>i4 ⟨H,I,by rw [if_pos rfl];exact h⟩
 | c::ifs,_, .cons (b:=t) z hr=>by
   intro pins s σ H E I h;have ih:=kR hx hr (tb:=tb) (N:=N) pins;unfold bn at ih ⊢;rw [Gh];simp only [if_true];refine g6 (g6 (nox hx (thn (z pins s σ H _ I h) fun b s1 ⟨H1,q,j⟩=>i4 ?_)))
   cases b with
   | false =>
     rw [if_neg y2] at j;exact iz ⟨H1,q,by rw [if_neg y2];exact j⟩ ifs
   | true =>
     rw [if_pos rfl] at j;exact ih s1 σ H1 E q j
theorem ug (hx:∀ e s,X.xe e s->False) {F:Sem Fin->Sem Fin} {tb:TC} (z:PB X F tb) {ifs:List Expr} {ts:List TT} (B:EE (fun c t=>PT X c t) ifs ts) :
 PB X (fun k=>bn ifs X.env >>= fun ok=>if ok=true then F k else k) (iy ts tb):=by
 intro pins s σ H N k Q E I h hk;refine g6 (thn (kR hx B pins s σ H E I h) fun ok s1 ⟨H1,q,j⟩ => ?_)
 cases ok with
 | false =>
   rw [if_neg y2] at j ⊢;exact hk s1 σ H1 q j
 | true =>
   rw [if_pos rfl] at j ⊢;exact z pins s1 σ H1 N k Q E q j hk
noncomputable def vX (p:Addr) (te:TE):TC:=fun σ H N=>te σ H fun x H1 => ∃ xs,H1 p=some (.lst xs)/\xs.length < DL/\N σ (upd H1 p (.lst (xs++[x])))
theorem jg (hx:∀ e s,X.xe e s->False) {elt:Expr} {gens:List EA} {scope:Scope} {pos:Pos} {d:Nat} {p:Addr} {te:TE} (he:PE X elt te) (hd:gens[d+1]? = none) :
 PB X (b9 elt gens scope pos d (.ref p) X.env) (vX p te):=by
 intro pins s σ H N k Q E I h j;unfold b9;rw [hd];refine g6 (g6 (nox hx (thn (he pins s σ H _ I h) fun u s1 ⟨x,H1,q,z,xs,B,l1,F⟩ => ?_)));refine g6 (nox hx (thn (jE (X:=X) pins s1 σ H1 (.ref p) [x] (.ref p) [u] (fun _ H2=>N σ H2) q rfl (.cons z .nil) ⟨p,xs,x,rfl,rfl,B,l1,F⟩) fun v s2 ⟨_,H2,G,_,J⟩ => ?_));exact i4 (j s2 σ H2 G J)
theorem jH (hx:∀ e s,X.xe e s->False) (Y:X.calm=true) {elt target iter:Expr} {ifs:List Expr} {gens:List EA} {scope:Scope} {pos:Pos} {d:Nat} {acc:gV}
 (hd:gens[d]? = some ⟨target,iter,ifs,0⟩) (ha:∀ g',gens[d+1]? = some g'->g'.is_async=0) {g:TG} (hg:PG X target g) {tb:TC}
 (j:PB X (fun k=>bn ifs X.env >>= fun ok=>if ok=true then b9 elt gens scope pos d acc X.env k else k) tb)
 {pins:List (Addr×Obj)} {s:h7} {σ:St} {H:Hp} {N:St->Hp->Prop} {it:Addr} {fp:List Addr} {tn:Nat->Heap->Prop} {J:It} (I:Inv X pins σ H s) (T:gI X.prog X.w X.K target J fp it tn)
 (t0:tn 0 s.heap) (f2:∀ b∈fp,cj X pins H b) (h:ck J g tb N σ H) :
 I7 (model X.prog X.w) X.A (.compLoop (.ListComp elt gens scope pos) d (.ref it) acc X.env) (fun r s'=>match r with | .ok _ => ∃ σ' H',Inv X pins σ' H' s'/\N σ' H' | .error _=>False) s:=by
 obtain ⟨W,⟨m0,w0⟩,turn⟩:=h;have stat:∀ {H':Hp},(∀ b∈fp,H' b=none) -> ∀ b∈fp,cj X pins H' b:=fun hn b j=>⟨hn b j,(f2 b j).2⟩;refine codeAny_loop rfl (fun n s' => ∃ i σ' H',Inv X pins σ' H' s'/\tn i s'.heap/\(∀ b∈fp,H' b=none)/\W i n σ' H') ?_ m0 ⟨0, σ,H,I,t0,fun b j=>(f2 b j).1,w0⟩;rintro n s3 ⟨i, σ3,F,Z,z,B,w3⟩;show DU _ _ ((compTurn (.ListComp elt gens scope pos) d (.ref it) acc X.env).onRaise (fun x=>do noteFrame x X.env;theTreesLotGoes x)) _ _ s3
 refine wpAny_noted ?_;rw [kQ elt target iter ifs gens scope pos d (.ref it) acc X.env hd ha];refine g6 (Gj (g6 ?_));show DU (model X.prog X.w) X.A _ _ _ s3
 rcases turn i n σ3 F w3 with ⟨stop,qn⟩ | ⟨go,N',hN,step⟩
 ·refine thn (T.done X rfl rfl rfl Y i pins s3 σ3 F _ Z (stat B) z stop) fun r s4 ⟨G,I4⟩ => ?_;subst G;exact i4 ⟨σ3,F,I4,qn⟩
 ·refine thn (T.item X rfl rfl rfl Y i pins s3 σ3 F _ Z (stat B) z go) fun r s4 ⟨u,G,h4⟩ => ?_;subst G;refine g6 (thn h4 fun _ s5 ⟨x,H5,I5,r5,y5,q,L⟩ => ?_);have O:=I5.pinned (stat L) (T.obj _ _ q);refine g6 (nox hx (thn (hg _ s5 σ3 H5 x u _ O r5 (step x H5 y5)) fun _ s6 ⟨σ6,H6,I6,q6⟩ => ?_));refine j _ s6 σ6 H6 N' (again (.compLoop (.ListComp elt gens scope pos) d (.ref it) acc X.env)) _ _ I6 q6 fun s7 σ7 H7 U n7 => ?_;obtain ⟨m',hm,w7⟩:=hN σ7 H7 n7;refine i4 ⟨rfl,m',hm,i+1, σ7,H7,U.unpinned,T.keep _ _ _ q fun b j o e=>(U.pin (b,o) (E1 _ (E1 _ (cS j e)))).1,fun b j => ?_,w7⟩;obtain ⟨o,e,dd⟩:=T.obj _ _ q b j;exact (U.pin (b,o) (E1 _ (E1 _ (cS j e)))).2.1
theorem iA {elt target iter:Expr} {ifs:List Expr} {gens:List EA} {scope:Scope} {pos:Pos} {d:Nat} {it acc:gV} {env:Env} {prog:E3} {w:Ep} {A:Ew} {R:Result->h7->Prop} {s:h7}
 (hd:gens[d]? = some ⟨target,iter,ifs,0⟩)
 (h0:I7 (model prog w) A (.compLoop (.ListComp elt gens scope pos) d it acc env) R s)
 (h:DU (model prog w) A (Jy it) (fun it' s'=>I7 (model prog w) A (.compLoop (.ListComp elt gens scope pos) d it' acc env) R s')
   (notedBy (model prog w) A env fun x s'=>R (.error x) s') s) :
 I7 (model prog w) A (.compStart (.ListComp elt gens scope pos) d it acc env) R s:=by
 refine codeAny_of_tree ?_;show DU _ _ ((compStart (.ListComp elt gens scope pos) d it acc env).onRaise (fun x=>do noteFrame x env;Iz theWindowsPlace)) _ _ s
 refine wpAny_notedAt ?_;unfold compStart;have j:(clausesOf (.ListComp elt gens scope pos))[d]? = some ⟨target,iter,ifs,0⟩:=hd;rw [j];show DU _ _ (ask >>= _) _ _ s;refine g6 (wpAny_askSetting (wpAny_ite ?_))
 split
 ·first
   | exact g6 (i4 (i4 (Hw rfl h0)))
   | exact i4 (Hw rfl h0)
 ·first
   | exact g6 (Fz (g6 (Gj (g6 (Fj h (fun it' s' h'=>i4 (Hw rfl h')) fun _ _ x=>x)))))
   | (refine g6 (Fz ?_);show DU _ _ (Iz iter.pos >>= _) _ _ s;exact g6 (Gj (g6 (Fj h (fun it' s' h'=>i4 (Hw rfl h')) fun _ _ x=>x))))
theorem jI (hx:∀ e s,X.xe e s->False) (z:X.calm=true) {elt target iter:Expr} {ifs:List Expr} {gens:List EA} {scope:Scope} {pos:Pos} {d:Nat} {acc:gV}
 (hd:gens[d+1]? = some ⟨target,iter,ifs,0⟩) (B:∀ g',gens[d+1+1]? = some g'->g'.is_async=0) {wi:TI} (hi:PI X target iter wi) {g:TG} (F:PG X target g) {tb:TC}
 (G:PB X (fun k=>bn ifs X.env >>= fun ok=>if ok=true then b9 elt gens scope pos (d+1) acc X.env k else k) tb)
 (hs:∀ x,Fv iter X.env x=pure x) :
 PB X (b9 elt gens scope pos d acc X.env) (fun σ H N=>wi σ H fun J H1=>ck J g tb N σ H1):=by
 intro pins s σ H N k Q E I h hk;unfold b9;rw [hd];refine g6 (nox hx (thn (hi pins s σ H _ I h) fun v s1 h1 => ?_));refine g6 (Gj (g6 (HH (hs v) ?_)));refine g6 (FI (nox hx (thn h1 fun itv s2 h2 => ?_)));obtain ⟨it,fp,tn,J,H2,e,L,T,j,f2,hw⟩:=h2;subst e;have loop:=jH (acc:=acc) hx z hd B F G L T j f2 hw;refine g6 (wpAny_runOwn (Hc (iA (R:=fun r s'=>match r with | .ok _ => ∃ σ' H',Inv X pins σ' H' s'/\N σ' H' | .error _=>False) hd loop (T.self _ 0 _ _ _ j loop)) fun r s3 q => ?_))
 cases r with
 | error e=>exact q.elim
 | ok f =>
   obtain ⟨σ3,O,U,Y⟩:=q;exact hk s3 σ3 O U Y
noncomputable def b4 (cells:List (Str×Addr)):List (Str×G2)->List (Str×Addr)->List (Str×Addr)
 | [],acc=>acc
 | (n,k)::r,acc=>if k == .free then (match cells.lookup n with | some c=>b4 cells r ((n,c)::acc) | none=>b4 cells r acc) else b4 cells r acc
theorem gC {env:Env}:∀ (names:List (Str×G2)) (acc:List (Str×Addr)),(∀ x∈names,x.2 = .free->(env.cells.lookup x.1).isSome=true) ->
 (forIn names acc fun (x:Str×G2) (r:List (Str×Addr))=>(match x with | (name,kind)=>if (kind==Eh)=true then do let c <- cellOf env name;pure (Gg ((name,c)::r)) else pure (Gg r):Sem (ForInStep (List (Str×Addr)))))=(pure (b4 env.cells names acc):Sem (List (Str×Addr)))
 | [],acc,_=>rfl
 | (n,k)::r,acc,h=>by
  rw [Gh];have ih:=fun acc'=>gC r acc' fun x hx=>h x (E2 _ hx);unfold b4
  by_cases hk:(k==Eh)=true
  ·obtain ⟨c,q⟩:=Fn.mp (h (n,k) Ex (beq_iff_eq.mp hk));have j:env.cells.lookup n=some c:=q;have z:cellOf env n=pure c:=by unfold cellOf;rw [j]
   simp only [hk,if_true,z,j,pure_bind];exact ih _
  ·simp only [hk,if_false,pure_bind];exact ih _
theorem iB {scope:Scope} {env:Env} (h:∀ x∈scope.names,x.2 = .free->(env.cells.lookup x.1).isSome=true):closureFor scope env=pure (b4 env.cells scope.names []):=by
 unfold closureFor;have e:=gC (env:=env) scope.names [] h;simp only [bind_pure];exact e
theorem cU {cells:List (Str×Addr)} {y:Str} {c:Addr}:∀ {names:List (Str×G2)} {acc:List (Str×Addr)},(y,c)∈b4 cells names acc->(y,c)∈acc∨(cells.lookup y=some c/\(y,Eh)∈names)
 | [],acc,h => .inl h
 | (n,k)::r,acc,h=>by
  unfold b4 at h
  by_cases hk:(k==Eh)=true
  ·rw [if_pos hk] at h;have B:k = .free:=beq_iff_eq.mp hk;subst B
   cases F:cells.lookup n with
   | none =>
     rw [F] at h
     rcases cU h with z | ⟨j,q⟩
     ·exact .inl z
     ·exact .inr ⟨j,E2 _ q⟩
   | some c' =>
     rw [F] at h
     rcases cU h with z | ⟨j,q⟩
     ·rcases DT.mp z with e | z
      ·cases e
       exact .inr ⟨F,Ex⟩
      ·exact .inl z
     ·exact .inr ⟨j,E2 _ q⟩
  ·rw [if_neg hk] at h
   rcases cU h with z | ⟨j,q⟩
   ·exact .inl z
   ·exact .inr ⟨j,E2 _ q⟩
theorem cV {cells:List (Str×Addr)} {y:Str} {c:Addr} (j:cells.lookup y=some c):∀ {names:List (Str×G2)} {acc:List (Str×Addr)},((y,c)∈acc∨(y,Eh)∈names)->(y,c)∈b4 cells names acc
 | [],acc,h=>by
  rcases h with h | h
  ·exact h
  ·simp at h
 | (n,k)::r,acc,h=>by
  unfold b4
  by_cases hk:(k==Eh)=true
  ·rw [if_pos hk];have q:k = .free:=beq_iff_eq.mp hk;subst q
   cases hl:cells.lookup n with
   | none =>
     refine cV j ?_
     rcases h with h | h
     ·exact .inl h
     ·rcases DT.mp h with e | h
      ·cases e;rw [hl] at j;cases j
      ·exact .inr h
   | some c' =>
     refine cV j ?_
     rcases h with h | h
     ·exact .inl (E2 _ h)
     ·rcases DT.mp h with e | h
      ·cases e;rw [hl] at j;cases j;exact .inl Ex
      ·exact .inr h
  ·rw [if_neg hk];refine cV j ?_
   rcases h with h | h
   ·exact .inl h
   ·rcases DT.mp h with e | h
    ·cases e;exact absurd rfl hk
    ·exact .inr h
theorem cQ:∀ (names:List (Str×G2)) (n:Nat) (acc acc':List (Str×Addr)),Fw n names (acc++acc')=Fw n names acc++acc'
 | [],_,_,_=>rfl
 | (x,k)::r,n,acc,acc'=>by
  unfold Fw
  by_cases j:(k==Fp)=true
  ·rw [if_pos j,if_pos j];exact cQ r (n+1) ((x,n)::acc) acc'
  ·rw [if_neg j,if_neg j];exact cQ r n acc acc'
theorem cR:∀ {names:List (Str×G2)} {n:Nat} {acc:List (Str×Addr)} {y:Str} {c:Addr},(y,c)∈Fw n names acc->(y,c)∈acc∨(n<=c/\(y,Fp)∈names)
 | [],_,_,_,_,h => .inl h
 | (x,k)::r,n,acc,y,c,h=>by
  unfold Fw at h
  by_cases hk:(k==Fp)=true
  ·rw [if_pos hk] at h;have j:k = .cell:=beq_iff_eq.mp hk;subst j
   rcases cR h with z | ⟨q,B⟩
   ·rcases DT.mp z with e | z
    ·cases e;exact .inr ⟨DP _,Ex⟩
    ·exact .inl z
   ·exact .inr ⟨Nat.le_of_succ_le q,E2 _ B⟩
  ·rw [if_neg hk] at h
   rcases cR h with z | ⟨q,B⟩
   ·exact .inl z
   ·exact .inr ⟨q,E2 _ B⟩
structure ba (sc osc:Scope) (oN N':List Str) (fr:List (Option Nat)):Prop where
 kind:sc.kind = .function
 nd:(sc.names.map (·.1)).Nodup
 ndN:N'.Nodup
 free:∀ x∈sc.names,x.2 = .free->osc.names.lookup x.1=some .cell∨osc.names.lookup x.1=some .free
 len:fr.length=N'.length
 fr:∀ (i j:Nat) (x:Str),N'[i]? = some x->fr[i]? = some (some j)->oN[j]? = some x/\(x,Eh)∈sc.names
noncomputable def inh (fr:List (Option Nat)) (σ:St):St:=fr.map fun o=>o.bind fun j=>(σ[j]?).join
noncomputable def bb (X:Cx) (sc:Scope) (L:Addr):Env :=
 { scope:=relabel sc X.env,locals:=L,globals:=X.env.globals,cells:=Fw (L+1) sc.names (b4 X.env.cells sc.names []),qual:=X.env.qual,func:=none,code:=X.env.code,frame:=X.env.frame,builtins:=X.env.builtins }
noncomputable def aQ (X:Cx) (sc:Scope) (N':List Str) (s:h7) (H:Hp) (fp:List Addr):Cx :=
 { X with N:=N',s₀ := s,H₀ := H,env:=bb X sc s.heap.objs.size,outer:=X.stack,stack:=X.stack,ex:=fp,fn:=fun x=>sc.names.lookup x==some .cell,pn := [],xe:=fun _ _=>False }
theorem b3:∀ {l:List (Str×G2)} {x:Str} {k:G2},(l.map (·.1)).Nodup->(x,k)∈l->l.lookup x=some k
 | (y,k')::r,x,k,nd,h=>by
  have nd':(y::r.map (·.1)).Nodup:=nd;obtain ⟨q,z⟩:=GO.mp nd';rw [FK]
  rcases DT.mp h with e | hm
  ·cases e;simp
  ·have j:(x==y)=false:=by
    refine beq_eq_false_iff_ne.mpr fun e => ?_;subst e;exact q (EO.mpr ⟨(x,k),hm,rfl⟩)
   rw [j];exact b3 z hm
theorem cm {env:Env}:∀ {names:List (Str×G2)} {x:Str},
 (names.map fun (n,k)=>if (k==Eh&&env.scope.kind == .function&&env.kindOf n==some .cell) then (n,Fp) else (n,k)).lookup x =
   (names.lookup x).map fun k=>if (k==Eh&&env.scope.kind == .function&&env.kindOf x==some .cell) then Fp else k
 | [],_=>rfl
 | (n,k)::r,x=>by
  have ih:=cm (env:=env) (names:=r) (x:=x);show List.lookup x ((if (k==Eh&&env.scope.kind == .function&&env.kindOf n==some .cell)=true then (n,Fp) else (n,k))::_)=_
  rw [FK (a:=x) (b:=k)]
  by_cases hx:x=n
  ·subst hx;simp only [beq_self_eq_true];show _=some (if (k==Eh&&env.scope.kind == .function&&env.kindOf x==some .cell)=true then Fp else k)
   by_cases j:(k==Eh&&env.scope.kind == .function&&env.kindOf x==some .cell)=true
   ·rw [if_pos j,if_pos j,FK];simp only [beq_self_eq_true]
   ·rw [if_neg j,if_neg j,FK];simp only [beq_self_eq_true]
  ·have q:(x==n)=false:=beq_eq_false_iff_ne.mpr hx;rw [q]
   by_cases j:(k==Eh&&env.scope.kind == .function&&env.kindOf n==some .cell)=true
   ·rw [if_pos j,FK,q];exact ih
   ·rw [if_neg j,FK,q];exact ih
section
variable {pins:List (Addr×Obj)} {σ:St} {H:Hp} {s:h7} {sc:Scope} {N':List Str} {fr:List (Option Nat)} {fp:List Addr}
theorem fD (I:Inv X pins σ H s) (B:ba sc X.env.scope X.N N' fr):∀ x∈sc.names,x.2 = .free->(X.env.cells.lookup x.1).isSome=true:=fun x hx e=>by
 obtain ⟨c,j⟩:=I.ok.has x.1 (B.free x hx e);rw [j];rfl
theorem qU (I:Inv X pins σ H s) (f2:∀ b∈fp,cj X pins H b) (By:∀ b∈fp,b < s.heap.objs.size) (B:ba sc X.env.scope X.N N' fr) :
 Inv (aQ X sc N' s H fp) [] (inh fr σ) H { s with heap:=KZ (s.heap.push { cls := .type "dict",data := .dict #[] }) sc.names }:=by
 have G:∀ b o,s.heap.get? b=some o->(KZ (s.heap.push { cls := .type "dict",data := .dict #[] }) sc.names).get? b=some o:=fun b o e=>Jo _ _ b o (i3 _ e);have ok:=cellsFrom_ok sc.names (s.heap.push { cls := .type "dict",data := .dict #[] }) (s.heap.objs.size+1) [] ⟨fun _ _ hm=>(nomatch hm),Kv⟩ (by rw [EU];exact DP _)
 rw [EU] at ok;have capp:Fw (s.heap.objs.size+1) sc.names (b4 X.env.cells sc.names [])=Fw (s.heap.objs.size+1) sc.names []++b4 X.env.cells sc.names []:=cQ sc.names _ [] _;have cof:∀ x c,(bb X sc s.heap.objs.size).cells.lookup x=some c->((x,c)∈Fw (s.heap.objs.size+1) sc.names []/\s.heap.objs.size < c)∨(X.env.cells.lookup x=some c/\(x,Eh)∈sc.names):=fun x c e=>by
  have m:=F1 e;have m':(x,c)∈Fw (s.heap.objs.size+1) sc.names (b4 X.env.cells sc.names []):=m;rw [capp] at m'
  rcases E5.mp m' with z | z
  ·exact .inl ⟨z,(ok.empty x c z).2⟩
  ·rcases cU z with q | q
   ·simp at q
   ·exact .inr q
 have cOld:∀ x c,X.env.cells.lookup x=some c->c < s.heap.objs.size:=fun x c e=>by
  obtain ⟨v,q⟩:=I.cell x c e;exact q.lt
 have kindF:∀ x,(x,Eh)∈sc.names->(bb X sc s.heap.objs.size).kindOf x=some .cell∨(bb X sc s.heap.objs.size).kindOf x=some .free:=fun x hx=>by
  have e1:sc.names.lookup x=some .free:=b3 B.nd hx;have O:(bb X sc s.heap.objs.size).kindOf x=_:=cm (env:=X.env) (names:=sc.names) (x:=x);rw [e1] at O;rw [O]
  by_cases J:(Eh==Eh&&X.env.scope.kind == .function&&X.env.kindOf x==some .cell)=true
  ·exact .inl (by simp only [ED,if_pos J])
  ·exact .inr (by simp only [ED,if_neg J])
 have cellF:∀ x c,(x,Eh)∈sc.names->X.env.cells.lookup x=some c->(bb X sc s.heap.objs.size).cells.lookup x=some c:=fun x c hx J=>by
  have m:=cV (acc := []) J (.inr hx);have m2:(x,c)∈(bb X sc s.heap.objs.size).cells:=by
   show (x,c)∈Fw (s.heap.objs.size+1) sc.names (b4 X.env.cells sc.names []);rw [capp];exact E1 _ m
  cases F:(bb X sc s.heap.objs.size).cells.lookup x with
  | none =>
    exfalso
    have:∀ {l:List (Str×Addr)},(x,c)∈l->l.lookup x=none->False:=by
     intro l
     induction l with
     | nil=>intro h;simp at h
     | cons a r ih =>
       intro h e;obtain ⟨y,d⟩:=a;rw [FK] at e
       rcases DT.mp h with z | z
       ·cases z;simp at e
       ·by_cases hxy:(x==y)=true
        ·rw [hxy] at e;cases e
        ·simp only [Hx] at hxy;rw [hxy] at e;exact ih z e
    exact this m2 F
  | some c' =>
    rcases cof x c' F with ⟨z,_⟩ | ⟨z,_⟩
    ·rcases cR z with q | ⟨_,q⟩
     ·simp at q
     ·have a1:=b3 B.nd hx;have a2:=b3 B.nd q;rw [a1] at a2;cases a2
    ·rw [J] at z;rw [z]
 have kindC:∀ x,(bb X sc s.heap.objs.size).kindOf x=some .cell->(x,Fp)∈sc.names∨(x,Eh)∈sc.names:=fun x e=>by
  have O:(bb X sc s.heap.objs.size).kindOf x=_:=cm (env:=X.env) (names:=sc.names) (x:=x);rw [O] at e
  cases F:sc.names.lookup x with
  | none=>rw [F] at e;cases e
  | some k =>
    rw [F] at e;have m:=F1 F
    cases k with
    | cell=>exact .inl m
    | free=>exact .inr m
    | «local» => simp at e
    | globalImplicit=>simp at e
    | globalExplicit=>simp at e
 have kindFr:∀ x,(bb X sc s.heap.objs.size).kindOf x=some .free->(x,Eh)∈sc.names:=fun x e=>by
  have O:(bb X sc s.heap.objs.size).kindOf x=_:=cm (env:=X.env) (names:=sc.names) (x:=x);rw [O] at e
  cases F:sc.names.lookup x with
  | none=>rw [F] at e;cases e
  | some k =>
    rw [F] at e;have m:=F1 F
    cases k with
    | free=>exact m
    | cell=>simp at e
    | «local» => simp at e
    | globalImplicit=>simp at e
    | globalExplicit=>simp at e
 refine ⟨⟨I.ok.mod,B.kind,I.ok.glob,I.ok.blt,DP _,fun y z c h1 h2 => ?_,fun y hy => ?_,fun y c hf h => ?_,I.ok.hd,I.ok.frames, .inl rfl,fun b U=>⟨?_,fun x c e => ?_⟩,fun b o e=>I.bs b o e, ?_,fun b o e U => ?_,fun b U => ?_,I.stack,I.stkFree⟩,
  rfl,I.bare,Un.kept G,⟨_,(Heap.Ns.new s.heap (.type "dict")).keeps (Jo _ _),fun i x v h1 h2 h3 => ?_⟩,fun y c h => ?_,I.hok.fresh (DP _),fun y c h => ?_,fun p hp=>absurd (show p∈([]:List (Addr×Obj)) from hp) (by simp),I.hok.kept G, ?_⟩
 ·rcases cof y c h1 with ⟨a1,a2⟩ | ⟨a1,a2⟩
  ·rcases cof z c h2 with ⟨Z,b2⟩ | ⟨Z,b2⟩
   ·exact name_of_addr ok.apart a1 Z
   ·exact absurd (cOld z c Z) (LO.mpr (Gz a2))
  ·rcases cof z c h2 with ⟨Z,b2⟩ | ⟨Z,b2⟩
   ·exact absurd (cOld y c a1) (LO.mpr (Gz b2))
   ·exact I.ok.inj y z c a1 Z
 ·have BB:(y,Fp)∈sc.names∨(y,Eh)∈sc.names:=by
   rcases hy with hy | hy
   ·exact kindC y hy
   ·exact .inr (kindFr y hy)
  rcases BB with q | q
  ·exact Fn.mp (Hd sc.names _ _ (.inl (b3 B.nd q)))
  ·obtain ⟨c,J⟩:=Fn.mp (fD I B _ q rfl);exact ⟨c,cellF y c q J⟩
 ·have BC:(sc.names.lookup y==some .cell)=true:=hf;have Bz:sc.names.lookup y=some .cell:=by simpa using BC
  rcases cof y c h with ⟨_,a2⟩ | ⟨_,a2⟩
  ·exact Gz a2
  ·rw [b3 B.nd a2] at Bz;cases Bz
 ·exact Ec (By b U)
 ·rcases cof x c e with ⟨_,a2⟩ | ⟨a1,_⟩
  ·exact G9 (Nat.lt_trans (By b U) a2)
  ·exact (f2 b U).2.2.2.2.1 x c a1
 ·exact Ed I.ok.bsz I.sz
 ·obtain ⟨f0,f1,f3,f4,f5,f6⟩:=f2 b U
  rcases f4 with z | z
  ·exact I.ok.noex b o e z
  ·exact absurd (Ee (Ee (DM e) I.ok.bsz) z) (F6 _)
 ·obtain ⟨f0,f1,f3,f4,f5,f6⟩:=f2 b U;exact fun z=>(DT.mp (I.stkSub b z)).elim f1 f3
 ·have hi:∃ j,fr[i]? = some (some j) /\ σ[j]? = some (some v):=by
   unfold inh at h2;rw [Ei] at h2
   cases e:fr[i]? with
   | none=>rw [e] at h2;cases h2
   | some o =>
     rw [e] at h2
     cases o with
     | none=>cases h2
     | some j =>
       refine ⟨j,rfl, ?_⟩;have L:some ((σ[j]?).join)=some (some v):=h2
       cases e' : σ[j]? with
       | none=>rw [e'] at L;cases L
       | some w=>rw [e'] at L;cases L;rfl
  obtain ⟨j,e1,O⟩:=hi;obtain ⟨n1,n2⟩:=B.fr i j x h1 e1;obtain ⟨m,hn,F⟩:=I.loc;have hv:Vis X.env.scope x := .inr (B.free (x, .free) n2 rfl);obtain ⟨u,ru,lk⟩:=F j x v n1 O hv;refine ⟨u,ru, .inr ⟨kindF x n2, ?_⟩⟩
  rcases lk with ⟨k1,_⟩ | ⟨_,c,J,Y⟩
  ·have BA:X.env.scope.names.lookup x=some .local:=k1
   rcases B.free (x, .free) n2 rfl with z | z
   ·rw [BA] at z;cases z
   ·rw [BA] at z;cases z
  ·exact ⟨c,cellF x c n2 J,Y.keeps G⟩
 ·rcases cof y c h with ⟨a1,a2⟩ | ⟨a1,a2⟩
  ·exact ⟨_,(ok.empty y c a1).1⟩
  ·obtain ⟨v,q⟩:=I.cell y c a1;exact ⟨v,q.keeps G⟩
 ·rcases cof y c h with ⟨a1,a2⟩ | ⟨a1,a2⟩
  ·exact I.hok.fresh (Gz a2)
  ·exact I.freeC y c a1
 ·show (inh fr σ).length=N'.length;unfold inh;rw [i5];exact B.len
theorem jJ {σ':St} {H':Hp} {s':h7} {h':Heap} (I:Inv X pins σ H s) (f2:∀ b∈fp,cj X pins H b) (J:Inv (aQ X sc N' s H fp) [] σ' H' s') (hs:F9 s.heap.objs.size s'.heap h') :
 Inv X pins σ H' { s' with heap:=h' }:=by
 have u:Un (frs X.stack) fp H H' s.heap s'.heap:=J.base;have ne:∀ b o,s.heap.get? b=some o->b≠s.heap.objs.size:=fun b o e=>Ec (DM e);refine I.call' (s' := { s' with heap:=h' }) (ch:=fp) J.os ⟨fun b o e n j hx => ?_,fun b o e n j hx => ?_,u.free,fun b o e hx => ?_,u.tups,u.frzs,u.tbls⟩ (fun b v e => ?_) J.bare fun b j => ?_
 ·exact (hs.2 b (ne b o e)).trans (u.keep b o e n j hx)
 ·obtain ⟨sl,q⟩:=u.slot b o e n j hx;exact ⟨sl,(hs.2 b (ne b o e)).trans q⟩
 ·obtain ⟨o',q⟩:=u.there b o e hx;exact ⟨o',(hs.2 b (ne b o e)).trans q⟩
 ·refine (J.hok b v e).stay (fun c w F q=>(hs.2 c ?_).trans q) (fun _ q=>q) fun _ _ q=>q;have fr:H' s.heap.objs.size=none:=J.free
  rcases F with z | z
  ·rw [z];intro B;rw [B,fr] at e;cases e
  ·intro B;rw [B,fr] at z;cases z
 ·obtain ⟨f0,f1,O,f4,G,L⟩:=f2 b j;exact ⟨f4,f1,G,L⟩
theorem ku {Q:Env->h7->Prop} {E:gV->h7->Prop} {M:Hs} {A:Ew}
 (h:Q { scope:=sc,locals:=s.heap.objs.size,globals:=X.env.globals,cells:=Fw (s.heap.objs.size+1) sc.names (b4 X.env.cells sc.names []),qual:=X.env.qual,func:=none,code:=X.env.code,frame:=X.env.frame,builtins:=X.env.builtins }
   { s with heap:=KZ (s.heap.push { cls := .type "dict",data := .dict #[] }) sc.names }) :
 DU M A (JD sc X.env.globals (b4 X.env.cells sc.names []) [] X.env.qual none .none (some X.env)) Q E s:=by
 simp only [JD,Kg,if_true];refine g6 (wpAny_alloc ?_);refine g6 (wpAny_layCells _ (fun name kind cells=>by cases hkc:kind==Fp <;> simp [hkc]) _ _ _ _ ?_)
 rw [show ({ s with heap:=s.heap.push { cls := .type "dict",data := .dict #[] } }:h7).heap.objs.size=s.heap.objs.size+1 from EU ..]
 exact g6 (i4 (i4 h))
theorem kS (hc:X.calm=true) {elt target iter:Expr} {ifs:List Expr} {rest:List EA} {pos:Pos} {E:gV->h7->Prop}
 (hx:∀ e s,X.xe e s->False) (B:ba sc X.env.scope X.N N' fr) (ha:∀ g',rest[0]? = some g'->g'.is_async=0) {wi:TI} (hi:PI X target iter wi) {g:TG} {tb:Addr->TC}
 (hg:∀ s H fp,PG (aQ X sc N' s H fp) target g)
 (j:∀ s H fp p,PB (aQ X sc N' s H fp) (fun k=>bn ifs (aQ X sc N' s H fp).env >>= fun ok=>if ok=true then b9 elt (⟨target,iter,ifs,0⟩::rest) sc pos 0 (.ref p) (aQ X sc N' s H fp).env k else k) (tb p))
 {Nn:Addr->St->Hp->Prop} {RR:gV->Addr->Result->h7->Prop} (I:Inv X pins σ H s)
 (h:wi σ H fun J H1 => ∀ p,H1 p=none->ck J g (tb p) (Nn p) (inh fr σ) (upd H1 p (.lst [])))
 (hR:∀ p fp s3 L s' σ' H' f,Inv X pins σ L s3->(∀ b∈fp,cj X pins L b)->Inv (aQ X sc N' s3 L fp) [] σ' H' s'->Nn p σ' H'->RR (.ref p) s3.heap.objs.size (.ok f) s') :
 DU (model X.prog X.w) X.A (eval iter X.env) (fun x s₁ => DU (model X.prog X.w) X.A (Jy x) (fun it s₂ => DU (model X.prog X.w) X.A (newList []) (fun acc s₃ =>
  DU (model X.prog X.w) X.A (JD sc X.env.globals (b4 X.env.cells sc.names []) [] X.env.qual none .none (some X.env)) (fun cenv s₄ =>
   I7 (model X.prog X.w) X.A (.compStart (.ListComp elt (⟨target,iter,ifs,0⟩::rest) sc pos) 0 it acc { cenv with scope:=relabel sc X.env }) (RR acc cenv.locals) s₄) E s₃) E s₂) E s₁) E s:=by
 refine nox hx (thn (hi pins s σ H _ I h) fun v s1 h1=>nox hx (thn h1 fun itv s2 h2 => ?_));obtain ⟨it,fp,tn,J,H2,e,Z,T,q,f2,hw⟩:=h2;subst e;have hf:H2 s2.heap.objs.size=none:=Z.hok.fresh (DP _);refine IG ?_;have I3:Inv X pins σ (upd H2 s2.heap.objs.size (.lst [])) { s2 with heap:=s2.heap.push { cls := .type "list",dict:=none,data := .seq ([]:List gV).toArray } } :=
  Z.laid (t':=s2.toks) (fun b u e=>i3 _ e) (DP _) ⟨FJ _,[],0, .nil,DQ _ rfl⟩
 have fneq:∀ b∈fp,b≠s2.heap.objs.size:=fun b j z=>by
  obtain ⟨o,e,_⟩:=T.obj _ _ q b j;exact absurd (DM e) (by rw [z];exact F6 _)
 have O:∀ b∈fp,cj X pins (upd H2 s2.heap.objs.size (.lst [])) b:=fun b j=>⟨by rw [am (fneq b j)];exact (f2 b j).1,(f2 b j).2⟩
 have U:∀ b∈fp,b < (s2.heap.push { cls := .type "list",dict:=none,data := .seq ([]:List gV).toArray }).objs.size:=fun b j=>by
  obtain ⟨o,e,_⟩:=T.obj _ _ q b j;rw [EU];exact IB (DM e)
 have Y:tn 0 (s2.heap.push { cls := .type "list",dict:=none,data := .seq ([]:List gV).toArray }):=T.keep _ _ _ q fun b _ o e=>i3 _ e;refine ku ?_;have G:=qU (N':=N') I3 O U B;have F:=T.keep _ (h':=KZ (({ s2 with heap:=s2.heap.push { cls := .type "list",dict:=none,data := .seq ([]:List gV).toArray } }:h7).heap.push { cls := .type "dict",data := .dict #[] }) sc.names) _ Y fun b _ o e=>Jo _ _ b o (i3 _ e)
 have f4:∀ b∈fp,cj (aQ X sc N' { s2 with heap:=s2.heap.push { cls := .type "list",dict:=none,data := .seq ([]:List gV).toArray } } (upd H2 s2.heap.objs.size (.lst [])) fp) [] (upd H2 s2.heap.objs.size (.lst [])) b:=fun b j =>
  ⟨(O b j).1,(G.ok.exf b j).1,G.ok.exfs b j, .inl j,(G.ok.exf b j).2,fun p hp=>absurd (show p∈([]:List (Addr×Obj)) from hp) (by simp)⟩
 have loop:=jH (X:=aQ X sc N' { s2 with heap:=s2.heap.push { cls := .type "list",dict:=none,data := .seq ([]:List gV).toArray } } (upd H2 s2.heap.objs.size (.lst [])) fp) (fun _ _ z=>z) hc
  (elt:=elt) (pos:=pos) (scope:=sc) (gens:=⟨target,iter,ifs,0⟩::rest) (d := 0) (acc := .ref s2.heap.objs.size) rfl (fun g' e=>ha g' (by simpa using e)) (hg _ _ _) (j _ _ _ _) G T F f4 (hw _ hf)
 refine Hc (iA (R:=fun r s'=>match r with | .ok _ => ∃ σ' H',Inv (aQ X sc N' { s2 with heap:=s2.heap.push { cls := .type "list",dict:=none,data := .seq ([]:List gV).toArray } } (upd H2 s2.heap.objs.size (.lst [])) fp) [] σ' H' s'/\Nn s2.heap.objs.size σ' H' | .error _=>False)
  (gens:=⟨target,iter,ifs,0⟩::rest) (d := 0) rfl loop (T.self _ 0 _ _ _ F loop)) fun r s5 hr => ?_
 cases r with
 | error e=>exact hr.elim
 | ok f =>
   obtain ⟨σ5,H5,I5,n5⟩:=hr;exact hR _ fp _ _ s5 σ5 H5 f I3 O I5 n5
noncomputable def pw (wi:TI) (g:TG) (tb:Addr->TC) (fr:List (Option Nat)):TE:=fun σ H Q=>wi σ H fun J H1 => ∀ p,H1 p=none->ck J g (tb p) (fun _ H2=>Q (.ref p) H2) (inh fr σ) (upd H1 p (.lst []))
theorem jK (B:ba sc X.env.scope X.N N' fr):∀ x∈sc.names,x.2 = .local->sc.names.lookup x.1=some .local:=fun x hx e=>by
 obtain ⟨n,k⟩:=x;have e':k = .local:=e;subst e';exact b3 B.nd hx
theorem gD (z:X.calm=true) {elt target iter:Expr} {ifs:List Expr} {rest:List EA} {pos:Pos}
 (hx:∀ e s,X.xe e s->False) (B:ba sc X.env.scope X.N N' fr) (F:∀ g',rest[0]? = some g'->g'.is_async=0) {wi:TI} (hi:PI X target iter wi) {g:TG} {tb:Addr->TC}
 (G:∀ s H fp,PG (aQ X sc N' s H fp) target g)
 (L:∀ s H fp p,PB (aQ X sc N' s H fp) (fun k=>bn ifs (aQ X sc N' s H fp).env >>= fun ok=>if ok=true then b9 elt (⟨target,iter,ifs,0⟩::rest) sc pos 0 (.ref p) (aQ X sc N' s H fp).env k else k) (tb p))
 (hs:∀ x,Fv iter X.env x=pure x) :
 PE X (.ListComp elt (⟨target,iter,ifs,0⟩::rest) sc pos) (pw wi g tb fr):=by
 intro pins s σ H Q I h;rw [eval_ListComp];refine IH (use:=none) rfl hs (iB (fD I B)) B.kind (jK B) (kS (Nn:=fun p _ H2=>Q (.ref p) H2) (RR:=fun acc C=>compPost (model X.prog X.w) X.A X.xe none (EP X pins σ Q) acc C) z hx B F hi G L I h ?_);intro p fp s3 Y s' σ' H' f O U J q;obtain ⟨m,hn,_⟩:=J.loc;exact ⟨m,hn,fun h' j=>⟨.ref p,H',jJ O U J j,rfl,q⟩⟩
theorem iC (hc:X.calm=true) {elt target iter:Expr} {ifs:List Expr} {rest:List EA} {pos pos' spos:Pos} {x:Str} {i:Nat}
 (hx:∀ e s,X.xe e s->False) (B:ba sc X.env.scope X.N N' fr) (ha:∀ g',rest[0]? = some g'->g'.is_async=0) {wi:TI} (hi:PI X target iter wi) {g:TG} {tb:Addr->TC}
 (hg:∀ s H fp,PG (aQ X sc N' s H fp) target g)
 (F:∀ s H fp p,PB (aQ X sc N' s H fp) (fun k=>bn ifs (aQ X sc N' s H fp).env >>= fun ok=>if ok=true then b9 elt (⟨target,iter,ifs,0⟩::rest) sc pos 0 (.ref p) (aQ X sc N' s H fp).env k else k) (tb p))
 (hs:∀ x,Fv iter X.env x=pure x) (G:PG X (.Name x pos') (ik i))
 (L:GY (.ListComp elt (⟨target,iter,ifs,0⟩::rest) sc pos) (some (.Name x pos')) spos.line X.env=pure true) :
 PS X (.Assign [.Name x pos'] (.ListComp elt (⟨target,iter,ifs,0⟩::rest) sc pos) spos) (oT (pw wi g tb fr) (ik i)):=by
 intro pins s σ H D I h;rw [exec_Assign_Name_used _ _ _ _ L];refine g6 (Gj (g6 ?_));show DU _ X.A (do let _ <- comprehension (.ListComp elt (⟨target,iter,ifs,0⟩::rest) sc pos) sc X.env _ (newList []) false (eval iter X.env) (some (assign (.Name x pos') X.env))) _ _ s
 refine g6 (Fj (IH (use:=some (assign (.Name x pos') X.env)) (Q:=fun _ s'=>SP X pins D .next s') rfl hs (iB (fD I B)) B.kind (jK B)
  (kS (Nn:=fun p _ H2=>D.nx (σ.set i (some (.ref p))) H2) (RR:=fun acc C=>compPost (model X.prog X.w) X.A X.xe (some (assign (.Name x pos') X.env)) (fun _ s'=>SP X pins D .next s') acc C) hc hx B ha hi hg F I h ?_)) (fun _ s' hq=>i4 (i4 hq)) fun _ _ e=>e)
 intro p fp s3 H3 s' σ' H' f j f3 J q;obtain ⟨m,⟨o,es,ep,ho,hd,hk,hm⟩,_⟩:=J.loc;have I4:Inv X pins σ H' s':=jJ (h':=s'.heap) j f3 J ⟨rfl,fun _ _=>rfl⟩;have hL:(aQ X sc N' s3 H3 fp).env.locals=s3.heap.objs.size:=rfl;rw [hL] at ho;have O:H' s3.heap.objs.size=none:=J.free;have neL:s3.heap.objs.size≠X.env.locals:=G9 j.lt;have nfs:s3.heap.objs.size∉X.fs:=j.nofs (DP _);have I5:Inv X (pins++[(s3.heap.objs.size,o)]) σ H' s':=I4.pins_of fun pr U=>by
  rcases E5.mp U with z | z
  ·exact I4.pin pr (E1 _ z)
  ·have e:pr=(s3.heap.objs.size,o):=by simpa using z
   subst e;exact ⟨ho,O,neL,nfs,fun v z=>by rw [hd] at z;cases z⟩
 show DU _ X.A (assign (.Name x pos') X.env (.ref p)) _ _ _;refine thn (G _ s' σ H' (.ref p) (.ref p) D.nx I5 rfl q) fun _ s6 ⟨σ6,H6,I6,q6⟩ => ?_;obtain ⟨Y,Z,_⟩:=I6.pin (s3.heap.objs.size,o) (E1 _ (E1 _ (by simp)))
 refine ⟨m,⟨o,es,ep,Y,hd,hk,hm⟩,fun h' By=>⟨σ6,H6, ?_,q6⟩⟩;refine (I6.unpinned).turned (t':=s6.toks) (it:=s3.heap.objs.size) (fun b o F e=>(By.2 b F).trans e) Z neL (.inr j.sz) (fun y c e z => ?_) fun pr U z => ?_
 ·obtain ⟨v,q⟩:=j.cell y c e;exact absurd q.lt (by rw [z];exact F6 _)
 ·exact absurd (DM (j.pin pr U).1) (by rw [z];exact F6 _)
end
end
end
end L2
namespace L2
namespace Zp
open PySem PySem.Spec PyProof.Rows
def At (t:Bool) (h:Heap) (i l:Addr) (k:Nat):Prop:=match t with | true=>h.IsTupleIter i l k | false=>h.IsListIter i l k
def Sq (t:Bool) (h:Heap) (l:Addr) (xs:Array gV):Prop:=match t with | true=>h.IsTuple l xs | false=>h.IsList l xs
theorem At.up {t:Bool} {h h':Heap} {i l:Addr} {k:Nat} (x:At t h i l k) (e:∀ o,h.get? i=some o->h'.get? i=some o):At t h' i l k:=by
 cases t <;> (obtain ⟨o,ho,r⟩:=x;exact ⟨o,e o ho,r⟩)
theorem Sq.up {t:Bool} {h h':Heap} {l:Addr} {xs:Array gV} (x:Sq t h l xs) (e:∀ o,h.get? l=some o->h'.get? l=some o):Sq t h' l xs:=by
 cases t <;> (obtain ⟨o,ho,r⟩:=x;exact ⟨o,e o ho,r⟩)
theorem At.lt {t:Bool} {h:Heap} {i l:Addr} {k:Nat} (x:At t h i l k):∃ o,h.get? i=some o /\ ∀ v,o.data ≠ .cell v:=by
 cases t <;> (obtain ⟨o,ho,j,hd⟩:=x;exact ⟨o,ho,fun v z=>by rw [hd] at z;cases z⟩)
section
variable {prog:E3} {w:Ep} {A:Ew} {E:gV->h7->Prop} {s:h7}
open Builtin.SmallTypes in
theorem uh {i l:Addr} {k:Nat} {xs:Array gV} {x:gV} {Q:gV->h7->Prop} (hi:s.heap.IsTupleIter i l k) (L:s.heap.IsTuple l xs) (hx:xs[k]? = some x)
 (q:∀ h',h'.IsTupleIter i l (k+1)->F9 i s.heap h'->Q x { s with heap:=h' }):DU (model prog w) A (nextOf (.ref i)) Q E s:=by
 obtain ⟨ob,z,B,j⟩:=id hi;obtain ⟨oq,G,_,nq,J⟩:=L;unfold nextOf;refine g6 (Ey (name:=h6 "__next__") hi.typeIs FL (EG FL hi.typeIs Ia ?_ (HQ _)));refine g6 (m:=field (.ref i) 0) (EI z j (x := .ref l) rfl ?_);refine (if_neg (c:=(Eo l==FX)=true) y2) ▸ ?_;refine g6 (m:=field (.ref i) 1) (EI z j (x := .int k 0) rfl ?_);refine g6 (m:=seqItems? (.ref l)) (FN G J ?_);simp only [F4,hx];refine g6 (wpAny_setField z j (by simp) (i4 ⟨x,rfl,i4 (q _ ⟨_,Jq _ z (Obj.isFreed_of_fields (Kh j _)),(Obj.cls_mapFields ..).trans B, ?_⟩ (JX ..))⟩))
 rw [Kh j];simp [J4]
open Builtin.SmallTypes in
theorem wU {i l:Addr} {k:Nat} {xs:Array gV} {Q:gV->h7->Prop} (hn:A.handled=none) (hi:s.heap.IsTupleIter i l k) (J:s.heap.IsTuple l xs) (hx:xs[k]? = none)
 (q:∀ h' e,Lm i s.heap h'->(∃ o,h'.get? e=some o/\o.cls = .type "StopIteration")->E (.ref e) { s with heap:=h' }):DU (model prog w) A (nextOf (.ref i)) Q E s:=by
 obtain ⟨ob,j,L,z⟩:=id hi;obtain ⟨oq,B,_,nq,G⟩:=J;unfold nextOf;refine g6 (Ey (name:=h6 "__next__") hi.typeIs FL (EG FL hi.typeIs Ia ?_ (HQ _)));refine g6 (m:=field (.ref i) 0) (EI j z (x := .ref l) rfl ?_);refine (if_neg (c:=(Eo l==FX)=true) y2) ▸ ?_;refine g6 (m:=field (.ref i) 1) (EI j z (x := .int k 0) rfl ?_);refine g6 (m:=seqItems? (.ref l)) (FN B G ?_);simp only [F4,hx];refine g6 (Fz (g6 (wpAny_setField j z (by simp) ?_)))
 refine g6 (m:=newExc (.type "StopIteration") []) ?_;simp only [newExc,newTuple];refine g6 (Gq ?_ (by size_fits))
 refine g6 (m:=Il _ _) (HH (a:=FX) (by first | rfl | (simp only [Il];rfl)) (Gq ?_ (by size_fits)))
 simp only [raiseNew];refine g6 (wpAny_handled ?_)
 first | rw [show A.in1.handled=none from hn] | rw [hn]
 exact g6 (i4 (wpAny_throw (q _ _ (((JX ..).extBut.push _).push _) ⟨_,DQ _ rfl,rfl⟩)))
open Builtin.SmallTypes in
theorem di {t:Bool} {i l:Addr} {k:Nat} {xs:Array gV} {x:gV} {Q:gV->h7->Prop} (hi:At t s.heap i l k) (j:Sq t s.heap l xs) (hx:xs[k]? = some x)
 (q:∀ h',At t h' i l (k+1)->F9 i s.heap h'->Q x { s with heap:=h' }):DU (model prog w) A (nextOf (.ref i)) Q E s:=by
 cases t with
 | true=>exact uh hi j hx q
 | false=>exact wpAny_nextOf_list_item hi j hx q
open Builtin.SmallTypes in
theorem nx_end {t:Bool} {i l:Addr} {k:Nat} {xs:Array gV} {Q:gV->h7->Prop} (hn:A.handled=none) (hi:At t s.heap i l k) (j:Sq t s.heap l xs) (hx:xs[k]? = none)
 (q:∀ h' e,Lm i s.heap h'->(∃ o,h'.get? e=some o/\o.cls = .type "StopIteration")->E (.ref e) { s with heap:=h' }):DU (model prog w) A (nextOf (.ref i)) Q E s:=by
 cases t with
 | true=>exact wU hn hi j hx q
 | false=>exact wpAny_nextOf_list_end hn hi j hx q
open Builtin.SmallTypes in
theorem zf {z T O i j a b:Addr} {t u:Bool} {k:Nat} {xs ys:Array gV} {x y p r:gV} {Q:gV->h7->Prop} (D:JE z T O i j a b)
 (G:IC s.heap z T O .none) (hT:FZ s.heap T (.ref i) (.ref j)) (hO:FZ s.heap O p r)
 (hi:At t s.heap i a k) (hj:At u s.heap j b k) (ha:Sq t s.heap a xs) (hb:Sq u s.heap b ys) (hx:xs[k]? = some x) (hy:ys[k]? = some y)
 (q:∀ h',IC h' z T O (J4 s.heap.objs.size)->FZ h' O x y->At t h' i a (k+1)->At u h' j b (k+1)->FZ h' s.heap.objs.size x y ->
   (∀ c o,c≠z->c≠O->c≠i->c≠j->s.heap.get? c=some o->h'.get? c=some o)->Q (.ref s.heap.objs.size) { s with heap:=h' }) :
 DU (model prog w) A (G0.«zip.__next__» ⟨[.ref z],[]⟩) (fun fin s' => ∃ v,fin = .done (.ret v)/\Q v s') E s:=by
 refine g6 (m:=field (.ref z) 2) (EI G rfl (x := .bool false) rfl ?_);refine g6 (m:=field (.ref z) 3) (EI G rfl (x := .ref T) rfl ?_);refine g6 (FN hT rfl ?_);refine g6 (m:=ownedTupleIsFree (.ref z)) ?_;unfold ownedTupleIsFree;refine g6 (EI G rfl (x := .none) rfl (i4 ?_));simp only [if_true];refine g6 (Fz (g6 (EI G rfl (x := .ref O) rfl (g6 (Eu G (by simp) fun g1 z1 s1 => ?_)))))
 have Z1:IC g1 z T O .ellipsis:=z1;clear z1;refine g6 ?_;simp only [IU,Lx,Gh,JF];refine g6 (g6 (II (g6 (m:=nextOf (.ref i)) ?_)));refine di (hi.up fun o e=>s1.extBut _ o D.i1z e) (ha.up fun o e=>s1.extBut _ o D.l1z e) hx fun g2 U s2=>i4 ?_;have O2:FZ g2 O p r:=s2.extBut _ _ D.TOi1 (s1.extBut _ _ D.TOz hO);refine g6 (FN O2 rfl (g6 (HI O2 fun g3 o3 s3 => ?_)));have O3:FZ g3 O x r:=o3;clear o3;refine g6 (ID (i4 (g6 (g6 (II (g6 (m:=nextOf (.ref j)) ?_))))));refine di (hj.up fun o e=>s3.extBut _ o D.TOi2.symm (s2.extBut _ o D.i12.symm (s1.extBut _ o D.i2z e))) (hb.up fun o e=>s3.extBut _ o D.l2TO (s2.extBut _ o D.l2i1 (s1.extBut _ o D.l2z e))) hy fun g4 Y s4=>i4 ?_;have O4:FZ g4 O x r:=s4.extBut _ _ D.TOi2 O3;refine g6 (FN O4 rfl (g6 (HI O4 fun B o5 s5 => ?_)));have O5:FZ B O x y:=o5;clear o5;refine g6 (ID (i4 (i4 (g6 (FN O5 rfl (g6 (JG ?_)))))));have sz:B.objs.size=s.heap.objs.size:=by rw [s5.1,s4.1,s3.1,s2.1,s1.1]
 have k5:∀ c o,c≠z->c≠O->c≠i->c≠j->s.heap.get? c=some o->B.get? c=some o:=fun c o F J Z c4 e =>
  s5.extBut _ _ J (s4.extBut _ _ c4 (s3.extBut _ _ J (s2.extBut _ _ Z (s1.extBut _ _ F e))))
 have Z5:IC B z T O .ellipsis:=s5.extBut _ _ D.TOz.symm (s4.extBut _ _ D.i2z.symm (s3.extBut _ _ D.TOz.symm (s2.extBut _ _ D.i1z.symm Z1)));have I5:At t B i a (k+1):=U.up fun o e=>s5.extBut _ o D.TOi1.symm (s4.extBut _ o D.i12 (s3.extBut _ o D.TOi1.symm e));have J5:At u B j b (k+1):=Y.up fun o e=>s5.extBut _ o D.TOi2.symm e;have zl:z < B.objs.size:=DM Z5;refine g6 (m:=ownedTupleHandOut (.ref z) (.ref B.objs.size)) ?_;unfold ownedTupleHandOut;refine g6 (Eu (i3 _ Z5) (by simp) fun g7 z7 s7 => ?_)
 have Z7:IC g7 z T O (J4 B.objs.size):=z7;clear z7;refine Eu Z7 (by simp) fun L z8 s8 => ?_
 have Z8:IC L z T O (J4 B.objs.size):=z8;clear z8;have up:∀ c o,c≠z->B.get? c=some o->L.get? c=some o:=fun c o F e=>s8.extBut _ _ F (s7.extBut _ _ F (i3 _ e));have P8:FZ L B.objs.size x y:=s8.extBut _ _ (G9 zl) (s7.extBut _ _ (G9 zl) (DQ _ rfl));rw [sz] at Z8 P8;refine i4 ⟨_,rfl, ?_⟩;show Q (.ref B.objs.size) _;rw [sz];exact q L Z8 (up _ _ D.TOz O5) (I5.up fun o e=>up _ o D.i1z e) (J5.up fun o e=>up _ o D.i2z e) P8 fun c o F J Z c4 e=>up c o F (k5 c o F J Z c4 e)
open Builtin.SmallTypes in
theorem AC {z T O i j a b:Addr} {t u:Bool} {k:Nat} {xs ys:Array gV} {p r:gV} {Q:Fin->h7->Prop} (hn:A.handled=none) (D:JE z T O i j a b)
 (G:IC s.heap z T O .none) (hT:FZ s.heap T (.ref i) (.ref j)) (hO:FZ s.heap O p r)
 (hi:At t s.heap i a k) (hj:At u s.heap j b k) (ha:Sq t s.heap a xs) (hb:Sq u s.heap b ys) (J:xs[k]? = none∨ys[k]? = none)
 (q:∀ h' e,(∀ c o,c≠z->c≠O->c≠i->c≠j->s.heap.get? c=some o->h'.get? c=some o)->(∃ o,h'.get? e=some o/\o.cls = .type "StopIteration")->E (.ref e) { s with heap:=h' }) :
 DU (model prog w) A (G0.«zip.__next__» ⟨[.ref z],[]⟩) Q E s:=by
 refine g6 (m:=field (.ref z) 2) (EI G rfl (x := .bool false) rfl ?_);refine g6 (m:=field (.ref z) 3) (EI G rfl (x := .ref T) rfl ?_);refine g6 (FN hT rfl ?_);refine g6 (m:=ownedTupleIsFree (.ref z)) ?_;unfold ownedTupleIsFree;refine g6 (EI G rfl (x := .none) rfl (i4 ?_));simp only [if_true];refine g6 (Fz (g6 (EI G rfl (x := .ref O) rfl (g6 (Eu G (by simp) fun g1 z1 s1 => ?_)))))
 have Z1:IC g1 z T O .ellipsis:=z1;clear z1;refine g6 ?_;simp only [IU,Lx,Gh,JF];refine g6 (g6 (II (g6 (m:=nextOf (.ref i)) ?_)));have L:At t g1 i a k:=hi.up fun o e=>s1.extBut _ o D.i1z e;have U:Sq t g1 a xs:=ha.up fun o e=>s1.extBut _ o D.l1z e
 cases hx:xs[k]? with
 | none =>
   refine nx_end hn L U hx fun g2 e s2 he => ?_;obtain ⟨oe,B,F⟩:=he;have Z2:IC g2 z T O .ellipsis:=s2 _ _ D.i1z.symm Z1;have ez:e≠z:=fun x=>by subst x;rw [Z2] at B;cases B;simp at F
   exact Eu Z2 (by simp) fun g3 _ s3=>q g3 e (fun c o Y _ Z _ x=>s3.extBut _ _ Y (s2 _ _ Z (s1.extBut _ _ Y x))) ⟨oe,s3.extBut _ _ ez B,F⟩
 | some x =>
   have hy:ys[k]? = none:=J.elim (fun z=>by rw [hx] at z;cases z) id
   refine di L U hx fun g2 By s2=>i4 ?_;have O2:FZ g2 O p r:=s2.extBut _ _ D.TOi1 (s1.extBut _ _ D.TOz hO);refine g6 (FN O2 rfl (g6 (HI O2 fun g3 o3 s3 => ?_)));refine g6 (ID (i4 (g6 (g6 (II (g6 (m:=nextOf (.ref j)) ?_))))));refine nx_end hn (hj.up fun o e=>s3.extBut _ o D.TOi2.symm (s2.extBut _ o D.i12.symm (s1.extBut _ o D.i2z e))) (hb.up fun o e=>s3.extBut _ o D.l2TO (s2.extBut _ o D.l2i1 (s1.extBut _ o D.l2z e))) hy fun g4 e s4 he => ?_;obtain ⟨oe,B,F⟩:=he;have Z4:IC g4 z T O .ellipsis:=s4 _ _ D.i2z.symm (s3.extBut _ _ D.TOz.symm (s2.extBut _ _ D.i1z.symm Z1));have ez:e≠z:=fun x=>by subst x;rw [Z4] at B;cases B;simp at F
   exact Eu Z4 (by simp) fun g5 _ s5=>q g5 e (fun c o Y c2 Z c4 x=>s5.extBut _ _ Y (s4 _ _ c4 (s3.extBut _ _ c2 (s2.extBut _ _ Z (s1.extBut _ _ Y x))))) ⟨oe,s5.extBut _ _ ez B,F⟩
theorem nxt_item {z T O i j a b:Addr} {t u:Bool} {k:Nat} {xs ys:Array gV} {x y p r:gV} {Q:Option gV->h7->Prop} (D:JE z T O i j a b)
 (B:IC s.heap z T O .none) (G:FZ s.heap T (.ref i) (.ref j)) (J:FZ s.heap O p r)
 (hi:At t s.heap i a k) (L:At u s.heap j b k) (U:Sq t s.heap a xs) (Y:Sq u s.heap b ys) (hx:xs[k]? = some x) (Z:ys[k]? = some y)
 (q:∀ h',IC h' z T O (J4 s.heap.objs.size)->FZ h' O x y->At t h' i a (k+1)->At u h' j b (k+1)->FZ h' s.heap.objs.size x y ->
   (∀ c o,c≠z->c≠O->c≠i->c≠j->s.heap.get? c=some o->h'.get? c=some o)->Q (some (.ref s.heap.objs.size)) { s with heap:=h' }) :
 DU (model prog w) A (H9 (.ref z)) Q E s:=by
 have ty:s.TypeIs (.ref z) "zip" := ⟨_,B,rfl⟩;unfold H9;exact g6 (GK (Ey (name:=h6 "__next__") ty HR (EG HR ty L3
  (zf D B G J hi L U Y hx Z fun h' a1 a2 a3 a4 a5 a6=>i4 (q h' a1 a2 a3 a4 a5 a6)) (Kx _))))
theorem nxt_end {z T O i j a b:Addr} {t u:Bool} {k:Nat} {xs ys:Array gV} {p r:gV} {Q:Option gV->h7->Prop} (hn:A.handled=none) (D:JE z T O i j a b)
 (G:IC s.heap z T O .none) (J:FZ s.heap T (.ref i) (.ref j)) (L:FZ s.heap O p r)
 (hi:At t s.heap i a k) (U:At u s.heap j b k) (Y:Sq t s.heap a xs) (Z:Sq u s.heap b ys) (B:xs[k]? = none∨ys[k]? = none)
 (q:∀ h',(∀ c o,c≠z->c≠O->c≠i->c≠j->s.heap.get? c=some o->h'.get? c=some o)->Q none { s with heap:=h' }):DU (model prog w) A (H9 (.ref z)) Q E s:=by
 have ty:s.TypeIs (.ref z) "zip" := ⟨_,G,rfl⟩;unfold H9;refine g6 (GK (Ey (name:=h6 "__next__") ty HR (EG HR ty L3
  (AC hn D G J L hi U Y Z B fun h' e hk he => ?_) (Kx _))))
 obtain ⟨o,ho,hc⟩:=he;exact g6 (GA (T := "StopIteration") (b:=true) ⟨o,ho,hc⟩ JH (i4 (q _ hk)))
noncomputable def itO (t:Bool) (l:Addr):Obj:=match t with | true => { cls := .type "tuple_iterator",data := .fields #[.ref l, .int 0 0] } | false => { cls := .type "list_iterator",data := .fields #[.ref l, .int 0 0] }
noncomputable def zH1 (h:Heap) (t:Bool) (a:Addr):Heap:=h.push (itO t a)
noncomputable def zH2 (h:Heap) (t u:Bool) (a b:Addr):Heap:=(zH1 h t a).push (itO u b)
noncomputable def zH3 (h:Heap) (t u:Bool) (a b:Addr):Heap:=(zH2 h t u a b).push { cls := .type "tuple",data := .seq #[.ref h.objs.size, .ref (zH1 h t a).objs.size] }
noncomputable def zH4 (h:Heap) (t u:Bool) (a b:Addr):Heap:=(zH3 h t u a b).push { cls := .type "tuple",data := .seq #[.none, .none] }
noncomputable def zH5 (h:Heap) (t u:Bool) (a b:Addr):Heap:=(zH4 h t u a b).push { cls := .type "zip",data := .fields #[.none, .bool false, .bool false, .ref (zH2 h t u a b).objs.size, .ref (zH3 h t u a b).objs.size] }
theorem qV (t u:Bool) (a b:Addr) (xs ys:Array gV) :
 Meets (G0.«zip.__new__» ⟨[.type "zip", .ref a, .ref b],[]⟩) (fun _ R s=>Sq t s.heap a xs/\Sq u s.heap b ys/\R (.ok (.ret (.ref (zH4 s.heap t u a b).objs.size))) { s with heap:=zH5 s.heap t u a b }) :=
 .of_wp fun prog w A R s h=>by
  obtain ⟨j,g,d,tk,os⟩:=s;obtain ⟨B,F,h⟩:=h;have hs:=sub_zip
  cases t <;> cases u
  ·have q:JI (G7 ⟨j,g,d,tk,os⟩) a xs:=B;have z:JI (G7 ⟨j.push { cls := .type "list_iterator",data := .fields #[.ref a, .int 0 0] },g,d,tk,os⟩) b ys:=L4 F _
   wp_walk using Fy q,Fy z
   exact ⟨_,rfl,h⟩
  ·have q:JI (G7 ⟨j,g,d,tk,os⟩) a xs:=B;have z:Ib (G7 ⟨j.push { cls := .type "list_iterator",data := .fields #[.ref a, .int 0 0] },g,d,tk,os⟩) b ys:=Kz F _
   wp_walk using Fy q,EV z
   exact ⟨_,rfl,h⟩
  ·have q:Ib (G7 ⟨j,g,d,tk,os⟩) a xs:=B;have z:JI (G7 ⟨j.push { cls := .type "tuple_iterator",data := .fields #[.ref a, .int 0 0] },g,d,tk,os⟩) b ys:=L4 F _
   wp_walk using EV q,Fy z
   exact ⟨_,rfl,h⟩
  ·have q:Ib (G7 ⟨j,g,d,tk,os⟩) a xs:=B;have z:Ib (G7 ⟨j.push { cls := .type "tuple_iterator",data := .fields #[.ref a, .int 0 0] },g,d,tk,os⟩) b ys:=Kz F _
   wp_walk using EV q,EV z
   exact ⟨_,rfl,h⟩
theorem at_new {t:Bool} {h:Heap} {i l:Addr} (e:h.get? i=some (itO t l)):At t h i l 0:=by
 cases t <;> exact ⟨_,e,rfl,rfl⟩
theorem call_zip {t u:Bool} {a b:Addr} {xs ys:Array gV} {Q:gV->h7->Prop} (ha:Sq t s.heap a xs) (hb:Sq u s.heap b ys)
 (q:∀ h',IC h' (s.heap.objs.size+4) (s.heap.objs.size+2) (s.heap.objs.size+3) .none->FZ h' (s.heap.objs.size+2) (.ref s.heap.objs.size) (.ref (s.heap.objs.size+1)) ->
   FZ h' (s.heap.objs.size+3) .none .none->At t h' s.heap.objs.size a 0->At u h' (s.heap.objs.size+1) b 0->h'.objs.size=s.heap.objs.size+5 ->
   (∀ c o,s.heap.get? c=some o->h'.get? c=some o)->Q (.ref (s.heap.objs.size+4)) { s with heap:=h' }) :
 DU (model prog w) A (call (.type "zip") [.ref a, .ref b]) Q E s:=by
 refine callType_new F.called_zip (by decide) (F.typeCall_zip_2 _ _) (F.newCall_zip_2 _ _) (fun obj=>F.args_object_init_3 obj _ _) F.entry_zip_new (qV t u a b xs ys) ⟨ha,hb, ?_⟩
 have B:(zH1 s.heap t a).objs.size=s.heap.objs.size+1:=EU ..;have G:(zH2 s.heap t u a b).objs.size=s.heap.objs.size+2:=by unfold zH2;rw [EU,B]
 have J:(zH3 s.heap t u a b).objs.size=s.heap.objs.size+3:=by unfold zH3;rw [EU,G]
 have L:(zH4 s.heap t u a b).objs.size=s.heap.objs.size+4:=by unfold zH4;rw [EU,J]
 have z5:(zH5 s.heap t u a b).objs.size=s.heap.objs.size+5:=by unfold zH5;rw [EU,L]
 have j:∀ {c o},(zH4 s.heap t u a b).get? c=some o->(zH5 s.heap t u a b).get? c=some o:=fun e=>i3 _ e;have z:∀ {c o},(zH3 s.heap t u a b).get? c=some o->(zH4 s.heap t u a b).get? c=some o:=fun e=>i3 _ e;have O:∀ {c o},(zH2 s.heap t u a b).get? c=some o->(zH3 s.heap t u a b).get? c=some o:=fun e=>i3 _ e;have Y:∀ {c o},(zH1 s.heap t a).get? c=some o->(zH2 s.heap t u a b).get? c=some o:=fun e=>i3 _ e;have k1:∀ {c o},s.heap.get? c=some o->(zH1 s.heap t a).get? c=some o:=fun e=>i3 _ e;have f:∀ t l,(itO t l).isFreed=false:=fun t l=>by cases t <;> rfl
 have U:(zH5 s.heap t u a b).get? (zH4 s.heap t u a b).objs.size=some _:=DQ _ rfl;have Z:(zH5 s.heap t u a b).get? (zH3 s.heap t u a b).objs.size=some _:=j (DQ _ rfl);have g3:(zH5 s.heap t u a b).get? (zH2 s.heap t u a b).objs.size=some _:=j (z (DQ _ rfl));have g2:(zH5 s.heap t u a b).get? (zH1 s.heap t a).objs.size=some _:=j (z (O (DQ _ (f u b))));have g1:(zH5 s.heap t u a b).get? s.heap.objs.size=some _:=j (z (O (Y (DQ _ (f t a)))));show _/\_;rw [G,J,L] at U;rw [B,G] at g3;rw [J] at Z;rw [B] at g2;rw [L];exact ⟨⟨_,U,rfl⟩,q _ U g3 Z (at_new g1) (at_new g2) z5 fun c o x=>j (z (O (Y (k1 x))))⟩
end
end Zp
end L2
namespace L2
open PySem PySem.Spec PyProof.Rows
section
section
variable {X:Cx} {pins:List (Addr×Obj)} {σ:St} {H:Hp} {s:h7} {h':Heap}
theorem Inv.turnedL {t':Nat} {fp:List Addr} (I:Inv X pins σ H s) (hf:∀ b∈fp,cj X pins H b) (k:∀ b o,b∉fp->s.heap.get? b=some o->h'.get? b=some o):Inv X pins σ H { s with heap:=h',toks:=t' }:=by
 have nit:∀ b u,H b=some u->b∉fp:=fun b u e z=>by rw [(hf b z).1] at e;cases e
 refine I.step (g':=s.gens) (d':=s.drawn) (ch:=fp) (fun b B => ?_) (fun b o _ _ j e _=>k b o j e) (fun b o _ _ j e _=>⟨o.slots,k b o j e⟩) (fun _ _ _ _ n=>n)
  (fun b o j e=>⟨o,k b o j e⟩) (fun _ _ e=>e) (fun _ _ _ e=>e) (fun b ps e=>⟨#[],by rw [e];simp⟩) (fun m hm => ?_) (fun b u e => ?_) I.bare
 ·obtain ⟨_,f1,_,F,f4,G⟩:=hf b B;exact ⟨F,f1,f4,G⟩
 ·obtain ⟨o,es,ep,ho,r⟩:=hm;exact ⟨o,es,ep,k _ o (fun z=>(hf _ z).2.1 rfl) ho,r⟩
 ·refine (I.hok b u e).stay (fun c v j q=>k c v ?_ q) (fun _ q=>q) fun _ _ q=>q
  rcases j with z | z
  ·rw [z];exact nit b u e
  ·exact nit c _ z
end
def SqV (K:Frag) (t:Bool) (H:Hp) (a:Addr) (xs:List V):Prop:=match t with | true=>SqT K H a xs | false=>SqL K H a xs
theorem Inv.sqv {X:Cx} {pins:List (Addr×Obj)} {σ:St} {H:Hp} {s:h7} {t:Bool} {a:Addr} {xs:List V} (I:Inv X pins σ H s) (h:SqV X.K t H a xs):∃ its:List gV,Vals xs its/\Zp.Sq t s.heap a its.toArray:=by
 cases t with
 | true=>obtain ⟨its,r,p,_⟩:=I.tuple h;exact ⟨its,r,p⟩
 | false=>obtain ⟨its,r,p,_⟩:=I.list h;exact ⟨its,r,p.isList⟩
theorem Inv.sqv_inj {X:Cx} {pins:List (Addr×Obj)} {σ:St} {H:Hp} {s:h7} {t:Bool} {a:Addr} {xs ys:List V} (I:Inv X pins σ H s) (h:SqV X.K t H a xs) (h':SqV X.K t H a ys):xs=ys:=by
 cases t with
 | true=>exact I.tuple_inj h h'
 | false=>exact I.list_inj h h'
noncomputable def Itz (K:Frag) (t u:Bool) (a b:Addr):It :=
 ⟨fun i H => ∃ xs ys x y,SqV K t H a xs/\SqV K u H b ys/\xs[i]? = some x/\ys[i]? = some y,
  fun i H v H' => ∃ p x y,H p=none/\v = .ref p/\H'=upd H p (.tup [x,y]) /\ ∀ xs ys,SqV K t H a xs->SqV K u H b ys->xs[i]? = some x/\ys[i]? = some y,
  fun i H => ∃ xs ys,SqV K t H a xs/\SqV K u H b ys/\(xs.length<=i∨ys.length<=i)⟩
theorem ui {P:E3} {w:Ep} {K:Frag} {elts:List Expr} {cx} {pos:Pos} {t u:Bool} {z T O i j a b:Addr} (D:JE z T O i j a b) :
 gI P w K (.Tuple elts cx pos) (Itz K t u a b) [z,T,O,i,j] z (fun k h=>IC h z T O .none/\FZ h T (.ref i) (.ref j)/\(∃ p r,FZ h O p r)/\Zp.At t h i a k/\Zp.At u h j b k) where
 mem:=by simp
 obj:=fun k h ⟨B,F,⟨p,r,G⟩,hi,J⟩ c q=>by
  simp only [DT,Es,or_false] at q
  rcases q with rfl | rfl | rfl | rfl | rfl
  ·exact ⟨_,B,fun v e=>by cases e⟩
  ·exact ⟨_,F,fun v e=>by cases e⟩
  ·exact ⟨_,G,fun v e=>by cases e⟩
  ·exact hi.lt
  ·exact J.lt
 keep:=fun k h h' ⟨B,F,⟨p,r,G⟩,hi,J⟩ kk=>⟨kk z (by simp) _ B,kk T (by simp) _ F,⟨p,r,kk O (by simp) _ G⟩,hi.up fun o e=>kk i (by simp) o e,J.up fun o e=>kk j (by simp) o e⟩
 item:=by
  intro X Y hw Z q k pins s σ H E I hf st hg;subst Y hw Z;obtain ⟨B,F,⟨p,r,G⟩,hi,J⟩:=st;obtain ⟨xs,ys,x,y,qx,qy,ex,ey⟩:=hg;obtain ⟨is,rx,px⟩:=I.sqv qx;obtain ⟨js,ry,py⟩:=I.sqv qy;obtain ⟨ux,By,rux⟩:=rx.get ex;obtain ⟨uy,Bz,ruy⟩:=ry.get ey;refine Zp.nxt_item D B F G hi J px py (by simpa using By) (by simpa using Bz) fun h1 z1 o1 i1 j1 p1 U=>⟨_,rfl, ?_⟩
  refine wpAny_letOwnedTupleGo_zip (s := { s with heap:=h1 }) z1 fun h2 z2 s2 => ?_
  have lt:∀ {c o},s.heap.get? c=some o->c≠s.heap.objs.size:=fun e=>Ec (DM e);have nz:s.heap.objs.size≠z:=(lt B).symm;have BA:∃ o,s.heap.get? i=some o:=hi.lt.imp fun _ h=>h.1;have BB:∃ o,s.heap.get? j=some o:=J.lt.imp fun _ h=>h.1;have up:∀ c o,c≠z->h1.get? c=some o->h2.get? c=some o:=fun c o n e=>s2.extBut _ _ n e;have IL:Inv X pins σ (upd H s.heap.objs.size (.tup [x,y])) { s with heap:=s.heap.push { cls := .type "tuple",data := .seq #[ux,uy] },toks:=s.toks } :=
   I.laid (fun b o e=>i3 _ e) (DP _) ⟨by rw [q7];simp,[ux,uy], .cons rux (.cons ruy .nil),JV _ _⟩
  have fr:∀ c∈[z,T,O,i,j],c≠s.heap.objs.size:=fun c q=>by
   simp only [DT,Es,or_false] at q
   rcases q with rfl | rfl | rfl | rfl | rfl
   ·exact lt B
   ·exact lt F
   ·exact lt G
   ·obtain ⟨o,e⟩:=BA;exact lt e
   ·obtain ⟨o,e⟩:=BB;exact lt e
  have un:∀ c∈[z,T,O,i,j],upd H s.heap.objs.size (.tup [x,y]) c=none:=fun c q=>by
   rw [am (fr c q)];exact (hf c q).1
  have kk:∀ c o,c∉[z,T,O,i,j]->(s.heap.push { cls := .type "tuple",data := .seq #[ux,uy] }).get? c=some o->h2.get? c=some o:=fun c o q e=>by
   simp only [DT,Es,or_false,not_or] at q
   rcases JJ e with ⟨rfl,rfl⟩ | e
   ·exact up _ _ nz p1
   ·exact up _ _ q.1 (U c o q.1 q.2.2.1 q.2.2.2.1 q.2.2.2.2 e)
  have I2:Inv X pins σ (upd H s.heap.objs.size (.tup [x,y])) { s with heap:=h2,toks:=s.toks } :=
   (Inv.turnedL (s := { s with heap:=s.heap.push { cls := .type "tuple",data := .seq #[ux,uy] },toks:=s.toks }) (h':=h2) (t':=s.toks) (fp := [z,T,O,i,j]) IL (fun c q=>⟨un c q,(hf c q).2⟩) kk)
  refine ⟨.ref s.heap.objs.size,_,I2,rfl,⟨_,x,y,I.hok.fresh (DP _),rfl,rfl,fun xs' ys' q1 q2 => ?_⟩,⟨z2,up _ _ D.TIz (U _ _ D.TIz D.TITO D.TIi1 D.TIi2 F),⟨_,_,up _ _ D.TOz o1⟩,i1.up fun o e=>up _ o D.i1z e,j1.up fun o e=>up _ o D.i2z e⟩,un⟩;rw [I.sqv_inj q1 qx,I.sqv_inj q2 qy];exact ⟨ex,ey⟩
 done:=by
  intro X Y hw Z q k pins s σ H E I hf st hg;subst Y hw Z;obtain ⟨B,F,⟨p,r,G⟩,hi,J⟩:=st;obtain ⟨xs,ys,qx,qy,L⟩:=hg;obtain ⟨is,rx,px⟩:=I.sqv qx;obtain ⟨js,ry,py⟩:=I.sqv qy;have lx:=rx.length;have ly:=ry.length;refine Zp.nxt_end (I.ok.hd q) D B F G hi J px py (L.imp (fun e=>by simp;lia) (fun e=>by simp;lia)) fun h1 U=>⟨rfl,I.turnedL (t':=s.toks) hf fun c o q e => ?_⟩
  simp only [DT,Es,or_false,not_or] at q;exact U c o q.1 q.2.2.1 q.2.2.2.1 q.2.2.2.2 e
 self:=fun A k s Q E st h=>L5 st.1 h
section
variable {X:Cx}
noncomputable def Bn (K:Frag) (ta:TA):TI:=fun σ H R=>ta σ H fun vs H1 => ∃ a b t u xs ys,vs=[.ref a, .ref b]/\SqV K t H1 a xs/\SqV K u H1 b ys/\R (Itz K t u a b) H1
theorem zg {elts:List Expr} {cx} {pos p pos':Pos} {a b:Expr} {ta:TA} (G:Gl X "zip") (hm:X.mg "zip" = none) (J:PA X [a,b] ta) (hs:E4 [a,b] X.env=[(false,eval a X.env),(false,eval b X.env)]) (j:E4 [b] X.env=[(false,eval b X.env)]) :
 PI X (.Tuple elts cx pos) (.Call (.Name "zip" p) [a,b] [] pos') (Bn X.K ta):=by
 intro pins s σ H R I h;refine Call_ (eA I G hm (u := .type "zip") (by decide +kernel) (FF (thn (J pos' pins s σ H _ I h) fun us s1 ⟨vs,H1,z,L,O⟩ => ?_) (by rw [hs,j]) (by rw [j];rfl)))
 obtain ⟨a',b',t,u,xs,ys,rfl,qx,qy,q⟩:=O
 cases L with
 | cons r rr =>
   cases rr with
   | cons r' rr =>
     cases rr
     cases r
     cases r'
     obtain ⟨is,rx,px⟩:=z.sqv qx;obtain ⟨js,ry,py⟩:=z.sqv qy;refine Zp.call_zip px py fun h1 B t1 U Y Z sz k1 => ?_;refine L5 B ?_;have la:a' < s1.heap.objs.size:=by cases t <;> (obtain ⟨o,e,_⟩:=px;exact DM e)
     have lb:b' < s1.heap.objs.size:=by cases u <;> (obtain ⟨o,e,_⟩:=py;exact DM e)
     have D:JE (s1.heap.objs.size+4) (s1.heap.objs.size+2) (s1.heap.objs.size+3) s1.heap.objs.size (s1.heap.objs.size+1) a' b':=by constructor <;> (intro e;subst_vars;first | lia | (simp only [Addr] at *;lia))
     refine ⟨_,_,_,_,H1,rfl,z.kept (t':=s1.toks) k1,ui (t:=t) (u:=u) D,⟨B,t1,⟨_,_,U⟩,Y,Z⟩,fun c F => ?_,q⟩;have hle:s1.heap.objs.size<=c:=by
      simp only [DT,Es,or_false] at F
      rcases F with rfl | rfl | rfl | rfl | rfl <;> lia
     exact z.fpOk hle (z.hok.fresh hle)
end
end
end L2
namespace L2
namespace Zp
open PySem PySem.Spec PyProof.Rows
end Zp
open PySem PySem.Spec PyProof.Rows
end L2
namespace L2
namespace En
open PySem PySem.Spec PyProof.Rows
section
variable {prog:E3} {w:Ep} {A:Ew} {E:gV->h7->Prop} {s:h7}
open Builtin.SmallTypes Zp in
theorem zh {z i a:Addr} {t:Bool} {k:Nat} {xs:Array gV} {x old:gV} {Q:gV->h7->Prop} (U:Je s.heap z i k old) (hi:At t s.heap i a k) (ha:Sq t s.heap a xs) (hx:xs[k]? = some x) (j:z≠i)
 (q:∀ h',L6 h' z i ((k:Int)+1) x s.heap.objs.size->At t h' i a (k+1)->h'.get? s.heap.objs.size=some { cls := .type "tuple",data := .seq #[.int k s.toks,x] } ->
   (∀ b o,b≠z->b≠i->s.heap.get? b=some o->h'.get? b=some o)->Q (.ref s.heap.objs.size) { s with heap:=h',toks:=s.toks+1 }) :
 DU (model prog w) A (G0.«enumerate.__next__» ⟨[.ref z],[]⟩) (fun fin s' => ∃ v,fin = .done (.ret v)/\Q v s') E s:=by
 obtain ⟨B,g,d,tk,os⟩:=s;refine g6 (m:=field (.ref z) 2) (EI U rfl (x := .ref i) rfl (g6 (di hi ha hx fun g1 i1 s1 => ?_)));have Y:F9 i B g1:=s1;clear s1;have Z:Je g1 z i k old:=(Y.2 z j).trans U;refine g6 (m:=field (.ref z) 3) (EI (s:=⟨g1,g,d,tk,os⟩) Z rfl (x:=J4 k) rfl ?_);refine g6 (m:=field (.ref z) 4) (EI (s:=⟨g1,g,d,tk,os⟩) Z rfl (x := .none) rfl ?_);refine g6 (m:=mkInt k) (wpAny_mkInt ?_);refine g6 (m:=setField (.ref z) 3 (J4 ((k:Int)+1))) (Eu (s:=⟨g1,g,d,tk+1,os⟩) Z (by simp) fun g2 z2 s2 => ?_)
 have S2:F9 z g1 g2:=s2;have Z2:Je g2 z i ((k:Int)+1) old:=z2;clear s2 z2;refine g6 (m:=setField (.ref z) 4 .none) (Eu (s:=⟨g2,g,d,tk+1,os⟩) Z2 (by simp) fun g3 z3 s3 => ?_)
 have S3:F9 z g2 g3:=s3;have Z3:Je g3 z i ((k:Int)+1) old:=z3;clear s3 z3;refine g6 (m:=newTuple [.int k tk,x]) (JG ?_);have G:Je (g3.push { cls := .type "tuple",data := .seq #[.int k tk,x] }) z i ((k:Int)+1) old:=i3 _ Z3;have sz:g3.objs.size=B.objs.size:=by rw [S3.1,S2.1,Y.1]
 have zl:z < B.objs.size:=DM U;have T4:(g3.push { cls := .type "tuple",data := .seq #[.int k tk,x] }).get? B.objs.size=some { cls := .type "tuple",data := .seq #[.int k tk,x] }:=by rw [<- sz];exact DQ _ rfl
 have K4:∀ b o,b≠z->b≠i->B.get? b=some o->(g3.push { cls := .type "tuple",data := .seq #[.int k tk,x] }).get? b=some o:=fun b o bz bi e =>
  i3 _ (S3.extBut b o bz (S2.extBut b o bz (Y.extBut b o bi e)))
 have I4:At t (g3.push { cls := .type "tuple",data := .seq #[.int k tk,x] }) i a (k+1):=i1.up fun o e=>i3 _ (S3.extBut i o j.symm (S2.extBut i o j.symm e));rw [sz];generalize g3.push { cls := .type "tuple",data := .seq #[.int k tk,x] }=F at G T4 K4 I4;refine g6 (m:=ownedTupleIsFree (.ref z)) ?_;unfold ownedTupleIsFree;refine g6 (EI (s:=⟨F,g,d,tk+1,os⟩) G rfl (x := .none) rfl (i4 ?_));simp only [if_true];refine g6 (Fz (g6 (EI (s:=⟨F,g,d,tk+1,os⟩) G rfl (x:=old) rfl (g6 (Eu (s:=⟨F,g,d,tk+1,os⟩) G (by simp) fun J z5 s5 => ?_)))))
 have S5:F9 z F J:=s5;have Z5:Je J z i ((k:Int)+1) x:=z5;clear s5 z5;refine g6 (m:=ownedTupleHandOut (.ref z) (.ref B.objs.size)) ?_;unfold ownedTupleHandOut;refine g6 (Eu (s:=⟨J,g,d,tk+1,os⟩) Z5 (by simp) fun L z6 s6 => ?_)
 have S6:F9 z J L:=s6;have Z6:L6 L z i ((k:Int)+1) x B.objs.size:=z6;clear s6 z6;refine Eu (s:=⟨L,g,d,tk+1,os⟩) Z6 (by simp) fun O z7 s7 => ?_
 have S7:F9 z L O:=s7;have Z7:L6 O z i ((k:Int)+1) x B.objs.size:=z7;clear s7 z7;have up:∀ b o,b≠z->F.get? b=some o->O.get? b=some o:=fun b o bz e=>S7.extBut b o bz (S6.extBut b o bz (S5.extBut b o bz e));exact g6 (ID (i4 ⟨_,rfl,q O Z7 (I4.up fun o e=>up i o j.symm e) (up _ _ (G9 zl) T4) fun b o bz bi e=>up b o bz (K4 b o bz bi e)⟩))
theorem nxt_item {z i a:Addr} {t:Bool} {k:Nat} {xs:Array gV} {x old:gV} {Q:Option gV->h7->Prop} (B:Je s.heap z i k old) (hi:Zp.At t s.heap i a k) (G:Zp.Sq t s.heap a xs) (hx:xs[k]? = some x) (j:z≠i)
 (q:∀ h',L6 h' z i ((k:Int)+1) x s.heap.objs.size->Zp.At t h' i a (k+1)->h'.get? s.heap.objs.size=some { cls := .type "tuple",data := .seq #[.int k s.toks,x] } ->
   (∀ b o,b≠z->b≠i->s.heap.get? b=some o->h'.get? b=some o)->Q (some (.ref s.heap.objs.size)) { s with heap:=h',toks:=s.toks+1 }) :
 DU (model prog w) A (H9 (.ref z)) Q E s:=by
 have ty:s.TypeIs (.ref z) "enumerate" := ⟨_,B,rfl⟩;unfold H9;exact g6 (GK (Ey (name:=h6 "__next__") ty Gn (EG Gn ty Jf
  (zh B hi G hx j fun h' a1 a2 J L=>i4 (q h' a1 a2 J L)) (IV _))))
theorem nxt_end {z i a:Addr} {t:Bool} {k:Nat} {xs:Array gV} {old:gV} {Q:Option gV->h7->Prop} (hn:A.handled=none) (j:Je s.heap z i k old) (hi:Zp.At t s.heap i a k) (B:Zp.Sq t s.heap a xs) (hx:xs[k]? = none)
 (q:∀ h',Lm i s.heap h'->Q none { s with heap:=h' }):DU (model prog w) A (H9 (.ref z)) Q E s:=by
 have ty:s.TypeIs (.ref z) "enumerate" := ⟨_,j,rfl⟩;unfold H9;refine g6 (GK (Ey (name:=h6 "__next__") ty Gn (EG Gn ty Jf ?_ (IV _))));refine g6 (m:=field (.ref z) 2) (EI j rfl (x := .ref i) rfl (g6 (Zp.nx_end hn hi B hx fun h' x he hs => ?_)));obtain ⟨o,ho,G⟩:=hs;exact g6 (GA (T := "StopIteration") (b:=true) ⟨o,ho,G⟩ JH (i4 (q _ he)))
open AutoSeq1 (wpAny_loadPart') in
theorem wV (l:Addr) (items:Array gV) (n:Nat) (dct:Option Addr) (sl:Array (Option gV)) :
 Meets (G0.«enumerate.__new__» ⟨[.type "enumerate", .ref l],[]⟩) (fun _ R s=>s.heap.get? l=some { cls := .type "tuple",dict:=dct,data := .seq items n,slots:=sl } /\
  R (.ok (.ret (.ref (s.heap.push (Zp.itO true l)).objs.size))) { s with heap:=(s.heap.push (Zp.itO true l)).push { cls := .type "enumerate",data := .fields #[.none, .bool false, .ref s.heap.objs.size,J4 0, .none, .none] } }) :=
 .of_wp fun prog w A R s h=>by
  obtain ⟨B,g,d,tk,os⟩:=s;obtain ⟨j,h⟩:=h;have q:=sub_enumerate;have z:Ib (G7 ⟨B,g,d,tk,os⟩) l items:=⟨_,j,rfl,n,rfl⟩
  wp_walk using Gi j
  refine wpAny_stack_any fun st=>i4 ?_
  split
  ·rename_i c _ _ _ _ _
   cases (c==EN "enumerate") <;> (wp_walk using Gi j,EV z;exact ⟨_,rfl,h⟩)
  ·wp_walk using Gi j,EV z
   exact ⟨_,rfl,h⟩
theorem call_enum {t:Bool} {l:Addr} {items:Array gV} {Q:gV->h7->Prop} (B:Zp.Sq t s.heap l items)
 (q:∀ h',Je h' (s.heap.objs.size+1) s.heap.objs.size 0 .none->Zp.At t h' s.heap.objs.size l 0->(∀ b o,s.heap.get? b=some o->h'.get? b=some o)->Q (.ref (s.heap.objs.size+1)) { s with heap:=h' }) :
 DU (model prog w) A (call (.type "enumerate") [.ref l]) Q E s:=by
 cases t with
 | false=>exact call_enumerate_list B fun h' a b _ k=>q h' a b k
 | true =>
   obtain ⟨⟨c,dct,dt,sl⟩,J,L,n,hd⟩:=B;have j:c = .type "tuple" := L;have z:dt = .seq items n:=hd;subst j z;refine callType_new F.called_enumerate (by decide) (F.typeCall_enumerate_1 _) (F.newCall_enumerate_1 _) (fun obj=>F.args_object_init_2 obj _) F.entry_enumerate_new (wV l items n dct sl) ⟨J, ?_⟩
   have G:(s.heap.push (Zp.itO true l)).objs.size=s.heap.objs.size+1:=EU ..;have e:((s.heap.push (Zp.itO true l)).push { cls := .type "enumerate",data := .fields #[.none, .bool false, .ref s.heap.objs.size,J4 0, .none, .none] }).get? (s.heap.push (Zp.itO true l)).objs.size=some _:=DQ _ rfl;rw [G] at e;show _/\_;rw [G];exact ⟨⟨_,e,rfl⟩,q _ e (Zp.at_new (i3 _ (DQ _ rfl))) fun b o x=>i3 _ (i3 _ x)⟩
end
end En
open PySem PySem.Spec PyProof.Rows
noncomputable def Ite (K:Frag) (t:Bool) (a:Addr):It :=
 ⟨fun i H => ∃ xs x,SqV K t H a xs/\xs[i]? = some x,
  fun i H v H' => ∃ p x,H p=none/\v = .ref p/\H'=upd H p (.tup [.int (i:Nat),x]) /\ ∀ xs,SqV K t H a xs->xs[i]? = some x,
  fun i H => ∃ xs,SqV K t H a xs/\xs.length<=i⟩
theorem qW {P:E3} {w:Ep} {K:Frag} {elts:List Expr} {cx} {pos:Pos} {t:Bool} {z i a:Addr} (B:z≠i) :
 gI P w K (.Tuple elts cx pos) (Ite K t a) [z,i] z (fun k h=>(∃ old,Je h z i k old)/\Zp.At t h i a k) where
 mem:=by simp
 obj:=fun k h ⟨⟨old,q⟩,hi⟩ c j=>by
  simp only [DT,Es,or_false] at j
  rcases j with rfl | rfl
  ·exact ⟨_,q,fun v e=>by cases e⟩
  ·exact hi.lt
 keep:=fun k h h' ⟨⟨old,q⟩,hi⟩ kk=>⟨⟨old,kk z (by simp) _ q⟩,hi.up fun o e=>kk i (by simp) o e⟩
 item:=by
  intro X F hw G j k pins s σ H E I hf st hg;subst F hw G;obtain ⟨⟨old,q⟩,hi⟩:=st;obtain ⟨xs,x,qx,ex⟩:=hg;obtain ⟨is,rx,px⟩:=I.sqv qx;obtain ⟨ux,J,rux⟩:=rx.get ex;refine En.nxt_item q hi px (by simpa using J) B fun h1 Y Z p1 L=>⟨_,rfl, ?_⟩
  refine wpAny_letOwnedTupleGo_enum (s := { s with heap:=h1,toks:=s.toks+1 }) Y fun h2 z2 s2 => ?_
  have lt:∀ {c o},s.heap.get? c=some o->c≠s.heap.objs.size:=fun e=>Ec (DM e);have nz:s.heap.objs.size≠z:=(lt q).symm;have O:∃ o,s.heap.get? i=some o:=hi.lt.imp fun _ h=>h.1;have up:∀ c o,c≠z->h1.get? c=some o->h2.get? c=some o:=fun c o n e=>s2.extBut _ _ n e;have IL:Inv X pins σ (upd H s.heap.objs.size (.tup [.int (k:Nat),x])) { s with heap:=s.heap.push { cls := .type "tuple",data := .seq #[.int k s.toks,ux] },toks:=s.toks+1 } :=
   I.laid (fun b o e=>i3 _ e) (DP _) ⟨by rw [q7];simp,[.int k s.toks,ux], .cons ⟨_,rfl⟩ (.cons rux .nil),JV _ _⟩
  have fr:∀ c∈[z,i],c≠s.heap.objs.size:=fun c j=>by
   simp only [DT,Es,or_false] at j
   rcases j with rfl | rfl
   ·exact lt q
   ·obtain ⟨o,e⟩:=O;exact lt e
  have un:∀ c∈[z,i],upd H s.heap.objs.size (.tup [.int (k:Nat),x]) c=none:=fun c j=>by
   rw [am (fr c j)];exact (hf c j).1
  have kk:∀ c o,c∉[z,i]->(s.heap.push { cls := .type "tuple",data := .seq #[.int k s.toks,ux] }).get? c=some o->h2.get? c=some o:=fun c o j e=>by
   simp only [DT,Es,or_false,not_or] at j
   rcases JJ e with ⟨rfl,rfl⟩ | e
   ·exact up _ _ nz p1
   ·exact up _ _ j.1 (L c o j.1 j.2 e)
  have I2:Inv X pins σ (upd H s.heap.objs.size (.tup [.int (k:Nat),x])) { s with heap:=h2,toks:=s.toks+1 } :=
   Inv.turnedL (s := { s with heap:=s.heap.push { cls := .type "tuple",data := .seq #[.int k s.toks,ux] },toks:=s.toks+1 }) (h':=h2) (t':=s.toks+1) (fp := [z,i]) IL (fun c j=>⟨un c j,(hf c j).2⟩) kk
  refine ⟨.ref s.heap.objs.size,_,I2,rfl,⟨_,x,I.hok.fresh (DP _),rfl,rfl,fun xs' q1 => ?_⟩,⟨⟨ux,by simpa using z2⟩,Z.up fun o e=>up _ o B.symm e⟩,un⟩
  rw [I.sqv_inj q1 qx];exact ex
 done:=by
  intro X F hw G j k pins s σ H E I hf st hg;subst F hw G;obtain ⟨⟨old,q⟩,hi⟩:=st;obtain ⟨xs,qx,U⟩:=hg;obtain ⟨is,rx,px⟩:=I.sqv qx;have lx:=rx.length;refine En.nxt_end (I.ok.hd j) q hi px (by simp;lia) fun h1 L=>⟨rfl,I.turnedL (t':=s.toks) hf fun c o j e => ?_⟩
  simp only [DT,Es,or_false,not_or] at j;exact L c o j.2 e
 self:=fun A k s Q E ⟨⟨old,q⟩,_⟩ h=>KA q h
section
variable {X:Cx}
noncomputable def AD (K:Frag) (ta:TA):TI:=fun σ H R=>ta σ H fun vs H1 => ∃ a t xs,vs=[.ref a]/\SqV K t H1 a xs/\R (Ite K t a) H1
theorem wW {elts:List Expr} {cx} {pos p pos':Pos} {a:Expr} {ta:TA} (F:Gl X "enumerate") (hm:X.mg "enumerate" = none) (G:PA X [a] ta) (hs:E4 [a] X.env=[(false,eval a X.env)]) :
 PI X (.Tuple elts cx pos) (.Call (.Name "enumerate" p) [a] [] pos') (AD X.K ta):=by
 intro pins s σ H R I h;refine Call_ (eA I F hm (u := .type "enumerate") boot_enumerate (FF (thn (G pos' pins s σ H _ I h) fun us s1 ⟨vs,H1,j,J,L⟩ => ?_) hs rfl));obtain ⟨a',t,xs,rfl,qx,q⟩:=L
 cases J with
 | cons r rr =>
   cases rr
   cases r
   obtain ⟨is,rx,px⟩:=j.sqv qx;refine En.call_enum px fun h1 z O U => ?_;refine KA z ?_;refine ⟨_,_,_,_,H1,rfl,j.kept (t':=s1.toks) U,qW (t:=t) (a:=a') (by simp),⟨⟨_,z⟩,O⟩,fun c B => ?_,q⟩
   have hle:s1.heap.objs.size<=c:=by
    simp only [DT,Es,or_false] at B
    rcases B with rfl | rfl <;> lia
   exact j.fpOk hle (j.hok.fresh hle)
end
end L2
namespace L2
namespace Rv
open PySem PySem.Spec PyProof.Rows
section
variable {prog:E3} {w:Ep} {A:Ew} {E:gV->h7->Prop} {s:h7}
theorem aS:typeLookup (.type "list_reverseiterator") "__length_hint__" = pure (some (.builtin "list_reverseiterator.__length_hint__")):=by rw [typeLookup_type,Js];kernel_rfl
end
end Rv
open PySem PySem.Spec PyProof.Rows
end L2
namespace L2
namespace Mi
open PySem PySem.Spec PyProof.Rows
section
inductive D where
 | non | bl (b:Bool) | int (i:Int) | str (x:Str) | tup (ds:List D) | con (ds:List D) | ref (a:Addr) | fn (x:Str)
inductive O where
 | lst (ds:List D)
 | dct (t:Bool) (kvs:List (D×D))
 | fdc (kvs:List (D×D))
noncomputable abbrev Mem:=Addr->Option O
noncomputable def fz:Option O->Bool
 | some (.lst _)=>false
 | some (.dct _ _)=>false
 | _=>true
noncomputable abbrev aq:=List (Option D)
noncomputable def ah (M:Mem) (a:Addr) (o:O):Mem:=fun b=>if b=a then some o else M b
theorem aa {M:Mem} {a:Addr} {o:O}:ah M a o a=some o:=by unfold ah;rw [if_pos rfl]
theorem ag {M:Mem} {a b:Addr} {o:O} (h:b≠a):ah M a o b=M b:=by unfold ah;rw [if_neg h]
def SqF (K:Frag) (H:Hp) (a:Addr) (xs:List V):Prop :=
 (∃ o,H a=some (.frz o (.lst xs))) ∨
  ∃ (o:Obj) (its:Array gV) (n:Nat),K.lookup a=some o/\o.cls = .type "list" /\ o.dict=none/\o.data = .seq its n/\its.size<=DL/\Vals xs its.toList
theorem SqF.sq {K:Frag} {H:Hp} {a:Addr} {xs:List V} (h:SqF K H a xs):SqL K H a xs:=by
 rcases h with ⟨o,h⟩ | h
 ·exact .inl (.inr ⟨o,h⟩)
 ·exact .inr h
noncomputable def fk2:Bool:=true
noncomputable def fk3:Bool:=true
noncomputable def fk:List D->Bool
 | [.int _, .int _, .int _] => true
 | [.tup _,_] => true
 | [.int _,_] => fk2
 | [] => false
 | _=>fk3
def TupR (K:Frag) (H:Hp) (ds:List D) (a:Addr) (vs:List V):Prop:=H a=some (.tup vs)∨(fk ds=false/\SqT K H a vs)
theorem TupR.sq {K:Frag} {H:Hp} {ds:List D} {a:Addr} {vs:List V} (h:TupR K H ds a vs):SqT K H a vs:=h.elim SqT.of (·.2)
mutual
noncomputable def RD (K:Frag) (H:Hp):D->V->Prop
 | .non,v=>v = .non
 | .bl b,v=>v = .bl b
 | .int i,v=>v = .int i
 | .str x,v=>v = .str x
 | .tup ds,v => ∃ a vs,v = .ref a/\TupR K H ds a vs/\RDs K H ds vs
 | .con ds,v => ∃ a vs,v = .ref a/\SqF K H a vs/\RDs K H ds vs
 | .ref a,v=>v = .ref a
 | .fn x,v => ∃ f,v = .ref f/\Hh K EM x=some (some (.ref f))
noncomputable def RDs (K:Frag) (H:Hp):List D->List V->Prop
 | [],vs=>vs=[]
 | d::ds,vs => ∃ v r,vs=v::r/\RD K H d v/\RDs K H ds r
end
structure Stab (H H':Hp):Prop where
 tup:∀ a xs,H a=some (.tup xs)->H' a=some (.tup xs)
 frz:∀ a o u,H a=some (.frz o u)->H' a=some (.frz o u)
theorem Stab.sqT {K:Frag} {H H':Hp} (st:Stab H H') {a:Addr} {xs:List V} (h:SqT K H a xs):SqT K H' a xs:=by
 rcases h with (h | ⟨o,h⟩) | h
 ·exact .inl (.inl (st.tup _ _ h))
 ·exact .inl (.inr ⟨o,st.frz _ _ _ h⟩)
 ·exact .inr h
theorem Stab.sqF {K:Frag} {H H':Hp} (st:Stab H H') {a:Addr} {xs:List V} (h:SqF K H a xs):SqF K H' a xs:=by
 rcases h with ⟨o,h⟩ | h
 ·exact .inl ⟨o,st.frz _ _ _ h⟩
 ·exact .inr h
mutual
theorem RD.mono {K:Frag} {H H':Hp} (st:Stab H H'):∀ {d:D} {v:V},RD K H d v->RD K H' d v
 | .non,_,h=>h
 | .bl _,_,h=>h
 | .int _,_,h=>h
 | .str _,_,h=>h
 | .tup ds,v,h=>by
  unfold RD at h ⊢;obtain ⟨a,vs,e,q,r⟩:=h;exact ⟨a,vs,e,q.imp (st.tup _ _) (fun z=>⟨z.1,st.sqT z.2⟩),RDs.mono st r⟩
 | .con ds,v,h=>by
  unfold RD at h ⊢;obtain ⟨a,vs,e,q,r⟩:=h;exact ⟨a,vs,e,st.sqF q,RDs.mono st r⟩
 | .ref _,_,h=>h
 | .fn _,_,h=>by unfold RD at h ⊢;exact h
theorem RDs.mono {K:Frag} {H H':Hp} (st:Stab H H'):∀ {ds:List D} {vs:List V},RDs K H ds vs->RDs K H' ds vs
 | [],_,h=>h
 | d::ds,vs,h=>by
   unfold RDs at h ⊢;obtain ⟨v,r,e,h1,h2⟩:=h;exact ⟨v,r,e,RD.mono st h1,RDs.mono st h2⟩
end
section
variable {K:Frag} {H H':Hp}
theorem Md {i:Int} {v:V}:RD K H (.int i) v↔v = .int i:=by unfold RD;exact LG
theorem Me {b:Bool} {v:V}:RD K H (.bl b) v↔v = .bl b:=by unfold RD;exact LG
theorem Mm {v:V}:RD K H .non v↔v = .non:=by unfold RD;exact LG
theorem Mh {x:Str} {v:V}:RD K H (.str x) v↔v = .str x:=by unfold RD;exact LG
theorem Mf {a:Addr} {v:V}:RD K H (.ref a) v↔v = .ref a:=by unfold RD;exact LG
theorem Mu {x:Str} {v:V}:RD K H (.fn x) v ↔ ∃ f,v = .ref f/\Hh K EM x=some (some (.ref f)):=by rw [RD]
theorem Mr {ds:List D} {v:V}:RD K H (.tup ds) v ↔ ∃ a vs,v = .ref a/\TupR K H ds a vs/\RDs K H ds vs:=by rw [RD]
theorem Mp {ds:List D} {v:V} (h:∃ a vs,v = .ref a/\H a=some (.tup vs)/\RDs K H ds vs):RD K H (.tup ds) v:=Mr.mpr (let ⟨a,vs,e,h,r⟩:=h; ⟨a,vs,e, .inl h,r⟩)
theorem Ml {ds:List D} {v:V} (h:RD K H (.tup ds) v):∃ a vs,v = .ref a/\SqT K H a vs/\RDs K H ds vs:=let ⟨a,vs,e,h,r⟩:=Mr.mp h; ⟨a,vs,e,h.sq,r⟩
theorem Mw {ds:List D} {v:V} (f:fk ds=true) (h:RD K H (.tup ds) v):∃ a vs,v = .ref a/\H a=some (.tup vs)/\RDs K H ds vs:=let ⟨a,vs,e,h,r⟩:=Mr.mp h; ⟨a,vs,e,h.elim id fun z=>(by rw [f] at z;cases z.1),r⟩
theorem Mk {ds:List D} {v:V}:RD K H (.con ds) v ↔ ∃ a vs,v = .ref a/\SqF K H a vs/\RDs K H ds vs:=by rw [RD]
theorem RDs.nil_iff {vs:List V}:RDs K H [] vs↔vs=[]:=by rw [RDs]
theorem Mg {d:D} {ds:List D} {vs:List V}:RDs K H (d::ds) vs ↔ ∃ v r,vs=v::r/\RD K H d v/\RDs K H ds r:=by rw [RDs]
theorem RDs.nil:RDs K H [] []:=RDs.nil_iff.mpr rfl
theorem RDs.cons {d:D} {ds:List D} {v:V} {vs:List V} (h:RD K H d v) (r:RDs K H ds vs):RDs K H (d::ds) (v::vs):=Mg.mpr ⟨v,vs,rfl,h,r⟩
theorem RDs.length:∀ {ds:List D} {vs:List V},RDs K H ds vs->vs.length=ds.length
 | [],_,h=>by rw [RDs.nil_iff.mp h];rfl
 | d::ds,_,h=>by
   obtain ⟨v,r,rfl,_,h2⟩:=Mg.mp h;simp [RDs.length h2]
theorem RDs.get:∀ {ds:List D} {vs:List V} {i:Nat} {d:D},RDs K H ds vs->ds[i]? = some d -> ∃ v,vs[i]? = some v/\RD K H d v
 | [],_,_,_,_,e=>by simp at e
 | d::ds,_,0,d',h,e=>by
   obtain ⟨v,r,rfl,h1,h2⟩:=Mg.mp h;simp at e;subst e;exact ⟨v,rfl,h1⟩
 | d::ds,_,i+1,d',h,e=>by
   obtain ⟨v,r,rfl,h1,h2⟩:=Mg.mp h;obtain ⟨u,j,q⟩:=RDs.get (i:=i) (d:=d') h2 (by simpa using e)
   exact ⟨u,by simpa using j,q⟩
theorem RDs.getV {ds:List D} {vs:List V} {i:Nat} {v:V} (h:RDs K H ds vs) (e:vs[i]? = some v):∃ d,ds[i]? = some d/\RD K H d v:=by
 have z:=h.length;have hi:i < vs.length:=(DY.mp e).1;obtain ⟨d,hd⟩:∃ d,ds[i]? = some d:=⟨ds[i]'(by lia),D0 (by lia)⟩
 obtain ⟨u,j,q⟩:=h.get hd;rw [e] at j;cases j;exact ⟨d,hd,q⟩
theorem RDs.append:∀ {ds es:List D} {vs us:List V},RDs K H ds vs->RDs K H es us->RDs K H (ds++es) (vs++us)
 | [],_,_,_,h,q=>by rw [RDs.nil_iff.mp h];exact q
 | d::ds,_,_,_,h,q=>by
   obtain ⟨v,r,rfl,h1,h2⟩:=Mg.mp h;exact RDs.cons h1 (RDs.append h2 q)
theorem RDs.take:∀ {ds:List D} {vs:List V} (n:Nat),RDs K H ds vs->RDs K H (ds.take n) (vs.take n)
 | [],_,n,h=>by rw [RDs.nil_iff.mp h];simp;exact RDs.nil
 | _::_,_,0,h=>by simp;exact RDs.nil
 | d::ds,_,n+1,h=>by
   obtain ⟨v,r,rfl,h1,h2⟩:=Mg.mp h;exact RDs.cons h1 (RDs.take n h2)
theorem RDs.drop:∀ {ds:List D} {vs:List V} (n:Nat),RDs K H ds vs->RDs K H (ds.drop n) (vs.drop n)
 | [],_,n,h=>by rw [RDs.nil_iff.mp h];simp;exact RDs.nil
 | d::ds,_,0,h=>h
 | d::ds,_,n+1,h=>by
   obtain ⟨v,r,rfl,h1,h2⟩:=Mg.mp h;exact RDs.drop n h2
theorem RDs.set:∀ {ds:List D} {vs:List V} (n:Nat) {d:D} {v:V},RD K H d v->RDs K H ds vs->RDs K H (ds.set n d) (vs.set n v)
 | [],_,n,_,_,_,h=>by rw [RDs.nil_iff.mp h];exact RDs.nil
 | d::ds,_,0,_,_,q,h=>by
   obtain ⟨v,r,rfl,h1,h2⟩:=Mg.mp h;exact RDs.cons q h2
 | d::ds,_,n+1,_,_,q,h=>by
   obtain ⟨v,r,rfl,h1,h2⟩:=Mg.mp h;exact RDs.cons h1 (RDs.set n q h2)
theorem RDs.reverse {ds:List D} {vs:List V} (h:RDs K H ds vs):RDs K H ds.reverse vs.reverse:=by
 induction ds generalizing vs with
 | nil=>rw [RDs.nil_iff.mp h];exact RDs.nil
 | cons d ds ih =>
   obtain ⟨v,r,rfl,h1,h2⟩:=Mg.mp h;rw [Hg,Hg];exact (ih h2).append (RDs.cons h1 RDs.nil)
theorem RDs.rep {ds:List D} {vs:List V} (h:RDs K H ds vs):∀ k:Nat,RDs K H (DN k ds).flatten (DN k vs).flatten
 | 0=>RDs.nil
 | k+1=>by
   rw [Ez,Ez,Fx,Fx];exact h.append (h.rep k)
theorem RDs.ints:∀ (ns:List Int),RDs K H (ns.map D.int) (ns.map V.int)
 | [] => RDs.nil
 | n::ns=>RDs.cons (Md.mpr rfl) (RDs.ints ns)
end
mutual
noncomputable def D.eqb:D->D->Bool
 | .non, .non=>true
 | .bl a, .bl b=>a==b
 | .int a, .int b=>decide (a=b)
 | .str a, .str b=>decide (a=b)
 | .tup a, .tup b=>D.eqbs a b
 | .con a, .con b=>D.eqbs a b
 | .ref a, .ref b=>decide (a=b)
 | .fn a, .fn b=>decide (a=b)
 | _,_=>false
noncomputable def D.eqbs:List D->List D->Bool
 | [],[] => true
 | a::r,b::s=>D.eqb a b&&D.eqbs r s
 | _,_=>false
end
mutual
theorem Mv:∀ (a b:D),D.eqb a b=true->a=b
 | .non, .non,_=>rfl
 | .bl a, .bl b,h=>by simp [D.eqb] at h;rw [h]
 | .int a, .int b,h=>by simp [D.eqb] at h;rw [h]
 | .str a, .str b,h=>by simp [D.eqb] at h;rw [h]
 | .tup a, .tup b,h=>by simp [D.eqb] at h;rw [Ms a b h]
 | .con a, .con b,h=>by simp [D.eqb] at h;rw [Ms a b h]
 | .ref a, .ref b,h=>by simp [D.eqb] at h;rw [h]
 | .fn a, .fn b,h=>by simp [D.eqb] at h;rw [h]
 | .non, .bl _,h=>by simp [D.eqb] at h
 | .non, .int _,h=>by simp [D.eqb] at h
 | .non, .str _,h=>by simp [D.eqb] at h
 | .non, .tup _,h=>by simp [D.eqb] at h
 | .non, .con _,h=>by simp [D.eqb] at h
 | .non, .ref _,h=>by simp [D.eqb] at h
 | .non, .fn _,h=>by simp [D.eqb] at h
 | .bl _, .non,h=>by simp [D.eqb] at h
 | .bl _, .int _,h=>by simp [D.eqb] at h
 | .bl _, .str _,h=>by simp [D.eqb] at h
 | .bl _, .tup _,h=>by simp [D.eqb] at h
 | .bl _, .con _,h=>by simp [D.eqb] at h
 | .bl _, .ref _,h=>by simp [D.eqb] at h
 | .bl _, .fn _,h=>by simp [D.eqb] at h
 | .int _, .non,h=>by simp [D.eqb] at h
 | .int _, .bl _,h=>by simp [D.eqb] at h
 | .int _, .str _,h=>by simp [D.eqb] at h
 | .int _, .tup _,h=>by simp [D.eqb] at h
 | .int _, .con _,h=>by simp [D.eqb] at h
 | .int _, .ref _,h=>by simp [D.eqb] at h
 | .int _, .fn _,h=>by simp [D.eqb] at h
 | .str _, .non,h=>by simp [D.eqb] at h
 | .str _, .bl _,h=>by simp [D.eqb] at h
 | .str _, .int _,h=>by simp [D.eqb] at h
 | .str _, .tup _,h=>by simp [D.eqb] at h
 | .str _, .con _,h=>by simp [D.eqb] at h
 | .str _, .ref _,h=>by simp [D.eqb] at h
 | .str _, .fn _,h=>by simp [D.eqb] at h
 | .tup _, .non,h=>by simp [D.eqb] at h
 | .tup _, .bl _,h=>by simp [D.eqb] at h
 | .tup _, .int _,h=>by simp [D.eqb] at h
 | .tup _, .str _,h=>by simp [D.eqb] at h
 | .tup _, .con _,h=>by simp [D.eqb] at h
 | .tup _, .ref _,h=>by simp [D.eqb] at h
 | .tup _, .fn _,h=>by simp [D.eqb] at h
 | .con _, .non,h=>by simp [D.eqb] at h
 | .con _, .bl _,h=>by simp [D.eqb] at h
 | .con _, .int _,h=>by simp [D.eqb] at h
 | .con _, .str _,h=>by simp [D.eqb] at h
 | .con _, .tup _,h=>by simp [D.eqb] at h
 | .con _, .ref _,h=>by simp [D.eqb] at h
 | .con _, .fn _,h=>by simp [D.eqb] at h
 | .ref _, .non,h=>by simp [D.eqb] at h
 | .ref _, .bl _,h=>by simp [D.eqb] at h
 | .ref _, .int _,h=>by simp [D.eqb] at h
 | .ref _, .str _,h=>by simp [D.eqb] at h
 | .ref _, .tup _,h=>by simp [D.eqb] at h
 | .ref _, .con _,h=>by simp [D.eqb] at h
 | .ref _, .fn _,h=>by simp [D.eqb] at h
 | .fn _, .non,h=>by simp [D.eqb] at h
 | .fn _, .bl _,h=>by simp [D.eqb] at h
 | .fn _, .int _,h=>by simp [D.eqb] at h
 | .fn _, .str _,h=>by simp [D.eqb] at h
 | .fn _, .tup _,h=>by simp [D.eqb] at h
 | .fn _, .con _,h=>by simp [D.eqb] at h
 | .fn _, .ref _,h=>by simp [D.eqb] at h
theorem Ms:∀ (a b:List D),D.eqbs a b=true->a=b
 | [],[],_=>rfl
 | a::r,b::s,h=>by
   simp [D.eqbs] at h;rw [Mv a b h.1,Ms r s h.2]
 | [],_::_,h=>by simp [D.eqbs] at h
 | _::_,[],h=>by simp [D.eqbs] at h
end
mutual
theorem Mt:∀ (a:D),D.eqb a a=true
 | .non=>rfl
 | .bl _=>by simp [D.eqb]
 | .int _=>by simp [D.eqb]
 | .str _=>by simp [D.eqb]
 | .tup a=>by simp [D.eqb,Mq a]
 | .con a=>by simp [D.eqb,Mq a]
 | .ref _=>by simp [D.eqb]
 | .fn _=>by simp [D.eqb]
theorem Mq:∀ (a:List D),D.eqbs a a=true
 | [] => rfl
 | a::r=>by simp [D.eqbs,Mt a,Mq r]
end
noncomputable instance:DecidableEq D:=fun a b=>if h:D.eqb a b=true then isTrue (Mv a b h) else isFalse fun e=>h (by rw [e];exact Mt b)
noncomputable def RKey:D->Key->Prop
 | .int i,k=>k = .inl i
 | .str x,k=>k = .inr x
 | _,_=>False
noncomputable def RKeys:D->List Key->Prop
 | .tup ds,ks=>EE RKey ds ks
 | _,_=>False
noncomputable def dget (kvs:List (D×D)) (k:D):Option D:=(kvs.find? fun p=>decide (p.1=k)).map (·.2)
noncomputable def fE (kvs:List (D×D)) (k v:D):List (D×D):=if (kvs.any fun p=>decide (p.1=k))=true then kvs.map (fun p=>if p.1=k then (p.1,v) else p) else kvs++[(k,v)]
noncomputable def dQ (kvs:List (D×D)) (k:D):List (D×D):=kvs.filter fun p=>decide (p.1≠k)
noncomputable def cW:D->Bool
 | .int _=>true
 | .str _=>true
 | _=>false
noncomputable def dA:D->Bool
 | .tup ds=>ds.all cW&&fk ds
 | _=>false
noncomputable def dR (t:Bool) (k:D):Bool:=if t then dA k else cW k
theorem fF {k:D} (h:cW k=true):∃ q,RKey k q:=by
 cases k <;> first | (simp [cW] at h;done) | exact ⟨_,rfl⟩
theorem nW:∀ {ds:List D},ds.all cW=true -> ∃ ks,EE RKey ds ks
 | [],_=>⟨[], .nil⟩
 | d::ds,h=>by
   simp only [Gk,hH] at h;obtain ⟨k,j⟩:=fF h.1;obtain ⟨ks,hs⟩:=nW h.2;exact ⟨k::ks, .cons j hs⟩
theorem nX {k:D} (h:dA k=true):∃ q,RKeys k q:=by
 cases k <;> first | (simp [dA] at h;done) | exact nW (JK.mp h).1
theorem nY {ds:List D} (h:dA (.tup ds)=true):fk ds=true:=(JK.mp h).2
noncomputable def RO (K:Frag) (H:Hp) (a:Addr):O->Prop
 | .lst ds => ∃ vs,H a=some (.lst vs)/\RDs K H ds vs
 | .dct false kvs => ∃ ps,H a=some (.dK ps)/\EE (fun (p:D×D) (q:Key×V)=>RKey p.1 q.1/\RD K H p.2 q.2) kvs ps
 | .dct true kvs => ∃ ps,H a=some (.dT ps)/\EE (fun (p:D×D) (q:List Key×V)=>RKeys p.1 q.1/\RD K H p.2 q.2) kvs ps
 | .fdc kvs => ∃ o ps,H a=some (.frz o (.dT ps))/\EE (fun (p:D×D) (q:List Key×V)=>RKeys p.1 q.1/\RD K H p.2 q.2) kvs ps
def RM (K:Frag) (M:Mem) (H:Hp):Prop := ∀ a o,M a=some o->RO K H a o
def RS (K:Frag) (H:Hp) (σ:St) (ρ:aq):Prop := σ.length = ρ.length /\ ∀ (i:Nat) (d:D), ρ[i]? = some (some d) -> ∃ v, σ[i]? = some (some v)/\RD K H d v
structure Ext (M:Mem) (H:Hp) (M':Mem) (H':Hp):Prop where
 kp:∀ a o,fz (M a)=true->H a=some o->H' a=some o
 nw:∀ a o,fz (M a)=true->H a=some o->M' a=M a
section
variable {K:Frag} {M M' M'':Mem} {H H' H'':Hp}
theorem Ext.keep (x:Ext M H M' H') (a:Addr) (o:HO) (n:M a=none) (e:H a=some o):H' a=some o:=x.kp a o (by rw [n];rfl) e
theorem Ext.new (x:Ext M H M' H') (a:Addr) (o:HO) (n:M a=none) (e:H a=some o):M' a=none:=(x.nw a o (by rw [n];rfl) e).trans n
theorem Ext.refl:Ext M H M H:=⟨fun _ _ _ h=>h,fun _ _ _ _=>rfl⟩
theorem Ext.trans (a:Ext M H M' H') (b:Ext M' H' M'' H''):Ext M H M'' H'' :=
 ⟨fun c o n h=>b.kp c o (by rw [a.nw c o n h];exact n) (a.kp c o n h),fun c o n h=>(b.nw c o (by rw [a.nw c o n h];exact n) (a.kp c o n h)).trans (a.nw c o n h)⟩
theorem RM.mut (r:RM K M H) {a:Addr} {o:O} (h:M a=some o):∃ ho,H a=some ho/\(∀ xs,ho ≠ .tup xs)/\(fz (some o)=false->Mut (some ho) /\ ∀ ob u,ho ≠ .frz ob u):=by
 have q:=r a o h
 cases o with
 | lst ds =>
   obtain ⟨vs,e,_⟩:=q;exact ⟨_,e,fun _ z=>(by cases z),fun _=>⟨trivial,fun _ _ z=>(by cases z)⟩⟩
 | dct t kvs =>
   cases t with
   | false=>obtain ⟨ps,e,_⟩:=q;exact ⟨_,e,fun _ z=>(by cases z),fun _=>⟨trivial,fun _ _ z=>(by cases z)⟩⟩
   | true=>obtain ⟨ps,e,_⟩:=q;exact ⟨_,e,fun _ z=>(by cases z),fun _=>⟨trivial,fun _ _ z=>(by cases z)⟩⟩
 | fdc kvs=>obtain ⟨ob,ps,e,_⟩:=q;exact ⟨_,e,fun _ z=>(by cases z),fun z=>(by cases z)⟩
theorem RM.fzT (r:RM K M H) {a:Addr} {xs:List V} (e:H a=some (.tup xs)):M a=none:=by
 cases q:M a with
 | none=>rfl
 | some o =>
   obtain ⟨ho,j,z,_⟩:=r.mut q;rw [e] at j;cases j;exact absurd rfl (z xs)
theorem RM.fzF (r:RM K M H) {a:Addr} {ob:Obj} {u:HO} (e:H a=some (.frz ob u)):fz (M a)=true:=by
 cases q:M a with
 | none=>rfl
 | some o =>
   obtain ⟨ho,j,_,B⟩:=r.mut q;rw [e] at j;cases j
   cases z:fz (some o) with
   | true=>rfl
   | false=>exact absurd rfl ((B z).2 ob u)
theorem RM.out (r:RM K M H) {a:Addr} (h:H a=none):M a=none:=by
 cases e:M a with
 | none=>rfl
 | some o =>
   obtain ⟨ho,q,_⟩:=r.mut e;rw [h] at q;cases q
theorem Ext.stab (r:RM K M H) (x:Ext M H M' H'):Stab H H' where
 tup:=fun a xs e=>x.keep a _ (r.fzT e) e
 frz:=fun a o u e=>x.kp a _ (r.fzF e) e
theorem RS.mono (st:Stab H H') {σ:St} {ρ:aq} (h:RS K H σ ρ):RS K H' σ ρ :=
 ⟨h.1,fun i d e=>let ⟨v,q,r⟩:=h.2 i d e; ⟨v,q,r.mono st⟩⟩
theorem RS.set {σ:St} {ρ:aq} (h:RS K H σ ρ) (i:Nat) {d:D} {v:V} (r:RD K H d v):RS K H (σ.set i (some v)) (ρ.set i (some d)):=by
 refine ⟨by simp [h.1],fun j e q => ?_⟩
 by_cases hij:i=j
 ·subst hij;have hi:i < ρ.length:=by
   have:=(DY.mp q).1;simpa using this
  rw [G8 hi] at q
  cases q
  exact ⟨v,by rw [G8 (by rw [h.1];exact hi)],r⟩
 ·rw [HE hij] at q ⊢;exact h.2 j e q
noncomputable def jh (fr:List (Option Nat)) (ρ:aq):aq:=fr.map fun o=>o.bind fun j=>(ρ[j]?).join
theorem RS.inh {σ:St} {ρ:aq} (h:RS K H σ ρ) (fr:List (Option Nat)):RS K H (inh fr σ) (jh fr ρ):=by
 refine ⟨by simp [L2.inh,jh],fun i d e => ?_⟩
 unfold jh at e;unfold L2.inh;rw [Ei] at e ⊢
 cases q:fr[i]? with
 | none=>rw [q] at e;cases e
 | some o =>
   rw [q] at e
   cases o with
   | none=>cases e
   | some j =>
     have e':some ((ρ[j]?).join)=some (some d):=e
     cases q' : ρ[j]? with
     | none=>rw [q'] at e';cases e'
     | some w =>
       rw [q'] at e'
       cases e'
       obtain ⟨v,v1,v2⟩:=h.2 j d q';exact ⟨v,by simp [v1],v2⟩
theorem RO.mono (st:Stab H H') {a:Addr} {o:O} (h:RO K H a o) (e:∀ ho,H a=some ho->H' a=some ho):RO K H' a o:=by
 cases o with
 | lst ds=>obtain ⟨vs,q,r⟩:=h;exact ⟨vs,e _ q,r.mono st⟩
 | dct t kvs =>
   cases t with
   | false=>obtain ⟨ps,q,r⟩:=h;exact ⟨ps,e _ q,Mj r fun _ _ z=>⟨z.1,z.2.mono st⟩⟩
   | true=>obtain ⟨ps,q,r⟩:=h;exact ⟨ps,e _ q,Mj r fun _ _ z=>⟨z.1,z.2.mono st⟩⟩
 | fdc kvs=>obtain ⟨ob,ps,q,r⟩:=h;exact ⟨ob,ps,e _ q,Mj r fun _ _ z=>⟨z.1,z.2.mono st⟩⟩
theorem RM.new {p:Addr} {ho:HO} (r:RM K M H) (n:H p=none):RM K M (upd H p ho):=fun a o e=>by
 have ne:a≠p:=fun z=>by subst z;obtain ⟨_,q,_⟩:=r.mut e;rw [n] at q;cases q
 refine (r a o e).mono ⟨fun b xs q => ?_,fun b o u q => ?_⟩ fun j q=>by rw [am ne];exact q
 ·rw [am (b6 q n)];exact q
 ·rw [am (b6 q n)];exact q
theorem Mn {p:Addr} {ho:HO} (n:H p=none):Ext M H M (upd H p ho):=⟨fun a o _ e=>by rw [am (b6 e n)];exact e,fun _ _ _ _=>rfl⟩
theorem RM.lay {p:Addr} {ho:HO} {o:O} (r:RM K M H) (n:H p=none) (h:RO K (upd H p ho) p o):RM K (ah M p o) (upd H p ho):=fun a o' e=>by
 by_cases z:a=p
 ·subst z;rw [aa] at e;cases e;exact h
 ·rw [ag z] at e;exact r.new n a o' e
theorem Ext.lay {p:Addr} {ho:HO} {o:O} (n:H p=none):Ext M H (ah M p o) (upd H p ho) :=
 ⟨fun a u _ e=>by rw [am (b6 e n)];exact e,fun a u m e=>by rw [ag (b6 e n)]⟩
theorem RM.put {p:Addr} {ho:HO} {o o0:O} (r:RM K M H) (m:M p=some o0) (h:RO K (upd H p ho) p o) (w:fz (some o0)=false:=by rfl):RM K (ah M p o) (upd H p ho):=fun a o' e=>by
 by_cases z:a=p
 ·subst z;rw [aa] at e;cases e;exact h
 ·rw [ag z] at e;obtain ⟨J,j,B,F⟩:=r.mut m;refine (r a o' e).mono ⟨fun b xs q => ?_,fun b o u q => ?_⟩ fun G q=>by rw [am z];exact q
  ·rw [am (fun z=>by subst z;rw [j] at q;cases q;exact B xs rfl)];exact q
  ·rw [am (fun z=>by subst z;rw [j] at q;cases q;exact (F w).2 o u rfl)];exact q
theorem Ext.put {p:Addr} {ho:HO} {o o0:O} (m:M p=some o0) (w:fz (some o0)=false:=by rfl):Ext M H (ah M p o) (upd H p ho) :=
 ⟨fun a u n e=>by rw [am (fun z=>by subst z;rw [m,w] at n;cases n)];exact e,fun a u n e=>ag (fun z=>by subst z;rw [m,w] at n;cases n)⟩
theorem RM.stabPut {p:Addr} {ho:HO} {o0:O} (r:RM K M H) (m:M p=some o0) (w:fz (some o0)=false:=by rfl):Stab H (upd H p ho):=(Ext.put (o:=o0) (ho:=ho) m w).stab r
end
noncomputable abbrev QD:=D->Mem->Prop
noncomputable abbrev TEd:=aq->Mem->QD->Prop
noncomputable abbrev TTd:=aq->Mem->(Bool->Mem->Prop)->Prop
noncomputable abbrev TAd:=aq->Mem->(List D->Mem->Prop)->Prop
structure bJ where
 nx:aq->Mem->Prop
 rt:QD
 bk:aq->Mem->Prop:=fun _ _=>False
 ct:aq->Mem->Prop:=fun _ _=>False
noncomputable abbrev TSd:=bJ->aq->Mem->Prop
def ae (T:TEd):Prop := ∀ ρ M Q Q',(∀ d M',Q d M'->Q' d M')->T ρ M Q->T ρ M Q'
def aI (T:TTd):Prop := ∀ ρ M Q Q',(∀ d M',Q d M'->Q' d M')->T ρ M Q->T ρ M Q'
def bp (T:TAd):Prop := ∀ ρ M Q Q',(∀ d M',Q d M'->Q' d M')->T ρ M Q->T ρ M Q'
structure LeD (a b:bJ):Prop where
 nx:∀ ρ M,a.nx ρ M->b.nx ρ M
 rt:∀ d M,a.rt d M->b.rt d M
 bk:∀ ρ M,a.bk ρ M->b.bk ρ M
 ct:∀ ρ M,a.ct ρ M->b.ct ρ M
def aT (T:TSd):Prop := ∀ a b ρ M,LeD a b->T a ρ M->T b ρ M
noncomputable def KE' (K:Frag) (M:Mem) (H:Hp) (Q:VK):QD:=fun d M' => ∀ v H',Ext M H M' H'->RM K M' H'->RD K H' d v->Q v H'
noncomputable def KT' (K:Frag) (M:Mem) (H:Hp) (Q:Bool->Hp->Prop):Bool->Mem->Prop:=fun b M' => ∀ H',Ext M H M' H'->RM K M' H'->Q b H'
noncomputable def KA' (K:Frag) (M:Mem) (H:Hp) (Q:List V->Hp->Prop):List D->Mem->Prop:=fun ds M' => ∀ vs H',Ext M H M' H'->RM K M' H'->RDs K H' ds vs->Q vs H'
noncomputable def lE (K:Frag) (T:TEd):TE:=fun σ H Q => ∃ ρ M,RS K H σ ρ /\ RM K M H/\T ρ M (KE' K M H Q)
noncomputable def lT (K:Frag) (T:TTd):TT:=fun σ H Q => ∃ ρ M,RS K H σ ρ /\ RM K M H/\T ρ M (KT' K M H Q)
noncomputable def lA (K:Frag) (T:TAd):TA:=fun σ H Q => ∃ ρ M,RS K H σ ρ /\ RM K M H/\T ρ M (KA' K M H Q)
structure Link (K:Frag) (M:Mem) (H:Hp) (a:bJ) (b:bD):Prop where
 nx:∀ ρ M' σ H',Ext M H M' H'->RS K H' σ ρ -> RM K M' H'->a.nx ρ M'->b.nx σ H'
 rt:∀ d M' v H',Ext M H M' H'->RM K M' H'->RD K H' d v->a.rt d M'->b.rt v H'
 bk:∀ ρ M' σ H',Ext M H M' H'->RS K H' σ ρ -> RM K M' H'->a.bk ρ M'->b.bk σ H'
 ct:∀ ρ M' σ H',Ext M H M' H'->RS K H' σ ρ -> RM K M' H'->a.ct ρ M'->b.ct σ H'
noncomputable def lS (K:Frag) (T:TSd):TS:=fun D σ H => ∃ ρ M A,RS K H σ ρ /\ RM K M H/\Link K M H A D/\T A ρ M
theorem Link.ext {K:Frag} {M M':Mem} {H H':Hp} {a:bJ} {b:bD} (l:Link K M H a b) (x:Ext M H M' H'):Link K M' H' a b :=
 ⟨fun ρ M2 σ H2 y=>l.nx ρ M2 σ H2 (x.trans y),fun d M2 v H2 y=>l.rt d M2 v H2 (x.trans y),fun ρ M2 σ H2 y=>l.bk ρ M2 σ H2 (x.trans y),fun ρ M2 σ H2 y=>l.ct ρ M2 σ H2 (x.trans y)⟩
theorem PE.imp {X:Cx} {e:Expr} {t t':TE} (h:PE X e t) (i:∀ σ H Q,t' σ H Q->t σ H Q):PE X e t':=fun pins s σ H Q I q=>h pins s σ H Q I (i _ _ _ q)
theorem PT.imp {X:Cx} {e:Expr} {t t':TT} (h:PT X e t) (i:∀ σ H Q,t' σ H Q->t σ H Q):PT X e t':=fun pins s σ H Q I q=>h pins s σ H Q I (i _ _ _ q)
theorem PW.imp {X:Cx} {e:Expr} {t t':TT} (h:PW X e t) (i:∀ σ H Q,t' σ H Q->t σ H Q):PW X e t':=fun wh pins s σ H Q I q=>h wh pins s σ H Q I (i _ _ _ q)
theorem PA.imp {X:Cx} {e:List Expr} {t t':TA} (h:PA X e t) (i:∀ σ H Q,t' σ H Q->t σ H Q):PA X e t':=fun p pins s σ H Q I q=>h p pins s σ H Q I (i _ _ _ q)
theorem PS.imp {X:Cx} {e:Stmt} {t t':TS} (h:PS X e t) (i:∀ D σ H,t' D σ H->t D σ H):PS X e t':=fun pins s σ H D I q=>h pins s σ H D I (i _ _ _ q)
theorem PSs.imp {X:Cx} {e:List Stmt} {t t':TS} (h:PSs X e t) (i:∀ D σ H,t' D σ H->t D σ H):PSs X e t':=fun pins s σ H D I q=>h pins s σ H D I (i _ _ _ q)
end
section
theorem KE'.ext {K:Frag} {M M2 M':Mem} {H H2:Hp} {Q:VK} {d:D} (x:Ext M H M2 H2) (h:KE' K M H Q d M'):KE' K M2 H2 Q d M':=fun v H' y=>h v H' (x.trans y)
theorem KT'.ext {K:Frag} {M M2 M':Mem} {H H2:Hp} {Q:Bool->Hp->Prop} {d:Bool} (x:Ext M H M2 H2) (h:KT' K M H Q d M'):KT' K M2 H2 Q d M':=fun H' y=>h H' (x.trans y)
noncomputable abbrev R2d:=D->D->Mem->QD->Prop
noncomputable abbrev R1d:=D->Mem->QD->Prop
noncomputable abbrev RAd:=List D->Mem->QD->Prop
def ay (r:R2d):Prop := ∀ x y M Q Q',(∀ d M',Q d M'->Q' d M')->r x y M Q->r x y M Q'
def pz (r:R1d):Prop := ∀ x M Q Q',(∀ d M',Q d M'->Q' d M')->r x M Q->r x M Q'
def b5 (r:RAd):Prop := ∀ x M Q Q',(∀ d M',Q d M'->Q' d M')->r x M Q->r x M Q'
noncomputable def l2 (K:Frag) (rd:R2d):R2:=fun v u H Q => ∃ x y M,RM K M H/\RD K H x v/\RD K H y u/\rd x y M (KE' K M H Q)
noncomputable def l1 (K:Frag) (rd:R1d):V->Hp->VK->Prop:=fun v H Q => ∃ x M,RM K M H/\RD K H x v/\rd x M (KE' K M H Q)
noncomputable def lR (K:Frag) (rd:RAd):List V->Hp->VK->Prop:=fun vs H Q => ∃ ds M,RM K M H/\RDs K H ds vs/\rd ds M (KE' K M H Q)
noncomputable def lMt (K:Frag) (rd:D->List D->Mem->QD->Prop):V->List V->Hp->VK->Prop:=fun v vs H Q => ∃ x ds M,RM K M H/\RD K H x v/\RDs K H ds vs/\rd x ds M (KE' K M H Q)
noncomputable def gK (i:Nat):TEd:=fun ρ M Q => ∃ d, ρ[i]? = some (some d)/\Q d M
noncomputable def wC (d:D):TEd:=fun _ M Q=>Q d M
noncomputable def wOp (rd:R2d) (ta tb:TEd):TEd:=fun ρ M Q=>ta ρ M fun x M1=>tb ρ M1 fun y M2=>rd x y M2 Q
noncomputable def wUn (rd:R1d) (ta:TEd):TEd:=fun ρ M Q=>ta ρ M fun x M1=>rd x M1 Q
noncomputable def cn:TAd:=fun _ M Q=>Q [] M
noncomputable def br (ta:TEd) (tr:TAd):TAd:=fun ρ M Q=>ta ρ M fun x M1=>tr ρ M1 fun xs M2=>Q (x::xs) M2
noncomputable def wAr (rd:RAd) (t:TAd):TEd:=fun ρ M Q=>t ρ M fun ds M1=>rd ds M1 Q
theorem uj {i:Nat}:ae (gK i):=fun _ _ _ _ h ⟨d,e,q⟩=>⟨d,e,h _ _ q⟩
theorem iD {d:D}:ae (wC d):=fun _ _ _ _ h q=>h _ _ q
theorem eD {rd:R2d} {ta tb:TEd} (j:ay rd) (z:ae ta) (B:ae tb):ae (wOp rd ta tb):=fun ρ M Q Q' h q =>
 z _ _ _ _ (fun x M1 F=>B _ _ _ _ (fun y M2 G=>j _ _ _ _ _ h G) F) q
theorem wX {rd:R1d} {ta:TEd} (j:pz rd) (z:ae ta):ae (wUn rd ta):=fun ρ M Q Q' h q=>z _ _ _ _ (fun x M1 B=>j _ _ _ _ h B) q
theorem aU:bp cn:=fun _ _ _ _ h q=>h _ _ q
theorem aR {ta:TEd} {tr:TAd} (j:ae ta) (z:bp tr):bp (br ta tr):=fun ρ M Q Q' h q =>
 j _ _ _ _ (fun x M1 B=>z _ _ _ _ (fun xs M2 F=>h _ _ F) B) q
theorem fZ {rd:RAd} {t:TAd} (j:b5 rd) (z:bp t):ae (wAr rd t):=fun ρ M Q Q' h q=>z _ _ _ _ (fun ds M1 B=>j _ _ _ _ h B) q
section
variable {X:Cx} {a b:Expr} {ta tb:TEd} {pos:Pos}
theorem zi {i:Nat} {x:Str} (B:X.N[i]? = some x) (j:Vis X.env.scope x) (hd:(x==("__debug__":Str))=false) (z:(x==("__classdict__":Str))=false):PE X (.Name x pos) (lE X.K (gK i)):=by
 refine PE.imp (yw B j hd z) fun σ H Q h => ?_;obtain ⟨ρ,M,rs,rm,d,e,q⟩:=h;obtain ⟨v,j,rd⟩:=rs.2 i d e;exact ⟨v,j,q v H Ext.refl rm rd⟩
theorem le_int {i:Int} {j:Nat}:PE X (.Constant (.int i) j pos) (lE X.K (wC (.int i))) :=
 PE.imp yx fun σ H Q ⟨ρ,M,rs,rm,q⟩=>q _ H Ext.refl rm (Md.mpr rfl)
theorem AE {i:Bool} {j:Nat}:PE X (.Constant (.bool i) j pos) (lE X.K (wC (.bl i))) :=
 PE.imp Ag fun σ H Q ⟨ρ,M,rs,rm,q⟩=>q _ H Ext.refl rm (Me.mpr rfl)
theorem zj {j:Nat}:PE X (.Constant .none j pos) (lE X.K (wC .non)) :=
 PE.imp yz fun σ H Q ⟨ρ,M,rs,rm,q⟩=>q _ H Ext.refl rm (Mm.mpr rfl)
theorem zk {x:Str} {j:Nat}:PE X (.Constant (.str x) j pos) (lE X.K (wC (.str x))) :=
 PE.imp yA fun σ H Q ⟨ρ,M,rs,rm,q⟩=>q _ H Ext.refl rm (Mh.mpr rfl)
theorem ga {K:Frag} {rd:R2d} (L:ay rd) (ma:ae ta) (mb:ae tb) (σ:St) (H:Hp) (Q:VK) (h:lE K (wOp rd ta tb) σ H Q):tOp (l2 K rd) (lE K ta) (lE K tb) σ H Q:=by
 obtain ⟨ρ,M,rs,rm,q⟩:=h;refine ⟨ρ,M,rs,rm,ma _ _ _ _ (fun x M1 O v H1 G j z => ?_) q⟩;refine ⟨ρ,M1,rs.mono (G.stab rm),j,mb _ _ _ _ (fun y M2 U u H2 J B F => ?_) O⟩;exact ⟨x,y,M2,B,z.mono (J.stab j),F,L _ _ _ _ _ (fun d M' k=>k.ext (G.trans J)) U⟩
theorem AF {op:Ko} {rd:R2d} (ho:OpR X (F7 op) (l2 X.K rd)) (j:ay rd) (ma:ae ta) (mb:ae tb) (q:PE X a (lE X.K ta)) (z:PE X b (lE X.K tb)):PE X (.BinOp a op b pos) (lE X.K (wOp rd ta tb)) :=
 PE.imp (Ao ho q z) (ga j ma mb)
theorem zm {op:K2} {rd:R2d} (ho:OpR X (Eg op) (l2 X.K rd)) (j:ay rd) (ma:ae ta) (mb:ae tb) (q:PE X a (lE X.K ta)) (z:PE X b (lE X.K tb)) (hm:GF op b=false) :
 PE X (.Compare a [op] [b] pos) (lE X.K (wOp rd ta tb)):=PE.imp (wH ho q z hm) (ga j ma mb)
noncomputable def eY (t:TEd):TTd:=fun ρ M Q=>t ρ M fun x M1 => ∃ k,x = .bl k/\Q k M1
theorem kT {t:TEd} (h:ae t):aI (eY t):=fun ρ M Q Q' i q=>h _ _ _ _ (fun x M1 ⟨k,e,j⟩=>⟨k,e,i _ _ j⟩) q
theorem kU {K:Frag} {t:TEd} (m:ae t) (σ:St) (H:Hp) (Q:Bool->Hp->Prop) (h:lT K (eY t) σ H Q):pc (lE K t) σ H Q:=by
 obtain ⟨ρ,M,rs,rm,q⟩:=h;refine ⟨ρ,M,rs,rm,m _ _ _ _ (fun x M1 ⟨k,e,B⟩ v H1 F j z => ?_) q⟩;subst e;exact ⟨k,Me.mp z,B H1 F j⟩
theorem zn {op:K2} {rd:R2d} (ho:OpR X (Eg op) (l2 X.K rd)) (j:ay rd) (ma:ae ta) (mb:ae tb) (q:PE X a (lE X.K ta)) (z:PE X b (lE X.K tb)) (hm:GF op b=false) :
 PT X (.Compare a [op] [b] pos) (lT X.K (eY (wOp rd ta tb))) :=
 PT.imp (wJ ho q z hm) fun σ H Q h=>by
  have h1:=kU (eD j ma mb) σ H Q h;exact ga j ma mb σ H _ h1
theorem AG {op:UnaryOp} {rd:R1d} (ho:UnR X (unaryOp op) (l1 X.K rd)) (B:pz rd) (ma:ae ta) (F:PE X a (lE X.K ta)):PE X (.UnaryOp op a pos) (lE X.K (wUn rd ta)) :=
 PE.imp (Ap ho F) fun σ H Q ⟨ρ,M,rs,rm,q⟩=>⟨ρ,M,rs,rm,ma _ _ _ _ (fun x M1 G v H1 J j z=>⟨x,M1,j,z,B _ _ _ _ (fun d M' k=>k.ext J) G⟩) q⟩
theorem AH {rd:R2d} (ho:IxR X (l2 X.K rd)) (j:ay rd) (ma:ae ta) (mb:ae tb) (q:PE X a (lE X.K ta)) (z:PE X b (lE X.K tb)) (hs:jf b):PE X (.Subscript a b pos) (lE X.K (wOp rd ta tb)) :=
 PE.imp (Ax ho q z hs) (ga j ma mb)
theorem eE:PA X [] (lA X.K cn):=PA.imp io fun σ H Q ⟨ρ,M,rs,rm,q⟩=>q _ H Ext.refl rm RDs.nil
theorem qX {K:Frag} {tr:TAd} (ma:ae ta) (mr:bp tr) (σ:St) (H:Hp) (Q:List V->Hp->Prop) (h:lA K (br ta tr) σ H Q):vQ (lE K ta) (lA K tr) σ H Q:=by
 obtain ⟨ρ,M,rs,rm,q⟩:=h;refine ⟨ρ,M,rs,rm,ma _ _ _ _ (fun x M1 L v H1 G j z => ?_) q⟩;refine ⟨ρ,M1,rs.mono (G.stab rm),j,mr _ _ _ _ (fun xs M2 O vs H2 J B F => ?_) L⟩;exact O (v::vs) H2 (G.trans J) B (RDs.cons (z.mono (J.stab j)) F)
theorem ce {e:Expr} {es:List Expr} {tr:TAd} (ma:ae ta) (mr:bp tr) (j:PE X e (lE X.K ta)) (q:PA X es (lA X.K tr)) (hs:E4 (e::es) X.env=(false,eval e X.env)::E4 es X.env) :
 PA X (e::es) (lA X.K (br ta tr)):=PA.imp (cw j q hs) (qX ma mr)
theorem bA {K:Frag} {rd:RAd} {t:TAd} (B:b5 rd) (mt:bp t) (σ:St) (H:Hp) (Q:VK) (h:lE K (wAr rd t) σ H Q):tCB (lR K rd) (lA K t) σ H Q:=by
 obtain ⟨ρ,M,rs,rm,q⟩:=h;exact ⟨ρ,M,rs,rm,mt _ _ _ _ (fun ds M1 F vs H1 G j z=>⟨ds,M1,j,z,B _ _ _ _ (fun d M' k=>k.ext G) F⟩) q⟩
noncomputable def ji:RAd:=fun ds M Q=>ds.length<=DL/\Q (.tup ds) M
noncomputable def kW:RAd:=fun ds M Q=>ds.length<=DL /\ ∀ p,M p=none->Q (.ref p) (ah M p (.lst ds))
theorem qY:b5 ji:=fun _ _ _ _ h ⟨z,q⟩=>⟨z,h _ _ q⟩
theorem qZ:b5 kW:=fun _ _ _ _ h ⟨z,q⟩=>⟨z,fun p n=>h _ _ (q p n)⟩
theorem jj {K:Frag} {M:Mem} {H:Hp} {Q:VK} {ds:List D} {vs:List V} {p:Addr} (rm:RM K M H) (rd:RDs K H ds vs) (q:KE' K M H Q (.tup ds) M) (n:H p=none):Q (.ref p) (upd H p (.tup vs)):=by
 have x:Ext M H M (upd H p (.tup vs)):=Mn n;exact q (.ref p) _ x (rm.new n) (Mp ⟨p,vs,rfl,aH,rd.mono (x.stab rm)⟩)
theorem eF {K:Frag} {M:Mem} {H:Hp} {Q:VK} {ds:List D} {vs:List V} {p:Addr} (rm:RM K M H) (rd:RDs K H ds vs) (q:∀ p,M p=none->KE' K M H Q (.ref p) (ah M p (.lst ds))) (n:H p=none):Q (.ref p) (upd H p (.lst vs)):=by
 have x:Ext M H (ah M p (.lst ds)) (upd H p (.lst vs)):=Ext.lay n;have x0:Ext M H M (upd H p (.lst vs)):=Mn n;exact q p (rm.out n) (.ref p) _ x (rm.lay n ⟨vs,aH,rd.mono (x0.stab rm)⟩) (Mf.mpr rfl)
theorem zo {es:List Expr} {t:TAd} {k:Nat} (mt:bp t) (h:PA X es (lA X.K t)):PE X (.Tuple es k pos) (lE X.K (wAr ji t)) :=
 PE.imp (qK h) fun σ H Q ⟨ρ,M,rs,rm,q⟩=>⟨ρ,M,rs,rm,mt _ _ _ _ (fun ds M1 ⟨z,F⟩ vs H1 G B j=>⟨by rw [j.length];exact z,fun p n=>jj B j (F.ext G) n⟩) q⟩
theorem zp {es:List Expr} {t:TAd} (mt:bp t) (h:PA X es (lA X.K t)):PE X (.List es pos) (lE X.K (wAr kW t)) :=
 PE.imp (yY h) fun σ H Q ⟨ρ,M,rs,rm,q⟩=>⟨ρ,M,rs,rm,mt _ _ _ _ (fun ds M1 ⟨z,F⟩ vs H1 G B j=>⟨by rw [j.length];exact z,fun p n=>eF B j (fun p' n'=>(F p' n').ext G) n⟩) q⟩
end
end
end Mi
end L2
namespace L2
open PySem PySem.Spec PyProof.Rows
namespace Mi
end Mi
end L2
namespace L2
open PySem PySem.Spec PyProof.Rows
section
theorem gL:fillsNumberSlot (.type "tuple") "mul" = pure false :=
 PyProof.Rows.fillsNumberSlot_seq (id := "tuple.__mul__") (r:=some (.builtin "tuple.__rmul__")) F.slot_tuple_mul.lookup (by decide +kernel) F.slot_tuple_rmul.lookup (by decide +kernel)
theorem kX:seqRepeat? (.type "tuple")=pure (some (.builtin "tuple.__mul__")):=by
 unfold seqRepeat?;rw [IW (T := "tuple") (name := "__mul__") (id := "tuple.__mul__") F.slot_tuple_mul.lookup (by decide +kernel),IW (T := "tuple") (name := "__rmul__") (id := "tuple.__rmul__") F.slot_tuple_rmul.lookup (by decide +kernel)]
 rfl
theorem jk (a:Int) (t:Tok) (l:Addr) (items:Array gV) (n:Nat) (d:Option Addr) (sl:Array (Option gV)) :
 Meets (G0.«int.__rmul__» ⟨[.int a t, .ref l],[]⟩) (fun _ R s=>s.heap.get? l=some { cls := .type "tuple",dict:=d,data := .seq items n,slots:=sl }/\R (.ok (.ret Value.notImplemented)) s) :=
 .of_wp fun prog w A R s h=>by obtain ⟨j,g,d,tk,os⟩:=s;obtain ⟨q,h⟩:=h;wp_walk;exact ⟨_,rfl,h⟩
open AutoSeq1 (wpAny_loadPart') in
theorem r6 (l:Addr) (items:Array gV) (n:Nat) (dd:Option Addr) (sl:Array (Option gV)) (x:Int) (u:Tok) (h1 : -(2 ^ 63)<=x) (h2:x < 2 ^ 63) (B:items.size*x.toNat<=DL) :
 Meets (G0.«tuple.__mul__» ⟨[.ref l, .int x u],[]⟩) (fun _ R s=>s.heap.get? l=some { cls := .type "tuple",dict:=dd,data := .seq items n,slots:=sl } /\
  (if items.isEmpty || x==1 then R (.ok (.ret (.ref l))) s else R (.ok (.ret (.ref s.heap.objs.size))) { s with heap:=s.heap.push { cls := .type "tuple",data := .seq ((DN x.toNat items).foldl (· ++ ·) #[]) } })) :=
 .of_wp fun prog w A R s h=>by
  obtain ⟨U,g,d,tk,os⟩:=s;obtain ⟨q,h⟩:=h;have f1:=AutoSeq1.idx_int;have F:(decide (x < -(2 ^ 63)) || decide (x≥2 ^ 63))=false:=by
   rw [decide_eq_false (by lia),decide_eq_false (by lia)];rfl
  wp_walk using Gi q
  refine wpAny_ite_false (decide_eq_false (by rw [F];decide)) ?_
  dsimp only
  by_cases j:(items.isEmpty || x==1)=true
  ·rw [if_pos j] at h
   wp_walk using Gi q
   exact ⟨_,rfl,h⟩
  ·rw [if_neg j] at h
   wp_walk using Gi q
   simp only [Jp,not_or] at j
   by_cases e2:x<=0
   ·have z:(decide (x<=0) || items.isEmpty)=true:=by rw [decide_eq_true e2];rfl
    rw [if_pos z];have G:x.toNat=0:=by lia
    rw [G] at h
    wp_walk
    exact ⟨_,rfl,h⟩
   ·have z : ¬ (decide (x<=0) || items.isEmpty)=true:=by simp;exact ⟨by lia,by simpa using j.1⟩
    rw [if_neg z];have hx:((items.size:Nat):Int)*x=((items.size*x.toNat:Nat):Int):=by
     rw [Int.natCast_mul,Fh (by lia)]
    have hs:DL=16777216:=q7;have J : ¬ ((items.size:Nat):Int)*x > (2 ^ 63 - 1) / 8:=by rw [hx];lia
    rw [if_neg J];have L : ¬ Im (((items.size:Nat):Int)*x)=true:=by
     rw [hx];unfold Im;intro O;have Y:=of_decide_eq_true O;lia
    rw [if_neg L]
    wp_walk
    have hsz:((DN x.toNat items).foldl (· ++ ·) #[]).size<=DL:=by
     have:∀ (k:Nat) (a:Array gV),((DN k items).foldl (· ++ ·) a).size=a.size+items.size*k:=by
      intro k;induction k with
      | zero=>intro a;simp
      | succ k ih=>intro a;rw [Ez,Jm,ih,Gs,Nat.mul_succ];lia
     rw [this];simpa using B
    refine wpAny_ite_false (decide_eq_false (LO.mpr hsz)) ?_
    wp_walk
    exact ⟨_,rfl,h⟩
end
section
section
variable {X:Cx}
noncomputable def vY (K:Frag):R2:=fun x y H Q => ∃ l k xs,x = .ref l/\y = .int k/\SqT K H l xs /\ -(2 ^ 63)<=k/\k < 2 ^ 63/\xs.length*k.toNat<=DL /\
 ((xs=[]∨k=1)->Q (.ref l) H)/\(¬ (xs=[]∨k=1) -> ∀ p,H p=none->Q (.ref p) (upd H p (.tup (DN k.toNat xs).flatten)))
theorem wY:OpR X (F7 .Mult) (vY X.K):=by
 intro pins s σ H x y v u Q I rx ry h;obtain ⟨l,k,xs,rfl,rfl,G,h1,h2,j,J,L⟩:=h
 cases rx
 obtain ⟨t,rfl⟩:=ry;obtain ⟨its,r,O,_⟩:=I.tuple G;have Y:=r.length;obtain ⟨⟨cls,dd,dat,sl⟩,e,B,n,hd⟩:=O;dsimp only at B hd;subst B hd;have hlen:its.toArray.size*k.toNat<=DL:=by rw [DV, <- Y];exact j
 have f0:∀ m:Nat,Hv (fun Z x2=>Z++x2) #[] (DN m its.toArray)=(DN m its).flatten.toArray:=fun m=>by
  have:=fC its m [];rw [HN] at this;exact this
 refine Ir (T := "tuple") (U := "int") (by decide) ⟨_,e,rfl⟩ (fun s'=>Ja s' k t) gL Lw HP kX F.slot_int_index.lookup
  (Jb HP (Ja s k t) KU (Ku _ _) (jk k t l its.toArray n dd sl)
    ⟨e,rfl,⟨_,e,rfl⟩,Jb F.slot_tuple_mul ⟨_,e,rfl⟩ F.entry_tuple_mul (F.args_tuple_mul_2 _ _) (r6 l its.toArray n dd sl k t h1 h2 hlen) ⟨e, ?_⟩⟩)
 have hi:(its.toArray.isEmpty || k==1)=true↔(xs=[]∨k=1):=by
  rw [<- r.nil_iff];simp
 split
 ·next c=>exact ⟨.ref l,H,I,rfl,J (hi.mp c)⟩
 ·next c =>
  rw [f0];refine ⟨.ref s.heap.objs.size,_,I.laid (t':=s.toks) (o := .tup (DN k.toNat xs).flatten) (fun b ob q=>i3 _ q) (DP _) ?_,rfl,L (fun z=>c (hi.mpr z)) _ (I.hok.fresh (DP _))⟩;exact ⟨by rw [nV,Nat.mul_comm];exact j,_,r.rep k.toNat,JV _ _⟩
end
end
section
section
variable {X:Cx}
theorem wZ:OpR X (F7 .Add) (fun x y H Q => ∃ a b ys,x = .ref a/\y = .ref b/\SqT X.K H a []/\SqT X.K H b ys/\Q (.ref b) H):=by
 intro pins s σ H x y v u Q I rx ry h;obtain ⟨a,b,ys,rfl,rfl,U,Y,q⟩:=h
 cases rx
 cases ry
 obtain ⟨its,Z,p1,_⟩:=I.tuple U;obtain ⟨j,r2,p2,_⟩:=I.tuple Y;have e0:its=[]:=Z.nil_iff.mpr rfl;obtain ⟨⟨cls,dd,data,sl⟩,ho,L,n,hd⟩:=id p1;obtain ⟨⟨O,G,data2,J⟩,z,B,n2,hd2⟩:=id p2;simp only at L hd B hd2;subst L hd B hd2;exact Kt ⟨_,ho,rfl⟩ ⟨_,z,rfl⟩ IQ K3 He H0 (GH _ _)
  (tuple_addW0 a b its.toArray j.toArray n n2 dd G sl J (by simp [e0])) ⟨ho,z,⟨.ref b,H,I,rfl,q⟩⟩
end
end
end L2
namespace L2
namespace Mi
open PySem PySem.Spec PyProof.Rows
section
def MulOk (i j:Int):Prop:=(-(2 ^ 64) < i/\i < 2 ^ 64)∨(-(2 ^ 64) < j/\j < 2 ^ 64)∨(HY i<=2 ^ 20/\HY j<=2 ^ 20)
theorem MulOk.ok {i j:Int} (h:MulOk i j):IntMulOk i j:=by
 rcases h with h | h | h
 ·exact IntMulOk.of_left (intBits_le_64 h.1 h.2)
 ·exact IntMulOk.of_right (intBits_le_64 h.1 h.2)
 ·exact IntMulOk.of_bits h.1 h.2
noncomputable def gM:R2d
 | .int i, .int j,M,Q=>Q (.int (i+j)) M
 | .tup a, .tup b,M,Q=>(a≠[]∨True)/\a.length+b.length<=DL/\Q (.tup (a++b)) M
 | .ref a, .ref b,M,Q => ∃ xs ys,M a=some (.lst xs)/\M b=some (.lst ys)/\xs.length+ys.length<=DL /\ ∀ p,M p=none->Q (.ref p) (ah M p (.lst (xs++ys)))
 | .str x, .str y,M,Q=>x.length+y.length<=DL/\Q (.str (x++y)) M
 | _,_,_,_=>False
noncomputable def pB:R2d
 | .int i, .int j,M,Q=>Q (.int (i - j)) M
 | _,_,_,_=>False
noncomputable def jl:R2d
 | .int i, .int j,M,Q=>MulOk i j/\Q (.int (i*j)) M
 | .ref a, .int k,M,Q => ∃ xs,M a=some (.lst xs) /\ -(2 ^ 63)<=k/\k < 2 ^ 63/\xs.length*k.toNat<=DL /\ ∀ p,M p=none->Q (.ref p) (ah M p (.lst (DN k.toNat xs).flatten))
 | .tup ds, .int k,M,Q => -(2 ^ 63)<=k/\k < 2 ^ 63/\ds.length*k.toNat<=DL/\Q (.tup (DN k.toNat ds).flatten) M
 | _,_,_,_=>False
noncomputable def kx:R2d
 | .int i, .int j,M,Q => 0 < j/\j < 2 ^ 256/\Q (.int (i / j)) M
 | _,_,_,_=>False
noncomputable def pC:R2d
 | .int i, .int j,M,Q => 0 < j/\Q (.int (i % j)) M
 | _,_,_,_=>False
noncomputable def pD:R2d
 | .int i, .int j,M,Q => 0<=j/\j<=1000000/\i.natAbs < 2 ^ 64/\Q (.int (i ^ j.toNat)) M
 | _,_,_,_=>False
theorem uk:ay gM:=by
 intro x y M Q Q' h q
 cases x <;> cases y <;> first
  | exact q.elim
  | exact h _ _ q
  | exact ⟨q.1,h _ _ q.2⟩
  | exact ⟨q.1,q.2.1,h _ _ q.2.2⟩
  | (obtain ⟨xs,ys,j,B,z,q⟩:=q;exact ⟨xs,ys,j,B,z,fun p n=>h _ _ (q p n)⟩)
theorem um:ay pB:=by
 intro x y M Q Q' h q
 cases x <;> cases y <;> first | exact q.elim | exact h _ _ q
theorem uo:ay jl:=by
 intro x y M Q Q' h q
 cases x <;> cases y <;> first
  | exact q.elim
  | exact ⟨q.1,h _ _ q.2⟩
  | exact ⟨q.1,q.2.1,q.2.2.1,h _ _ q.2.2.2⟩
  | (obtain ⟨xs,j,z,B,F,q⟩:=q;exact ⟨xs,j,z,B,F,fun p n=>h _ _ (q p n)⟩)
theorem rf:ay kx:=by
 intro x y M Q Q' h q
 cases x <;> cases y <;> first | exact q.elim | exact ⟨q.1,q.2.1,h _ _ q.2.2⟩
theorem uq:ay pC:=by
 intro x y M Q Q' h q
 cases x <;> cases y <;> first | exact q.elim | exact ⟨q.1,h _ _ q.2⟩
theorem ur:ay pD:=by
 intro x y M Q Q' h q
 cases x <;> cases y <;> first | exact q.elim | exact ⟨q.1,q.2.1,q.2.2.1,h _ _ q.2.2.2⟩
section
variable {X:Cx}
theorem OpR.of {f:gV->gV->Sem gV} {r r':R2} (h:OpR X f r) (i:∀ v u H Q,r' v u H Q->r v u H Q):OpR X f r':=fun pins s σ H x y v u Q I rx ry q=>h pins s σ H x y v u Q I rx ry (i _ _ _ _ q)
theorem IxR.of {r r':R2} (h:IxR X r) (i:∀ v u H Q,r' v u H Q->r v u H Q):IxR X r':=fun a b pins s σ H x y v u Q I rx ry q=>h a b pins s σ H x y v u Q I rx ry (i _ _ _ _ q)
theorem CallR.of {f:gV} {r r':List V->Hp->VK->Prop} (h:CallR X f r) (i:∀ vs H Q,r' vs H Q->r vs H Q):CallR X f r':=fun pins s σ H xs us Q I rx q=>h pins s σ H xs us Q I rx (i _ _ _ q)
theorem AI {K:Frag} {M:Mem} {H:Hp} {Q:VK} {a b:List D} {v u:V} (rm:RM K M H) (rx:RD K H (.tup a) v) (ry:RD K H (.tup b) u) (q:gM (.tup a) (.tup b) M (KE' K M H Q)):vS K v u H Q ∨ ∃ a b ys,v = .ref a/\u = .ref b/\SqT K H a []/\SqT K H b ys/\Q (.ref b) H:=by
 obtain ⟨a',vs,rfl,z,j⟩:=Ml rx;obtain ⟨b',us,rfl,B,F⟩:=Ml ry;obtain ⟨_,J,q⟩:=q;have l1:=j.length;have l2:=F.length
 by_cases G:a=[]
 ·subst G;have:vs=[]:=RDs.nil_iff.mp j;subst this;exact .inr ⟨a',b',us,rfl,rfl,z,B,q _ H Ext.refl rm ry⟩
 refine .inl ⟨a',b',vs,us,rfl,rfl,z,B,fun e=>G (Et.mp (by rw [<- l1,e];rfl)),by lia,fun e => ?_,fun _ p n=>jj rm (j.append F) q n⟩
 have eb:b=[]:=Et.mp (by rw [<- l2,e];rfl)
 subst eb;rw [Fb] at q;exact q _ H Ext.refl rm rx
theorem ut:OpR X (F7 .Add) (l2 X.K gM):=by
 refine OpR.of (op_add.or ((op_catT.or wZ).or (op_cat.or ph))) fun v u H Q h => ?_;obtain ⟨x,y,M,rm,rx,ry,q⟩:=h
 cases x <;> cases y <;> first
  | exact q.elim
  | (cases Md.mp rx;cases Md.mp ry;exact .inl ⟨_,_,rfl,rfl,q _ H Ext.refl rm (Md.mpr rfl)⟩)
  | exact .inr (.inl (AI rm rx ry q))
  | (cases Mf.mp rx;cases Mf.mp ry
     obtain ⟨xs,ys,F,G,z,q⟩:=q;obtain ⟨vs,h1,j⟩:=rm _ _ F;obtain ⟨us,h2,B⟩:=rm _ _ G;have l1:=j.length;have l2:=B.length;refine .inr (.inr (.inl ⟨_,_,vs,us,rfl,rfl,h1,h2,by lia,fun p n=>eF rm (j.append B) q n⟩)))
  | (cases Mh.mp rx;cases Mh.mp ry;exact .inr (.inr (.inr ⟨_,_,rfl,rfl,q.1,q.2 _ H Ext.refl rm (Mh.mpr rfl)⟩)))
theorem uu:OpR X (F7 .Sub) (l2 X.K pB):=by
 refine OpR.of yS fun v u H Q h => ?_;obtain ⟨x,y,M,rm,rx,ry,q⟩:=h
 cases x <;> cases y <;> first
  | exact q.elim
  | (cases Md.mp rx;cases Md.mp ry;exact ⟨_,_,rfl,rfl,q _ H Ext.refl rm (Md.mpr rfl)⟩)
theorem op_mul_i:OpR X (F7 .Mult) (rI MulOk fun i j => .int (i*j)):=opI fun _ _ _ _ _ _ _ z q=>mul_int q z.ok
theorem AJ {K:Frag} {M:Mem} {H:Hp} {Q:VK} {a:List D} {k:Int} {v u:V} (rm:RM K M H) (rx:RD K H (.tup a) v) (ry:RD K H (.int k) u) (q:jl (.tup a) (.int k) M (KE' K M H Q)):vY K v u H Q:=by
 obtain ⟨a',vs,rfl,z,j⟩:=Ml rx
 cases Md.mp ry
 obtain ⟨B,F,G,q⟩:=q;have l1:=j.length;refine ⟨a',k,vs,rfl,rfl,z,B,F,by rw [l1];exact G,fun e => ?_,fun _ p n=>jj rm (j.rep _) q n⟩
 have ea:(DN k.toNat a).flatten=a:=by
  rcases e with e | e
  ·have:a=[]:=Et.mp (by rw [<- l1,e];rfl)
   subst this;simp
  ·subst e;simp
 rw [ea] at q;exact q _ H Ext.refl rm rx
theorem uv:OpR X (F7 .Mult) (l2 X.K jl):=by
 refine OpR.of (op_mul_i.or (op_rep.or wY)) fun v u H Q h => ?_;obtain ⟨x,y,M,rm,rx,ry,q⟩:=h
 cases x <;> cases y <;> first
  | exact q.elim
  | (cases Md.mp rx;cases Md.mp ry;exact .inl ⟨_,_,rfl,rfl,q.1,q.2 _ H Ext.refl rm (Md.mpr rfl)⟩)
  | (cases Mf.mp rx;cases Md.mp ry
     obtain ⟨xs,z,B,F,G,q⟩:=q;obtain ⟨vs,h1,j⟩:=rm _ _ z;have l1:=j.length;exact .inr (.inl ⟨_,_,vs,rfl,rfl,h1,B,F,by rw [l1];exact G,fun p n=>eF rm (j.rep _) q n⟩))
  | exact .inr (.inr (AJ rm rx ry q))
theorem uw:OpR X (F7 .FloorDiv) (rI (fun _ j => 0 < j/\j < 2 ^ 256) fun i j => .int (i / j)):=L2.opI fun i j _ _ _ _ _ z q=>by
 have h1:(0:Int) < j:=z.1;have h2:j < 2 ^ 256:=z.2;have B:j.natAbs.log2 < 256:=(Nat.log2_lt (by lia)).mpr (by lia)
 exact floordiv_int (by lia) (by rw [Int.fdiv_eq_ediv_of_nonneg i (by lia)];exact q) (.inl (PyProof.noPylong_of_log2 (by lia)))
theorem rg:OpR X (F7 .FloorDiv) (l2 X.K kx):=by
 refine OpR.of uw fun v u H Q h => ?_;obtain ⟨x,y,M,rm,rx,ry,q⟩:=h
 cases x <;> cases y <;> first
  | exact q.elim
  | (cases Md.mp rx;cases Md.mp ry;exact ⟨_,_,rfl,rfl,⟨q.1,q.2.1⟩,q.2.2 _ H Ext.refl rm (Md.mpr rfl)⟩)
theorem uz:OpR X (F7 .Mod) (l2 X.K pC):=by
 refine OpR.of yT fun v u H Q h => ?_;obtain ⟨x,y,M,rm,rx,ry,q⟩:=h
 cases x <;> cases y <;> first
  | exact q.elim
  | (cases Md.mp rx;cases Md.mp ry;exact ⟨_,_,rfl,rfl,q.1,q.2 _ H Ext.refl rm (Md.mpr rfl)⟩)
theorem uA:OpR X (F7 .Pow) (l2 X.K pD):=by
 refine OpR.of yU fun v u H Q h => ?_;obtain ⟨x,y,M,rm,rx,ry,q⟩:=h
 cases x <;> cases y <;> first
  | exact q.elim
  | (cases Md.mp rx;cases Md.mp ry;exact ⟨_,_,rfl,rfl,⟨q.1,q.2.1,q.2.2.1⟩,q.2.2.2 _ H Ext.refl rm (Md.mpr rfl)⟩)
noncomputable def pE:R1d
 | .int i,M,Q=>Q (.int (-i)) M
 | _,_,_=>False
theorem kY:pz pE:=by
 intro x M Q Q' h q
 cases x <;> first | exact q.elim | exact h _ _ q
theorem UnR.of {f:gV->Sem gV} {r r':V->Hp->VK->Prop} (h:UnR X f r) (i:∀ v H Q,r' v H Q->r v H Q):UnR X f r':=fun pins s σ H x v Q I rx q=>h pins s σ H x v Q I rx (i _ _ _ q)
theorem uB:UnR X (unaryOp .USub) (l1 X.K pE):=by
 refine UnR.of yV fun v H Q h => ?_;obtain ⟨x,M,rm,rx,q⟩:=h
 cases x <;> first
  | exact q.elim
  | (cases Md.mp rx;exact ⟨_,rfl,q _ H Ext.refl rm (Md.mpr rfl)⟩)
noncomputable def aw {α β:Type} (f : α -> Option β):List α -> Option (List β)
 | [] => some []
 | x::xs=>(f x).bind fun y=>(aw f xs).map (y :: ·)
noncomputable def rb:Nat->Mem->D->Option EH
 | _,_, .non=>some .none
 | _,_, .bl b=>some (.bool b)
 | _,_, .int i=>some (.int i)
 | _,_, .str x=>if Jg x=true then some (.str x) else none
 | n+1,M, .tup ds=>(aw (rb n M) ds).map PyData.tuple
 | n+1,M, .con ds=>(aw (rb n M) ds).map Ln
 | n+1,M, .ref a=>match M a with
   | some (.lst ds)=>(aw (rb n M) ds).map Ln
   | _=>none
 | 0,_, .tup _=>none
 | 0,_, .con _=>none
 | 0,_, .ref _=>none
 | _,_, .fn _=>none
theorem cX {n:Nat} {M:Mem} (ih:∀ d p,rb n M d=some p->p.depth<=n/\p.canLay0=true):∀ {ds:List D} {ps:List EH},aw (rb n M) ds=some ps->FA ps<=n/\ER ps=true
 | [],ps,h=>by
  simp [aw] at h;subst h;exact ⟨FJ _,rfl⟩
 | d::ds,ps,h=>by
   simp only [aw] at h
   cases e1:rb n M d with
   | none=>rw [e1] at h;cases h
   | some p =>
     rw [e1] at h
     cases e2:aw (rb n M) ds with
     | none=>simp [e2] at h
     | some qs =>
       simp [e2] at h;subst h;obtain ⟨a1,a2⟩:=ih d p e1;obtain ⟨q,j⟩:=cX ih e2;refine ⟨?_, ?_⟩
       ·show max p.depth (FA qs)<=n;lia
       ·show (p.canLay0&&ER qs)=true;rw [a2,j];rfl
theorem cc {M:Mem}:∀ (n:Nat) (d:D) (p:EH),rb n M d=some p->p.depth<=n/\p.canLay0=true
 | n, .non,p,h=>by simp [rb] at h;subst h;exact ⟨FJ _,rfl⟩
 | n, .bl b,p,h=>by simp [rb] at h;subst h;exact ⟨FJ _,rfl⟩
 | n, .int b,p,h=>by simp [rb] at h;subst h;exact ⟨FJ _,rfl⟩
 | n, .str x,p,h=>by
   simp [rb] at h;obtain ⟨h1,h2⟩:=h;subst h2;exact ⟨FJ _,h1⟩
 | 0, .tup _,p,h=>by simp [rb] at h
 | 0, .con _,p,h=>by simp [rb] at h
 | 0, .ref _,p,h=>by simp [rb] at h
 | n, .fn _,p,h=>by simp [rb] at h
 | n+1, .tup ds,p,h=>by
   simp only [rb] at h
   cases e:aw (rb n M) ds with
   | none=>rw [e] at h;cases h
   | some ps =>
     rw [e] at h;cases h;obtain ⟨a,b⟩:=cX (cc n) e;exact ⟨IX a,b⟩
 | n+1, .con ds,p,h=>by
   simp only [rb] at h
   cases e:aw (rb n M) ds with
   | none=>rw [e] at h;cases h
   | some ps =>
     rw [e] at h;cases h;obtain ⟨a,b⟩:=cX (cc n) e;exact ⟨IX a,b⟩
 | n+1, .ref a,p,h=>by
   simp only [rb] at h
   cases e0:M a with
   | none=>rw [e0] at h;cases h
   | some o =>
     rw [e0] at h
     cases o with
     | dct _ _=>cases h
     | fdc _=>cases h
     | lst ds =>
       simp only at h
       cases e:aw (rb n M) ds with
       | none=>rw [e] at h;cases h
       | some ps =>
         rw [e] at h;cases h;obtain ⟨a,b⟩:=cX (cc n) e;exact ⟨IX a,b⟩
theorem cY {K:Frag} {H:Hp} {n:Nat} {M:Mem} {h:Heap} (ih:∀ d p v u,rb n M d=some p->RD K H d v->RelV v u -> ∃ as,Hi h u p as) :
 ∀ {ds:List D} {ps:List EH} {vs:List V} {us:List gV},aw (rb n M) ds=some ps->RDs K H ds vs->Vals vs us -> ∃ as,JL h us ps as
 | [],ps,vs,us,hm,r,rv=>by
  simp [aw] at hm;subst hm;rw [RDs.nil_iff.mp r] at rv
  cases rv
  exact ⟨_, .nil⟩
 | d::ds,ps,vs,us,hm,r,rv=>by
   obtain ⟨v,vr,rfl,j,q⟩:=Mg.mp r
   cases rv with
   | cons z B =>
     simp only [aw] at hm
     cases e1:rb n M d with
     | none=>rw [e1] at hm;cases hm
     | some p =>
       rw [e1] at hm
       cases e2:aw (rb n M) ds with
       | none=>simp [e2] at hm
       | some qs =>
         simp [e2] at hm;subst hm;obtain ⟨as,ra⟩:=ih d p v _ e1 j z;obtain ⟨bs,rbs⟩:=cY ih e2 q B;exact ⟨_, .cons ra rbs⟩
theorem bO {pins:List (Addr×Obj)} {σ:St} {H:Hp} {s:h7} {M:Mem} (I:Inv X pins σ H s) (rm:RM X.K M H):∀ (n:Nat) (d:D) (p:EH) (v:V) (u:gV),rb n M d=some p->RD X.K H d v->RelV v u -> ∃ as,Hi s.heap u p as
 | n, .non,p,v,u,h,r,q=>by simp [rb] at h;subst h;cases Mm.mp r;cases q;exact ⟨_, .none⟩
 | n, .bl b,p,v,u,h,r,q=>by simp [rb] at h;subst h;cases Me.mp r;cases q;exact ⟨_, .bool b⟩
 | n, .int b,p,v,u,h,r,q=>by simp [rb] at h;subst h;cases Md.mp r;obtain ⟨t,rfl⟩:=q;exact ⟨_, .int b t⟩
 | n, .str x,p,v,u,h,r,q=>by
   simp [rb] at h;obtain ⟨_,h2⟩:=h;subst h2;cases Mh.mp r;obtain ⟨t,rfl⟩:=q;exact ⟨_, .str x t⟩
 | 0, .tup _,p,_,_,h,_,_=>by simp [rb] at h
 | 0, .con _,p,_,_,h,_,_=>by simp [rb] at h
 | 0, .ref _,p,_,_,h,_,_=>by simp [rb] at h
 | n, .fn _,p,_,_,h,_,_=>by simp [rb] at h
 | n+1, .tup ds,p,v,u,h,r,q=>by
   simp only [rb] at h
   cases e:aw (rb n M) ds with
   | none=>rw [e] at h;cases h
   | some ps =>
     rw [e] at h;cases h;obtain ⟨a,vs,rfl,j,rs⟩:=Ml r
     cases q
     obtain ⟨its,rv,⟨o,ho,z,k,hd⟩,_⟩:=I.tuple j;obtain ⟨as,ra⟩:=cY (bO I rm n) e rs rv;exact ⟨_, .tuple ho z hd (by simpa using ra)⟩
 | n+1, .con ds,p,v,u,h,r,q=>by
   simp only [rb] at h
   cases e:aw (rb n M) ds with
   | none=>rw [e] at h;cases h
   | some ps =>
     rw [e] at h;cases h;obtain ⟨a,vs,rfl,j,rs⟩:=Mk.mp r
     cases q
     obtain ⟨its,rv,⟨o,k,ho,z,_,hd⟩,_⟩:=I.list j.sq;obtain ⟨as,ra⟩:=cY (bO I rm n) e rs rv;exact ⟨_, .list ho z hd (by simpa using ra)⟩
 | n+1, .ref a,p,v,u,h,r,q=>by
   simp only [rb] at h
   cases e0:M a with
   | none=>rw [e0] at h;cases h
   | some o =>
     rw [e0] at h
     cases o with
     | dct _ _=>cases h
     | fdc _=>cases h
     | lst ds =>
       simp only at h
       cases e:aw (rb n M) ds with
       | none=>rw [e] at h;cases h
       | some ps =>
         rw [e] at h;cases h
         cases Mf.mp r
         cases q
         obtain ⟨vs,j,rs⟩:=rm _ _ e0;obtain ⟨its,rv,⟨o,k,ho,z,_,hd⟩,_⟩:=I.list (SqL.of j);obtain ⟨as,ra⟩:=cY (bO I rm n) e rs rv;exact ⟨_, .list ho z hd (by simpa using ra)⟩
noncomputable def wEq:R2d:=fun x y M Q => ∃ p q,rb 16 M x=some p/\rb 16 M y=some q/\Q (.bl (Ej p q)) M
noncomputable def wNe:R2d:=fun x y M Q => ∃ p q,rb 16 M x=some p/\rb 16 M y=some q/\Q (.bl (!PyData.eqv p q)) M
theorem xb:ay wEq:=fun _ _ _ _ _ h ⟨p,q,a,b,c⟩=>⟨p,q,a,b,h _ _ c⟩
theorem xc:ay wNe:=fun _ _ _ _ _ h ⟨p,q,a,b,c⟩=>⟨p,q,a,b,h _ _ c⟩
theorem xf (F:X.A.units+16 < FQ):OpR X (Eg .Eq) (l2 X.K wEq):=by
 intro pins s σ H x y v u Q I rx ry h;obtain ⟨d,e,M,rm,rd,re,p,q,j,z,k⟩:=h;obtain ⟨as,ra⟩:=bO I rm _ _ _ _ _ j rd rx;obtain ⟨bs,rb'⟩:=bO I rm _ _ _ _ _ z re ry;obtain ⟨G,p2⟩:=cc _ _ _ j;obtain ⟨J,B⟩:=cc _ _ _ z;exact SeqAt.compareEq_reads ra rb' p2 B (by lia) ⟨.bl _,H,I,rfl,k _ H Ext.refl rm (Me.mpr rfl)⟩
theorem xg (F:X.A.units+16 < FQ):OpR X (Eg .NotEq) (l2 X.K wNe):=by
 intro pins s σ H x y v u Q I rx ry h;obtain ⟨d,e,M,rm,rd,re,p,q,j,z,k⟩:=h;obtain ⟨as,ra⟩:=bO I rm _ _ _ _ _ j rd rx;obtain ⟨bs,rb'⟩:=bO I rm _ _ _ _ _ z re ry;obtain ⟨G,p2⟩:=cc _ _ _ j;obtain ⟨J,B⟩:=cc _ _ _ z;exact SeqAt.compareNe_reads ra rb' p2 B (by lia) ⟨.bl _,H,I,rfl,k _ H Ext.refl rm (Me.mpr rfl)⟩
noncomputable def wLt:R2d
 | .int i, .int j,M,Q=>Q (.bl (decide (i < j))) M
 | _,_,_,_=>False
noncomputable def wLe:R2d
 | .int i, .int j,M,Q=>Q (.bl (decide (i<=j))) M
 | _,_,_,_=>False
noncomputable def wGt:R2d
 | .int i, .int j,M,Q=>Q (.bl (decide (j < i))) M
 | _,_,_,_=>False
noncomputable def wGe:R2d
 | .int i, .int j,M,Q=>Q (.bl (decide (j<=i))) M
 | _,_,_,_=>False
theorem xh:ay wLt:=by
 intro x y M Q Q' h q
 cases x <;> cases y <;> first | exact q.elim | exact h _ _ q
theorem xi:ay wLe:=by
 intro x y M Q Q' h q
 cases x <;> cases y <;> first | exact q.elim | exact h _ _ q
theorem xj:ay wGt:=by
 intro x y M Q Q' h q
 cases x <;> cases y <;> first | exact q.elim | exact h _ _ q
theorem xk:ay wGe:=by
 intro x y M Q Q' h q
 cases x <;> cases y <;> first | exact q.elim | exact h _ _ q
theorem xm:OpR X (Eg .Lt) (l2 X.K wLt):=by
 refine OpR.of Aq fun v u H Q h => ?_;obtain ⟨x,y,M,rm,rx,ry,q⟩:=h
 cases x <;> cases y <;> first
  | exact q.elim
  | (cases Md.mp rx;cases Md.mp ry;exact ⟨_,_,rfl,rfl,q _ H Ext.refl rm (Me.mpr rfl)⟩)
theorem xo:OpR X (Eg .LtE) (l2 X.K wLe):=by
 refine OpR.of Ar fun v u H Q h => ?_;obtain ⟨x,y,M,rm,rx,ry,q⟩:=h
 cases x <;> cases y <;> first
  | exact q.elim
  | (cases Md.mp rx;cases Md.mp ry;exact ⟨_,_,rfl,rfl,q _ H Ext.refl rm (Me.mpr rfl)⟩)
theorem xp:OpR X (Eg .Gt) (l2 X.K wGt):=by
 refine OpR.of As fun v u H Q h => ?_;obtain ⟨x,y,M,rm,rx,ry,q⟩:=h
 cases x <;> cases y <;> first
  | exact q.elim
  | (cases Md.mp rx;cases Md.mp ry;exact ⟨_,_,rfl,rfl,q _ H Ext.refl rm (Me.mpr rfl)⟩)
theorem xq:OpR X (Eg .GtE) (l2 X.K wGe):=by
 refine OpR.of Au fun v u H Q h => ?_;obtain ⟨x,y,M,rm,rx,ry,q⟩:=h
 cases x <;> cases y <;> first
  | exact q.elim
  | (cases Md.mp rx;cases Md.mp ry;exact ⟨_,_,rfl,rfl,q _ H Ext.refl rm (Me.mpr rfl)⟩)
end
end
section
noncomputable def wIx:R2d:=fun x y M Q=>match x with
 | .tup ds => ∃ i d,y = .int i/\atI ds i=some d/\Q d M
 | .con ds => ∃ i d,y = .int i/\atI ds i=some d/\Q d M
 | .ref a=>(∃ ds i d,M a=some (.lst ds)/\y = .int i/\atI ds i=some d/\Q d M)∨(∃ t kvs d,M a=some (.dct t kvs)/\dR t y=true/\dget kvs y=some d/\Q d M) ∨ ∃ kvs d,M a=some (.fdc kvs)/\dA y=true/\dget kvs y=some d/\Q d M
 | _=>False
theorem nZ:ay wIx:=by
 intro x y M Q Q' h q
 cases x with
 | tup ds=>obtain ⟨i,d,e,j,q⟩:=q;exact ⟨i,d,e,j,h _ _ q⟩
 | con ds=>obtain ⟨i,d,e,j,q⟩:=q;exact ⟨i,d,e,j,h _ _ q⟩
 | ref a =>
   rcases q with ⟨ds,i,d,z,j,B,q⟩ | ⟨t,kvs,d,z,j,B,q⟩ | ⟨kvs,d,z,j,B,q⟩
   ·exact .inl ⟨ds,i,d,z,j,B,h _ _ q⟩
   ·exact .inr (.inl ⟨t,kvs,d,z,j,B,h _ _ q⟩)
   ·exact .inr (.inr ⟨kvs,d,z,j,B,h _ _ q⟩)
 | _=>exact q.elim
theorem kZ {K:Frag} {H:Hp} {ds:List D} {vs:List V} {i:Int} {d:D} (r:RDs K H ds vs) (e:atI ds i=some d):∃ v,atI vs i=some v/\RD K H d v:=by
 unfold atI at e ⊢;rw [r.length]
 cases q:ixN ds.length i with
 | none=>rw [q] at e;cases e
 | some j =>
   rw [q] at e;exact r.get e
theorem eG {K:Frag} {H:Hp} {k:D} {q:Key} {v:V} (r:RKey k q) (h:RD K H k v):v=kV q:=by
 cases k <;> first
  | exact r.elim
  | (cases (show q=_ from r);first | exact Md.mp h | exact Mh.mp h)
theorem gN {K:Frag} {H:Hp}:∀ {ds:List D} {ks:List Key} {vs:List V},EE RKey ds ks->RDs K H ds vs->vs=ks.map kV
 | _,_,vs, .nil,h=>by rw [RDs.nil_iff.mp h];rfl
 | _,_,vs, .cons r t,h=>by
   obtain ⟨v,vr,rfl,h1,h2⟩:=Mg.mp h;rw [eG r h1,gN t h2];rfl
theorem RKey.inj {d e:D} {k:Key} (a:RKey d k) (b:RKey e k):d=e:=by
 cases d <;> first
  | exact a.elim
  | (cases e <;> first | exact b.elim | (cases (show k=_ from a);injection (show _=_ from b) with z;rw [z]) | (cases (show k=_ from a);cases (show _=_ from b)))
theorem RKeysP.inj:∀ {d e:List D} {k:List Key},EE RKey d k->EE RKey e k->d=e
 | _,_,_, .nil, .nil=>rfl
 | _,_,_, .cons r t, .cons r' t'=>by rw [r.inj r',RKeysP.inj t t']
theorem RKeys.inj {d e:D} {k:List Key} (a:RKeys d k) (b:RKeys e k):d=e:=by
 cases d <;> first
  | exact a.elim
  | (cases e <;> first | exact b.elim | exact congrArg D.tup (RKeysP.inj a b))
theorem RKey.fun {d:D} {k k':Key} (a:RKey d k) (b:RKey d k'):k=k':=by
 cases d <;> first
  | exact a.elim
  | (cases (show k=_ from a);cases (show k'=_ from b);rfl)
theorem RKeysP.fun:∀ {d:List D} {k k':List Key},EE RKey d k->EE RKey d k'->k=k'
 | _,_,_, .nil, .nil=>rfl
 | _,_,_, .cons r t, .cons r' t'=>by rw [r.fun r',RKeysP.fun t t']
theorem RKeys.fun {d:D} {k k':List Key} (a:RKeys d k) (b:RKeys d k'):k=k':=by
 cases d <;> first
  | exact a.elim
  | exact RKeysP.fun a b
section
variable {κ:Type} [DecidableEq κ] {K:Frag} {H:Hp} {RK:D -> κ -> Prop} (inj:∀ {d e:D} {k : κ},RK d k->RK e k->d=e) (fn:∀ {d:D} {k k' : κ},RK d k->RK d k'->k=k')
include inj fn
theorem dB {k:D} {q : κ} (j:RK k q):∀ {kvs:List (D×D)} {ps:List (κ × V)},EE (fun p r=>RK p.1 r.1/\RD K H p.2 r.2) kvs ps ->
 (∀ d,dget kvs k=some d -> ∃ v,bq ps q=some v/\RD K H d v)/\(dget kvs k=none->bq ps q=none)
 | _,_, .nil=>⟨fun d e=>by simp [dget] at e,fun _=>rfl⟩
 | _,_, .cons (a:=p) (b:=r) (l₂ := ps) B t=>by
   obtain ⟨F,G⟩:=dB j t
   by_cases e:p.1=k
   ·have e':r.1=q:=by
     have h1:=B.1;rw [e] at h1;exact fn h1 j
    refine ⟨fun d he => ?_,fun he => ?_⟩
    ·simp [dget,Fd,e] at he;subst he;exact ⟨r.2,eW e',B.2⟩
    ·simp [dget,Fd,e] at he
   ·have e' : ¬ r.1=q:=fun z=>e (by
     have h1:=B.1;rw [z] at h1;exact inj h1 j)
    have eq1:∀ l:List (D×D),dget (p::l) k=dget l k:=fun l=>by simp [dget,Fd,e]
    have eq2:bq (r::ps) q=bq ps q:=eX e';refine ⟨fun d he => ?_,fun he => ?_⟩
    ·rw [eq1] at he;rw [eq2];exact F d he
    ·rw [eq1] at he;rw [eq2];exact G he
end
section
variable {X:Cx}
theorem lc {K:Frag} {H:Hp} {a:Addr} {ps:List (List Key×V)} {kvs:List (D×D)} {k:D} {v:V} (B:Rd H a (.dT ps)) (pr:EE (fun (p:D×D) (q:List Key×V)=>RKeys p.1 q.1/\RD K H p.2 q.2) kvs ps) (ok:dA k=true) (rk:RD K H k v) :
 ∃ o,DGet H a v o/\(∀ d,dget kvs k=some d -> ∃ w,o=some w/\RD K H d w)/\(dget kvs k=none->o=none):=by
 obtain ⟨q,j⟩:=nX ok;obtain ⟨g1,g2⟩:=dB (RK:=RKeys) RKeys.inj RKeys.fun j pr;refine ⟨bq ps q, ?_,g1,g2⟩
 cases k <;> first
  | exact j.elim
  | (obtain ⟨b,us,rfl,z,ru⟩:=Mw (nY ok) rk
     rw [gN j ru] at z;exact .inr ⟨ps,q,b,B,rfl,z,rfl⟩)
theorem jm {K:Frag} {M:Mem} {H:Hp} {a:Addr} {t:Bool} {kvs:List (D×D)} {k:D} {v:V} (rm:RM K M H) (e:M a=some (.dct t kvs)) (ok:dR t k=true) (rk:RD K H k v) :
 ∃ o,DGet H a v o/\(∀ d,dget kvs k=some d -> ∃ w,o=some w/\RD K H d w)/\(dget kvs k=none->o=none):=by
 have ro:=rm a _ e
 cases t with
 | false =>
   obtain ⟨ps,j,pr⟩:=ro;obtain ⟨q,z⟩:=fF (show cW k=true from ok);obtain ⟨g1,g2⟩:=dB (RK:=RKey) RKey.inj RKey.fun z pr;refine ⟨bq ps q, ?_,g1,g2⟩;rw [eG z rk];exact DGet.k j
 | true =>
   obtain ⟨ps,j,pr⟩:=ro;exact lc (.inl j) pr ok rk
theorem xr (j:X.A.units+1 < FQ):IxR X (fun x y H Q => ∃ a v,x = .ref a/\DGet H a y (some v)/\Q v H):=by
 intro value slice pins s σ H x y v u Q I rx ry h hs;obtain ⟨a,w,rfl,g,q⟩:=h
 cases rx
 have hd:IsD H a:=by
  rcases g with ⟨kvs,k,e,_⟩ | ⟨kvs,k,b,e,_⟩
  ·exact .inl ⟨kvs,e⟩
  ·exact .inr ⟨kvs,e⟩
 obtain ⟨z,_⟩:=iw I hd;exact tail_any z PySem.F.slot_dict_getitem.lookup (qR j I g ry fun w' s' I' r'=>⟨w,H,I',r',q⟩) hs
theorem Bo (G:X.A.units+1 < FQ):IxR X (l2 X.K wIx):=by
 refine IxR.of (ix_list.or (ix_tup.or (xr G))) fun v u H Q h => ?_;obtain ⟨x,y,M,rm,rx,ry,q⟩:=h
 cases x with
 | tup ds =>
   obtain ⟨i,d,rfl,e,q⟩:=q;obtain ⟨a,vs,rfl,j,rs⟩:=Ml rx
   cases Md.mp ry
   obtain ⟨w,hw,rw'⟩:=kZ rs e;exact .inr (.inl ⟨a,vs,i,w,rfl,rfl,j,hw,q w H Ext.refl rm rw'⟩)
 | con ds =>
   obtain ⟨i,d,rfl,e,q⟩:=q;obtain ⟨a,vs,rfl,j,rs⟩:=Mk.mp rx
   cases Md.mp ry
   obtain ⟨w,hw,rw'⟩:=kZ rs e;exact .inl ⟨a,vs,i,w,rfl,rfl,j.sq,hw,q w H Ext.refl rm rw'⟩
 | ref a =>
   cases Mf.mp rx
   rcases q with ⟨ds,i,d,z,rfl,B,q⟩ | ⟨t,kvs,d,z,F,B,q⟩ | ⟨kvs,d,z,F,B,q⟩
   ·cases Md.mp ry
    obtain ⟨vs,j,rs⟩:=rm _ _ z;obtain ⟨w,hw,rw'⟩:=kZ rs B;exact .inl ⟨a,vs,i,w,rfl,rfl,SqL.of j,hw,q w H Ext.refl rm rw'⟩
   ·obtain ⟨o,g,g1,_⟩:=jm rm z F ry;obtain ⟨w,rfl,rw'⟩:=g1 d B;exact .inr (.inr ⟨a,w,rfl,g,q w H Ext.refl rm rw'⟩)
   ·obtain ⟨ob,ps,J,pr⟩:=rm _ _ z;obtain ⟨o,g,g1,_⟩:=lc (.inr ⟨ob,J⟩) pr F ry;obtain ⟨w,rfl,rw'⟩:=g1 d B;exact .inr (.inr ⟨a,w,rfl,g,q w H Ext.refl rm rw'⟩)
 | _=>exact q.elim
noncomputable def fG (M:Mem):D->Option Nat
 | .tup ds=>some ds.length
 | .con ds=>some ds.length
 | .ref a=>match M a with
  | some (.lst ds)=>some ds.length
  | _=>none
 | _=>none
noncomputable def el:RAd:=fun xs M Q => ∃ x n,xs=[x]/\fG M x=some n/\Q (.int n) M
theorem lg:b5 el:=fun _ _ _ _ h ⟨x,n,e,l,q⟩=>⟨x,n,e,l,h _ _ q⟩
theorem RDs.one {K:Frag} {H:Hp} {d:D} {vs:List V} (h:RDs K H [d] vs):∃ v,vs=[v]/\RD K H d v:=by
 obtain ⟨v,r,rfl,h1,h2⟩:=Mg.mp h;rw [RDs.nil_iff.mp h2];exact ⟨v,rfl,h1⟩
theorem RDs.two {K:Frag} {H:Hp} {d e:D} {vs:List V} (h:RDs K H [d,e] vs):∃ v u,vs=[v,u]/\RD K H d v/\RD K H e u:=by
 obtain ⟨v,r,rfl,h1,h2⟩:=Mg.mp h;obtain ⟨u,rfl,j⟩:=RDs.one h2;exact ⟨v,u,rfl,h1,j⟩
theorem pF:CallR X (.builtin "len") (lR X.K el):=by
 refine CallR.of u5 fun vs H Q h => ?_;obtain ⟨ds,M,rm,rs,x,n,rfl,l,q⟩:=h;obtain ⟨v,rfl,r⟩:=rs.one;refine ⟨v,n,rfl, ?_,q _ H Ext.refl rm (Md.mpr rfl)⟩
 cases x with
 | tup ds =>
   cases l
   obtain ⟨a,us,rfl,j,ru⟩:=Ml r;exact .inr ⟨us,j,ru.length.symm⟩
 | con ds =>
   cases l
   obtain ⟨a,us,rfl,j,ru⟩:=Mk.mp r;exact .inl ⟨us,j.sq,ru.length.symm⟩
 | ref a =>
   cases Mf.mp r
   simp only [fG] at l
   cases e:M a with
   | none=>rw [e] at l;cases l
   | some o =>
     rw [e] at l
     cases o with
     | dct _ _=>cases l
     | fdc _=>cases l
     | lst ds =>
       cases l
       obtain ⟨us,j,ru⟩:=rm _ _ e;exact .inl ⟨us,SqL.of j,ru.length.symm⟩
 | _=>cases l
noncomputable def lh:RAd:=fun xs M Q => ∃ i,xs=[.int i]/\Q (.int (if i < 0 then -i else i)) M
noncomputable def ky:RAd:=fun xs M Q => ∃ i j,xs=[.int i, .int j]/\Q (.int (if j > i then j else i)) M
noncomputable def kz:RAd:=fun xs M Q => ∃ i j,xs=[.int i, .int j]/\Q (.int (if j < i then j else i)) M
noncomputable def lj:RAd:=fun xs M Q=>(∃ i,xs=[.int i]/\Q (.int i) M) ∨ ∃ k,xs=[.bl k]/\Q (.int (if k then 1 else 0)) M
theorem ll:b5 lh:=fun _ _ _ _ h ⟨i,e,q⟩=>⟨i,e,h _ _ q⟩
theorem jL:b5 ky:=fun _ _ _ _ h ⟨i,j,e,q⟩=>⟨i,j,e,h _ _ q⟩
theorem jM:b5 kz:=fun _ _ _ _ h ⟨i,j,e,q⟩=>⟨i,j,e,h _ _ q⟩
theorem lm:b5 lj:=fun _ _ _ _ h q=>q.elim (fun ⟨i,e,q⟩ => .inl ⟨i,e,h _ _ q⟩) fun ⟨i,e,q⟩ => .inr ⟨i,e,h _ _ q⟩
theorem pG:CallR X (.builtin "abs") (lR X.K lh):=by
 refine CallR.of tZ fun vs H Q h => ?_;obtain ⟨ds,M,rm,rs,i,rfl,q⟩:=h;obtain ⟨v,rfl,r⟩:=rs.one
 cases Md.mp r
 exact ⟨i,rfl,q _ H Ext.refl rm (Md.mpr rfl)⟩
theorem nG (z:X.calm=true):CallR X (.builtin "max") (lR X.K ky):=by
 refine CallR.of (qF z) fun vs H Q h => ?_;obtain ⟨ds,M,rm,rs,i,j,rfl,q⟩:=h;obtain ⟨v,u,rfl,B,F⟩:=rs.two
 cases Md.mp B
 cases Md.mp F
 exact ⟨i,j,rfl,q _ H Ext.refl rm (Md.mpr rfl)⟩
theorem nH (z:X.calm=true):CallR X (.builtin "min") (lR X.K kz):=by
 refine CallR.of (qG z) fun vs H Q h => ?_;obtain ⟨ds,M,rm,rs,i,j,rfl,q⟩:=h;obtain ⟨v,u,rfl,B,F⟩:=rs.two
 cases Md.mp B
 cases Md.mp F
 exact ⟨i,j,rfl,q _ H Ext.refl rm (Md.mpr rfl)⟩
theorem pH:CallR X (.type "int") (lR X.K lj):=by
 refine CallR.of qH fun vs H Q h => ?_;obtain ⟨ds,M,rm,rs,⟨i,rfl,q⟩ | ⟨i,rfl,q⟩⟩:=h
 ·obtain ⟨v,rfl,r⟩:=rs.one
  cases Md.mp r
  exact .inl ⟨i,rfl,q _ H Ext.refl rm (Md.mpr rfl)⟩
 ·obtain ⟨v,rfl,r⟩:=rs.one
  cases Me.mp r
  exact .inr ⟨i,rfl,q _ H Ext.refl rm (Md.mpr rfl)⟩
noncomputable def aD (M:Mem):D->Option (List D)
 | .tup ds=>some ds
 | .con ds=>some ds
 | .ref a=>match M a with
  | some (.lst ds)=>some ds
  | _=>none
 | _=>none
theorem fH {K:Frag} {M:Mem} {H:Hp} {x:D} {ds:List D} {v:V} (rm:RM K M H) (r:RD K H x v) (e:aD M x=some ds):∃ p vs,v = .ref p/\(SqL K H p vs∨SqT K H p vs)/\RDs K H ds vs:=by
 cases x with
 | tup es =>
   cases e
   obtain ⟨a,us,rfl,j,ru⟩:=Ml r;exact ⟨a,us,rfl, .inr j,ru⟩
 | con es =>
   cases e
   obtain ⟨a,us,rfl,j,ru⟩:=Mk.mp r;exact ⟨a,us,rfl, .inl j.sq,ru⟩
 | ref a =>
   cases Mf.mp r
   simp only [aD] at e
   cases e0:M a with
   | none=>rw [e0] at e;cases e
   | some o =>
     rw [e0] at e
     cases o with
     | dct _ _=>cases e
     | fdc _=>cases e
     | lst es =>
       cases e
       obtain ⟨us,j,ru⟩:=rm _ _ e0;exact ⟨a,us,rfl, .inl (SqL.of j),ru⟩
 | _=>cases e
noncomputable def pI:RAd:=fun xs M Q => ∃ x ds,xs=[x]/\aD M x=some ds /\ ∀ p,M p=none->Q (.ref p) (ah M p (.lst ds))
theorem jN:b5 pI:=fun _ _ _ _ h ⟨x,ds,e,l,q⟩=>⟨x,ds,e,l,fun p n=>h _ _ (q p n)⟩
theorem nI:CallR X (.type "list") (lR X.K pI):=by
 refine CallR.of kL fun vs H Q h => ?_;obtain ⟨ds,M,rm,rs,x,es,rfl,l,q⟩:=h;obtain ⟨v,rfl,r⟩:=rs.one;obtain ⟨p,us,rfl,sq,ru⟩:=fH rm r l;exact ⟨p,us,rfl,sq,fun l' n=>eF rm ru q n⟩
end
end
section
section
variable {X:Cx}
noncomputable def pJ:RAd:=fun xs M Q => ∃ (x:D) (ns:List Int),xs=[x]/\aD M x=some (ns.map D.int)/\Q (.int ns.sum) M
theorem lq:b5 pJ:=fun _ _ _ _ h ⟨x,ds,e,l,q⟩=>⟨x,ds,e,l,h _ _ q⟩
theorem RDs.ints_eq {K:Frag} {H:Hp}:∀ {ns:List Int} {vs:List V},RDs K H (ns.map D.int) vs->vs=ns.map V.int
 | [],_,h=>RDs.nil_iff.mp h
 | n::ns,_,h=>by
   obtain ⟨v,r,rfl,h1,h2⟩:=Mg.mp h;rw [Md.mp h1,RDs.ints_eq h2];rfl
theorem ls {pins:List (Addr×Obj)} {σ:St} {H:Hp} {s:h7} {Q:VK} {p:Addr} {ns:List Int} {its:List gV} (I:Inv X pins σ H s) (O:X.calm=true) (rv:Vals (ns.map V.int) its) (q:Q (.int ns.sum) H)
 (h:∀ (R:gV->h7->Prop),(∀ I' St fp,(∀ b∈fp,b < (s.heap.push I').objs.size)->St 0 (s.heap.push I')->Walks X.prog X.w X.A.in1 s.heap.objs.size fp [s.heap.objs.size] its.toArray.size (fun i v=>its.toArray[i]? = some v) St->R (.ref s.heap.objs.size) { s with heap:=s.heap.push I' })->DU (model X.prog X.w) X.A.in1 (Jy (.ref p)) R X.xe s) :
 DU (model X.prog X.w) X.A (call (.builtin "sum") [.ref p]) (EP X pins σ Q) X.xe s:=by
 refine call_sum_walkG (h _ fun ob St fp z st W=>⟨_,fp,_,_,_,St,fun i=>ns.getD i 0,rfl,W,st,z,fun i v F => ?_,fun h' tk t' G => ?_⟩)
 ·have j:its[i]? = some v:=by simpa using F
  have J:=rv.length;rw [i5] at J;have hi:i < its.length:=(DY.mp j).1;have L:(ns.map V.int)[i]? = some (.int (ns.getD i 0)):=by
   rw [Ei,D0 (by lia)]
   simp [EW,D0 (show i < ns.length by lia)]
  obtain ⟨u,B,t,rfl⟩:=rv.get L;rw [j] at B;cases B;exact ⟨t,rfl⟩
 ·have e:preSum (fun i=>ns.getD i 0) its.toArray.size=ns.sum:=by
   rw [preSum_getD,DV, <- rv.length,i5,List.take_length]
  rw [e];refine ⟨.int ns.sum,H,I.kept (h':=h') (t':=tk) fun b o eb => ?_,⟨t',rfl⟩,q⟩;exact G b o (by simp;exact Ec (DM eb)) (i3 _ eb)
theorem pK (B:X.calm=true):CallR X (.builtin "sum") (lR X.K pJ):=by
 intro pins s σ H xs us Q I rv h;obtain ⟨ds,M,rm,rs,x,ns,rfl,l,q⟩:=h;obtain ⟨v,rfl,r⟩:=rs.one;obtain ⟨u,rfl,ru⟩:=cT rv;obtain ⟨p,vs,rfl,sq,L⟩:=fH rm r l
 cases ru
 have e:=RDs.ints_eq L;subst e;have fin:=q (.int ns.sum) H Ext.refl rm (Md.mpr rfl)
 rcases sq with sq | sq
 ·obtain ⟨its,rv,pl,O⟩:=I.list sq;have F:p≠s.heap.objs.size:=by
   obtain ⟨o,n,e,_⟩:=pl;exact Ec (DM e)
  refine ls I B rv fin fun R G=>Fy pl.isList ?_;refine G _ _ [s.heap.objs.size,p] (fun b J => ?_) ⟨⟨_,DQ _ rfl,rfl,rfl⟩,pl.isList.at fun o e=>i3 _ e⟩ (Walks.list (by rw [GU];exact I.ok.hd B) s.heap.objs.size p F its.toArray)
  rw [EU]
  rcases DT.mp J with z | z
  ·lia
  ·have z':b=p:=by simpa using z
   subst z';obtain ⟨o,n,e,_⟩:=pl;exact IB (DM e)
 ·obtain ⟨its,rv,pl,O⟩:=I.tuple sq;have j:p < s.heap.objs.size:=by
   obtain ⟨o,e,_⟩:=pl;exact DM e
  refine ls I B rv fin fun R G=>EV (show s.heap.IsTuple p its.toArray from pl) ?_;refine G _ _ [s.heap.objs.size,p] (fun b J => ?_) ⟨⟨_,DQ _ rfl,rfl,rfl⟩, ?_⟩ (Walks.tuple (by rw [GU];exact I.ok.hd B) s.heap.objs.size p (Ec j) its.toArray)
  ·rw [EU]
   rcases DT.mp J with z | z
   ·lia
   ·have z':b=p:=by simpa using z
    rw [z'];exact IB j
  ·obtain ⟨o,e,c,n,d⟩:=pl;exact ⟨o,i3 _ e,c,n,d⟩
noncomputable def uC (M:Mem):D->Option Bool
 | .non=>some false
 | .bl b=>some b
 | .int i=>some (i != 0)
 | .tup ds=>some (!ds.isEmpty)
 | .con ds=>some (!ds.isEmpty)
 | .ref a=>match M a with
  | some (.lst ds)=>some (!ds.isEmpty)
  | _=>none
 | _=>none
noncomputable def lu (t:TEd):TTd:=fun ρ M Q=>t ρ M fun x M1 => ∃ b,uC M1 x=some b/\Q b M1
theorem uD {t:TEd} (h:ae t):aI (lu t):=fun ρ M Q Q' i q=>h _ _ _ _ (fun x M1 ⟨k,e,j⟩=>⟨k,e,i _ _ j⟩) q
theorem zq {K:Frag} {M:Mem} {H:Hp} {x:D} {b:Bool} {v:V} (rm:RM K M H) (r:RD K H x v) (e:uC M x=some b):tX K v H b:=by
 have emp:∀ {ds:List D} {vs:List V},RDs K H ds vs->(!ds.isEmpty) = !vs.isEmpty:=fun {ds vs} h=>by
  have l:=h.length
  cases ds <;> cases vs <;> first | rfl | (simp at l)
 cases x with
 | non=>cases e;cases Mm.mp r;rfl
 | bl k=>cases e;cases Me.mp r;rfl
 | int i=>cases e;cases Md.mp r;rfl
 | tup ds =>
   cases e
   obtain ⟨a,vs,rfl,j,rs⟩:=Ml r;exact .inr (.inl ⟨vs,j,emp rs⟩)
 | con ds =>
   cases e
   obtain ⟨a,vs,rfl,j,rs⟩:=Mk.mp r;exact .inl ⟨vs,j.sq,emp rs⟩
 | ref a =>
   cases Mf.mp r
   simp only [uC] at e
   cases e0:M a with
   | none=>rw [e0] at e;cases e
   | some o =>
     rw [e0] at e
     cases o with
     | dct _ _=>cases e
     | fdc _=>cases e
     | lst ds =>
       cases e
       obtain ⟨vs,j,rs⟩:=rm _ _ e0;exact .inl ⟨vs,SqL.of j,emp rs⟩
 | str _=>cases e
 | fn _=>cases e
variable {a b:Expr} {ta tb:TEd} {pos:Pos}
theorem zr (m:ae ta) (B:PE X a (lE X.K ta)) (he:∀ whole,isTrue a X.env whole=(do let v <- whole;Iz a.pos;holding [v] (truthy v))):PT X a (lT X.K (lu ta)):=by
 refine PT.imp (tY B he) fun σ H Q h => ?_;obtain ⟨ρ,M,rs,rm,q⟩:=h;exact ⟨ρ,M,rs,rm,m _ _ _ _ (fun x M1 ⟨k,e,F⟩ v H1 G j z=>⟨k,zq j z e,F H1 G j⟩) q⟩
noncomputable def iE (t:TTd):TTd:=fun ρ M Q=>t ρ M fun c M1=>Q (!c) M1
theorem rh {t:TTd} (h:aI t):aI (iE t):=fun ρ M Q Q' i q=>h _ _ _ _ (fun c M1 j=>i _ _ j) q
theorem zt {tA:TTd} (m:aI tA) (j:PT X a (lT X.K tA)):PT X (.UnaryOp .Not a pos) (lT X.K (iE tA)):=by
 refine PT.imp (yD j) fun σ H Q h => ?_;obtain ⟨ρ,M,rs,rm,q⟩:=h;exact ⟨ρ,M,rs,rm,m _ _ _ _ (fun c M1 z=>z) q⟩
noncomputable def iF (t u:TTd):TTd:=fun ρ M Q=>t ρ M fun c M1=>if c=true then u ρ M1 Q else Q false M1
noncomputable def lw (t u:TTd):TTd:=fun ρ M Q=>t ρ M fun c M1=>if c=true then Q true M1 else u ρ M1 Q
theorem rj {t u:TTd} (h:aI t) (k:aI u):aI (iF t u):=fun ρ M Q Q' i q=>h _ _ _ _ (fun c M1 j=>by
 cases c with
 | true=>rw [if_pos rfl] at j ⊢;exact k _ _ _ _ i j
 | false=>rw [if_neg y2] at j ⊢;exact i _ _ j) q
theorem uE {t u:TTd} (h:aI t) (k:aI u):aI (lw t u):=fun ρ M Q Q' i q=>h _ _ _ _ (fun c M1 j=>by
 cases c with
 | true=>rw [if_pos rfl] at j ⊢;exact i _ _ j
 | false=>rw [if_neg y2] at j ⊢;exact k _ _ _ _ i j) q
theorem xt {tA:TTd} (j:PT X a (lT X.K tA)):PW X (.BoolOp .And [a] pos) (lT X.K tA):=wz j
theorem zu {tA:TTd} (j:PT X a (lT X.K tA)):PW X (.BoolOp .Or [a] pos) (lT X.K tA):=yB j
theorem zv {tA tB:TTd} {rest:List Expr} (mA:aI tA) (mB:aI tB) (F:PT X a (lT X.K tA)) (G:PW X (.BoolOp .And (b::rest) pos) (lT X.K tB)):PW X (.BoolOp .And (a::b::rest) pos) (lT X.K (iF tA tB)):=by
 refine PW.imp (yC F G) fun σ H Q h => ?_;obtain ⟨ρ,M,rs,rm,q⟩:=h;refine ⟨ρ,M,rs,rm,mA _ _ _ _ (fun c M1 z H1 B j => ?_) q⟩
 cases c with
 | true=>rw [if_pos rfl] at z ⊢;exact ⟨ρ,M1,rs.mono (B.stab rm),j,mB _ _ _ _ (fun d M2 k=>k.ext B) z⟩
 | false=>rw [if_neg y2] at z ⊢;exact z H1 B j
theorem AK {tA tB:TTd} {rest:List Expr} (mA:aI tA) (mB:aI tB) (F:PT X a (lT X.K tA)) (G:PW X (.BoolOp .Or (b::rest) pos) (lT X.K tB)):PW X (.BoolOp .Or (a::b::rest) pos) (lT X.K (lw tA tB)):=by
 refine PW.imp (Ah F G) fun σ H Q h => ?_;obtain ⟨ρ,M,rs,rm,q⟩:=h;refine ⟨ρ,M,rs,rm,mA _ _ _ _ (fun c M1 z H1 B j => ?_) q⟩
 cases c with
 | true=>rw [if_pos rfl] at z ⊢;exact z H1 B j
 | false=>rw [if_neg y2] at z ⊢;exact ⟨ρ,M1,rs.mono (B.stab rm),j,mB _ _ _ _ (fun d M2 k=>k.ext B) z⟩
noncomputable def iG (ta tb:TEd):TEd:=fun ρ M Q=>ta ρ M fun x M1 => ∃ c,x = .bl c/\if c=true then tb ρ M1 Q else Q (.bl false) M1
noncomputable def lB (ta tb:TEd):TEd:=fun ρ M Q=>ta ρ M fun x M1 => ∃ c,x = .bl c/\if c=true then Q (.bl true) M1 else tb ρ M1 Q
noncomputable def iH (ta:TEd):TEd:=fun ρ M Q=>ta ρ M fun x M1 => ∃ c,x = .bl c/\Q (.bl (!c)) M1
theorem rl (h:ae ta) (k:ae tb):ae (iG ta tb):=fun ρ M Q Q' i q=>h _ _ _ _ (fun x M1 ⟨c,e,j⟩=>⟨c,e,by
 cases c with
 | true=>rw [if_pos rfl] at j ⊢;exact k _ _ _ _ i j
 | false=>rw [if_neg y2] at j ⊢;exact i _ _ j⟩) q
theorem uF (h:ae ta) (k:ae tb):ae (lB ta tb):=fun ρ M Q Q' i q=>h _ _ _ _ (fun x M1 ⟨c,e,j⟩=>⟨c,e,by
 cases c with
 | true=>rw [if_pos rfl] at j ⊢;exact i _ _ j
 | false=>rw [if_neg y2] at j ⊢;exact k _ _ _ _ i j⟩) q
theorem rn (h:ae ta):ae (iH ta):=fun ρ M Q Q' i q=>h _ _ _ _ (fun x M1 ⟨c,e,j⟩=>⟨c,e,i _ _ j⟩) q
theorem rp {op:BoolOp} {t:TEd} (h:PE X a (lE X.K t)):PE X (.BoolOp op [a] pos) (lE X.K t):=yE h
theorem zw {rest:List Expr} (ma:ae ta) (mb:ae tb) (G:PE X a (lE X.K ta)) (J:PE X (.BoolOp .And (b::rest) pos) (lE X.K tb)):PE X (.BoolOp .And (a::b::rest) pos) (lE X.K (iG ta tb)):=by
 refine PE.imp (yF G J) fun σ H Q h => ?_;obtain ⟨ρ,M,rs,rm,q⟩:=h;refine ⟨ρ,M,rs,rm,ma _ _ _ _ (fun x M1 ⟨c,e,z⟩ v H1 B j F => ?_) q⟩;subst e;refine ⟨c,Me.mp F, ?_⟩
 cases c with
 | true=>rw [if_pos rfl] at z ⊢;exact ⟨ρ,M1,rs.mono (B.stab rm),j,mb _ _ _ _ (fun d M2 k=>k.ext B) z⟩
 | false=>rw [if_neg y2] at z ⊢;exact z _ H1 B j (Me.mpr rfl)
theorem AL {rest:List Expr} (ma:ae ta) (mb:ae tb) (G:PE X a (lE X.K ta)) (J:PE X (.BoolOp .Or (b::rest) pos) (lE X.K tb)):PE X (.BoolOp .Or (a::b::rest) pos) (lE X.K (lB ta tb)):=by
 refine PE.imp (Ak G J) fun σ H Q h => ?_;obtain ⟨ρ,M,rs,rm,q⟩:=h;refine ⟨ρ,M,rs,rm,ma _ _ _ _ (fun x M1 ⟨c,e,z⟩ v H1 B j F => ?_) q⟩;subst e;refine ⟨c,Me.mp F, ?_⟩
 cases c with
 | true=>rw [if_pos rfl] at z ⊢;exact z _ H1 B j (Me.mpr rfl)
 | false=>rw [if_neg y2] at z ⊢;exact ⟨ρ,M1,rs.mono (B.stab rm),j,mb _ _ _ _ (fun d M2 k=>k.ext B) z⟩
theorem zx (ma:ae ta) (B:PE X a (lE X.K ta)):PE X (.UnaryOp .Not a pos) (lE X.K (iH ta)):=by
 refine PE.imp (yG B) fun σ H Q h => ?_;obtain ⟨ρ,M,rs,rm,q⟩:=h;refine ⟨ρ,M,rs,rm,ma _ _ _ _ (fun x M1 ⟨c,e,F⟩ v H1 G j z => ?_) q⟩;subst e;exact ⟨c,Me.mp z,F _ H1 G j (Me.mpr rfl)⟩
noncomputable def wIf (t:TTd) (ta tb:TEd):TEd:=fun ρ M Q=>t ρ M fun c M1=>if c=true then ta ρ M1 Q else tb ρ M1 Q
theorem xu {t:TTd} (h:aI t) (z:ae ta) (B:ae tb):ae (wIf t ta tb):=fun ρ M Q Q' i q=>h _ _ _ _ (fun c M1 j=>by
 cases c with
 | true=>rw [if_pos rfl] at j ⊢;exact z _ _ _ _ i j
 | false=>rw [if_neg y2] at j ⊢;exact B _ _ _ _ i j) q
theorem AM {c:Expr} {t:TTd} (mt:aI t) (ma:ae ta) (mb:ae tb) (F:PT X c (lT X.K t)) (G:PE X a (lE X.K ta)) (J:PE X b (lE X.K tb)):PE X (.IfExp c a b pos) (lE X.K (wIf t ta tb)):=by
 refine PE.imp (tO F G J) fun σ H Q h => ?_;obtain ⟨ρ,M,rs,rm,q⟩:=h;refine ⟨ρ,M,rs,rm,mt _ _ _ _ (fun x M1 z H1 B j => ?_) q⟩
 cases x with
 | true=>rw [if_pos rfl] at z ⊢;exact ⟨ρ,M1,rs.mono (B.stab rm),j,ma _ _ _ _ (fun d M2 k=>k.ext B) z⟩
 | false=>rw [if_neg y2] at z ⊢;exact ⟨ρ,M1,rs.mono (B.stab rm),j,mb _ _ _ _ (fun d M2 k=>k.ext B) z⟩
noncomputable abbrev TOd:=aq->Mem->(Option Int->Mem->Prop)->Prop
def pL (T:TOd):Prop := ∀ ρ M Q Q',(∀ d M',Q d M'->Q' d M')->T ρ M Q->T ρ M Q'
noncomputable def eI:TOd:=fun _ M Q=>Q none M
noncomputable def iI (t:TEd):TOd:=fun ρ M Q=>t ρ M fun x M1 => ∃ i,x = .int i/\Q (some i) M1
theorem nJ:pL eI:=fun _ _ _ _ h q=>h _ _ q
theorem rq (h:ae ta):pL (iI ta):=fun ρ M Q Q' i q=>h _ _ _ _ (fun x M1 ⟨c,e,j⟩=>⟨c,e,i _ _ j⟩) q
noncomputable def lO (K:Frag) (T:TOd):TO:=fun σ H Q => ∃ ρ M,RS K H σ ρ /\ RM K M H/\T ρ M (fun o M' => ∀ H',Ext M H M' H'->RM K M' H'->Q o H')
theorem xv:PO X none (lO X.K eI):=fun pins s σ H Q I h=>by
 obtain ⟨ρ,M,rs,rm,q⟩:=h;exact wN pins s σ H Q I (q H Ext.refl rm)
theorem xw {e:Expr} (m:ae ta) (h:PE X e (lE X.K ta)):PO X (some e) (lO X.K (iI ta)):=fun pins s σ H Q I hq=>by
 obtain ⟨ρ,M,rs,rm,q⟩:=hq;refine wP h pins s σ H Q I ⟨ρ,M,rs,rm,m _ _ _ _ (fun x M1 ⟨i,e,B⟩ v H1 F j z => ?_) q⟩;subst e;exact ⟨i,Md.mp z,B H1 F j⟩
end
end
section
section
variable {X:Cx}
noncomputable def tyN (M:Mem):D->Option String
 | .non=>some "NoneType"
 | .bl _=>some "bool"
 | .int _=>some "int"
 | .str _=>some "str"
 | .tup _=>some "tuple"
 | .ref a=>match M a with
  | some (.lst _)=>some "list"
  | some (.dct _ _)=>some "dict"
  | _=>none
 | .con _=>none
 | .fn _=>none
noncomputable def bY (T t:String):Bool:=t==T || (t == "bool" && T == "int")
theorem vZ {K:Frag} {M:Mem} {H:Hp} {x:D} {t:String} {v:V} (rm:RM K M H) (r:RD K H x v) (e:tyN M x=some t):bW K H v (.type t):=by
 cases x with
 | non=>cases e;cases Mm.mp r;exact .non
 | bl k=>cases e;cases Me.mp r;exact .bl k
 | int i=>cases e;cases Md.mp r;exact .int i
 | str i=>cases e;cases Mh.mp r;exact .str i
 | tup ds =>
   cases e
   obtain ⟨a,vs,rfl,j,rs⟩:=Ml r;exact .tup j
 | con ds=>cases e
 | fn _=>cases e
 | ref a =>
   cases Mf.mp r
   simp only [tyN] at e
   cases e0:M a with
   | none=>rw [e0] at e;cases e
   | some o =>
     rw [e0] at e
     cases o with
     | lst ds =>
       cases e
       obtain ⟨vs,j,rs⟩:=rm _ _ e0;exact .lst j
     | dct t kvs =>
       cases e
       have ro:=rm _ _ e0
       cases t with
       | false=>obtain ⟨ps,j,_⟩:=ro;exact .dK j
       | true=>obtain ⟨ps,j,_⟩:=ro;exact .dT j
     | fdc kvs=>cases e
noncomputable def cf:List String := ["NoneType", "bool", "int", "str", "tuple", "list", "dict"]
theorem jn (K:Frag):∀ T∈["bool", "int", "str", "tuple", "list", "dict"], ∀ t∈cf,PySem.W.kitOne K (.type t) (.type T)=some (bY T t):=by
 intro T j t q;simp only [cf,DT,Es,or_false] at j q
 rcases j with rfl | rfl | rfl | rfl | rfl | rfl <;> rcases q with rfl | rfl | rfl | rfl | rfl | rfl | rfl <;> rfl
noncomputable def iJ (T:String) (ta:TEd):TEd:=fun ρ M Q=>ta ρ M fun x M1 => ∃ t,tyN M1 x=some t/\Q (.bl (bY T t)) M1
theorem rB {T:String} {ta:TEd} (h:ae ta):ae (iJ T ta):=fun ρ M Q Q' i q=>h _ _ _ _ (fun x M1 ⟨t,e,j⟩=>⟨t,e,i _ _ j⟩) q
theorem og {M:Mem} {x:D} {t:String} (e:tyN M x=some t):t∈cf:=by
 cases x with
 | ref a =>
   simp only [tyN] at e
   cases e0:M a with
   | none=>rw [e0] at e;cases e
   | some o=>rw [e0] at e;cases o <;> cases e <;> simp [cf]
 | con _=>cases e
 | fn _=>cases e
 | _=>cases e;simp [cf]
theorem rC (T:String) (j:T∈["bool", "int", "str", "tuple", "list", "dict"]):CallR X (.builtin "isinstance") (fun vs H Q => ∃ v t,vs=[v, .ty T]/\bW X.K H v (.type t)/\t∈cf/\Q (.bl (bY T t)) H):=by
 intro pins s σ H xs us Q I r h;obtain ⟨v,t,rfl,ty,z,q⟩:=h;obtain ⟨u,c,rfl,ru,rc⟩:=kw r
 cases rc
 exact qJ I ru ty (jn X.K T j t z) fun tk=>⟨.bl _,H,I.tok tk,rfl,q⟩
theorem xx {e:Expr} {ta:TEd} {T:String} {y:Str} {p p2 pos:Pos} (L:T∈["bool", "int", "str", "tuple", "list", "dict"]) (m:ae ta) (he:PE X e (lE X.K ta)) (O:Gl X "isinstance") (hm:X.mg "isinstance" = none)
 (z:Gl X y) (B:X.mg y=none) (U:FE y=some (.type T)) (hn:y ≠ "__name__") (F:(y==("__debug__":Str))=false)
 (hs:E4 [e, .Name y p2] X.env=(false,eval e X.env)::E4 [.Name y p2] X.env) (G:(Gu pos (E4 [.Name y p2] X.env)).any (·.1)=false) :
 PE X (.Call (.Name "isinstance" p) [e, .Name y p2] [] pos) (lE X.K (iJ T ta)):=by
 have h2:PE X (.Name y p2) (tC (.ty T)):=jd z B U rfl hn F;refine PE.imp (bw (rC T L) O hm (by decide +kernel) (cw he (cw h2 io rfl) hs) (by decide) (by decide) hs G) fun σ H Q h => ?_
 obtain ⟨ρ,M,rs,rm,q⟩:=h;exact ⟨ρ,M,rs,rm,m _ _ _ _ (fun x M1 ⟨t,e,Y⟩ v H1 Z j J=>⟨v,t,rfl,vZ j J e,og e,Y _ H1 Z j (Me.mpr rfl)⟩) q⟩
noncomputable def wBM (rd:D->List D->Mem->QD->Prop) (to:TEd) (t:TAd):TEd:=fun ρ M Q=>to ρ M fun x M1=>(∃ a xs,x = .ref a/\M1 a=some (.lst xs))/\t ρ M1 fun ds M2=>rd x ds M2 Q
def kA (rd:D->List D->Mem->QD->Prop):Prop := ∀ x ds M Q Q',(∀ d M',Q d M'->Q' d M')->rd x ds M Q->rd x ds M Q'
theorem xz {rd:D->List D->Mem->QD->Prop} {to:TEd} {t:TAd} (j:kA rd) (mo:ae to) (mt:bp t):ae (wBM rd to t):=fun ρ M Q Q' i q =>
 mo _ _ _ _ (fun x M1 ⟨e,z⟩=>⟨e,mt _ _ _ _ (fun ds M2 B=>j _ _ _ _ _ i B) z⟩) q
theorem AN {K:Frag} {M:Mem} {H:Hp} {x:D} {v:V} (rm:RM K M H) (r:RD K H x v) (h:∃ a xs,x = .ref a/\M a=some (.lst xs)):tyV K "list" v H:=by
 obtain ⟨a,xs,rfl,e⟩:=h
 cases Mf.mp r
 obtain ⟨vs,j,_⟩:=rm _ _ e;exact .inl ⟨rfl,vs,SqL.of j⟩
theorem xA {K:Frag} {rd:D->List D->Mem->QD->Prop} {r:V->List V->Hp->VK->Prop} {to:TEd} {t:TAd} (L:kA rd) (mo:ae to) (mt:bp t)
 (O:∀ v vs H Q,lMt K rd v vs H Q->r v vs H Q) (σ:St) (H:Hp) (Q:VK) (h:lE K (wBM rd to t) σ H Q):tBM K "list" r (lE K to) (lA K t) σ H Q:=by
 obtain ⟨ρ,M,rs,rm,q⟩:=h;refine ⟨ρ,M,rs,rm,mo _ _ _ _ (fun x M1 ⟨e,U⟩ v H1 G j z=>⟨AN j z e, ?_⟩) q⟩;refine ⟨ρ,M1,rs.mono (G.stab rm),j,mt _ _ _ _ (fun ds M2 Y vs H2 J B F => ?_) U⟩;exact O v vs H2 Q ⟨x,ds,M2,B,z.mono (J.stab j),F,L _ _ _ _ _ (fun d M' k=>k.ext (G.trans J)) Y⟩
noncomputable def jo:D->List D->Mem->QD->Prop:=fun x ds M Q => ∃ a xs y,x = .ref a/\ds=[y]/\M a=some (.lst xs)/\xs.length < DL/\Q .non (ah M a (.lst (xs++[y])))
noncomputable def zy:D->List D->Mem->QD->Prop:=fun x ds M Q => ∃ a xs,x = .ref a/\ds=[]/\M a=some (.lst xs)/\Q .non (ah M a (.lst []))
theorem gE:kA jo:=fun _ _ _ _ _ h ⟨a,xs,y,j,B,F,z,q⟩=>⟨a,xs,y,j,B,F,z,h _ _ q⟩
theorem xB {K:Frag} {M:Mem} {H:Hp} {Q:VK} {d:D} {v:V} {a:Addr} {o0:O} {ds:List D} {vs:List V} (rm:RM K M H) (m:M a=some o0) (rd:RDs K H ds vs) (r:RD K H d v) (q:KE' K M H Q d (ah M a (.lst ds))) (w:fz (some o0)=false:=by rfl) :
 Q v (upd H a (.lst vs)):=by
 have st:Stab H (upd H a (.lst vs)):=rm.stabPut m w;exact q v _ (Ext.put m w) (rm.put m ⟨vs,aH,rd.mono st⟩ w) (r.mono st)
theorem uG {K:Frag} (v:V) (vs:List V) (H:Hp) (Q:VK) (h:lMt K jo v vs H Q):nU v vs H Q:=by
 obtain ⟨x,ds,M,rm,rx,rs,a,xs,y,rfl,rfl,e,z,q⟩:=h
 cases Mf.mp rx
 obtain ⟨w,rfl,rw'⟩:=rs.one;obtain ⟨us,j,ru⟩:=rm _ _ e;exact ⟨a,us,w,rfl,rfl,j,by rw [ru.length];exact z,xB rm e (ru.append (RDs.cons rw' RDs.nil)) (Mm.mpr rfl) q⟩
noncomputable abbrev BT:=D->aq->Option aq
noncomputable abbrev BTs:=List D->aq->Option aq
noncomputable def cH (i:Nat):BT:=fun d ρ => some (ρ.set i (some d))
noncomputable def gO:BTs:=fun ds ρ => match ds with | [] => some ρ | _=>none
noncomputable def cq (b:BT) (bs:BTs):BTs:=fun ds ρ => match ds with | d::r=>(b d ρ).bind fun ρ'=>bs r ρ' | [] => none
noncomputable def pM (bs:BTs):BT:=fun d ρ => match d with | .tup ds=>bs ds ρ | _=>none
noncomputable def lG (K:Frag) (b:BT):TG:=fun v σ H Q => ∃ d ρ ρ',RD K H d v/\RS K H σ ρ /\ b d ρ = some ρ' /\ ∀ σ',RS K H σ' ρ'->Q σ' H
noncomputable def lGs (K:Frag) (b:BTs):TGs:=fun vs σ H Q => ∃ ds ρ ρ',RDs K H ds vs/\RS K H σ ρ /\ b ds ρ = some ρ' /\ ∀ σ',RS K H σ' ρ'->Q σ' H
theorem PG.imp {e:Expr} {t t':TG} (h:PG X e t) (i:∀ v σ H Q,t' v σ H Q->t v σ H Q):PG X e t':=fun pins s σ H v u Q I r q=>h pins s σ H v u Q I r (i _ _ _ _ q)
theorem PGs.imp {e:List Expr} {t t':TGs} (h:PGs X e t) (i:∀ v σ H Q,t' v σ H Q->t v σ H Q):PGs X e t':=fun pins s σ H v u Q I r q=>h pins s σ H v u Q I r (i _ _ _ _ q)
theorem xC {i:Nat} {x:Str} {pos:Pos} (j:X.N.Nodup) (hi:X.N[i]? = some x) (hx:Loc X.env.scope x) (hf:X.fn x=true∨X.env.scope.names.lookup x=some .local):PG X (.Name x pos) (lG X.K (cH i)) :=
 PG.imp (nS j hi hx hf) fun v σ H Q ⟨d, ρ, ρ',r,rs,e,q⟩=>by
  cases e
  exact q _ (rs.set i r)
theorem xD:PGs X [] (lGs X.K gO):=PGs.imp wG fun vs σ H Q ⟨ds, ρ, ρ',r,rs,e,q⟩=>by
 cases ds with
 | nil=>cases e;exact ⟨RDs.nil_iff.mp r,q σ rs⟩
 | cons _ _=>cases e
theorem uH {e:Expr} {es:List Expr} {b:BT} {bs:BTs} (h1:PG X e (lG X.K b)) (h2:PGs X es (lGs X.K bs)) (hs:(Fk (e::es) X.env).map (·.2)=assign e X.env::(Fk es X.env).map (·.2)) :
 PGs X (e::es) (lGs X.K (cq b bs)):=PGs.imp (tR h1 h2 hs) fun vs σ H Q ⟨ds, ρ, ρ',r,rs,e,q⟩=>by
 cases ds with
 | nil=>cases e
 | cons d ds =>
   obtain ⟨v,vr,rfl,z,B⟩:=Mg.mp r;simp only [cq] at e
   cases j:b d ρ with
   | none=>rw [j] at e;cases e
   | some ρ1 =>
     rw [j] at e;exact ⟨v,vr,rfl,d, ρ, ρ1,z,rs,j,fun σ' rs'=>⟨ds, ρ1, ρ',B,rs',e,q⟩⟩
theorem zz {es:List Expr} {k:Nat} {bs:BTs} {n:Nat} {pos:Pos} (z:X.calm=true) (hlen:∀ ds ρ ρ',bs ds ρ = some ρ'->ds.length=n) (h:PGs X es (lGs X.K bs)) (hn:(Fk es X.env).length=n) (j:(Fk es X.env).findIdx? (·.1)=none) :
 PG X (.Tuple es k pos) (lG X.K (pM bs)):=PG.imp (yL z h hn j) fun v σ H Q ⟨d, ρ, ρ',r,rs,e,q⟩=>by
 cases d with
 | tup ds =>
   obtain ⟨a,vs,rfl,B,rv⟩:=Ml r;exact ⟨a,vs,rfl,B,by rw [rv.length];exact hlen _ _ _ e,ds, ρ, ρ',rv,rs,e,q⟩
 | _=>cases e
noncomputable abbrev TId:=aq->Mem->(List D->(Mem->Prop)->Mem->Prop)->Prop
def cr (T:TId):Prop := ∀ ρ M Q Q',(∀ xs c M',Q xs c M'->Q' xs c M')->T ρ M Q->T ρ M Q'
def Yl (H H':Hp):Prop:=H'=H ∨ ∃ q vs,H q=none/\H'=upd H q (.tup vs)
def gP (K:Frag) (H1:Hp) (xs:List D) (chk:Mem->Prop) (J:It):Prop := ∀ M H,Stab H1 H->RM K M H->chk M -> ∀ i,(xs.length<=i->J.stop i H)/\(i < xs.length->J.go i H /\
 ∀ x H',J.yld i H x H'->Yl H H' /\ ∃ d,xs[i]? = some d/\RD K H' d x)
noncomputable def lI (K:Frag) (T:TId):TI:=fun σ H R => ∃ ρ M,RS K H σ ρ /\ RM K M H/\T ρ M (fun xs chk M1 => ∀ J H1,Ext M H M1 H1->RM K M1 H1->gP K H1 xs chk J->R J H1)
theorem PI.imp {tg e:Expr} {t t':TI} (h:PI X tg e t) (i:∀ σ H Q,t' σ H Q->t σ H Q):PI X tg e t':=fun pins s σ H Q I q=>h pins s σ H Q I (i _ _ _ q)
theorem Yl.ext {K:Frag} {M:Mem} {H H':Hp} (rm:RM K M H) (y:Yl H H'):Ext M H M H'/\RM K M H':=by
 rcases y with rfl | ⟨q,vs,n,rfl⟩
 ·exact ⟨Ext.refl,rm⟩
 ·exact ⟨Mn n,rm.new n⟩
noncomputable def Bp (K:Frag) (tl:TE):TI:=fun σ H R=>tl σ H fun x H1 => ∃ a,x = .ref a/\(((∃ xs,SqL K H1 a xs)/\R (Itl K a) H1)∨((∃ xs,SqT K H1 a xs)/\R (Itt K a) H1))
theorem zA {tg l:Expr} {tl:TE} (F:PE X l tl):PI X tg l (Bp X.K tl):=by
 intro pins s σ H R I h;refine thn (F pins s σ H _ I h) fun v s1 ⟨x,H1,j,G,J⟩ => ?_;obtain ⟨a,e,q⟩:=J;subst e
 cases G
 rcases q with ⟨⟨xs,z⟩,q⟩ | ⟨⟨xs,z⟩,q⟩
 ·obtain ⟨its,rv,p,L⟩:=j.list z;refine Fy p.isList ?_;refine ⟨s1.heap.objs.size,[s1.heap.objs.size],_,_,H1,rfl,j.kept (t':=s1.toks) fun b o e=>i3 _ e,qC a _,⟨_,DQ _ rfl,rfl,rfl⟩,fun b B => ?_,q⟩;have e:b=s1.heap.objs.size:=by simpa using B
  subst e;exact j.fpOk (DP _) (j.hok.fresh (DP _))
 ·obtain ⟨its,rv,p,L⟩:=j.tuple z;refine EV (show s1.heap.IsTuple a its.toArray from p) ?_;refine ⟨s1.heap.objs.size,[s1.heap.objs.size],_,_,H1,rfl,j.kept (t':=s1.toks) fun b o e=>i3 _ e,oV a _,⟨_,DQ _ rfl,rfl,rfl⟩,fun b B => ?_,q⟩;have e:b=s1.heap.objs.size:=by simpa using B
  subst e;exact j.fpOk (DP _) (j.hok.fresh (DP _))
noncomputable def lD (ta:TEd):TId:=fun ρ M R=>ta ρ M fun x M1 => ∃ ds,aD M1 x=some ds/\R ds (fun M=>aD M x=some ds) M1
theorem uI {ta:TEd} (h:ae ta):cr (lD ta):=fun ρ M Q Q' i q=>h _ _ _ _ (fun x M1 ⟨ds,e,j⟩=>⟨ds,e,i _ _ _ j⟩) q
theorem rD {K:Frag} {H1:Hp} {a:Addr} {ds:List D} {chk:Mem->Prop} (h:∀ M H,Stab H1 H->RM K M H->chk M -> ∃ vs,SqL K H a vs/\RDs K H ds vs):gP K H1 ds chk (Itl K a):=fun M H st rm c i=>by
 obtain ⟨vs,sq,r⟩:=h M H st rm c;have l:=r.length;refine ⟨fun hi=>⟨vs,sq,by lia⟩,fun hi=>⟨⟨vs,vs[i]'(by lia),sq,D0 (by lia)⟩,fun x H' y => ?_⟩⟩
 obtain ⟨e,y⟩:=y;subst e;exact ⟨.inl rfl,r.getV (y vs sq)⟩
theorem zB {K:Frag} {H1:Hp} {a:Addr} {ds:List D} {chk:Mem->Prop} (h:∀ M H,Stab H1 H->RM K M H->chk M -> ∃ vs,SqT K H a vs/\RDs K H ds vs):gP K H1 ds chk (Itt K a):=fun M H st rm c i=>by
 obtain ⟨vs,sq,r⟩:=h M H st rm c;have l:=r.length;refine ⟨fun hi=>⟨vs,sq,by lia⟩,fun hi=>⟨⟨vs,vs[i]'(by lia),sq,D0 (by lia)⟩,fun x H' y => ?_⟩⟩
 obtain ⟨e,y⟩:=y;subst e;exact ⟨.inl rfl,r.getV (y vs sq)⟩
theorem zC {tg l:Expr} {ta:TEd} (m:ae ta) (G:PE X l (lE X.K ta)):PI X tg l (lI X.K (lD ta)):=by
 refine PI.imp (zA G) fun σ H R h => ?_;obtain ⟨ρ,M,rs,rm,q⟩:=h;refine ⟨ρ,M,rs,rm,m _ _ _ _ (fun x M1 ⟨ds,e,B⟩ v H1 F j rd1 => ?_) q⟩
 cases x with
 | tup es =>
   cases e
   obtain ⟨a,vs,rfl,z,rv⟩:=Ml rd1;exact ⟨a,rfl, .inr ⟨⟨vs,z⟩,B _ H1 F j (zB fun M' H' st _ _=>⟨vs,st.sqT z,rv.mono st⟩)⟩⟩
 | con es =>
   cases e
   obtain ⟨a,vs,rfl,z,rv⟩:=Mk.mp rd1;exact ⟨a,rfl, .inl ⟨⟨vs,z.sq⟩,B _ H1 F j (rD fun M' H' st _ _=>⟨vs,(st.sqF z).sq,rv.mono st⟩)⟩⟩
 | ref a =>
   cases Mf.mp rd1
   have get:∀ {M':Mem} {es:List D},aD M' (.ref a)=some es->M' a=some (.lst es):=fun {M' es} e=>by
    simp only [aD] at e
    cases e0:M' a with
    | none=>rw [e0] at e;cases e
    | some o =>
      rw [e0] at e
      cases o with
      | dct _ _=>cases e
      | fdc _=>cases e
      | lst es'=>cases e;rfl
   obtain ⟨vs,z,rv⟩:=j _ _ (get e);exact ⟨a,rfl, .inl ⟨⟨vs,SqL.of z⟩,B _ H1 F j (rD fun M' H' st rm' c=>by
    obtain ⟨us,J,ru⟩:=rm' _ _ (get c);exact ⟨us,SqL.of J,ru⟩)⟩⟩
 | _=>cases e
noncomputable def bP (lo:Int) (n:Nat):List D:=(EZ n).map fun i => .int (lo+(i:Nat))
theorem zD {K:Frag} {H1:Hp} {lo:Int} {n:Nat}:gP K H1 (bP lo n) (fun _=>True) (Itr lo n):=fun M H st rm c i=>by
 have l:(bP lo n).length=n:=by simp [bP]
 refine ⟨fun hi=>by show n<=i;lia,fun hi=>⟨by show i < n;lia,fun x H' y => ?_⟩⟩
 obtain ⟨e,y⟩:=y;subst e y;refine ⟨.inl rfl, .int (lo+i), ?_,Md.mpr rfl⟩;simp only [bP,Ei,HZ (show i < n by lia),ED]
noncomputable def iK (ta:TAd):TId:=fun ρ M R=>ta ρ M fun ds M1 => ∃ j:Int,ds=[.int j] /\ -(2 ^ 62)<=j/\j < 2 ^ 62/\R (bP 0 j.toNat) (fun _=>True) M1
theorem rE {ta:TAd} (h:bp ta):cr (iK ta):=fun ρ M Q Q' i q=>h _ _ _ _ (fun x M1 ⟨j,e,a,b,z⟩=>⟨j,e,a,b,i _ _ _ z⟩) q
theorem xE {tg a:Expr} {ta:TAd} {p pos:Pos} (m:bp ta) (B:Gl X "range") (hm:X.mg "range" = none) (F:PA X [a] (lA X.K ta)) (hs:E4 [a] X.env=[(false,eval a X.env)]):PI X tg (.Call (.Name "range" p) [a] [] pos) (lI X.K (iK ta)):=by
 refine PI.imp (qD B hm F hs) fun σ H R h => ?_;obtain ⟨ρ,M,rs,rm,q⟩:=h;refine ⟨ρ,M,rs,rm,m _ _ _ _ (fun ds M1 ⟨j,e,G,J,L⟩ vs H1 O z rd1 => ?_) q⟩;subst e;obtain ⟨v,rfl,r⟩:=rd1.one
 cases Md.mp r
 exact ⟨j,rfl,G,J,L _ H1 O z zD⟩
end
end
section
section
variable {X:Cx}
noncomputable def isT:D->Bool | .tup _=>true | _=>false
theorem eJ {K:Frag} {M:Mem} {H:Hp} {x:D} {ds:List D} {v:V} (rm:RM K M H) (r:RD K H x v) (e:aD M x=some ds):∃ p vs,v = .ref p/\SqV K (isT x) H p vs/\RDs K H ds vs:=by
 cases x with
 | tup es =>
   cases e
   obtain ⟨a,vs,rfl,j,rv⟩:=Ml r;exact ⟨a,vs,rfl,j,rv⟩
 | con es =>
   cases e
   obtain ⟨a,vs,rfl,j,rv⟩:=Mk.mp r;exact ⟨a,vs,rfl,j.sq,rv⟩
 | ref a =>
   cases Mf.mp r
   simp only [aD] at e
   cases e0:M a with
   | none=>rw [e0] at e;cases e
   | some o =>
     rw [e0] at e
     cases o with
     | dct _ _=>cases e
     | fdc _=>cases e
     | lst es =>
       cases e
       obtain ⟨vs,j,rv⟩:=rm _ _ e0;exact ⟨a,vs,rfl,SqL.of j,rv⟩
 | _=>cases e
noncomputable def kB (x y:D):D := .tup [x,y]
noncomputable def lF (ta tb:TEd):TId:=fun ρ M R=>br ta (br tb cn) ρ M fun ds M1 => ∃ x y xs ys,ds=[x,y]/\aD M1 x=some xs/\aD M1 y=some ys/\R (Jh kB xs ys) (fun M=>aD M x=some xs/\aD M y=some ys) M1
theorem uJ {ta tb:TEd} (j:ae ta) (z:ae tb):cr (lF ta tb):=fun ρ M Q Q' i q=>aR j (aR z aU) _ _ _ _ (fun ds M1 ⟨x,y,xs,ys,e,B,F,G⟩=>⟨x,y,xs,ys,e,B,F,i _ _ _ G⟩) q
theorem lH {H:Hp} {p:Addr} {o:HO} (n:H p=none):Stab H (upd H p o):=⟨fun a xs e=>by rw [am (fun z=>by rw [z,n] at e;cases e)];exact e,fun a o u e=>by rw [am (fun z=>by rw [z,n] at e;cases e)];exact e⟩
theorem zE {K:Frag} {H1:Hp} {x y:D} {xs ys:List D} {a b:Addr} (rx:RD K H1 x (.ref a)) (ry:RD K H1 y (.ref b)):gP K H1 (Jh kB xs ys) (fun M=>aD M x=some xs/\aD M y=some ys) (Itz K (isT x) (isT y) a b):=fun M H st rm c i=>by
 obtain ⟨Y,vs,L,j,G⟩:=eJ rm (rx.mono st) c.1;obtain ⟨p2,us,O,q,J⟩:=eJ rm (ry.mono st) c.2
 cases L
 cases O
 have l1:=G.length;have l2:=J.length;have lz:(Jh kB xs ys).length=min xs.length ys.length:=JY;refine ⟨fun hi=>⟨vs,us,j,q,by lia⟩,fun hi=>⟨⟨vs,us,vs[i]'(by lia),us[i]'(by lia),j,q,D0 (by lia),D0 (by lia)⟩,fun v H' U => ?_⟩⟩
 obtain ⟨p,v1,v2,n,rfl,rfl,g⟩:=U;obtain ⟨g1,g2⟩:=g vs us j q;obtain ⟨d1,z,B⟩:=G.getV g1;obtain ⟨d2,hd2,F⟩:=J.getV g2;have sb:=lH (o := .tup [v1,v2]) n;refine ⟨.inr ⟨p,[v1,v2],n,rfl⟩, .tup [d1,d2], ?_,Mp ⟨p,[v1,v2],rfl,aH,RDs.cons (B.mono sb) (RDs.cons (F.mono sb) RDs.nil)⟩⟩;rw [Jt,z,hd2];rfl
theorem zF {elts:List Expr} {cx} {pos p pos':Pos} {a b:Expr} {ta tb:TEd} (ma:ae ta) (mb:ae tb) (G:Gl X "zip") (hm:X.mg "zip" = none) (J:PA X [a,b] (lA X.K (br ta (br tb cn)))) (hs:E4 [a,b] X.env=[(false,eval a X.env),(false,eval b X.env)]) (z:E4 [b] X.env=[(false,eval b X.env)]) :
 PI X (.Tuple elts cx pos) (.Call (.Name "zip" p) [a,b] [] pos') (lI X.K (lF ta tb)):=by
 refine PI.imp (zg G hm J hs z) fun σ H R h => ?_;obtain ⟨ρ,M,rs,rm,q⟩:=h;refine ⟨ρ,M,rs,rm,aR ma (aR mb aU) _ _ _ _ (fun ds M1 ⟨x,y,xs,ys,e,L,O,U⟩ vs H1 Y j rd1 => ?_) q⟩;subst e;obtain ⟨v,u,rfl,B,F⟩:=rd1.two;obtain ⟨Z,vs,rfl,s1,_⟩:=eJ j B L;obtain ⟨p2,us,rfl,s2,_⟩:=eJ j F O;exact ⟨Z,p2,isT x,isT y,vs,us,rfl,s1,s2,U _ H1 Y j (zE B F)⟩
end
end
section
section
variable {X:Cx}
noncomputable def eZ (xs:List D):List D:=xs.mapIdx fun i x => .tup [.int (i:Nat),x]
noncomputable def iL (ta:TEd):TId:=fun ρ M R=>ta ρ M fun x M1 => ∃ xs,aD M1 x=some xs/\R (eZ xs) (fun M=>aD M x=some xs) M1
theorem rF {ta:TEd} (h:ae ta):cr (iL ta):=fun ρ M Q Q' i q=>h _ _ _ _ (fun x M1 ⟨ds,e,j⟩=>⟨ds,e,i _ _ _ j⟩) q
theorem zG {K:Frag} {H1:Hp} {x:D} {xs:List D} {a:Addr} (rx:RD K H1 x (.ref a)):gP K H1 (eZ xs) (fun M=>aD M x=some xs) (Ite K (isT x) a):=fun M H st rm c i=>by
 obtain ⟨J,vs,F,j,B⟩:=eJ rm (rx.mono st) c
 cases F
 have l1:=B.length;have lz:(eZ xs).length=xs.length:=by simp [eZ]
 refine ⟨fun hi=>⟨vs,j,by lia⟩,fun hi=>⟨⟨vs,vs[i]'(by lia),j,D0 (by lia)⟩,fun v H' G => ?_⟩⟩
 obtain ⟨p,v1,n,rfl,rfl,g⟩:=G;obtain ⟨d1,q,z⟩:=B.getV (g vs j);have sb:=lH (o := .tup [.int (i:Nat),v1]) n;refine ⟨.inr ⟨p,[.int (i:Nat),v1],n,rfl⟩, .tup [.int (i:Nat),d1], ?_,Mp ⟨p,[.int (i:Nat),v1],rfl,aH,RDs.cons (Md.mpr rfl) (RDs.cons (z.mono sb) RDs.nil)⟩⟩;simp [eZ,JM,q]
theorem xF {elts:List Expr} {cx} {pos p pos':Pos} {a:Expr} {ta:TEd} (ma:ae ta) (B:Gl X "enumerate") (hm:X.mg "enumerate" = none) (F:PA X [a] (lA X.K (br ta cn))) (hs:E4 [a] X.env=[(false,eval a X.env)]) :
 PI X (.Tuple elts cx pos) (.Call (.Name "enumerate" p) [a] [] pos') (lI X.K (iL ta)):=by
 refine PI.imp (wW B hm F hs) fun σ H R h => ?_;obtain ⟨ρ,M,rs,rm,q⟩:=h;refine ⟨ρ,M,rs,rm,ma _ _ _ _ (fun x M1 ⟨xs,G,J⟩ vs H1 L j rd1 => ?_) q⟩;obtain ⟨v,rfl,z⟩:=rd1.one;obtain ⟨O,us,rfl,s1,_⟩:=eJ j z G;exact ⟨O,isT x,us,rfl,s1,J _ H1 L j (zG z)⟩
end
end
section
noncomputable abbrev NC:=aq->Mem->List D->Prop
noncomputable abbrev TCd:=aq->Mem->List D->NC->Prop
def bT (T:TCd):Prop := ∀ ρ M acc N N',(∀ ρ' M' acc',N ρ' M' acc'->N' ρ' M' acc')->T ρ M acc N->T ρ M acc N'
structure ExtP (p:Addr) (M:Mem) (H:Hp) (M':Mem) (H':Hp):Prop where
 kp:∀ a o,a≠p->fz (M a)=true->H a=some o->H' a=some o
 nw:∀ a o,fz (M a)=true->H a=some o->M' a=M a
section
variable {K:Frag} {M M' M'':Mem} {H H' H'':Hp} {p:Addr}
theorem ExtP.new (x:ExtP p M H M' H') (a:Addr) (o:HO) (n:M a=none) (e:H a=some o):M' a=none:=(x.nw a o (by rw [n];rfl) e).trans n
theorem Ext.toP (x:Ext M H M' H'):ExtP p M H M' H':=⟨fun a o _=>x.kp a o,x.nw⟩
theorem ExtP.refl:ExtP p M H M H:=⟨fun _ _ _ _ h=>h,fun _ _ _ _=>rfl⟩
theorem ExtP.trans {vs:List V} (a:ExtP p M H M' H') (q:H p=some (.lst vs)) (j:∃ vs',H' p=some (.lst vs')) (b:ExtP p M' H' M'' H''):ExtP p M H M'' H'' :=
 ⟨fun c o ne n h=>b.kp c o ne (by rw [a.nw c o n h];exact n) (a.kp c o ne n h),fun c o n h=>by
   have n':fz (M' c)=true:=by rw [a.nw c o n h];exact n
   refine Eq.trans ?_ (a.nw c o n h)
   by_cases z:c=p
   ·subst z;obtain ⟨vs',e⟩:=j;exact b.nw c _ n' e
   ·exact b.nw c o n' (a.kp c o z n h)⟩
theorem ExtP.stab {vs:List V} (r:RM K M H) (j:H p=some (.lst vs)) (x:ExtP p M H M' H'):Stab H H' where
 tup:=fun a xs e=>x.kp a _ (fun z=>by subst z;rw [j] at e;cases e) (by rw [r.fzT e];rfl) e
 frz:=fun a o u e=>x.kp a _ (fun z=>by subst z;rw [j] at e;cases e) (r.fzF e) e
theorem lJ {vs:List V} {ho:HO} (j:H p=some (.lst vs)):Stab H (upd H p ho) :=
 ⟨fun a xs e=>by rw [am (fun z=>by subst z;rw [j] at e;cases e)];exact e,fun a o u e=>by rw [am (fun z=>by subst z;rw [j] at e;cases e)];exact e⟩
theorem RM.side {vs:List V} {ho:HO} (r:RM K M H) (n:M p=none) (j:H p=some (.lst vs)):RM K M (upd H p ho):=fun a o e=>by
 have ne:a≠p:=fun z=>by subst z;rw [n] at e;cases e
 exact (r a o e).mono (lJ j) fun B q=>by rw [am ne];exact q
end
def gb (K:Frag) (H:Hp) (p:Addr) (acc:List D):Prop := ∃ vs,H p=some (.lst vs)/\RDs K H acc vs
noncomputable def KC (K:Frag) (p:Addr) (M:Mem) (H:Hp) (N:St->Hp->Prop):NC:=fun ρ' M' acc' => ∀ σ' H',ExtP p M H M' H'->RS K H' σ' ρ'->RM K M' H'->gb K H' p acc'->N σ' H'
noncomputable def lC (K:Frag) (p:Addr) (T:TCd):TC:=fun σ H N => ∃ ρ M acc,RS K H σ ρ /\ RM K M H/\M p=none/\gb K H p acc/\T ρ M acc (KC K p M H N)
theorem KC.ext {K:Frag} {p:Addr} {M M2 M':Mem} {H H2:Hp} {N:St->Hp->Prop} {ρ:aq} {acc:List D} {vs:List V} (q:H p=some (.lst vs)) (j:∃ vs',H2 p=some (.lst vs')) (x:ExtP p M H M2 H2) (h:KC K p M H N ρ M' acc):KC K p M2 H2 N ρ M' acc :=
 fun σ' H' y=>h σ' H' (x.trans q j y)
noncomputable def dS (te:TEd):TCd:=fun ρ M acc N=>te ρ M fun x M1=>acc.length < DL/\N ρ M1 (acc++[x])
noncomputable def bu:List TTd->TCd->TCd
 | [],tb=>tb
 | t::r,tb=>fun ρ M acc N=>t ρ M fun b M1=>if b=true then bu r tb ρ M1 acc N else N ρ M1 acc
noncomputable def bK (b:BT) (tb:TCd) (chk:Mem->Prop) (N:NC):List D->NC
 | [] => fun ρ M acc=>chk M/\N ρ M acc
 | x::xs=>fun ρ M acc=>chk M /\ ∃ ρ',b x ρ = some ρ'/\tb ρ' M acc (bK b tb chk N xs)
noncomputable def dj (src:TId) (b:BT) (tb:TCd):TCd:=fun ρ M acc N=>src ρ M fun xs chk M1=>bK b tb chk N xs ρ M1 acc
noncomputable def gc (fr:List (Option Nat)) (src:TId) (b:BT) (tb:TCd):TEd:=fun ρ M Q=>src ρ M fun xs chk M1=>bK b tb chk (fun _ M' acc => ∀ p,M' p=none->Q (.ref p) (ah M' p (.lst acc))) xs (jh fr ρ) M1 []
theorem bC {te:TEd} (h:ae te):bT (dS te):=fun ρ M acc N N' i q=>h _ _ _ _ (fun x M1 ⟨z,j⟩=>⟨z,i _ _ _ j⟩) q
theorem aV {tb:TCd} (z:bT tb):∀ {ts:List TTd},(∀ t∈ts,aI t)->bT (bu ts tb)
 | [],_=>z
 | t::r,h=>fun ρ M acc N N' i q=>h t Ex _ _ _ _ (fun b M1 j=>by
   cases b with
   | true=>rw [if_pos rfl] at j ⊢;exact aV z (fun t' B=>h t' (E2 _ B)) _ _ _ _ _ i j
   | false=>rw [if_neg y2] at j ⊢;exact i _ _ _ j) q
theorem fI {b:BT} {tb:TCd} (z:bT tb) {chk:Mem->Prop} {N N':NC} (i:∀ ρ' M' acc',N ρ' M' acc'->N' ρ' M' acc'):∀ (xs:List D) (ρ:aq) (M:Mem) (acc:List D),bK b tb chk N xs ρ M acc->bK b tb chk N' xs ρ M acc
 | [], ρ,M,acc,h=>⟨h.1,i _ _ _ h.2⟩
 | x::xs, ρ,M,acc,⟨c, ρ',e,q⟩=>⟨c, ρ',e,z _ _ _ _ _ (fun ρ2 M2 j B=>fI z i xs ρ2 M2 j B) q⟩
theorem gF {src:TId} {b:BT} {tb:TCd} (hs:cr src) (j:bT tb):bT (dj src b tb):=fun ρ M acc N N' i q=>hs _ _ _ _ (fun xs c M1 z=>fI j i xs _ _ _ z) q
theorem jO {fr:List (Option Nat)} {src:TId} {b:BT} {tb:TCd} (hs:cr src) (j:bT tb):ae (gc fr src b tb):=fun ρ M Q Q' i q =>
 hs _ _ _ _ (fun xs c M1 z=>fI j (fun _ M' acc B p n=>i _ _ (B p n)) xs _ _ _ z) q
section
variable {K:Frag} {p:Addr}
theorem fJ {te:TEd} (m:ae te) (σ:St) (H:Hp) (N:St->Hp->Prop) (h:lC K p (dS te) σ H N):vX p (lE K te) σ H N:=by
 obtain ⟨ρ,M,acc,rs,rm,n,⟨vs,L,ra⟩,q⟩:=h;refine ⟨ρ,M,rs,rm,m _ _ _ _ (fun x M1 ⟨z,O⟩ v H1 F G J => ?_) q⟩;have j:=F.keep p _ n L;have U:=F.new p _ n L;have st:=F.stab rm;have B:Stab H1 (upd H1 p (.lst (vs++[v]))):=lJ j;refine ⟨vs,j,by rw [ra.length];exact z,O σ _ ⟨fun a o ne m' e => ?_,F.nw⟩ ((rs.mono st).mono B) (G.side U j) ⟨vs++[v],aH,((ra.mono st).mono B).append (RDs.cons (J.mono B) RDs.nil)⟩⟩
 rw [am ne];exact F.kp a o m' e
theorem iM {tb:TCd} (mb:bT tb):∀ {ts:List TTd},(∀ t∈ts,aI t) -> ∀ (σ:St) (H:Hp) (N:St->Hp->Prop),lC K p (bu ts tb) σ H N->iy (ts.map (lT K)) (lC K p tb) σ H N
 | [],_, σ,H,N,h=>h
 | t::r,hm, σ,H,N,h=>by
   obtain ⟨ρ,M,acc,rs,rm,n,⟨vs,G,ra⟩,q⟩:=h;refine ⟨ρ,M,rs,rm,hm t Ex _ _ _ _ (fun b M1 F H1 z B => ?_) q⟩;have j:=z.keep p _ n G;have L:=z.new p _ n G;have st:=z.stab rm
   cases b with
   | false =>
     rw [if_neg y2] at F;dsimp only;rw [if_neg y2];exact F σ H1 z.toP (rs.mono st) B ⟨vs,j,ra.mono st⟩
   | true =>
     rw [if_pos rfl] at F;dsimp only;rw [if_pos rfl];exact iM mb (fun t' J=>hm t' (E2 _ J)) σ H1 N ⟨ρ,M1,acc,rs.mono st,B,L,⟨vs,j,ra.mono st⟩,
      aV mb (fun t' J=>hm t' (E2 _ J)) _ _ _ _ _ (fun ρ' M' acc' k=>k.ext G ⟨vs,j⟩ z.toP) F⟩
theorem jP {b:BT} {tb:TCd} (mb:bT tb) {xs:List D} {chk:Mem->Prop} {J:It} {H1:Hp} {M1:Mem} {Nd:NC} {N:St->Hp->Prop} {σ:St} {ρ:aq} {acc:List D} (it:gP K H1 xs chk J) (rs:RS K H1 σ ρ) (rm:RM K M1 H1) (n:M1 p=none)
 (ac:gb K H1 p acc) (q:bK b tb chk Nd xs ρ M1 acc) (hN:∀ ρ' M' acc' σ' H',ExtP p M1 H1 M' H'->RS K H' σ' ρ'->RM K M' H'->gb K H' p acc'->Nd ρ' M' acc'->N σ' H') :
 ck J (lG K b) (lC K p tb) N σ H1:=by
 obtain ⟨By,B,_⟩:=id ac;refine ⟨fun i m σ H=>m=xs.length - i/\i<=xs.length /\ ∃ ρ M acc,RS K H σ ρ /\ RM K M H/\M p=none/\gb K H p acc/\ExtP p M1 H1 M H/\bK b tb chk Nd (xs.drop i) ρ M acc,⟨xs.length,by simp,FJ _, ρ,M1,acc,rs,rm,n,ac,ExtP.refl,q⟩, ?_⟩
 rintro i m σ H ⟨rfl,hi, ρ,M,acc,rs,j,n,ac,x,q⟩;have st:=x.stab rm B;obtain ⟨vs,Z,ra⟩:=id ac
 by_cases z:i < xs.length
 ·rw [FR z] at q;obtain ⟨c, ρ',hb,q⟩:=q;obtain ⟨go,yl⟩:=(it M H st j c i).2 z;refine .inr ⟨go,fun σ' H' => ∃ m',m' < xs.length - i/\(m'=xs.length - (i+1)/\i+1<=xs.length /\ ∃ ρ M acc,RS K H' σ' ρ /\ RM K M H'/\M p=none/\gb K H' p acc/\ExtP p M1 H1 M H'/\bK b tb chk Nd (xs.drop (i+1)) ρ M acc),fun σ' H' h=>h,fun x' H' y => ?_⟩;obtain ⟨yy,d,hd,rd⟩:=yl x' H' y;rw [D0 z] at hd
  cases hd
  obtain ⟨xy,rmy⟩:=yy.ext j;have sty:=xy.stab j;have F:=xy.keep p _ n Z;refine ⟨_, ρ, ρ',rd,rs.mono sty,hb,fun σ2 L => ?_⟩;refine ⟨ρ',M,acc,L,rmy,n,⟨vs,F,ra.mono sty⟩,mb _ _ _ _ _ (fun ρ3 M3 G q3 σ3 H3 x3 O U Y => ?_) q⟩;have n3:M3 p=none:=x3.new p _ n F;exact ⟨xs.length - (i+1),by lia,rfl,z, ρ3,M3,G,O,U,n3,Y,(x.trans B ⟨vs,Z⟩ xy.toP).trans B ⟨vs,F⟩ x3,q3⟩
 ·have e:i=xs.length:=by lia
  subst e;rw [L7] at q;exact .inl ⟨(it M H st j q.1 _).1 (DP _),hN ρ M acc σ H x rs j ac q.2⟩
theorem gG {src:TId} {b:BT} {tb:TCd} (ms:cr src) (mb:bT tb) (σ:St) (H:Hp) (N:St->Hp->Prop) (h:lC K p (dj src b tb) σ H N):(lI K src) σ H fun J H1=>ck J (lG K b) (lC K p tb) N σ H1:=by
 obtain ⟨ρ,M,acc,rs,rm,n,⟨vs,B,ra⟩,q⟩:=h;refine ⟨ρ,M,rs,rm,ms _ _ _ _ (fun xs chk M1 G J H1 z F it => ?_) q⟩;have j:=z.keep p _ n B;have L:=z.new p _ n B;have st:=z.stab rm;exact jP mb it (rs.mono st) F L ⟨vs,j,ra.mono st⟩ G fun ρ' M' acc' σ' H' x2 rs' rm' ac' k=>k σ' H' (z.toP.trans B ⟨vs,j⟩ x2) rs' rm' ac'
theorem dU {fr:List (Option Nat)} {src:TId} {b:BT} {tb:TCd} (ms:cr src) (mb:bT tb) (σ:St) (H:Hp) (Q:VK) (h:lE K (gc fr src b tb) σ H Q):pw (lI K src) (lG K b) (fun p=>lC K p tb) fr σ H Q:=by
 obtain ⟨ρ,M,rs,rm,q⟩:=h;refine ⟨ρ,M,rs,rm,ms _ _ _ _ (fun xs chk M1 O J H1 F j it p n => ?_) q⟩;have st:=F.stab rm;have xn:Ext M1 H1 M1 (upd H1 p (.lst [])):=Mn n;have stn:=xn.stab j;have L:M1 p=none:=j.out n;refine jP (p:=p) mb (xs:=xs) (chk:=chk) (fun M' H' st'=>it M' H' ⟨fun a xs e=>st'.tup _ _ (stn.tup _ _ e),fun a o u e=>st'.frz _ _ _ (stn.frz _ _ _ e)⟩) (((rs.mono st).mono stn).inh fr) (j.new n) L ⟨[],aH,RDs.nil⟩ O fun ρ' M' acc' σ' H' G rs' rm' ac' k => ?_;obtain ⟨vs,U,ra⟩:=ac';have n':M' p=none:=G.new p _ L aH;refine k p n' (.ref p) H' ⟨fun a o m e => ?_,fun a o m e => ?_⟩ (fun a o e => ?_) (Mf.mpr rfl)
 ·have B:=F.kp a o m e;have ne:a≠p:=fun z=>by subst z;rw [n] at B;cases B
  exact G.kp a o ne (by rw [F.nw a o m e];exact m) (by rw [am ne];exact B)
 ·have B:=F.kp a o m e;have ne:a≠p:=fun z=>by subst z;rw [n] at B;cases B
  rw [ag ne];exact (G.nw a o (by rw [F.nw a o m e];exact m) (by rw [am ne];exact B)).trans (F.nw a o m e)
 ·by_cases z:a=p
  ·subst z;rw [aa] at e;cases e;exact ⟨vs,U,ra⟩
  ·rw [ag z] at e;exact rm' a o e
end
end
section
noncomputable def gd:TSd:=fun D ρ M=>D.nx ρ M
noncomputable def lK (t u:TSd):TSd:=fun D ρ M=>t { D with nx:=u D } ρ M
noncomputable def fK:TSd:=fun D ρ M=>D.bk ρ M
noncomputable def iN:TSd:=fun D ρ M=>D.ct ρ M
noncomputable def iO (te:TEd):TSd:=fun D ρ M=>te ρ M fun _ M1=>D.nx ρ M1
noncomputable def lL (te:TEd):TSd:=fun D ρ M=>te ρ M D.rt
noncomputable def sIf (c:TTd) (t u:TSd):TSd:=fun D ρ M=>c ρ M fun b M1=>if b=true then t D ρ M1 else u D ρ M1
noncomputable def gQ (te:TEd) (b:BT):TSd:=fun D ρ M=>te ρ M fun x M1 => ∃ ρ',b x ρ = some ρ'/\D.nx ρ' M1
noncomputable def lM (ta:TAd) (bs:BTs):TSd:=fun D ρ M=>ta ρ M fun xs M1 => ∃ ρ',bs xs ρ = some ρ'/\D.nx ρ' M1
noncomputable def bE (b:BT) (tb:TSd) (chk:Mem->Prop) (D:bJ):List Mi.D->aq->Mem->Prop
 | [] => fun ρ M=>chk M/\D.nx ρ M
 | x::xs=>fun ρ M=>chk M /\ ∃ ρ',b x ρ = some ρ'/\tb { D with nx:=bE b tb chk D xs,ct:=bE b tb chk D xs,bk:=D.nx } ρ' M
noncomputable def lN (src:TId) (b:BT) (tb:TSd):TSd:=fun D ρ M=>src ρ M fun xs chk M1=>bE b tb chk D xs ρ M1
noncomputable def bh (c:TTd) (tb:TSd) (D:bJ):Nat->aq->Mem->Prop
 | 0=>fun _ _=>False
 | n+1=>fun ρ M=>c ρ M fun b M1=>if b=true then tb { D with nx:=bh c tb D n,ct:=bh c tb D n,bk:=D.nx } ρ M1 else D.nx ρ M1
noncomputable def fL (c:TTd) (tb:TSd):TSd:=fun D ρ M => ∃ n,bh c tb D n ρ M
theorem LeD.refl (a:bJ):LeD a a:=⟨fun _ _ h=>h,fun _ _ h=>h,fun _ _ h=>h,fun _ _ h=>h⟩
theorem jQ:aT gd:=fun _ _ _ _ h q=>h.nx _ _ q
theorem pN:aT fK:=fun _ _ _ _ h q=>h.bk _ _ q
theorem rG:aT iN:=fun _ _ _ _ h q=>h.ct _ _ q
theorem rH {t u:TSd} (j:aT t) (z:aT u):aT (lK t u):=fun a b ρ M h q=>j { a with nx:=u a } { b with nx:=u b } _ _ ⟨fun ρ' M' q'=>z _ _ _ _ h q',h.rt,h.bk,h.ct⟩ q
theorem rJ {te:TEd} (h:ae te):aT (iO te):=fun a b ρ M i q=>h _ _ _ _ (fun _ M1 j=>i.nx _ _ j) q
theorem uK {te:TEd} (h:ae te):aT (lL te):=fun a b ρ M i q=>h _ _ _ _ (fun d M1 j=>i.rt _ _ j) q
theorem uL {c:TTd} {t u:TSd} (z:aI c) (B:aT t) (F:aT u):aT (sIf c t u):=fun a b ρ M i q=>z _ _ _ _ (fun k M1 j=>by
 cases k with
 | true=>rw [if_pos rfl] at j ⊢;exact B _ _ _ _ i j
 | false=>rw [if_neg y2] at j ⊢;exact F _ _ _ _ i j) q
theorem uM {te:TEd} {bt:BT} (h:ae te):aT (gQ te bt):=fun a b ρ M i q=>h _ _ _ _ (fun d M1 ⟨ρ',e,j⟩=>⟨ρ',e,i.nx _ _ j⟩) q
theorem uN {ta:TAd} {bs:BTs} (h:bp ta):aT (lM ta bs):=fun a b ρ M i q=>h _ _ _ _ (fun d M1 ⟨ρ',e,j⟩=>⟨ρ',e,i.nx _ _ j⟩) q
theorem fM {bt:BT} {tb:TSd} (j:aT tb) {chk:Mem->Prop} {a b:bJ} (i:LeD a b):∀ (xs:List D) (ρ:aq) (M:Mem),bE bt tb chk a xs ρ M->bE bt tb chk b xs ρ M
 | [], ρ,M,h=>⟨h.1,i.nx _ _ h.2⟩
 | x::xs, ρ,M,⟨c, ρ',e,q⟩=>⟨c, ρ',e,j { a with nx:=bE bt tb chk a xs,ct:=bE bt tb chk a xs,bk:=a.nx } { b with nx:=bE bt tb chk b xs,ct:=bE bt tb chk b xs,bk:=b.nx } _ _ ⟨fun ρ2 M2 z=>fM j i xs ρ2 M2 z,i.rt,i.nx,fun ρ2 M2 z=>fM j i xs ρ2 M2 z⟩ q⟩
theorem uO {src:TId} {bt:BT} {tb:TSd} (hs:cr src) (j:aT tb):aT (lN src bt tb):=fun a b ρ M i q=>hs _ _ _ _ (fun xs c M1 z=>fM j i xs _ _ z) q
theorem et {c:TTd} {tb:TSd} (q:aI c) (z:aT tb) {a b:bJ} (i:LeD a b):∀ (n:Nat) (ρ:aq) (M:Mem),bh c tb a n ρ M->bh c tb b n ρ M
 | 0, ρ,M,h=>h
 | n+1, ρ,M,h=>q _ _ _ _ (fun k M1 j=>by
   cases k with
   | true=>rw [if_pos rfl] at j ⊢;exact z { a with nx:=bh c tb a n,ct:=bh c tb a n,bk:=a.nx } { b with nx:=bh c tb b n,ct:=bh c tb b n,bk:=b.nx } _ _ ⟨fun ρ2 M2 B=>et q z i n ρ2 M2 B,i.rt,i.nx,fun ρ2 M2 B=>et q z i n ρ2 M2 B⟩ j
   | false=>rw [if_neg y2] at j ⊢;exact i.nx _ _ j) h
theorem pO {c:TTd} {tb:TSd} (j:aI c) (z:aT tb):aT (fL c tb):=fun a b ρ M i ⟨n,q⟩=>⟨n,et j z i n _ _ q⟩
section
variable {K:Frag}
theorem jR (D:bD) (σ:St) (H:Hp) (h:lS K gd D σ H):oR D σ H:=by
 obtain ⟨ρ,M,A,rs,rm,l,q⟩:=h;exact l.nx ρ M σ H Ext.refl rs rm q
theorem pP (D:bD) (σ:St) (H:Hp) (h:lS K fK D σ H):qz D σ H:=by
 obtain ⟨ρ,M,A,rs,rm,l,q⟩:=h;exact l.bk ρ M σ H Ext.refl rs rm q
theorem rK (D:bD) (σ:St) (H:Hp) (h:lS K iN D σ H):vO D σ H:=by
 obtain ⟨ρ,M,A,rs,rm,l,q⟩:=h;exact l.ct ρ M σ H Ext.refl rs rm q
theorem uP {t u:TSd} (mt:aT t) (mu:aT u) (D:bD) (σ:St) (H:Hp) (h:lS K (lK t u) D σ H):yH (lS K t) (lS K u) D σ H:=by
 obtain ⟨ρ,M,A,rs,rm,l,q⟩:=h;exact ⟨ρ,M, { A with nx:=u A },rs,rm,⟨fun ρ' M' σ' H' x rs' rm' q'=>⟨ρ',M',A,rs',rm',l.ext x,q'⟩,l.rt,l.bk,l.ct⟩,q⟩
theorem rL {te:TEd} (m:ae te) (D:bD) (σ:St) (H:Hp) (h:lS K (iO te) D σ H):vP (lE K te) D σ H:=by
 obtain ⟨ρ,M,A,rs,rm,l,q⟩:=h;exact ⟨ρ,M,rs,rm,m _ _ _ _ (fun d M1 B v H1 z j F=>l.nx ρ M1 σ H1 z (rs.mono (z.stab rm)) j B) q⟩
theorem uQ {te:TEd} (m:ae te) (D:bD) (σ:St) (H:Hp) (h:lS K (lL te) D σ H):yI (lE K te) D σ H:=by
 obtain ⟨ρ,M,A,rs,rm,l,q⟩:=h;exact ⟨ρ,M,rs,rm,m _ _ _ _ (fun d M1 B v H1 F j z=>l.rt d M1 v H1 F j z B) q⟩
theorem xG {c:TTd} {t u:TSd} (mc:aI c) (D:bD) (σ:St) (H:Hp) (h:lS K (sIf c t u) D σ H):yK (lT K c) (lS K t) (lS K u) D σ H:=by
 obtain ⟨ρ,M,A,rs,rm,l,q⟩:=h;refine ⟨ρ,M,rs,rm,mc _ _ _ _ (fun k M1 z H1 B j => ?_) q⟩
 cases k with
 | true=>rw [if_pos rfl] at z ⊢;exact ⟨ρ,M1,A,rs.mono (B.stab rm),j,l.ext B,z⟩
 | false=>rw [if_neg y2] at z ⊢;exact ⟨ρ,M1,A,rs.mono (B.stab rm),j,l.ext B,z⟩
theorem uR {te:TEd} {b:BT} (m:ae te) (D:bD) (σ:St) (H:Hp) (h:lS K (gQ te b) D σ H):oT (lE K te) (lG K b) D σ H:=by
 obtain ⟨ρ,M,A,rs,rm,l,q⟩:=h;refine ⟨ρ,M,rs,rm,m _ _ _ _ (fun d M1 ⟨ρ',e,F⟩ v H1 B j z => ?_) q⟩;exact ⟨d, ρ, ρ',z,rs.mono (B.stab rm),e,fun σ' rs'=>l.nx ρ' M1 σ' H1 B rs' j F⟩
theorem jS {te:TEd} {i:Nat} (m:ae te) (D:bD) (σ:St) (H:Hp) (h:lS K (gQ te (cH i)) D σ H):oT (lE K te) (ik i) D σ H:=by
 obtain ⟨ρ,M,A,rs,rm,l,q⟩:=h;refine ⟨ρ,M,rs,rm,m _ _ _ _ (fun d M1 ⟨ρ',e,z⟩ v H1 j rm1 rd1 => ?_) q⟩
 cases e
 exact l.nx _ M1 _ H1 j ((rs.mono (j.stab rm)).set i rd1) rm1 z
theorem uS {src:TId} {b:BT} {tb:TSd} (ms:cr src) (mb:aT tb) (D:bD) (σ:St) (H:Hp) (h:lS K (lN src b tb) D σ H):yP (lI K src) (lG K b) (lS K tb) D σ H:=by
 obtain ⟨ρ,M,A,rs,rm,l,q⟩:=h;refine ⟨ρ,M,rs,rm,ms _ _ _ _ (fun xs chk M1 q1 J H1 x1 G it => ?_) q⟩;refine ⟨fun i m σ H'=>m=xs.length - i/\i<=xs.length /\ ∃ ρ M2,RS K H' σ ρ /\ RM K M2 H'/\Ext M1 H1 M2 H'/\bE b tb chk A (xs.drop i) ρ M2,⟨xs.length,by simp,FJ _, ρ,M1,rs.mono (x1.stab rm),G,Ext.refl,q1⟩, ?_⟩
 rintro i m σ2 H2 ⟨rfl,hi, ρ2,M2,L,j,x2,O⟩;have U:=x2.stab G
 by_cases B:i < xs.length
 ·rw [FR B] at O;obtain ⟨c, ρ',hb,q3⟩:=O;obtain ⟨go,yl⟩:=(it M2 H2 U j c i).2 B;refine .inr ⟨go,fun σ' H' => ∃ m',m' < xs.length - i/\(m'=xs.length - (i+1)/\i+1<=xs.length /\ ∃ ρ M,RS K H' σ' ρ /\ RM K M H'/\Ext M1 H1 M H'/\bE b tb chk A (xs.drop (i+1)) ρ M),fun σ' H' h=>h,fun x' H' y => ?_⟩;obtain ⟨yy,d,hd,rd⟩:=yl x' H' y;rw [D0 B] at hd
  cases hd
  obtain ⟨xy,rmy⟩:=yy.ext j;have Y:=x1.trans (x2.trans xy);refine ⟨_, ρ2, ρ',rd,L.mono (xy.stab j),hb,fun σ3 By => ?_⟩;have nx:∀ ρ5 F σ5 z,Ext M2 H' F z->RS K z σ5 ρ5->RM K F z->bE b tb chk A (xs.drop (i+1)) ρ5 F -> ∃ m',m' < xs.length - i/\(m'=xs.length - (i+1)/\i+1<=xs.length /\ ∃ ρ M,RS K z σ5 ρ /\ RM K M z/\Ext M1 H1 M z/\bE b tb chk A (xs.drop (i+1)) ρ M) :=
   fun ρ5 F σ5 z Z Bz BA q5=>⟨xs.length - (i+1),by lia,rfl,B, ρ5,F,Bz,BA,(x2.trans xy).trans Z,q5⟩
  refine ⟨ρ',M2, { A with nx:=bE b tb chk A (xs.drop (i+1)),ct:=bE b tb chk A (xs.drop (i+1)),bk:=A.nx },By,rmy,⟨nx,fun d F v z Z=>l.rt d F v z (Y.trans Z),fun ρ5 F σ5 z Z=>l.nx ρ5 F σ5 z (Y.trans Z),nx⟩,q3⟩
 ·have e:i=xs.length:=by lia
  subst e;rw [L7] at O;exact .inl ⟨(it M2 H2 U j O.1 _).1 (DP _),l.nx ρ2 M2 σ2 H2 (x1.trans x2) L j O.2⟩
theorem pQ {c:TTd} {tb:TSd} (mc:aI c) (mb:aT tb) (D:bD) (σ:St) (H:Hp) (h:lS K (fL c tb) D σ H):qB (lT K c) (lS K tb) D σ H:=by
 obtain ⟨ρ,M,A,rs,rm,l,n,q⟩:=h;refine ⟨fun m σ' H' => ∃ ρ' M',RS K H' σ' ρ'/\RM K M' H'/\Ext M H M' H'/\bh c tb A m ρ' M',⟨n, ρ,M,rs,rm,Ext.refl,q⟩, ?_⟩;rintro m σ1 H1 ⟨ρ1,M1,J,L,x1,q1⟩
 cases m with
 | zero=>exact q1.elim
 | succ m =>
   refine ⟨ρ1,M1,J,L,mc _ _ _ _ (fun k M2 Z H2 x2 O => ?_) q1⟩;have j:=x1.trans x2;have U:=J.mono (x2.stab L)
   cases k with
   | false=>rw [if_neg y2] at Z;dsimp only;rw [if_neg y2];exact l.nx ρ1 M2 σ1 H2 j U O Z
   | true =>
     rw [if_pos rfl] at Z;dsimp only;rw [if_pos rfl];refine ⟨fun σ' H' => ∃ ρ' M',RS K H' σ' ρ'/\RM K M' H'/\Ext M H M' H'/\bh c tb A m ρ' M',fun σ' H' h=>⟨m,Nat.lt_succ_self m,h⟩, ρ1,M2, { A with nx:=bh c tb A m,ct:=bh c tb A m,bk:=A.nx },U,O,⟨?_,fun d z v Y B=>l.rt d z v Y (j.trans B),fun ρ5 z σ5 Y B=>l.nx ρ5 z σ5 Y (j.trans B), ?_⟩,Z⟩
     ·exact fun ρ5 z σ5 Y B F G q5=>⟨ρ5,z,F,G,j.trans B,q5⟩
     ·exact fun ρ5 z σ5 Y B F G q5=>⟨ρ5,z,F,G,j.trans B,q5⟩
end
noncomputable def cZ:D->D->D->Mem->(Mem->Prop)->Prop:=fun o i v M Q => ∃ a,o = .ref a /\
 ((∃ xs k j,i = .int k/\M a=some (.lst xs)/\ixN xs.length k=some j/\Q (ah M a (.lst (xs.set j v)))) ∨
  ∃ t kvs,M a=some (.dct t kvs)/\dR t i=true/\kvs.length < DL/\Q (ah M a (.dct t (fE kvs i v))))
noncomputable def lP (te to ti:TEd):TSd:=fun D ρ M=>te ρ M fun v M1=>to ρ M1 fun o M2=>ti ρ M2 fun i M3=>cZ o i v M3 fun M4=>D.nx ρ M4
theorem rM {o i v:D} {M:Mem} {Q Q':Mem->Prop} (h:∀ M',Q M'->Q' M') (q:cZ o i v M Q):cZ o i v M Q':=by
 obtain ⟨a,e,⟨xs,k,j,z,B,F,q⟩ | ⟨t,kvs,z,B,F,q⟩⟩:=q
 ·exact ⟨a,e, .inl ⟨xs,k,j,z,B,F,h _ q⟩⟩
 ·exact ⟨a,e, .inr ⟨t,kvs,z,B,F,h _ q⟩⟩
theorem uT {te to ti:TEd} (he:ae te) (ho:ae to) (hi:ae ti):aT (lP te to ti):=fun a b ρ M i q =>
 he _ _ _ _ (fun v M1 j=>ho _ _ _ _ (fun o M2 z=>hi _ _ _ _ (fun k F B=>rM (fun M' q'=>i.nx _ _ q') B) z) j) q
section
variable {X:Cx} {K:Frag}
theorem uU (j:X.A.units+1 < FQ):PSet X (fun o i v H Q => ∃ a H',o = .ref a/\DPut H a i v H'/\Q H'):=by
 intro pins s σ H o i v ov iv u Q I ro ri rv h;obtain ⟨a,H',rfl,g,q⟩:=h
 cases ro
 exact qS j I g ri rv fun s' I'=>⟨H',I',q⟩
theorem PSet.or {t t':oS} (h:PSet X t) (h':PSet X t'):PSet X (fun o i v H Q=>t o i v H Q∨t' o i v H Q):=by
 intro pins s σ H o i v ov iv u Q I ro ri rv q
 rcases q with q | q
 ·exact h pins s σ H o i v ov iv u Q I ro ri rv q
 ·exact h' pins s σ H o i v ov iv u Q I ro ri rv q
section
variable {κ:Type} [DecidableEq κ] {H:Hp} {RK:D -> κ -> Prop} (inj:∀ {d e:D} {k : κ},RK d k->RK e k->d=e) (fn:∀ {d:D} {k k' : κ},RK d k->RK d k'->k=k')
include inj fn
theorem oh {k:D} {q : κ} (j:RK k q):∀ {kvs:List (D×D)} {ps:List (κ × V)},EE (fun p r=>RK p.1 r.1/\RD K H p.2 r.2) kvs ps ->
 (kvs.any fun p=>decide (p.1=k))=(ps.any fun p=>decide (p.1=q))
 | _,_, .nil=>rfl
 | _,_, .cons (a:=p) (b:=r) hr t=>by
   rw [Fo,Fo,oh j t];congr 1
   by_cases e:p.1=k
   ·have e':r.1=q:=by have h1:=hr.1;rw [e] at h1;exact fn h1 j
    rw [decide_eq_true e,decide_eq_true e']
   ·have e' : ¬ r.1=q:=fun z=>e (by have h1:=hr.1;rw [z] at h1;exact inj h1 j)
    rw [decide_eq_false e,decide_eq_false e']
theorem oi {k:D} {q : κ} (B:RK k q) {d:D} {v:V} (F:RD K H d v):∀ {kvs:List (D×D)} {ps:List (κ × V)},EE (fun p r=>RK p.1 r.1/\RD K H p.2 r.2) kvs ps ->
 EE (fun p r=>RK p.1 r.1/\RD K H p.2 r.2) (kvs.map fun p=>if p.1=k then (p.1,d) else p) (ps.map fun p=>if p.1=q then (p.1,v) else p)
 | _,_, .nil => .nil
 | _,_, .cons (a:=p) (b:=r) j t=>by
   refine .cons ?_ (oi B F t)
   by_cases e:p.1=k
   ·have e':r.1=q:=by have h1:=j.1;rw [e] at h1;exact fn h1 B
    dsimp only;rw [if_pos e,if_pos e'];exact ⟨j.1,F⟩
   ·have e' : ¬ r.1=q:=fun z=>e (by have h1:=j.1;rw [z] at h1;exact inj h1 B)
    dsimp only;rw [if_neg e,if_neg e'];exact j
theorem lQ {k:D} {q : κ} (j:RK k q) {d:D} {v:V} (z:RD K H d v) {kvs:List (D×D)} {ps:List (κ × V)} (r:EE (fun p r=>RK p.1 r.1/\RD K H p.2 r.2) kvs ps) :
 EE (fun p r=>RK p.1 r.1/\RD K H p.2 r.2) (fE kvs k d) (bX ps q v):=by
 unfold fE bX;rw [oh (K:=K) (H:=H) (RK:=RK) inj fn j r]
 by_cases e:(ps.any fun p=>decide (p.1=q))=true
 ·rw [if_pos e,if_pos e];exact oi (RK:=RK) inj fn j z r
 ·rw [if_neg e,if_neg e];exact r.snoc ⟨j,z⟩
end
theorem uV {M:Mem} {H:Hp} {o i v:D} {ov iv vv:V} {Qd:Mem->Prop} {Q:Hp->Prop} (rm:RM K M H) (ro:RD K H o ov) (ri:RD K H i iv) (rv:RD K H v vv) (h:cZ o i v M Qd) (O:∀ M' H',Ext M H M' H'->RM K M' H'->Qd M'->Q H') :
 vT ov iv vv H Q ∨ ∃ a H',ov = .ref a/\DPut H a iv vv H'/\Q H':=by
 obtain ⟨a,rfl,⟨xs,k,j,rfl,B,L,q⟩ | ⟨t,kvs,F,B,L,q⟩⟩:=h
 ·cases Mf.mp ro
  cases Md.mp ri
  obtain ⟨vs,Z,rs⟩:=rm _ _ B;have st:Stab H (upd H a (.lst (vs.set j vv))):=rm.stabPut B;exact .inl ⟨a,vs,k,j,rfl,rfl,Z,by rw [rs.length];exact L,O _ _ (Ext.put B) (rm.put (o := .lst (xs.set j v)) B ⟨_,aH,(rs.set j rv).mono st⟩) q⟩
 ·cases Mf.mp ro
  have ro':=rm _ _ F
  cases t with
  | false =>
    obtain ⟨ps,U,pr⟩:=ro';obtain ⟨kq,J⟩:=fF (show cW i=true from B);have st:Stab H (upd H a (.dK (bX ps kq vv))):=rm.stabPut F;have G:=lQ (RK:=RKey) RKey.inj RKey.fun J rv pr;rw [eG J ri];refine .inr ⟨a,_,rfl,DPut.k U (by rw [<- FH pr];exact L),O _ _ (Ext.put F) (rm.put (o := .dct false (fE kvs i v)) F ⟨_,aH,Mj G fun _ _ z=>⟨z.1,z.2.mono st⟩⟩) q⟩
  | true =>
    obtain ⟨ps,U,pr⟩:=ro';obtain ⟨kq,J⟩:=nX (show dA i=true from B);have st:Stab H (upd H a (.dT (bX ps kq vv))):=rm.stabPut F;have G:=lQ (RK:=RKeys) RKeys.inj RKeys.fun J rv pr
    cases i <;> first
     | exact J.elim
     | (obtain ⟨b,us,rfl,Y,ru⟩:=Mw (nY B) ri
        rw [gN J ru] at Y;exact .inr ⟨a,_,rfl,DPut.t U Y (by rw [<- FH pr];exact L),O _ _ (Ext.put F) (rm.put (o := .dct true (fE kvs _ v)) F ⟨_,aH,Mj G fun _ _ z=>⟨z.1,z.2.mono st⟩⟩) q⟩)
theorem zH {o i e:Expr} {te to ti:TEd} {pos tpos:Pos} (hu:X.A.units+1 < FQ) (me:ae te) (mo:ae to) (mi:ae ti) (he:PE X e (lE X.K te)) (ho:PE X o (lE X.K to)) (hi:PE X i (lE X.K ti))
 (hs:GD [.Subscript o i tpos] e pos.line X.env=pure false) (hw:FY [.Subscript o i tpos] e X.env=pure none)
 (ha:∀ v,assign (.Subscript o i tpos) X.env v=(do
   let ov <- holding [v] (eval o X.env)
   let iv <- holding [v,ov] (eval i X.env)
   Iz tpos
   holding [v,ov,iv] (setItem ov iv v)
   release [v,ov,iv] [])):PS X (.Assign [.Subscript o i tpos] e pos) (lS X.K (lP te to ti)):=by
 refine PS.imp (qA he (yM ho hi (PSet.or u7 (uU hu)) ha) hs hw rfl) fun D σ H h => ?_;obtain ⟨ρ,M,A,rs,rm,l,q⟩:=h;refine ⟨ρ,M,rs,rm,me _ _ _ _ (fun v M1 q1 vv H1 F j G => ?_) q⟩;refine ⟨ρ,M1,rs.mono (F.stab rm),j,mo _ _ _ _ (fun ov M2 q2 vo H2 J z L => ?_) q1⟩;refine ⟨ρ,M2,(rs.mono (F.stab rm)).mono (J.stab j),z,mi _ _ _ _ (fun iv M3 q3 vi H3 O U Y => ?_) q2⟩;have B:=F.trans (J.trans O);exact uV U (L.mono (O.stab z)) Y ((G.mono (J.stab j)).mono (O.stab z)) q3 fun M' H' x4 Z q4=>l.nx ρ M' σ H' (B.trans x4) (rs.mono ((B.trans x4).stab rm)) Z q4
end
end
end Mi
end L2
namespace L2
open PySem PySem.Spec PyProof.Rows
namespace Mi
variable {K:Frag}
theorem rN {ta:TAd} {i j:Nat} (m:bp ta) (D:bD) (σ:St) (H:Hp) (h:lS K (lM ta (cq (cH i) (cq (cH j) gO))) D σ H):yN i j (lA K ta) D σ H:=by
 obtain ⟨ρ,M,A,rs,rm,l,q⟩:=h;refine ⟨ρ,M,rs,rm,m _ _ _ _ (fun ds M1 ⟨ρ',e,G⟩ vs H1 F B z => ?_) q⟩
 match ds,e,z with
 | [d1,d2],e,z =>
  obtain ⟨v,u,rfl,J,L⟩:=z.two;simp only [cq,cH,gO,EY,KD] at e;subst e;exact ⟨v,u,rfl,l.nx _ M1 _ H1 F (((rs.mono (F.stab rm)).set i J).set j L) B G⟩
end Mi
end L2
namespace L2
open PySem PySem.Spec PyProof.Rows
section
section
variable {X:Cx}
theorem aE:Bc X (fun o i H Q => ∃ a xs k x,o = .ref a/\i = .int k/\SqL X.K H a xs/\atI xs k=some x/\Q x H):=by
 intro pins s σ H o i ov iv Q I ro ri h;obtain ⟨a,xs,k,x,rfl,rfl,sq,he,q⟩:=h
 cases ro
 obtain ⟨t,rfl⟩:=ri;obtain ⟨its,r,pl,J⟩:=I.list sq;obtain ⟨j,h1,h2,L,B,F⟩:=je he;obtain ⟨w,ew,rw'⟩:=r.get h2;have G:=r.length;have hn:=dw;have fin:EP X pins σ Q w s:=⟨x,H,I,rw',q⟩
 by_cases h0 : 0<=k
 ·have z:k.toNat=j:=Fq.inj (by rw [<- h1,JB h0 F])
  exact wpAny_getItem_list pl.isList h0 (by lia) (by rw [z];simpa using ew) fin
 ·have z:(k+(its.toArray.size:Int)).toNat=j:=by
   rw [DV, <- G];exact Fq.inj (by rw [<- h1,J6 (by lia) B])
  exact J8 pl.isList (by lia) (by rw [DV];lia) (by lia) (by rw [z];simpa using ew) fin
end
namespace Mi
end Mi
end
end L2
namespace L2
namespace Mi
open PySem PySem.Spec PyProof.Rows
section
section
variable {X:Cx}
noncomputable def isD:D->D->Option Bool
 | x, .non=>some (match x with | .non=>true | _=>false)
 | x, .bl b=>some (match x with | .bl c=>c==b | _=>false)
 | _,_=>none
noncomputable def wIs:R2d:=fun x y M Q => ∃ k,isD x y=some k/\Q (.bl k) M
theorem xH:ay wIs:=fun _ _ _ _ _ h ⟨k,e,q⟩=>⟨k,e,h _ _ q⟩
theorem xI {M:Hs} {A:Ew} {E:gV->h7->Prop} {s:h7} {Q:gV->h7->Prop} {v:gV} {b:Bool} (j:∀ id,v ≠ .builtin id) (h:Q (.bool (v == .bool b)) s):DU M A (Eg .Is v (.bool b)) Q E s:=by
 cases v <;> first | exact i4 h | exact absurd rfl (j _)
theorem zI {K:Frag} {H:Hp} {x y:D} {v w:V} {u t:gV} {k:Bool} (e:isD x y=some k) (rx:RD K H x v) (ry:RD K H y w) (ru:RelV v u) (rt:RelV w t):(t = .none/\(u == .none)=k) ∨ ∃ b,t = .bool b/\(u == .bool b)=k /\ ∀ id,u ≠ .builtin id:=by
 cases y with
 | non =>
   cases Mm.mp ry
   cases rt
   refine .inl ⟨rfl, ?_⟩
   cases x with
   | non=>cases Mm.mp rx;cases ru;cases e;rfl
   | bl c=>cases Me.mp rx;cases ru;cases e;rfl
   | int i=>cases Md.mp rx;obtain ⟨tk,rfl⟩:=ru;cases e;rfl
   | str z=>cases Mh.mp rx;obtain ⟨tk,rfl⟩:=ru;cases e;rfl
   | tup ds=>obtain ⟨a,vs,rfl,_⟩:=Ml rx;cases ru;cases e;rfl
   | con ds=>obtain ⟨a,vs,rfl,_⟩:=Mk.mp rx;cases ru;cases e;rfl
   | ref a=>cases Mf.mp rx;cases ru;cases e;rfl
   | fn z=>obtain ⟨a,rfl,_⟩:=Mu.mp rx;cases ru;cases e;rfl
 | bl b =>
   cases Me.mp ry
   cases rt
   refine .inr ⟨b,rfl, ?_⟩
   cases x with
   | non=>cases Mm.mp rx;cases ru;cases e;exact ⟨rfl,fun _ z=>by cases z⟩
   | bl c=>cases Me.mp rx;cases ru;cases e;exact ⟨by cases b <;> cases c <;> rfl,fun _ z=>by cases z⟩
   | int i=>cases Md.mp rx;obtain ⟨tk,rfl⟩:=ru;cases e;exact ⟨rfl,fun _ z=>by cases z⟩
   | str z=>cases Mh.mp rx;obtain ⟨tk,rfl⟩:=ru;cases e;exact ⟨rfl,fun _ z=>by cases z⟩
   | tup ds=>obtain ⟨a,vs,rfl,_⟩:=Ml rx;cases ru;cases e;exact ⟨rfl,fun _ z=>by cases z⟩
   | con ds=>obtain ⟨a,vs,rfl,_⟩:=Mk.mp rx;cases ru;cases e;exact ⟨rfl,fun _ z=>by cases z⟩
   | ref a=>cases Mf.mp rx;cases ru;cases e;exact ⟨rfl,fun _ z=>by cases z⟩
   | fn z=>obtain ⟨a,rfl,_⟩:=Mu.mp rx;cases ru;cases e;exact ⟨rfl,fun _ z=>by cases z⟩
 | _=>cases e
theorem xJ:OpR X (Eg .Is) (l2 X.K wIs):=by
 intro pins s σ H v w u t Q I ru rt h;obtain ⟨x,y,M,rm,rx,ry,k,e,q⟩:=h;have fin:EP X pins σ Q (.bool k) s:=⟨.bl k,H,I,rfl,q _ H Ext.refl rm (Me.mpr rfl)⟩
 rcases zI e rx ry ru rt with ⟨rfl,j⟩ | ⟨b,rfl,j,nb⟩
 ·exact is_none_gen (by rw [j];exact fin)
 ·exact xI nb (by rw [j];exact fin)
noncomputable def cK (r r':R2d) (ta tb tc:TEd):TEd:=fun ρ M Q=>ta ρ M fun x M1=>tb ρ M1 fun y M2=>r x y M2 fun z M3 => ∃ k,z = .bl k/\(if k=true then tc ρ M3 fun w M4=>r' y w M4 Q else Q (.bl false) M3)
theorem fb {r r':R2d} {ta tb tc:TEd} (F:ay r) (B:ay r') (G:ae ta) (J:ae tb) (L:ae tc):ae (cK r r' ta tb tc):=fun ρ M Q Q' i q =>
 G _ _ _ _ (fun x M1 O=>J _ _ _ _ (fun y M2 U=>F _ _ _ _ _ (fun z Z ⟨k,e,j⟩=>⟨k,e,by
  cases k with
  | true=>rw [if_pos rfl] at j ⊢;exact L _ _ _ _ (fun w M4 Y=>B _ _ _ _ _ i Y) j
  | false=>rw [if_neg y2] at j ⊢;exact i _ _ j⟩) U) O) q
theorem iP {r r':R2d} {ta tb tc:TEd} (hr:ay r) (Y:ay r') (ma:ae ta) (mb:ae tb) (mc:ae tc) (σ:St) (H:Hp) (Q:VK) (h:lE X.K (cK r r' ta tb tc) σ H Q):kI (l2 X.K r) (l2 X.K r') (lE X.K ta) (lE X.K tb) (lE X.K tc) σ H Q:=by
 obtain ⟨ρ,M,rs,rm,q⟩:=h;refine ⟨ρ,M,rs,rm,ma _ _ _ _ (fun x M1 q1 v H1 J j Z => ?_) q⟩;refine ⟨ρ,M1,rs.mono (J.stab rm),j,mb _ _ _ _ (fun y M2 q2 w H2 L B G => ?_) q1⟩;refine ⟨x,y,M2,B,Z.mono (L.stab j),G,hr _ _ _ _ _ (fun z M3 ⟨k,e,O⟩ v3 H3 U F By => ?_) q2⟩;subst e;refine ⟨k,Me.mp By, ?_⟩
 cases k with
 | true =>
   rw [if_pos rfl] at O ⊢;refine ⟨ρ,M3,(((rs.mono (J.stab rm)).mono (L.stab j)).mono (U.stab B)),F,mc _ _ _ _ (fun w4 M4 q4 v4 H4 x4 Bz BA => ?_) O⟩;exact ⟨y,w4,M4,Bz,(G.mono (U.stab B)).mono (x4.stab F),BA,Y _ _ _ _ _ (fun d M5 k5=>k5.ext (((J.trans L).trans U).trans x4)) q4⟩
 | false =>
   rw [if_neg y2] at O ⊢;exact O (.bl false) H3 ((J.trans L).trans U) F (Me.mpr rfl)
noncomputable def lU:D->Option Bool
 | .bl b=>some b
 | .int i=>some (i != 0)
 | _=>none
noncomputable def pR:RAd:=fun xs M Q => ∃ x ds ts,xs=[x]/\aD M x=some ds/\aw lU ds=some ts/\Q (.bl (ts.all id)) M
theorem lV:b5 pR:=fun _ _ _ _ h ⟨x,ds,ts,e,j,z,q⟩=>⟨x,ds,ts,e,j,z,h _ _ q⟩
theorem lW {α β:Type} {f : α -> Option β}:∀ {xs:List α} {ys:List β},aw f xs=some ys->ys.length=xs.length /\ ∀ (i:Nat) x,xs[i]? = some x -> ∃ y,ys[i]? = some y/\f x=some y
 | [],ys,h=>by cases h;exact ⟨rfl,fun i x e=>by simp at e⟩
 | x::xs,ys,h=>by
   simp only [aw] at h
   cases j:f x with
   | none=>rw [j] at h;cases h
   | some y =>
     rw [j] at h;simp only [EY] at h
     cases e2:aw f xs with
     | none=>rw [e2] at h;cases h
     | some r =>
       rw [e2] at h;cases h;obtain ⟨l,g⟩:=lW e2;refine ⟨by simp [l],fun i z e => ?_⟩
       cases i with
       | zero=>simp at e;subst e;exact ⟨y,rfl,j⟩
       | succ i=>simp at e;simpa using g i z e
theorem xK {P:E3} {w:Ep} {A:Ew} {E:gV->h7->Prop} {s:h7} {K:Frag} {H:Hp} {d:D} {v:V} {u:gV} {b:Bool} {Q:Bool->h7->Prop} (e:lU d=some b) (rd:RD K H d v) (ru:RelV v u) (q:Q b s):DU (model P w) A (truthy u) Q E s:=by
 cases d with
 | bl c=>cases Me.mp rd;cases ru;cases e;exact F3 q
 | int i=>cases Md.mp rd;obtain ⟨t,rfl⟩:=ru;cases e;exact PyProof.Rows.truthy_int q
 | _=>cases e
theorem range_all {ts:List Bool}:(EZ ts.length).all (fun i=>ts.getD i false)=ts.all id/\(EZ ts.length).any (fun i=>ts.getD i false)=ts.any id:=by
 have e:(EZ ts.length).map (fun i=>ts.getD i false)=ts:=by
  apply List.ext_getElem
  ·simp
  ·intro i h1 h2;simp [EW,D0 h2]
 constructor
 ·conv=>rhs;rw [<- e]
  rw [List.all_map];rfl
 ·conv=>rhs;rw [<- e]
  rw [List.any_map];rfl
theorem uW (G:X.calm=true) {pins:List (Addr×Obj)} {s:h7} {σ:St} {H:Hp} {M:Mem} {x:D} {ds:List D} {ts:List Bool} {v:V} {u:gV} {Q:gV->h7->Prop} {g:List Bool->Bool} (I:Inv X pins σ H s) (rm:RM X.K M H) (rd:RD X.K H x v) (ru:RelV v u) (O:aD M x=some ds) (U:aw lU ds=some ts)
 (fin:∀ h' tk,Inv X pins σ H { s with heap:=h',toks:=tk }->Q (.bool (g ts)) { s with heap:=h',toks:=tk })
 (gg:Nat->(Nat->Bool)->Bool) (J:gg ts.length (fun i=>ts.getD i false)=g ts) :
 DU (model X.prog X.w) X.A.in1 (Jy u) (fun it s₂ => ∃ I fp wr n P St tr,it = .ref I/\Walks X.prog X.w X.A.in1 I fp wr n P St/\St 0 s₂.heap/\TruthOf X.prog X.w X.A.in1 P tr /\
  ∀ h' tk,(∀ b o,b∉wr->s₂.heap.get? b=some o->h'.get? b=some o)->Q (.bool (gg n tr)) { s₂ with heap:=h',toks:=tk }) X.xe s:=by
 obtain ⟨p,vs,rfl,sq,L⟩:=fH rm rd O
 cases ru
 obtain ⟨lt,get⟩:=lW U;have lv:=L.length;have tr:∀ (its:List gV),Vals vs its->TruthOf X.prog X.w X.A.in1 (fun i w=>its.toArray[i]? = some w) (fun i=>ts.getD i false):=by
  intro its rv i w s' Q' E' Y B;have q:its[i]? = some w:=by simpa using Y
  have li:=rv.length;have hi:i < its.length:=(DY.mp q).1;obtain ⟨d,hd⟩:∃ d,ds[i]? = some d:=⟨ds[i]'(by lia),D0 (by lia)⟩
  obtain ⟨v',F,rd'⟩:=L.get hd;obtain ⟨u',z,ru'⟩:=rv.get F;rw [q] at z;cases z;obtain ⟨b,Z,eb⟩:=get i d hd;have:ts.getD i false=b:=by rw [EW,Z];rfl
  have B:Q' (ts.getD i false) s':=B;rw [this] at B;exact xK eb rd' ru' B
 rcases sq with sq | sq
 ·obtain ⟨its,rv,pl,hz⟩:=I.list sq;have li:=rv.length;have j:p < s.heap.objs.size:=by obtain ⟨o,n,e,_⟩:=pl;exact DM e
  refine Fy pl.isList ⟨s.heap.objs.size,_,_,_,_,_,_,rfl,Walks.list (by rw [GU];exact I.ok.hd G) s.heap.objs.size p (Ec j) its.toArray,⟨⟨_,DQ _ rfl,rfl,rfl⟩,pl.isList.at fun o e=>i3 _ e⟩,tr its rv,fun h' tk k => ?_⟩
  have hn:its.toArray.size=ts.length:=by rw [DV];lia
  rw [hn,J];exact fin h' tk (I.kept (t':=tk) fun b o e=>k b o (by simp;exact Ec (DM e)) (i3 _ e))
 ·obtain ⟨its,rv,pl,hz⟩:=I.tuple sq;have li:=rv.length;have j:p < s.heap.objs.size:=by obtain ⟨o,e,_⟩:=pl;exact DM e
  have pt:s.heap.IsTuple p its.toArray:=pl;refine EV pt ⟨s.heap.objs.size,_,_,_,_,_,_,rfl,Walks.tuple (by rw [GU];exact I.ok.hd G) s.heap.objs.size p (Ec j) its.toArray,⟨⟨_,DQ _ rfl,rfl,rfl⟩,pt.push _⟩,tr its rv,fun h' tk k => ?_⟩
  have hn:its.toArray.size=ts.length:=by rw [DV];lia
  rw [hn,J];exact fin h' tk (I.kept (t':=tk) fun b o e=>k b o (by simp;exact Ec (DM e)) (i3 _ e))
theorem pS (j:X.calm=true):CallR X (.builtin "all") (lR X.K pR):=by
 intro pins s σ H xs us Q I rv h;obtain ⟨ds,M,rm,rs,x,es,ts,rfl,z,B,q⟩:=h;obtain ⟨v,rfl,r⟩:=rs.one;obtain ⟨u,rfl,ru⟩:=cT rv;exact call_all_walk (uW j I rm r ru z B (g:=fun ts=>ts.all id) (fun h' tk I'=>⟨.bl _,H,I',rfl,q _ H Ext.refl rm (Me.mpr rfl)⟩) (fun n tr=>(EZ n).all tr) range_all.1)
noncomputable def iQ (t:Bool):TEd:=fun _ M Q => ∀ p,M p=none->Q (.ref p) (ah M p (.dct t []))
theorem rO {t:Bool}:ae (iQ t):=fun _ _ _ _ i q p n=>i _ _ (q p n)
theorem xL {t:Bool} {pos:Pos}:PE X (.Dict [] [] pos) (lE X.K (iQ t)):=by
 cases t with
 | false =>
   refine PE.imp uc fun σ H Q ⟨ρ,M,rs,rm,q⟩ p n => ?_;exact q p (rm.out n) (.ref p) _ (Ext.lay n) (rm.lay n ⟨[],aH, .nil⟩) (Mf.mpr rfl)
 | true =>
   refine PE.imp ud fun σ H Q ⟨ρ,M,rs,rm,q⟩ p n => ?_;exact q p (rm.out n) (.ref p) _ (Ext.lay n) (rm.lay n ⟨[],aH, .nil⟩) (Mf.mpr rfl)
theorem uX {op op':K2} {r r':R2d} {a b c:Expr} {ta tb tc:TEd} {pos:Pos} (ho:OpR X (Eg op) (l2 X.K r)) (j:OpR X (Eg op') (l2 X.K r')) (z:ay r) (q:ay r') (ma:ae ta) (mb:ae tb) (mc:ae tc) (B:PE X a (lE X.K ta)) (F:PE X b (lE X.K tb)) (G:PE X c (lE X.K tc)) (hm:IP [op,op'] [b,c]=false) :
 PE X (.Compare a [op,op'] [b,c] pos) (lE X.K (cK r r' ta tb tc)):=PE.imp (tV ho j B F G hm) (iP z q ma mb mc)
theorem uY {op op':K2} {r r':R2d} {a b c:Expr} {ta tb tc:TEd} {pos:Pos} (ho:OpR X (Eg op) (l2 X.K r)) (q:OpR X (Eg op') (l2 X.K r')) (z:ay r) (j:ay r') (ma:ae ta) (mb:ae tb) (mc:ae tc) (B:PE X a (lE X.K ta)) (F:PE X b (lE X.K tb)) (G:PE X c (lE X.K tc)) (hm:IP [op,op'] [b,c]=false) :
 PT X (.Compare a [op,op'] [b,c] pos) (lT X.K (eY (cK r r' ta tb tc))):=PT.imp (tW ho q B F G hm) fun σ H Q h=>iP z j ma mb mc σ H _ (kU (fb z j ma mb mc) σ H Q h)
end
end
end Mi
end L2
namespace L2
namespace Srt
open PySem PySem.Spec PyProof.Rows
structure Cm (prog:E3) (w:Ep) (A:Ew) (s:h7) (kd:GL) (P:D2->Prop) (lt:D2->D2->Bool):Prop where
 asym:∀ x y,lt x y=true->lt y x=false
 neg:∀ x y z,lt x z=true->lt x y=true∨lt y z=true
 run:∀ (x y:D2) (E:gV->h7->Prop) (Q:Bool->h7->Prop),P x->P y->Q (lt x y) s->DU (DW prog w) A (keyLt' kd x.1 y.1) Q E s
section
variable {prog:E3} {w:Ep} {A:Ew} {E:gV->h7->Prop} {s:h7} {kd:GL} {P:D2->Prop} {lt:D2->D2->Bool}
theorem ad {σ α:Type} {M:Hs} {x : α} {st : σ} {Q : α -> σ -> Prop} (q:Q x st):wpS M A E s (pure x) Q st :=
 fun _ _ _=>⟨rfl,q⟩
theorem cy {σ:Type} {M:Hs} {tag:String} {st : σ} {Q:Unit -> σ -> Prop} (q:Q () st):wpS M A E s (liftM (PySem.rule tag)) Q st :=
 wpS_lift (Fz ⟨rfl,q⟩)
theorem xM {σ:Type} {M:Hs} {st st' : σ} {Q:PUnit -> σ -> Prop} (q:Q PUnit.unit st'):wpS M A E s (set st') Q st :=
 fun _ _ _=>⟨rfl,q⟩
theorem iR (c:Cm prog w A s kd P lt) {x y:D2} {st:EB} {Q:Option Bool->EB->Prop} (j:F8 st=kd) (hx:P x) (z:P y) (q:Q (some (lt x y)) st):wpS (DW prog w) A E s (lt' x y) Q st:=by
 rw [lt'_eq];refine D1 (HC ?_);refine D1 (wpS_lift ?_);rw [j];intro Γ p hp;rw [Sem.wp_attempt];exact c.run x y (fun e s'=>s'=s/\wpS (DW prog w) A E s (do modify fun s=>Hy (F8 s) (Ea s) (ET s) (gallopOf s) (some e);pure none) Q st) (fun b s'=>s'=s/\wpS (DW prog w) A E s (pure (some b)) Q st) hx z ⟨rfl,ad q⟩ Γ p hp
theorem aC {arr:Array D2} {i:Nat} {x:D2} {st:EB} {Q:D2->EB->Prop} (h:arr[i]? = some x) (q:Q x st):wpS (DW prog w) A E s (elem' arr i) Q st:=by
 rw [elem'_eq,h];exact ad q
theorem Cm.le_trans (c:Cm prog w A s kd P lt) {x y z:D2} (h:lt y x=false) (h2:lt z y=false):lt z x=false:=by
 cases e:lt z x with
 | false=>rfl
 | true=>rcases c.neg z y x e with q | q <;> simp_all
theorem Cm.irr (c:Cm prog w A s kd P lt) {x:D2}:lt x x=false:=by
 cases e:lt x x with
 | false=>rfl
 | true=>have:=c.asym x x e;rw [e] at this;exact this
theorem aF {σ α:Type} {M:Hs} {m:StateT σ Sem α} {st : σ} {Q Q' : α -> σ -> Prop} (h:wpS M A E s m Q st) (q:∀ a st',Q a st'->Q' a st'):wpS M A E s m Q' st :=
 Fj h (fun a s' z=>⟨z.1,q _ _ z.2⟩) fun _ _ z=>z
end
noncomputable abbrev zJ:=Bool->D2->Array D2->Nat->Nat->Nat->StateT EB Sem (Option Nat)
noncomputable abbrev zK:=Array D2->Array D2->StateT EB Sem (Array D2)
noncomputable def bey (lt:D2->D2->Bool) (left:Bool) (key x:D2):Bool:=if left=true then lt x key else !(lt key x)
structure Same (st st':EB):Prop where
 arr:Ea st'=Ea st
 kind:F8 st'=F8 st
 pend:ET st'=ET st
 fail:Fs st'=Fs st
def gf (prog:E3) (w:Ep) (A:Ew) (E:gV->h7->Prop) (s:h7) (kd:GL) (P:D2->Prop) (lt:D2->D2->Bool) (g:zJ):Prop :=
 ∀ (left:Bool) (key:D2) (arr:Array D2) (L xs R:List D2) (base n aS:Nat) (st:EB) (Q:Option Nat->EB->Prop),F8 st=kd->P key->arr.toList=L++xs++R->base=L.length->n=xs.length->(∀ x∈xs,P x)->aS < n ->
  xs.Pairwise (fun x y=>lt y x=false) ->
  (∀ X Y,xs=X++Y->(∀ x∈X,bey lt left key x=true)->(∀ x∈Y,bey lt left key x=false)->Q (some X.length) st) ->
  wpS (DW prog w) A E s (g left key arr base n aS) Q st
def gh (prog:E3) (w:Ep) (A:Ew) (E:gV->h7->Prop) (s:h7) (kd:GL) (P:D2->Prop) (lt:D2->D2->Bool) (m:zK):Prop :=
 ∀ (a b:Array D2) (st:EB) (Q:Array D2->EB->Prop),F8 st=kd->(∀ x∈a.toList,P x)->(∀ x∈b.toList,P x)->0 < a.size->0 < b.size ->
  a.toList.Pairwise (fun x y=>lt y x=false)->b.toList.Pairwise (fun x y=>lt y x=false)->(∀ x y,a[0]? = some x->b[0]? = some y->lt x y=false)->(∀ x y,a[a.size - 1]? = some x->b[b.size - 1]? = some y->lt x y=false) ->
  (∀ r st',r.toList.Perm (a.toList++b.toList)->r.toList.Pairwise (fun x y=>lt y x=false)->Same st st'->Q r st') ->
  wpS (DW prog w) A E s (m a b) Q st
section
variable {prog:E3} {w:Ep} {A:Ew} {E:gV->h7->Prop} {s:h7} {kd:GL} {P:D2->Prop} {lt:D2->D2->Bool}
theorem fN (c:Cm prog w A s kd P lt) {left:Bool} {key x:D2} {arr:Array D2} {j:Nat} {st:EB} {Q:Option Bool->EB->Prop} (z:F8 st=kd) (hx:P key) (B:P x) (e:arr[j]? = some x) (q:Q (some (bey lt left key x)) st) :
 wpS (DW prog w) A E s (do
  let x <- elem' arr j
  if left=true then lt' x key else do
   let r <- lt' key x
   pure (Option.map (fun x => !x) r)) Q st:=by
 refine D1 (aC e ?_)
 cases left with
 | true=>exact iR c z B hx q
 | false=>exact D1 (iR c z hx B (ad q))
theorem lZ (c:Cm prog w A s kd P lt) {left:Bool} {key x y:D2} (h:lt y x=false) (j:bey lt left key y=true):bey lt left key x=true:=by
 unfold bey at j ⊢
 cases left with
 | true =>
   rw [if_pos rfl] at j ⊢
   rcases c.neg y x key j with q | q
   ·rw [h] at q;cases q
   ·exact q
 | false =>
   simp at j ⊢
   cases e:lt key x with
   | false=>rfl
   | true =>
     rcases c.neg key y x e with q | q
     ·rw [j] at q;cases q
     ·rw [h] at q;cases q
structure Gal (lt:D2->D2->Bool) (left:Bool) (key:D2) (xs:List D2) (lo hi:Nat):Prop where
 le:lo<=hi
 len:hi<=xs.length
 up:∀ i x,i < lo->xs[i]? = some x->bey lt left key x=true
 dn:∀ i x,hi<=i->xs[i]? = some x->bey lt left key x=false
theorem eK {xs:List D2} {R:D2->D2->Prop} (h:xs.Pairwise R) {i j:Nat} {x y:D2} (q:i < j) (hx:xs[i]? = some x) (z:xs[j]? = some y):R x y:=by
 obtain ⟨h1,B⟩:=DY.mp hx;obtain ⟨h2,F⟩:=DY.mp z;rw [<- B, <- F];exact List.pairwise_iff_getElem.mp h i j h1 h2 q
theorem gi (c:Cm prog w A s kd P lt) {left:Bool} {key:D2} {xs:List D2} (h:xs.Pairwise (fun x y=>lt y x=false)) {j:Nat} {y:D2} (q:xs[j]? = some y) (z:bey lt left key y=true):∀ i x,i < j+1->xs[i]? = some x->bey lt left key x=true:=by
 intro i x hi hx
 by_cases e:i=j
 ·subst e;rw [hx] at q;cases q;exact z
 ·exact lZ c (eK h (by lia) hx q) z
theorem gj (c:Cm prog w A s kd P lt) {left:Bool} {key:D2} {xs:List D2} (h:xs.Pairwise (fun x y=>lt y x=false)) {j:Nat} {y:D2} (z:xs[j]? = some y) (B:bey lt left key y=false):∀ i x,j<=i->xs[i]? = some x->bey lt left key x=false:=by
 intro i x hi hx
 by_cases e:i=j
 ·subst e;rw [hx] at z;cases z;exact B
 ·cases q:bey lt left key x with
  | false=>rfl
  | true=>have:=lZ c (eK h (by lia) z hx) q;rw [B] at this;cases this
theorem Gal.out {left:Bool} {key:D2} {xs:List D2} {k:Nat} (g:Gal lt left key xs k k):∃ X Y,xs=X++Y/\X.length=k/\(∀ x∈X,bey lt left key x=true)/\(∀ x∈Y,bey lt left key x=false):=by
 refine ⟨xs.take k,xs.drop k,(FP k xs).symm,by rw [Er];exact GP g.len,fun x hx => ?_,fun x hx => ?_⟩
 ·obtain ⟨i,hi,e⟩:=Ft.mp hx;rw [Er] at hi;exact g.up i x (by lia) (by rw [List.getElem_take] at e;rw [<- e];exact D0 _)
 ·obtain ⟨i,hi,e⟩:=Ft.mp hx;rw [L8] at hi;refine g.dn (k+i) x (by lia) ?_
  rw [List.getElem_drop] at e;rw [<- e];exact D0 _
noncomputable abbrev Ord (lt:D2->D2->Bool) (l:List D2):Prop:=l.Pairwise fun x y=>lt y x=false
theorem md {out X A' B:List D2} (h1:Ord lt (out++(X++A'))) (h2:Ord lt (out++B)) (h:∀ x∈X, ∀ y∈B,lt y x=false):Ord lt ((out++X)++A')/\Ord lt ((out++X)++B):=by
 refine ⟨by rw [DZ];exact h1, ?_⟩
 rw [DZ];obtain ⟨j,q,F⟩:=z4.mp h1;obtain ⟨O,p2,G⟩:=z4.mp h2;obtain ⟨J,U,Y⟩:=z4.mp q;refine z4.mpr ⟨j,z4.mpr ⟨J,p2,h⟩,fun x hx y L => ?_⟩
 rcases E5.mp L with z | z
 ·exact F x hx y (Ff _ z)
 ·exact G x hx y z
structure ML (lt:D2->D2->Bool) (la lb out:List D2) (ia ib:Nat):Prop where
 pa:Ord lt (out++la.drop ia)
 pb:Ord lt (out++lb.drop ib)
 pm:(out++(la.drop ia++lb.drop ib)).Perm (la++lb)
theorem oj (c:Cm prog w A s kd P lt) {l:List D2} {i:Nat} {x y:D2} (h:Ord lt (l.drop i)) (j:l[i]? = some y) (hx:lt y x=false):∀ z∈l.drop i,lt z x=false:=by
 obtain ⟨hi,e⟩:=DY.mp j;rw [FR hi,e] at h ⊢;intro z B
 rcases DT.mp B with q | q
 ·rw [q];exact hx
 ·exact c.le_trans hx ((Io.mp h).1 z q)
theorem dC {l X Y:List D2} {i:Nat} (e:l.drop i=X++Y):l.drop (i+X.length)=Y:=by
 rw [<- Ip,e,List.drop_left]
theorem ML.galA (c:Cm prog w A s kd P lt) {la lb out X Y:List D2} {ia ib:Nat} {y:D2} (m:ML lt la lb out ia ib) (e:la.drop ia=X++Y) (j:lb[ib]? = some y) (h:∀ x∈X,lt y x=false):ML lt la lb (out++X) (ia+X.length) ib:=by
 have p2:=(z4.mp m.pb).2.1;have q:=md (X:=X) (A':=Y) (by rw [<- e];exact m.pa) m.pb fun x hx=>oj c p2 j (h x hx)
 refine ⟨by rw [dC e];exact q.1,q.2, ?_⟩
 rw [dC e];refine H8.trans (Ly ?_) m.pm;rw [e];simp
theorem ML.galB (c:Cm prog w A s kd P lt) {la lb out X Y:List D2} {ia ib:Nat} {y:D2} (m:ML lt la lb out ia ib) (e:lb.drop ib=X++Y) (j:la[ia]? = some y) (h:∀ x∈X,lt y x=false):ML lt la lb (out++X) ia (ib+X.length):=by
 have p2:=(z4.mp m.pa).2.1;have q:=md (X:=X) (A':=Y) (by rw [<- e];exact m.pb) m.pa fun x hx=>oj c p2 j (h x hx)
 refine ⟨q.2,by rw [dC e];exact q.1, ?_⟩
 rw [dC e];refine H8.trans ?_ m.pm;rw [e,DZ];refine F5 _ ?_;rw [<- DZ, <- DZ];exact EL _ Gp
theorem dD {l:List D2} {i:Nat} {x:D2} (h:l[i]? = some x):l.drop i=[x]++l.drop (i+1):=by
 obtain ⟨hi,e⟩:=DY.mp h;rw [FR hi,e];rfl
theorem ML.pushA (c:Cm prog w A s kd P lt) {la lb out:List D2} {ia ib:Nat} {x y:D2} (m:ML lt la lb out ia ib) (hx:la[ia]? = some x) (j:lb[ib]? = some y) (h:lt y x=false):ML lt la lb (out++[x]) (ia+1) ib :=
 m.galA c (dD hx) j (by simpa using h)
theorem ML.pushB (c:Cm prog w A s kd P lt) {la lb out:List D2} {ia ib:Nat} {x y:D2} (m:ML lt la lb out ia ib) (hx:la[ia]? = some x) (j:lb[ib]? = some y) (h:lt x y=false):ML lt la lb (out++[y]) ia (ib+1) :=
 m.galB c (dD j) hx (by simpa using h)
def Res (lt:D2->D2->Bool) (la lb r:List D2):Prop:=r.Perm (la++lb)/\Ord lt r
theorem ML.fin {la lb out:List D2} {ia ib:Nat} (m:ML lt la lb out ia ib) (h:lb.length<=ib):Res lt la lb (out++la.drop ia++lb.drop ib):=by
 rw [FG h,Fb];refine ⟨?_,m.pa⟩;have:=m.pm;rw [FG h,Fb] at this;exact this
theorem ML.finE {la lb out:List D2} {ia ib:Nat} (m:ML lt la lb out ia ib) (h:la.length<=ia):Res lt la lb (out++la.drop ia++lb.drop ib):=by
 rw [FG h,Fb];refine ⟨?_,m.pb⟩;have:=m.pm;rw [FG h,HN] at this;exact this
theorem ML.finA {la lb out:List D2} {ia ib:Nat} (m:ML lt la lb out ia ib) (h:∀ x∈lb, ∀ y∈la.drop ia,lt y x=false):Res lt la lb (out++lb.drop ib++la.drop ia):=by
 refine ⟨?_, ?_⟩
 ·refine H8.trans ?_ m.pm;rw [DZ];exact F5 _ Gp
 ·obtain ⟨F,q,B⟩:=z4.mp m.pa;refine z4.mpr ⟨m.pb,q,fun x hx y j => ?_⟩
  rcases E5.mp hx with z | z
  ·exact B x z y j
  ·exact h x (HJ z) y j
theorem ML.size {la lb out:List D2} {ia ib:Nat} (m:ML lt la lb out ia ib) (j:ia<=la.length) (q:ib<=lb.length):out.length=ia+ib:=by
 have:=m.pm.length_eq;simp only [DO,L8] at this;lia
theorem aE {a:Array D2} {i:Nat} (h:i < a.size):∃ x,a[i]? = some x/\a.toList[i]? = some x/\x∈a.toList:=by
 refine ⟨a[i],EJ h, ?_,Array.getElem_mem_toList h⟩;rw [E7];exact EJ h
theorem bF {a:Array D2} {i:Nat}:(a.extract i).toList=a.toList.drop i:=by
 rw [Fu];simp only [Hj];exact Hk (by simp)
theorem xN {a:Array D2} {i:Nat} {X Y:List D2} (e:a.toList.drop i=X++Y):(a.extract i (i+X.length)).toList=X:=by
 rw [Fu];simp [Hj,e]
theorem Same.refl {st:EB}:Same st st:=⟨rfl,rfl,rfl,rfl⟩
theorem Same.trans {a b c:EB} (h:Same a b) (g:Same b c):Same a c:=⟨g.arr.trans h.arr,g.kind.trans h.kind,g.pend.trans h.pend,g.fail.trans h.fail⟩
theorem jT {O Y A' B:List D2} (h1:Ord lt (A'++(Y++O))) (h2:Ord lt (B++O)) (h:∀ y∈Y, ∀ x∈B,lt y x=false):Ord lt (B++(Y++O)):=by
 obtain ⟨J,j,L⟩:=z4.mp h1;obtain ⟨q,p2,F⟩:=z4.mp h2;refine z4.mpr ⟨q,j,fun x hx y G => ?_⟩
 rcases E5.mp G with z | z
 ·exact h y z x hx
 ·exact F x hx y z
structure MH (lt:D2->D2->Bool) (la lb out:List D2) (na nb:Nat):Prop where
 pa:Ord lt (la.take na++out.reverse)
 pb:Ord lt (lb.take nb++out.reverse)
 pm:(la.take na++lb.take nb++out.reverse).Perm (la++lb)
theorem gk (c:Cm prog w A s kd P lt) {l:List D2} {n:Nat} {x y:D2} (h:Ord lt (l.take n)) (hn : 0 < n) (B:l[n - 1]? = some y) (hx:lt x y=false):∀ z∈l.take n,lt x z=false:=by
 intro z F;obtain ⟨i,hi,e⟩:=Ft.mp F;have j:(l.take n)[i]? = some z:=by rw [<- e];exact D0 hi
 have q:(l.take n)[n - 1]? = some y:=by rw [GG (by lia)];exact B
 rw [Er] at hi
 by_cases hin:i=n - 1
 ·subst hin;rw [q] at j;cases j;exact hx
 ·exact c.le_trans (eK h (by lia) j q) hx
theorem dE {l X Y:List D2} {n:Nat} (e:l.take n=X++Y):l.take X.length=X:=by
 have h:X.length<=n:=by
  have:=congrArg Gx e;simp only [Er,DO] at this;lia
 have h2:(l.take n).take X.length=X:=by rw [e,List.take_left]
 rw [List.take_take,GP h] at h2;exact h2
theorem MH.galA (c:Cm prog w A s kd P lt) {la lb out X Y:List D2} {na nb:Nat} {y:D2} (m:MH lt la lb out na nb) (e:la.take na=X++Y) (hn : 0 < nb) (j:lb[nb - 1]? = some y) (h:∀ x∈Y,lt x y=false):MH lt la lb (out++Y.reverse) X.length nb:=by
 have p2:=(z4.mp m.pb).1;have h1:Ord lt (X++(Y++out.reverse)):=by rw [<- DZ, <- e];exact m.pa
 have q:=jT h1 m.pb fun x hx=>gk c p2 hn j (h x hx);refine ⟨by rw [dE e];simpa using h1,by simpa using q, ?_⟩
 rw [dE e];refine H8.trans ?_ m.pm;rw [e];simp only [List.reverse_append,List.reverse_reverse,DZ];refine F5 _ ?_;rw [<- DZ, <- DZ];exact EL _ Gp
theorem MH.galB (c:Cm prog w A s kd P lt) {la lb out X Y:List D2} {na nb:Nat} {y:D2} (m:MH lt la lb out na nb) (e:lb.take nb=X++Y) (hn : 0 < na) (j:la[na - 1]? = some y) (h:∀ x∈Y,lt x y=false):MH lt la lb (out++Y.reverse) na X.length:=by
 have p2:=(z4.mp m.pa).1;have h1:Ord lt (X++(Y++out.reverse)):=by rw [<- DZ, <- e];exact m.pb
 have q:=jT h1 m.pa fun x hx=>gk c p2 hn j (h x hx);refine ⟨by simpa using q,by rw [dE e];simpa using h1, ?_⟩
 rw [dE e];refine H8.trans (Ly ?_) m.pm;rw [e];simp
theorem cz {l:List D2} {n:Nat} {x:D2} (hn : 0 < n) (h:l[n - 1]? = some x):l.take n=l.take (n - 1)++[x]:=by
 obtain ⟨k,rfl⟩:∃ k,n=k+1:=⟨n - 1,by lia⟩
 rw [Ki] at h ⊢;rw [KG,h];rfl
theorem om {l:List D2} {n:Nat} {x:D2} (hn : 0 < n) (h:l[n - 1]? = some x):(l.take (n - 1)).length=n - 1:=by
 obtain ⟨hi,_⟩:=DY.mp h;rw [Er];lia
theorem MH.pushA (c:Cm prog w A s kd P lt) {la lb out:List D2} {na nb:Nat} {x y:D2} (m:MH lt la lb out na nb) (j : 0 < na) (z : 0 < nb) (hx:la[na - 1]? = some x) (B:lb[nb - 1]? = some y) (h:lt x y=false):MH lt la lb (out++[x]) (na - 1) nb:=by
 have q:=m.galA c (cz j hx) z B (by simpa using h)
 rw [om j hx] at q;simpa using q
theorem MH.pushB (c:Cm prog w A s kd P lt) {la lb out:List D2} {na nb:Nat} {x y:D2} (m:MH lt la lb out na nb) (B : 0 < na) (j : 0 < nb) (hx:la[na - 1]? = some x) (z:lb[nb - 1]? = some y) (h:lt y x=false):MH lt la lb (out++[y]) na (nb - 1):=by
 have q:=m.galB c (cz j z) B hx (by simpa using h)
 rw [om j z] at q;simpa using q
theorem MH.fin {la lb out:List D2} {na nb:Nat} (m:MH lt la lb out na nb) (h:na=0∨nb=0):Res lt la lb (la.take na++lb.take nb++out.reverse):=by
 refine ⟨m.pm, ?_⟩
 rcases h with rfl | rfl
 ·simpa using m.pb
 ·simpa using m.pa
theorem MH.finB {la lb out:List D2} {na nb:Nat} (m:MH lt la lb out na nb) (h:∀ x∈lb.take nb, ∀ y∈la,lt y x=false):Res lt la lb (lb.take nb++la.take na++out.reverse):=by
 refine ⟨H8.trans (EL _ Gp) m.pm, ?_⟩;obtain ⟨j,F,q⟩:=z4.mp m.pb;rw [DZ];refine z4.mpr ⟨j,m.pa,fun x hx y B => ?_⟩
 rcases E5.mp B with z | z
 ·exact h x hx y (HK z)
 ·exact q x hx y z
theorem MH.size {la lb out:List D2} {na nb:Nat} (m:MH lt la lb out na nb) (j:na<=la.length) (q:nb<=lb.length):out.length+na+nb=la.length+lb.length:=by
 have:=m.pm.length_eq;simp only [DO,Er,JZ] at this;lia
theorem dW {a:Array D2}:a.toList.take a.size=a.toList:=Hk (by simp)
theorem be {a:Array D2} {i:Nat}:(a.extract 0 i).toList=a.toList.take i:=by
 rw [Fu];simp [Hj]
theorem uZ {a:Array D2} {n:Nat} {X Y:List D2} (e:a.toList.take n=X++Y):(a.extract X.length n).toList=Y:=by
 rw [Fu];simp only [Hj];rw [<- List.drop_take,e,List.drop_left]
theorem v5:∀ (m old L R:List D2) (a:Array D2),a.toList=L++old++R->m.length=old.length->(Hv (fun a x=>a.setIfInBounds (L.length+x.snd) x.fst) a m.zipIdx).toList=L++m++R:=by
 have g:∀ (m old L R:List D2) (k:Nat) (a:Array D2),a.toList=L++old++R->m.length=old.length -> ∀ b:Nat,b+k=L.length->(Hv (fun a x=>a.setIfInBounds (b+x.snd) x.fst) a (m.zipIdx k)).toList=L++m++R:=by
  intro m
  induction m with
  | nil =>
    intro old L R k a e h b j;have:old=[]:=Et.mp h.symm;subst this;simpa using e
  | cons x m ih =>
    intro old L R k a e h b j
    cases old with
    | nil=>simp at h
    | cons y old =>
      rw [IU,Jm];have q:(a.setIfInBounds (b+k) x).toList=(L++[x])++old++R:=by
       rw [Array.toList_setIfInBounds,e,j];simp
      have:=ih old (L++[x]) R (k+1) _ q (by simpa using h) b (by simp;lia)
      rw [this];simp
 exact fun m old L R a e h=>g m old L R 0 a e h L.length (by lia)
theorem af {σ α:Type} {M:Hs} {p:Prop} [Decidable p] {j q:StateT σ Sem α} {st : σ} {Q : α -> σ -> Prop} (h1:p->wpS M A E s j Q st) (h2 : ¬p->wpS M A E s q Q st):wpS M A E s (if p then j else q) Q st:=by
 split
 ·next h=>exact h1 h
 ·next h=>exact h2 h
theorem ML.cut {a out:Array D2} {la lb X Y:List D2} {i j n:Nat} (m:ML lt la lb (out.toList++X) i j) (e:a.toList.drop n=X++Y):ML lt la lb (out++a.extract n (n+X.length)).toList i j:=by
 rw [DR,xN e];exact m
theorem MH.cut {a out:Array D2} {la lb X Y:List D2} {i j n:Nat} (m:MH lt la lb (out.toList++Y.reverse) i j) (e:a.toList.take n=X++Y):MH lt la lb (out++(a.extract X.length n).reverse).toList i j:=by
 rw [DR,Ek,uZ e];exact m
theorem rP {σ α:Type} {M:Hs} {m:StateT σ Sem α} {st : σ} {Q : α -> σ -> Prop} {P : σ -> Prop} (j:P st) (h:∀ st',P st'->wpS M A E s m Q st'):wpS M A E s m Q st:=h st j
theorem w5 {σ α:Type} {M:Hs} {m:StateT σ Sem α} {st : σ} {Q : α -> σ -> Prop} (h:∀ Q' : α -> σ -> Prop,(∀ a st',Q a st'->Q' a st')->wpS M A E s m Q' st):wpS M A E s m Q st:=h Q fun _ _ h=>h
theorem w6 {key x:D2} (h:bey lt false key x=true):lt key x=false:=by simpa [bey] using h
theorem rQ {key x:D2} (h:bey lt false key x=false):lt key x=true:=by simpa [bey] using h
theorem w8 {key x:D2} (h:bey lt true key x=true):lt x key=true:=by simpa [bey] using h
theorem rR {key x:D2} (h:bey lt true key x=false):lt x key=false:=by simpa [bey] using h
theorem mf {l X Y:List D2} {i:Nat} {x:D2} (e:l.drop i=X++Y) (h:l[i+X.length]? = some x):x∈Y:=by
 rw [<- dC e,dD h];simp
theorem mj {l X Y:List D2} {n:Nat} {x:D2} (e:l.take n=X++Y) (h0 : 0 < X.length) (h:l[X.length - 1]? = some x):x∈X:=by
 have:=cz h0 h;rw [dE e] at this;rw [this];simp
theorem mm {a:Array D2} {X Y:List D2} {i:Nat} (e:a.toList.drop i=X++Y):X.length<=a.size - i:=by
 have:=congrArg Gx e;simp at this;lia
theorem jU {a:Array D2} {X Y:List D2} {n:Nat} (e:a.toList.take n=X++Y) (h:n<=a.size):X.length+Y.length=n:=by
 have:=congrArg Gx e;simp at this;lia
theorem fe {a:Array D2} {n:Nat} (h:n<=a.size):n=(a.toList.take n).length:=by simp;lia
theorem ML.finR {a b out:Array D2} {ia ib:Nat} (m:ML lt a.toList b.toList out.toList ia ib) (h:b.size<=ib):Res lt a.toList b.toList (out++a.extract ia++b.extract ib).toList:=by
 have:=m.fin (by simpa using h)
 simpa only [DR,bF] using this
theorem ML.finS {a b out:Array D2} {ia ib:Nat} (m:ML lt a.toList b.toList out.toList ia ib) (h:a.size<=ia):Res lt a.toList b.toList (out++a.extract ia++b.extract ib).toList:=by
 have:=m.finE (by simpa using h)
 simpa only [DR,bF] using this
theorem ML.finL {a b out:Array D2} {ia ib:Nat} (m:ML lt a.toList b.toList out.toList ia ib) (h:∀ x∈b.toList, ∀ y∈a.toList.drop ia,lt y x=false):Res lt a.toList b.toList (out++b.extract ib++a.extract ia).toList:=by
 have:=m.finA h;simpa only [DR,bF] using this
theorem MH.finR {a b out:Array D2} {na nb:Nat} (m:MH lt a.toList b.toList out.toList na nb) (h:∀ x∈b.toList.take nb, ∀ y∈a.toList,lt y x=false):Res lt a.toList b.toList (b.extract 0 nb++a.extract 0 na++out.reverse).toList:=by
 have:=m.finB h;simpa only [DR,Ek,be] using this
theorem MH.finL {a b out:Array D2} {na nb:Nat} (m:MH lt a.toList b.toList out.toList na nb) (h:na=0∨nb=0):Res lt a.toList b.toList (a.extract 0 na++b.extract 0 nb++out.reverse).toList:=by
 have:=m.fin h;simpa only [DR,Ek,be] using this
theorem Bw (c:Cm prog w A s kd P lt) :
 ∃ (g:zJ) (lo hi:zK),(gf prog w A E s kd P lt g/\(gf prog w A E s kd P lt g->gh prog w A E s kd P lt lo)/\(gf prog w A E s kd P lt g->gh prog w A E s kd P lt hi))/\(gf prog w A E s kd P lt g->gh prog w A E s kd P lt lo->gh prog w A E s kd P lt hi ->
  ∀ (i sa na pa sb nb pb:Nat) (L r1 r2 R:List D2) (st:EB) (Q:Bool->EB->Prop),F8 st=kd->Fs st=none->(ET st)[i]? = some (sa,na,pa)->(ET st)[i+1]? = some (sb,nb,pb) ->
   (Ea st).toList=L++(r1++r2)++R->sa=L.length->na=r1.length->sb=L.length+r1.length->nb=r2.length->r1≠[]->r2≠[]->(∀ x∈r1,P x)->(∀ x∈r2,P x)->Ord lt r1->Ord lt r2 ->
   (∀ m st',(Ea st').toList=L++m++R->m.Perm (r1++r2)->Ord lt m->F8 st'=kd->Fs st'=none->ET st'=((ET st).setIfInBounds i (sa,na+nb,pa)).eraseIdxIfInBounds (i+1)->Q true st') ->
   wpS (DW prog w) A E s (mergeAt' i) Q st):=by
 apply KH;apply KH;apply KH;apply Hw
 rotate_left
 ·intro hg Ds Dt i sa na pa sb nb pb L r1 r2 R st Q hk hf h1 h2 Z CQ Cd CS Cu Du Dv D5 D6 o1 o2 q;unfold mergeAt';refine D1 (HC ?_);rw [h1,h2];dsimp only;refine D1 (xM ?_);obtain ⟨y0,t2,rfl⟩:∃ y t,r2=y::t:=by cases r2 with | nil=>exact absurd rfl Dv | cons y t=>exact ⟨y,t,rfl⟩
  have hz:(Ea st)[sb]? = some y0:=by
   rw [<- E7,Z,CS];simp
  refine D1 (aC hz ?_);refine D1 (hg false y0 (Ea st) L r1 (y0::t2++R) sa na 0 _ _ hk (D6 _ (by simp)) (by rw [Z];simp) CQ Cd D5 (by rw [Cd];exact G1.mpr Du) o1 fun X Y e hX hY => ?_)
  dsimp only;have lX:∀ x∈X,lt y0 x=false:=fun x hx=>by have:=hX x hx;simpa [bey] using this
  have lY:∀ x∈Y,lt x y0=false:=fun x hx=>c.asym _ _ (by have:=hY x hx;simpa [bey] using this)
  have hlen:na - X.length=Y.length:=by rw [Cd,e];simp
  subst e;obtain ⟨oX,oY,oXY⟩:=z4.mp o1;have oy:=Io.mp o2;have CT:∀ x∈X, ∀ z∈y0::t2,lt z x=false:=fun x hx z hz=>by
   rcases DT.mp hz with h | h
   ·rw [h];exact lX x hx
   ·exact c.le_trans (lX x hx) (oy.1 z h)
  refine af (fun h => ?_) (fun h => ?_)
  ·have CU:Y=[]:=Et.mp (by rw [<- hlen];simpa using h)
   subst CU;refine ad (q (X++(y0::t2)) _ (by simpa using Z) (by simp) ?_ hk hf rfl)
   exact z4.mpr ⟨oX,o2,CT⟩
  ·have CU : 0 < Y.length:=by
    have:na - X.length≠0:=by simpa using h
    lia
   obtain ⟨Y0,xl,rfl⟩:∃ Y0 xl,Y=Y0++[xl]:=⟨Y.dropLast,Y.getLast (by intro z;rw [z] at CU;simp at CU),(HS _).symm⟩
   have Dw:(Ea st)[sa+X.length+(na - X.length) - 1]? = some xl:=by
    rw [<- E7,Z,hlen,CQ];simp only [DZ,DO,Ht];rw [r0 (by lia),r0 (by lia),r0 (by lia)]
    rw [show L.length+X.length+(Y0.length+1) - 1 - L.length - X.length - Y0.length=0 by lia];rfl
   refine D1 (aC Dw ?_);refine D1 (hg true xl (Ea st) (L++(X++(Y0++[xl]))) (y0::t2) R sb nb (nb - 1) _ _ hk (D5 _ (by simp)) (by rw [Z];simp) (by rw [CS];simp) Cu D6 (by rw [Cu];simp) o2 fun X2 Y2 e2 Ce Cf => ?_)
   dsimp only;have Dx:∀ x∈X2,lt xl x=false:=fun x hx=>c.asym _ _ (by have:=Ce x hx;simpa [bey] using this)
   have Df:∀ x∈Y2,lt x xl=false:=fun x hx=>by have:=Cf x hx;simpa [bey] using this
   have Dy:Ord lt (X2++Y2):=by rw [<- e2];exact o2
   obtain ⟨Dz,DA,Dg⟩:=z4.mp Dy;obtain ⟨DJ,_,oYl⟩:=z4.mp oY;have lYY:∀ x∈Y0++[xl], ∀ z∈Y2,lt z x=false:=fun x hx z hz=>by
    rcases E5.mp hx with h | h
    ·exact c.le_trans (oYl x h xl (by simp)) (Df z hz)
    ·simp at h;subst h;exact Df z hz
   refine af (fun h => ?_) (fun h => ?_)
   ·have C7:X2=[]:=Et.mp (by simpa using h)
    subst C7;have e2:y0::t2=Y2:=by simpa using e2
    refine ad (q (X++(Y0++[xl])++(y0::t2)) _ (by simpa using Z) (JN _) ?_ hk hf rfl)
    refine z4.mpr ⟨o1,o2,fun x hx z hz => ?_⟩
    rcases E5.mp hx with g | g
    ·exact CT x g z hz
    ·exact lYY x g z (by rw [<- e2];exact hz)
   ·have C7:X2≠[]:=fun z=>h (by rw [z];rfl)
    have hx:((Ea st).extract (sa+X.length) sb).toList=Y0++[xl]:=by
     rw [Fu,Z,CQ,CS];simp only [Hj];have e1:(L++(X++(Y0++[xl])++y0::t2)++R).drop (L.length+X.length)=(Y0++[xl])++(y0::t2++R):=by
      rw [<- Ip];simp
     rw [e1,show L.length+(X++(Y0++[xl])).length - (L.length+X.length)=(Y0++[xl]).length by simp only [DO];lia,List.take_left]
    have hy:((Ea st).extract sb (sb+X2.length)).toList=X2:=by
     rw [Fu,Z,CS];simp only [Hj];have e1:(L++(X++(Y0++[xl])++y0::t2)++R).drop (L.length+(X++(Y0++[xl])).length)=(y0::t2)++R:=by
      rw [<- Ip];simp
     rw [e1,e2];simp
    have G:∀ (r:Array D2) (BB:EB),r.toList.Perm ((Y0++[xl])++X2)->Ord lt r.toList->Same (PyProof.Rows.SortSt.mk' (F8 st) (Ea st) (((ET st).setIfInBounds i (sa,na+nb,pa)).eraseIdxIfInBounds (i+1)) (gallopOf st) (Fs st)) BB -> ∀ By:EB,Ea By=Hv (fun a x=>a.setIfInBounds (sa+X.length+x.snd) x.fst) (Ea BB) r.toList.zipIdx->F8 By=F8 BB->Fs By=Fs BB->ET By=ET BB->Q (Fs By).isNone By:=by
     intro r BB hp ho hs By g1 g2 g3 g4;have Dh:Fs By=none:=g3.trans (hs.fail.trans hf);rw [Dh];refine q (X++r.toList++Y2) By ?_ ?_ ?_ (g2.trans (hs.kind.trans hk)) Dh (g4.trans hs.pend)
     ·rw [g1,hs.arr];have e3:(Ea st).toList=(L++X)++((Y0++[xl])++X2)++(Y2++R):=by
       rw [Z,e2];simp
      rw [show sa+X.length=(L++X).length by rw [CQ];simp]
      rw [v5 _ _ _ _ _ e3 (hp.length_eq)];simp
     ·rw [e2];refine H8.trans (EL _ (F5 _ hp)) ?_;simp
     ·refine z4.mpr ⟨z4.mpr ⟨oX,ho,fun x hx z hz => ?_⟩,DA,fun x hx z hz => ?_⟩
      ·rcases E5.mp (hp.mem_iff.mp hz) with g | g
       ·exact oXY x hx z g
       ·exact CT x hx z (by rw [e2];exact Ff _ g)
      ·rcases E5.mp hx with g | g
       ·exact CT x g z (by rw [e2];exact E1 _ hz)
       ·rcases E5.mp (hp.mem_iff.mp g) with g | g
        ·exact lYY x g z hz
        ·exact Dg x g z hz
    have D3:∀ x y,((Ea st).extract (sa+X.length) sb)[0]? = some x->((Ea st).extract sb (sb+X2.length))[0]? = some y->lt x y=false:=by
     intro x y BZ Cv;rw [<- E7,hx] at BZ;rw [<- E7,hy] at Cv;have Cw:=Ef BZ;have:y=y0:=by
      cases X2 with
      | nil=>exact absurd rfl C7
      | cons z t=>simp at e2 Cv;rw [<- Cv, <- e2.1]
     subst this;exact lY x Cw
    have preL:∀ x y,((Ea st).extract (sa+X.length) sb)[((Ea st).extract (sa+X.length) sb).size - 1]? = some x->((Ea st).extract sb (sb+X2.length))[((Ea st).extract sb (sb+X2.length)).size - 1]? = some y->lt x y=false:=by
     intro x y BZ Cv;rw [<- E7, <- Em,hx] at BZ;rw [<- E7, <- Em,hy] at Cv;have C0:=Ef Cv;have:x=xl:=by simp at BZ;exact BZ.symm
     subst this;exact Dx y C0
    have Di : 0 < ((Ea st).extract (sa+X.length) sb).size:=by rw [<- Em,hx];simp
    have Dj : 0 < ((Ea st).extract sb (sb+X2.length)).size:=by rw [<- Em,hy];exact G1.mpr C7
    have Dl:∀ x∈((Ea st).extract (sa+X.length) sb).toList,P x:=by rw [hx];exact fun x hx=>D5 x (E1 _ hx)
    have Dm:∀ x∈((Ea st).extract sb (sb+X2.length)).toList,P x:=by rw [hy];exact fun x hx=>D6 x (by rw [e2];exact Ff _ hx)
    have Dn:Ord lt ((Ea st).extract (sa+X.length) sb).toList:=by rw [hx];exact oY
    have Do:Ord lt ((Ea st).extract sb (sb+X2.length)).toList:=by rw [hy];exact Dz
    refine af (fun h => ?_) (fun h => ?_)
    ·refine D1 (Ds _ _ _ _ hk Dl Dm Di Dj Dn Do D3 preL fun r BB hp ho hs => ?_);rw [hx,hy] at hp;refine D1 (Gy ?_);refine D1 (HC ?_);exact ad (G r BB hp ho hs _ rfl rfl rfl rfl)
    ·refine D1 (Dt _ _ _ _ hk Dl Dm Di Dj Dn Do D3 preL fun r BB hp ho hs => ?_);rw [hx,hy] at hp;refine D1 (Gy ?_);refine D1 (HC ?_);exact ad (G r BB hp ho hs _ rfl rfl rfl rfl)
 apply Hw
 ·intro left key arr L xs R base n aS st Q hk C8 Z D7 hn hP hh hs q;subst D7 hn;have at_:∀ i,i < xs.length -> ∃ x,xs[i]? = some x/\arr[L.length+i]? = some x/\P x:=by
   intro i hi;refine ⟨xs[i],D0 hi, ?_,hP _ (L9 _)⟩;rw [<- E7,Z,DZ,r0 (by lia),DS (by lia)]
   rw [show L.length+i - L.length=i by lia]
   exact D0 hi
  obtain ⟨x0,BZ,Cy,DB⟩:=at_ aS hh;refine D1 (fN c hk C8 DB Cy ?_)
  try dsimp only
  refine af (fun hb => ?_) (fun hb => ?_)
  ·skip
   refine D1 (aF (Q:=fun r st'=>st'=st /\ ∃ la ofs,r=(none,la,ofs)/\aS+la < xs.length/\la < ofs/\(∀ j x,j < aS+la+1->xs[j]? = some x->bey lt left key x=true)/\(xs.length<=aS+ofs ∨ ∀ j x,aS+ofs<=j->xs[j]? = some x->bey lt left key x=false))
    (EC (fun i r st'=>st'=st /\ ∃ la ofs,r=(none,la,ofs)/\aS+la < xs.length/\la < ofs/\i+1<=ofs/\(∀ j x,j < aS+la+1->xs[j]? = some x->bey lt left key x=true)) ?_ ?_ ⟨rfl,0,1,rfl,hh,by lia,by lia,gi c hs BZ hb⟩) ?_)
   ·rintro i r st' _ hi ⟨rfl,la,ofs,rfl,h1,h2,h3,h4⟩
    try dsimp only
    refine af (fun Cg => ?_) (fun Cg => ?_)
    ·exact ad ⟨rfl,la,ofs,rfl,h1,h2,h4, .inl (by lia)⟩
    ·skip
     obtain ⟨x1,BU,Ch,Ci⟩:=at_ (aS+ofs) (by lia)
     refine D1 (fN c hk C8 Ci Ch ?_)
     try dsimp only
     refine af (fun hf => ?_) (fun hf => ?_)
     ·exact ad ⟨rfl,la,ofs,rfl,h1,h2,h4, .inr (gj c hs BU (by simpa using hf))⟩
     ·exact ad ⟨rfl,ofs,2*ofs+1,rfl,by lia,by lia,by lia,gi c hs BU (by simpa using hf)⟩
   ·rintro r st' ⟨rfl,la,ofs,rfl,h1,h2,h3,h4⟩;exact ⟨rfl,la,ofs,rfl,h1,h2,h4, .inl (by lia)⟩
   ·rintro r st' ⟨rfl,la,ofs,rfl,h1,h2,h3,h4⟩
    try dsimp only
    have hG:Gal lt left key xs (aS+la+1) (aS+min ofs (xs.length - aS)):=by
     refine ⟨by lia,by lia,h3,fun i x hi hx => ?_⟩
     have DK:i < xs.length:=(DY.mp hx).1
     rcases h4 with h4 | h4
     ·lia
     ·exact h4 i x (by lia) hx
    generalize aS+la+1=lo at hG;generalize aS+min ofs (xs.length - aS)=hi at hG;refine D1 (aF (Q:=fun r st''=>st''=st' /\ ∃ k,r=(none,k,k)/\Gal lt left key xs k k)
     (EC (fun i r st''=>st''=st' /\ ∃ lo hi,r=(none,lo,hi)/\Gal lt left key xs lo hi/\hi - lo+i<=xs.length) ?_ ?_ ⟨rfl,lo,hi,rfl,hG,by have:=hG.len;lia⟩) ?_)
    ·rintro i r st'' _ hi ⟨rfl,lo,hi,rfl,hG,hm⟩
     try dsimp only
     have hl:=hG.le;have Cz:=hG.len;refine af (fun Cg => ?_) (fun Cg => ?_)
     ·exact ad ⟨rfl,hi,by rw [show lo=hi by lia],by rw [show lo=hi by lia] at hG;exact hG⟩
     ·skip
      obtain ⟨x1,BU,Ch,Ci⟩:=at_ (lo+(hi - lo) / 2) (by lia)
      refine D1 (fN c hk C8 Ci Ch ?_)
      try dsimp only
      refine af (fun hf => ?_) (fun hf => ?_)
      ·exact ad ⟨rfl,_,_,rfl,⟨by lia,Cz,gi c hs BU hf,hG.dn⟩,by lia⟩
      ·exact ad ⟨rfl,_,_,rfl,⟨by lia,by lia,hG.up,gj c hs BU (by simpa using hf)⟩,by lia⟩
    ·rintro r st'' ⟨rfl,lo,hi,rfl,hG,hm⟩;have hl:=hG.le;exact ⟨rfl,hi,by rw [show lo=hi by lia],by rw [show lo=hi by lia] at hG;exact hG⟩
    ·rintro r st'' ⟨rfl,k,rfl,hG⟩;obtain ⟨X,Y,e,hl,hX,hY⟩:=hG.out;subst hl;exact ad (q X Y e hX hY)
  ·skip
   refine D1 (aF (Q:=fun r st'=>st'=st /\ ∃ la ofs,r=(none,la,ofs)/\la<=aS/\la < ofs/\(∀ j x,aS - la<=j->xs[j]? = some x->bey lt left key x=false)/\(aS < ofs ∨ ∀ j x,j < aS - ofs+1->xs[j]? = some x->bey lt left key x=true))
    (EC (fun i r st'=>st'=st /\ ∃ la ofs,r=(none,la,ofs)/\la<=aS/\la < ofs/\i+1<=ofs/\(∀ j x,aS - la<=j->xs[j]? = some x->bey lt left key x=false)) ?_ ?_ ⟨rfl,0,1,rfl,by lia,by lia,by lia,gj c hs BZ (by simpa using hb)⟩) ?_)
   ·rintro i r st' _ hi ⟨rfl,la,ofs,rfl,h1,h2,h3,h4⟩
    try dsimp only
    refine af (fun Cg => ?_) (fun Cg => ?_)
    ·exact ad ⟨rfl,la,ofs,rfl,h1,h2,h4, .inl (by lia)⟩
    ·skip
     obtain ⟨x1,BU,Ch,Ci⟩:=at_ (aS - ofs) (by lia)
     refine D1 (fN c hk C8 Ci Ch ?_)
     try dsimp only
     refine af (fun hf => ?_) (fun hf => ?_)
     ·exact ad ⟨rfl,la,ofs,rfl,h1,h2,h4, .inr (gi c hs BU hf)⟩
     ·exact ad ⟨rfl,ofs,2*ofs+1,rfl,by lia,by lia,by lia,gj c hs BU (by simpa using hf)⟩
   ·rintro r st' ⟨rfl,la,ofs,rfl,h1,h2,h3,h4⟩;exact ⟨rfl,la,ofs,rfl,h1,h2,h4, .inl (by lia)⟩
   ·rintro r st' ⟨rfl,la,ofs,rfl,h1,h2,h3,h4⟩
    try dsimp only
    have hG:Gal lt left key xs (aS+1 - min ofs (aS+1)) (aS - la):=by
     refine ⟨by lia,by lia,fun i x hi hx => ?_,h3⟩
     rcases h4 with h4 | h4
     ·lia
     ·exact h4 i x (by lia) hx
    generalize aS+1 - min ofs (aS+1)=lo at hG;generalize aS - la=hi at hG;refine D1 (aF (Q:=fun r st''=>st''=st' /\ ∃ k,r=(none,k,k)/\Gal lt left key xs k k)
     (EC (fun i r st''=>st''=st' /\ ∃ lo hi,r=(none,lo,hi)/\Gal lt left key xs lo hi/\hi - lo+i<=xs.length) ?_ ?_ ⟨rfl,lo,hi,rfl,hG,by have:=hG.len;lia⟩) ?_)
    ·rintro i r st'' _ hi ⟨rfl,lo,hi,rfl,hG,hm⟩
     try dsimp only
     have hl:=hG.le;have Cz:=hG.len;refine af (fun Cg => ?_) (fun Cg => ?_)
     ·exact ad ⟨rfl,hi,by rw [show lo=hi by lia],by rw [show lo=hi by lia] at hG;exact hG⟩
     ·skip
      obtain ⟨x1,BU,Ch,Ci⟩:=at_ (lo+(hi - lo) / 2) (by lia)
      refine D1 (fN c hk C8 Ci Ch ?_)
      try dsimp only
      refine af (fun hf => ?_) (fun hf => ?_)
      ·exact ad ⟨rfl,_,_,rfl,⟨by lia,Cz,gi c hs BU hf,hG.dn⟩,by lia⟩
      ·exact ad ⟨rfl,_,_,rfl,⟨by lia,by lia,hG.up,gj c hs BU (by simpa using hf)⟩,by lia⟩
    ·rintro r st'' ⟨rfl,lo,hi,rfl,hG,hm⟩;have hl:=hG.le;exact ⟨rfl,hi,by rw [show lo=hi by lia],by rw [show lo=hi by lia] at hG;exact hG⟩
    ·rintro r st'' ⟨rfl,k,rfl,hG⟩;obtain ⟨X,Y,e,hl,hX,hY⟩:=hG.out;subst hl;exact ad (q X Y e hX hY)
 apply Hw
 ·intro hg a b st Q hk Cj Ck CV CW sa sb CA CB q;refine D1 (cy ?_);obtain ⟨b0,CY,CC,DD⟩:=aE CW;obtain ⟨a0,Cy,Cr,DE⟩:=aE CV;refine D1 (aC CY ?_);have m0:ML lt a.toList b.toList [] 0 0:=⟨sa,sb,by simp⟩
  have m1:ML lt a.toList b.toList [b0] 0 1:=m0.pushB c Cr CC (CA a0 b0 Cy CY);have C1:∀ x∈b.toList, ∀ (i:Nat),i+1=a.size -> ∀ y∈a.toList.drop i,lt y x=false:=by
   intro x hx i hi y hy;obtain ⟨aL,CZ,CD,_⟩:=aE (a:=a) (i:=i) (by lia)
   obtain ⟨bL,D8,Ct,_⟩:=aE (a:=b) (i:=b.size - 1) (by lia)
   have e:a.toList.drop i=[aL]:=by
    rw [dD CD,FG (by simp;lia)];rfl
   rw [e] at hy;simp at hy;subst hy;have hl:=CB y bL (by rw [show a.size - 1=i by lia];exact CZ) D8
   obtain ⟨j,hj,e⟩:=Ft.mp hx;have Cl:b.toList[j]? = some x:=by rw [<- e];exact D0 hj
   by_cases hjb:j=b.size - 1
   ·subst hjb;rw [Ct] at Cl;cases Cl;exact hl
   ·have:=eK sb (show j < b.size - 1 by simp at hj;lia) Cl Ct
    exact c.le_trans this hl
  try dsimp -zeta -zetaHave -zetaUnused only
  refine af (fun h => ?_) (fun h => ?_)
  ·skip
   have h : 1=b.size:=by simpa using h
   refine ad ?_;have r:=m1.fin (by simp;lia)
   exact q _ _ (by simpa only [DR,DX,E9,bF] using r.1) (by simpa only [DR,DX,E9,bF] using r.2) Same.refl
  ·skip
   refine af (fun h2 => ?_) (fun h2 => ?_)
   ·skip
    have h2 : 0+1=a.size:=by simpa using h2
    refine ad ?_;have r:=m1.finA (C1 · · 0 h2);exact q _ _ (by simpa only [DR,DX,E9,bF] using r.1) (by simpa only [DR,DX,E9,bF] using r.2) Same.refl
   ·skip
    have h : 1≠b.size:=by simpa using h
    have h2 : 0+1≠a.size:=by simpa using h2
    refine D1 (HC ?_)
    try dsimp -zeta -zetaHave -zetaUnused only
    refine D1 (aF (Q:=fun r st'=>Same st st' /\ ∃ res t,r=(some res,t)/\Res lt a.toList b.toList res.toList)
     (EC (fun i r st'=>Same st st' /\ ∃ out ia ib mg,r=(none,out,ia,ib,mg)/\ML lt a.toList b.toList out.toList ia ib/\ia+1 < a.size/\ib < b.size/\i+1<=out.size) ?_ ?_ ⟨Same.refl,_,_,_,_,rfl,m1,by lia,by lia,by simp⟩) ?_)
    ·rintro i r BV _ hi ⟨sm,out,ia,ib,mg,rfl,m,D9,Da,hsz⟩
     try dsimp -zeta -zetaHave -zetaUnused only
     refine D1 (aF (Q:=fun r st'=>st'=BV/\((∃ B BM BQ ac bc,r=(none,B,BM,BQ,ac,bc)/\ML lt a.toList b.toList B.toList BM BQ/\BM+1 < a.size/\BQ < b.size/\i+2<=B.size) ∨ ∃ res t,r=(some res,t)/\Res lt a.toList b.toList res.toList))
      (EC (fun j r st'=>st'=BV /\ ∃ B BM BQ ac bc,r=(none,B,BM,BQ,ac,bc)/\ML lt a.toList b.toList B.toList BM BQ/\BM+1 < a.size/\BQ < b.size/\i+1+j<=B.size) ?_ ?_ ⟨rfl,_,_,_,_,_,rfl,m,D9,Da,by lia⟩) ?_)
     ·rintro j r BB _ hj ⟨rfl,B,BM,BQ,ac,bc,rfl,m2,h1,h2,h3⟩
      try dsimp only
      obtain ⟨y,hy,BW,C0⟩:=aE (a:=b) h2;obtain ⟨x,hx,CF,Cw⟩:=aE (a:=a) (i:=BM) (by lia)
      refine D1 (aC hy (D1 (aC hx (D1 (iR c (sm.kind.trans hk) (Ck _ C0) (Cj _ Cw) ?_)))))
      try dsimp only
      refine af (fun hl => ?_) (fun hl => ?_)
      ·skip
       refine D1 (aC hy ?_)
       try dsimp only
       have m3:=m2.pushB c CF BW (c.asym _ _ hl);refine af (fun h => ?_) (fun h => ?_)
       ·skip
        have h:BQ+1=b.size:=by simpa using h
        exact ad ⟨rfl, .inr ⟨_,_,rfl,by simpa only [DR,DX,E9,bF] using m3.fin (by simp;lia)⟩⟩
       ·skip
        have h:BQ+1≠b.size:=by simpa using h
        refine af (fun _ => ?_) (fun _ => ?_)
        ·exact ad ⟨rfl, .inl ⟨_,_,_,_,_,rfl,by simpa only [DR,DX] using m3,h1,by lia,by simp;lia⟩⟩
        ·exact ad ⟨rfl,_,_,_,_,_,rfl,by simpa only [DR,DX] using m3,h1,by lia,by simp;lia⟩
      ·skip
       refine D1 (aC hx ?_)
       try dsimp only
       have m3:=m2.pushA c CF BW (by simpa using hl)
       refine af (fun h => ?_) (fun h => ?_)
       ·skip
        have h:BM+1+1=a.size:=by simpa using h
        exact ad ⟨rfl, .inr ⟨_,_,rfl,by simpa only [DR,DX,E9,bF] using m3.finA (C1 · · _ h)⟩⟩
       ·skip
        have h:BM+1+1≠a.size:=by simpa using h
        refine af (fun _ => ?_) (fun _ => ?_)
        ·exact ad ⟨rfl, .inl ⟨_,_,_,_,_,rfl,by simpa only [DR,DX] using m3,by lia,h2,by simp;lia⟩⟩
        ·exact ad ⟨rfl,_,_,_,_,_,rfl,by simpa only [DR,DX] using m3,by lia,h2,by simp;lia⟩
     ·rintro r BB ⟨rfl,B,BM,BQ,ac,bc,rfl,m2,h1,h2,h3⟩;exact ⟨rfl, .inl ⟨_,_,_,_,_,rfl,m2,h1,h2,by lia⟩⟩
     ·rintro r BB ⟨rfl,⟨B,BM,BQ,ac,bc,rfl,m2,h1,h2,h3⟩ | ⟨res,t,rfl,J⟩⟩
      ·dsimp -zeta -zetaHave -zetaUnused only;refine D1 (cy ?_);refine D1 (aF (Q:=fun r st'=>Same st st'/\((∃ F BD Bz BN ac bc,r=(none,F,BD,Bz,BN,ac,bc)/\ML lt a.toList b.toList F.toList BD Bz/\BD+1 < a.size/\Bz < b.size/\i+2<=F.size) ∨ ∃ res t,r=(some res,t)/\Res lt a.toList b.toList res.toList))
        (EC (fun j r st'=>Same st st' /\ ∃ F BD Bz BN ac bc,r=(none,F,BD,Bz,BN,ac,bc)/\ML lt a.toList b.toList F.toList BD Bz/\BD+1 < a.size/\Bz < b.size/\i+2<=F.size) ?_ ?_ ⟨sm,_,_,_,_,_,_,rfl,m2,h1,h2,h3⟩) ?_)
       ·rintro j r By _ hj ⟨BO,F,BD,Bz,BN,CG,CH,rfl,m3,h1,h2,h5⟩;obtain ⟨y,hy,BW,C0⟩:=aE (a:=b) h2;refine w5 fun QQ hQ => ?_;have G:∀ (st':EB) (res:Array D2) t,Same st st'->Res lt a.toList b.toList res.toList->QQ (.done (some res,t)) st':=fun st' res t hs hr=>hQ _ _ ⟨hs, .inr ⟨_,_,rfl,hr⟩⟩;have Db:∀ (st':EB) (out:Array D2) ia ib mg ac bc,Same st st'->ML lt a.toList b.toList out.toList ia ib->ia+1 < a.size->ib < b.size->i+2<=out.size->QQ (.done (none,out,ia,ib,mg,ac,bc)) st'/\QQ (.yield (none,out,ia,ib,mg,ac,bc)) st':=fun st' out ia ib mg ac bc hs p1 p2 p3 p4=>⟨hQ _ _ ⟨hs, .inl ⟨_,_,_,_,_,_,rfl,p1,p2,p3,p4⟩⟩,hQ _ _ ⟨hs,_,_,_,_,_,_,rfl,p1,p2,p3,p4⟩⟩;clear hQ hj
        extract_lets -underBinder s0 vout s1 via s2 vib s3 vmg s4 vac vbc jp vmx
        have CI:∀ mg,wpS (DW prog w) A E s (jp () mg) QQ By:=by
         intro mg;dsimp -zeta -zetaHave -zetaUnused only [jp,s0,vout,s1,via,s2,vib,s3,vmg,s4,vac,vbc];clear vmx jp vbc vac s4 vmg s3 vib s2 via s1 vout s0;refine D1 (Gy ?_);refine rP (P:=Same st) (BO.trans ⟨rfl,rfl,rfl,rfl⟩) fun Cn BE => ?_;have CJ:=BE.kind.trans hk;refine D1 (aC hy ?_);refine D1 (hg false y a (a.toList.take BD) (a.toList.drop BD) [] _ _ _ _ _ CJ (Ck _ C0) (by simp) (fe (by lia)) (by simp) (fun x hx=>Cj x (HJ hx)) (by lia) ((z4.mp m3.pa).2.1) fun X Y e hX hY => ?_)
         dsimp -zeta -zetaHave -zetaUnused only;have m4:=m3.galA c e BW fun x hx=>w6 (hX x hx);have BG:∀ x4,a.toList[BD+X.length]? = some x4->lt x4 y=false:=fun x4 C2=>c.asym _ _ (rQ (hY x4 (mf e C2)));have Co:=mm e
         extract_lets -underBinder +onlyGivenNames vac C3
         clear_value vac
         have C9:∀ (O:Array D2) (BX:Nat),ML lt a.toList b.toList O.toList BX Bz->(∀ x4,a.toList[BX]? = some x4->lt x4 y=false)->BX+1 < a.size->i+2<=O.size->wpS (DW prog w) A E s (C3 () O BX) QQ Cn:=by
          intro O BX Dc C4 DG CK;dsimp -zeta -zetaHave -zetaUnused only [C3];clear C3 Co BG m4 hX hY;obtain ⟨x4,C2,BK,CL⟩:=aE (a:=a) (i:=BX) (by lia)
          refine D1 (aC hy ?_);have m5:=Dc.pushB c BK BW (C4 x4 BK);rw [<- DX] at m5;have BL:i+2<=(O.push y).size:=by rw [HU];lia
          try dsimp -zeta -zetaHave -zetaUnused only
          extract_lets -underBinder +onlyGivenNames vo5 vi5
          dsimp -zeta -zetaHave -zetaUnused only [vo5];clear vo5;have e5:vi5=Bz+1:=rfl
          clear_value vi5
          subst e5
          revert m5 BL
          generalize O.push y=out5;intro m5 BL;refine af (fun h => ?_) (fun h => ?_)
          ·exact ad (G _ _ _ BE (m5.finR (by have h:=GB h;lia)))
          ·have h:Bz+1≠b.size:=by simpa using h
           refine D1 (aC C2 ?_);refine D1 (hg true x4 b (b.toList.take (Bz+1)) (b.toList.drop (Bz+1)) [] _ _ _ _ _ CJ (Cj _ CL) (by simp) (fe (by lia)) (by simp) (fun x hx=>Ck x (HJ hx)) (by lia) ((z4.mp m5.pb).2.1) fun X2 Y2 e2 Ce Cf => ?_)
           dsimp -zeta -zetaHave -zetaUnused only;have m6:=m5.galB c e2 BK fun x hx=>c.asym _ _ (w8 (Ce x hx));have BH:∀ y6,b.toList[Bz+1+X2.length]? = some y6->lt y6 x4=false:=fun y6 CM=>rR (Cf y6 (mf e2 CM));have Cp:=mm e2
           extract_lets -underBinder +onlyGivenNames vbc C5
           clear_value vbc
           have Ca:∀ (BA:Array D2) (Cq:Nat),ML lt a.toList b.toList BA.toList BX Cq->(∀ y6,b.toList[Cq]? = some y6->lt y6 x4=false)->Cq < b.size->i+2<=BA.size->wpS (DW prog w) A E s (C5 () BA Cq) QQ Cn:=by
            intro BA Cq Dd C6 D4 Dp;dsimp -zeta -zetaHave -zetaUnused only [C5];clear C5 Cp BH m6 Ce Cf m5 BL CK h5 h1 h2 hsz Da D9 h3;obtain ⟨y6,CM,Cb,Dq⟩:=aE (a:=b) (i:=Cq) D4;refine D1 (aC C2 ?_);have m7:=Dd.pushA c BK Cb (C6 y6 Cb);rw [<- DX] at m7;dsimp only;refine af (fun h => ?_) (fun h => ?_)
            ·exact ad (G _ _ _ BE (m7.finL (C1 · · (BX+1) (GB h))))
            ·have h:BX+1+1≠a.size:=by simpa using h
             have:=Db Cn (BA.push x4) (BX+1) Cq mg vac vbc BE m7 (by lia) D4 (by rw [HU];lia)
             exact af (fun _=>ad this.1) (fun _=>ad this.2)
           clear_value C5
           refine af (fun h0 => ?_) (fun h0 => ?_)
           ·dsimp only;have m6:=m6.cut (a:=b) e2;refine af (fun h => ?_) (fun h => ?_)
            ·exact ad (G _ _ _ BE (m6.finR (by have h:=GB h;lia)))
            ·have h:Bz+1+X2.length≠b.size:=by simpa using h
             exact Ca _ _ m6 BH (by lia) (by rw [Gs];lia)
           ·have C7:X2=[]:=Et.mp (by lia)
            subst C7;exact Ca _ _ m5 BH (by lia) BL
         clear_value C3
         refine af (fun h0 => ?_) (fun h0 => ?_)
         ·dsimp only;have m4:=m4.cut (a:=a) e;refine af (fun h => ?_) (fun h => ?_)
          ·exact ad (G _ _ _ BE (m4.finL (C1 · · _ (GB h))))
          ·have h:BD+X.length+1≠a.size:=by simpa using h
           refine af (fun h => ?_) (fun h9 => ?_)
           ·exact ad (G _ _ _ BE (m4.finS (by have h:=GB h;lia)))
           ·have h9:BD+X.length≠a.size:=by simpa using h9
            exact C9 _ _ m4 BG (by lia) (by rw [Gs];lia)
         ·have C7:X=[]:=Et.mp (by lia)
          subst C7;exact C9 _ _ m3 BG h1 h5
        clear_value jp
        exact af (fun _=>CI _) (fun _=>CI _)
       ·rintro r By ⟨BO,F,BD,Bz,BN,CG,CH,rfl,m3,h1,h2,h5⟩;exact ⟨BO, .inl ⟨_,_,_,_,_,_,rfl,m3,h1,h2,h5⟩⟩
       ·rintro r By ⟨BO,⟨F,BD,Bz,BN,CG,CH,rfl,m3,h1,h2,h5⟩ | ⟨res,t,rfl,J⟩⟩
        ·dsimp -zeta -zetaHave -zetaUnused only;refine D1 (Gy ?_);exact ad ⟨BO.trans ⟨rfl,rfl,rfl,rfl⟩,_,_,_,_,rfl,m3,h1,h2,by lia⟩
        ·exact ad ⟨BO,_,_,rfl,J⟩
      ·exact ad ⟨sm,_,_,rfl,J⟩
    ·rintro r BV ⟨sm,out,ia,ib,mg,rfl,m,D9,Da,hsz⟩;have:=m.size (by simp;lia) (by simp;lia)
     simp at this;lia
    ·rintro r BV ⟨sm,res,t,rfl,J⟩;exact ad (q res BV J.1 J.2 sm)
 ·intro hg a b st Q hk Cj Ck CV CW sa sb CA CB q;refine D1 (cy ?_);obtain ⟨bL,D8,Ct,DH⟩:=aE (a:=b) (i:=b.size - 1) (by lia)
  obtain ⟨aL,CZ,CD,DI⟩:=aE (a:=a) (i:=a.size - 1) (by lia)
  refine D1 (aC CZ ?_);have m0:MH lt a.toList b.toList [] a.size b.size:=⟨by rw [dW];simpa using sa,by rw [dW];simpa using sb,by rw [dW,dW];simp⟩
  have m1:MH lt a.toList b.toList [aL] (a.size - 1) b.size:=m0.pushA c CV CW CD Ct (CB aL bL CZ D8);have BS:∀ x∈b.toList.take 1, ∀ y∈a.toList,lt y x=false:=by
   intro x hx y hy;obtain ⟨b0,CY,CC,_⟩:=aE CW;obtain ⟨a0,Cy,Cr,_⟩:=aE CV;have ex:x=b0:=by
    rw [cz (by lia) CC] at hx
    simpa using hx
   subst ex;have h:=CA a0 x Cy CY;obtain ⟨j,hj,e⟩:=Ft.mp hy;have Cl:a.toList[j]? = some y:=by rw [<- e];exact D0 hj
   by_cases hj0:j=0
   ·subst hj0;rw [Cr] at Cl;cases Cl;exact h
   ·exact c.le_trans h (eK sa (by lia) Cr Cl)
  try dsimp -zeta -zetaHave -zetaUnused only
  refine af (fun h => ?_) (fun h => ?_)
  ·skip
   have h:a.size - 1=0:=by simpa using h
   refine ad ?_;have r:=m1.fin (.inl h);exact q _ _ (by simpa only [DR,DX,Ek,E9,be] using r.1) (by simpa only [DR,DX,Ek,E9,be] using r.2) Same.refl
  ·skip
   refine af (fun h2 => ?_) (fun h2 => ?_)
   ·skip
    have h2:b.size=1:=by simpa using h2
    refine ad ?_;have r:=m1.finB (by rw [h2];exact BS)
    exact q _ _ (by simpa only [DR,DX,Ek,E9,be] using r.1) (by simpa only [DR,DX,Ek,E9,be] using r.2) Same.refl
   ·skip
    have h:a.size - 1≠0:=by simpa using h
    have h2:b.size≠1:=by simpa using h2
    refine D1 (HC ?_)
    try dsimp -zeta -zetaHave -zetaUnused only
    refine D1 (aF (Q:=fun r st'=>Same st st' /\ ∃ res t,r=(some res,t)/\Res lt a.toList b.toList res.toList)
     (EC (fun i r st'=>Same st st' /\ ∃ na nb out mg,r=(none,na,nb,out,mg)/\MH lt a.toList b.toList out.toList na nb/\0 < na/\1 < nb/\na < a.size/\nb<=b.size/\i+1<=out.size) ?_ ?_ ⟨Same.refl,_,_,_,_,rfl,m1,by lia,by lia,by lia,by lia,by simp⟩) ?_)
    ·rintro i r BV _ hi ⟨sm,na,nb,out,mg,rfl,m,Cd,Cu,CN,CO,hsz⟩
     try dsimp -zeta -zetaHave -zetaUnused only
     refine D1 (aF (Q:=fun r st'=>st'=BV/\((∃ BI BJ B ac bc,r=(none,BI,BJ,B,ac,bc)/\MH lt a.toList b.toList B.toList BI BJ/\0 < BI/\1 < BJ/\BI < a.size/\BJ<=b.size/\i+2<=B.size) ∨ ∃ res t,r=(some res,t)/\Res lt a.toList b.toList res.toList))
      (EC (fun j r st'=>st'=BV /\ ∃ BI BJ B ac bc,r=(none,BI,BJ,B,ac,bc)/\MH lt a.toList b.toList B.toList BI BJ/\0 < BI/\1 < BJ/\BI < a.size/\BJ<=b.size/\i+1+j<=B.size) ?_ ?_ ⟨rfl,_,_,_,_,_,rfl,m,Cd,Cu,CN,CO,by lia⟩) ?_)
     ·rintro j r BB _ hj ⟨rfl,BI,BJ,B,ac,bc,rfl,m2,h1,h2,BP,BR,h3⟩
      try dsimp only
      obtain ⟨y,hy,BW,C0⟩:=aE (a:=b) (i:=BJ - 1) (by lia)
      obtain ⟨x,hx,CF,Cw⟩:=aE (a:=a) (i:=BI - 1) (by lia)
      refine D1 (aC hy (D1 (aC hx (D1 (iR c (sm.kind.trans hk) (Ck _ C0) (Cj _ Cw) ?_)))))
      try dsimp only
      refine af (fun hl => ?_) (fun hl => ?_)
      ·skip
       refine D1 (aC hx ?_)
       try dsimp only
       have m3:=m2.pushA c h1 (by lia) CF BW (c.asym _ _ hl)
       refine af (fun h => ?_) (fun h => ?_)
       ·skip
        have h:BI - 1=0:=by simpa using h
        exact ad ⟨rfl, .inr ⟨_,_,rfl,by have r:=m3.fin (.inl h);simpa only [DR,DX,Ek,E9,be] using r⟩⟩
       ·skip
        have h:BI - 1≠0:=by simpa using h
        refine af (fun _ => ?_) (fun _ => ?_)
        ·exact ad ⟨rfl, .inl ⟨_,_,_,_,_,rfl,by simpa only [DR,DX,Ek,E9,be] using m3,by lia,h2,by lia,BR,by simp;lia⟩⟩
        ·exact ad ⟨rfl,_,_,_,_,_,rfl,by simpa only [DR,DX,Ek,E9,be] using m3,by lia,h2,by lia,BR,by simp;lia⟩
      ·skip
       refine D1 (aC hy ?_)
       try dsimp only
       have m3:=m2.pushB c h1 (by lia) CF BW (by simpa using hl)
       refine af (fun h => ?_) (fun h => ?_)
       ·skip
        have h:BJ - 1=1:=by simpa using h
        exact ad ⟨rfl, .inr ⟨_,_,rfl,by have r:=m3.finB (by rw [h];exact BS);simpa only [DR,DX,Ek,E9,be] using r⟩⟩
       ·skip
        have h:BJ - 1≠1:=by simpa using h
        refine af (fun _ => ?_) (fun _ => ?_)
        ·exact ad ⟨rfl, .inl ⟨_,_,_,_,_,rfl,by simpa only [DR,DX,Ek,E9,be] using m3,h1,by lia,BP,by lia,by simp;lia⟩⟩
        ·exact ad ⟨rfl,_,_,_,_,_,rfl,by simpa only [DR,DX,Ek,E9,be] using m3,h1,by lia,BP,by lia,by simp;lia⟩
     ·rintro r BB ⟨rfl,BI,BJ,B,ac,bc,rfl,m2,h1,h2,BP,BR,h3⟩;exact ⟨rfl, .inl ⟨_,_,_,_,_,rfl,m2,h1,h2,BP,BR,by lia⟩⟩
     ·rintro r BB ⟨rfl,⟨BI,BJ,B,ac,bc,rfl,m2,h1,h2,BP,BR,h3⟩ | ⟨res,t,rfl,J⟩⟩
      ·try dsimp -zeta -zetaHave -zetaUnused only
       refine D1 (cy ?_);refine D1 (aF (Q:=fun r st'=>Same st st'/\((∃ BC U F BN ac bc,r=(none,BC,U,F,BN,ac,bc)/\MH lt a.toList b.toList F.toList BC U/\0 < BC/\1 < U/\BC < a.size/\U<=b.size/\i+2<=F.size) ∨ ∃ res t,r=(some res,t)/\Res lt a.toList b.toList res.toList))
        (EC (fun j r st'=>Same st st' /\ ∃ BC U F BN ac bc,r=(none,BC,U,F,BN,ac,bc)/\MH lt a.toList b.toList F.toList BC U/\0 < BC/\1 < U/\BC < a.size/\U<=b.size/\i+2<=F.size) ?_ ?_ ⟨sm,_,_,_,_,_,_,rfl,m2,h1,h2,BP,BR,h3⟩) ?_)
       ·rintro j r By _ hj ⟨BO,BC,U,F,BN,CG,CH,rfl,m3,h1,h2,BP,BR,h5⟩;obtain ⟨y,hy,BW,C0⟩:=aE (a:=b) (i:=U - 1) (by lia)
        refine w5 fun QQ hQ => ?_;have G:∀ (st':EB) (res:Array D2) t,Same st st'->Res lt a.toList b.toList res.toList->QQ (.done (some res,t)) st':=fun st' res t hs hr=>hQ _ _ ⟨hs, .inr ⟨_,_,rfl,hr⟩⟩;have Db:∀ (st':EB) (out:Array D2) na nb mg ac bc,Same st st'->MH lt a.toList b.toList out.toList na nb->0 < na->1 < nb->na < a.size->nb<=b.size->i+2<=out.size->QQ (.done (none,na,nb,out,mg,ac,bc)) st'/\QQ (.yield (none,na,nb,out,mg,ac,bc)) st':=fun st' out ia ib mg ac bc hs p1 p2 p3 p4 p5 p6=>⟨hQ _ _ ⟨hs, .inl ⟨_,_,_,_,_,_,rfl,p1,p2,p3,p4,p5,p6⟩⟩,hQ _ _ ⟨hs,_,_,_,_,_,_,rfl,p1,p2,p3,p4,p5,p6⟩⟩;clear hQ hj
        extract_lets -underBinder s0 vna s1 vnb s2 vout s3 vmg s4 vac vbc jp vmx
        have CI:∀ mg,wpS (DW prog w) A E s (jp () mg) QQ By:=by
         intro mg;dsimp -zeta -zetaHave -zetaUnused only [jp,s0,vna,s1,vnb,s2,vout,s3,vmg,s4,vac,vbc];clear vmx jp vbc vac s4 vmg s3 vout s2 vnb s1 vna s0;refine D1 (Gy ?_);refine rP (P:=Same st) (BO.trans ⟨rfl,rfl,rfl,rfl⟩) fun Cn BE => ?_;have CJ:=BE.kind.trans hk;refine D1 (aC hy ?_);refine D1 (hg false y a [] (a.toList.take BC) (a.toList.drop BC) _ _ _ _ _ CJ (Ck _ C0) (by simp) rfl (fe (by lia)) (fun x hx=>Cj x (HK hx)) (by lia) ((z4.mp m3.pa).1) fun X Y e hX hY => ?_)
         dsimp -zeta -zetaHave -zetaUnused only;have m4:=m3.galA c e (by lia) BW fun x hx=>c.asym _ _ (rQ (hY x hx))
         have BG : 0 < X.length -> ∀ x4,a.toList[X.length - 1]? = some x4->lt y x4=false:=fun h0 x4 C2=>w6 (hX x4 (mj e h0 C2));have Co:=jU e (by lia)
         extract_lets -underBinder +onlyGivenNames vk vac C3
         clear_value vac
         have C9:∀ (BY:Nat) (O:Array D2),MH lt a.toList b.toList O.toList BY U->(∀ x4,a.toList[BY - 1]? = some x4->lt y x4=false)->0 < BY->BY < a.size->i+2<=O.size->wpS (DW prog w) A E s (C3 () BY O) QQ Cn:=by
          intro BY O Dc C4 CP DC CK;dsimp -zeta -zetaHave -zetaUnused only [C3];clear C3 vk Co BG m4 hX hY;obtain ⟨x4,C2,BK,CL⟩:=aE (a:=a) (i:=BY - 1) (by lia)
          refine D1 (aC hy ?_);have m5:=Dc.pushB c CP (by lia) BK BW (C4 x4 BK)
          rw [<- DX] at m5;have BL:i+2<=(O.push y).size:=by rw [HU];lia
          try dsimp -zeta -zetaHave -zetaUnused only
          extract_lets -underBinder +onlyGivenNames vo5
          dsimp -zeta -zetaHave -zetaUnused only [vo5];clear vo5
          revert m5 BL
          generalize O.push y=out5;intro m5 BL;refine af (fun h => ?_) (fun h => ?_)
          ·exact ad (G _ _ _ BE (m5.finR (by rw [GB h];exact BS)))
          ·have h:U - 1≠1:=by simpa using h
           refine D1 (aC C2 ?_);refine D1 (hg true x4 b [] (b.toList.take (U - 1)) (b.toList.drop (U - 1)) _ _ _ _ _ CJ (Cj _ CL) (by simp) rfl (fe (by lia)) (fun x hx=>Ck x (HK hx)) (by lia) ((z4.mp m5.pb).1) fun X2 Y2 e2 Ce Cf => ?_)
           dsimp -zeta -zetaHave -zetaUnused only;have m6:=m5.galB c e2 CP BK fun x hx=>rR (Cf x hx);have BH : 0 < X2.length -> ∀ y6,b.toList[X2.length - 1]? = some y6->lt x4 y6=false:=fun h0 y6 CM=>c.asym _ _ (w8 (Ce y6 (mj e2 h0 CM)));have Cp:=jU e2 (by lia)
           extract_lets -underBinder +onlyGivenNames vk vbc C5
           clear_value vbc
           have Ca:∀ (Cc:Nat) (BA:Array D2),MH lt a.toList b.toList BA.toList BY Cc->(∀ y6,b.toList[Cc - 1]? = some y6->lt x4 y6=false)->1 < Cc->Cc<=b.size->i+2<=BA.size->wpS (DW prog w) A E s (C5 () Cc BA) QQ Cn:=by
            intro Cc BA Dd C6 Dr De Dp;dsimp -zeta -zetaHave -zetaUnused only [C5];clear C5 vk Cp BH m6 Ce Cf m5 BL CK h5 h1 h2 BP BR hsz Cd Cu CN CO h3;obtain ⟨y6,CM,Cb,Dq⟩:=aE (a:=b) (i:=Cc - 1) (by lia)
            refine D1 (aC C2 ?_);have m7:=Dd.pushA c CP (by lia) BK Cb (C6 y6 Cb)
            rw [<- DX] at m7;dsimp only;refine af (fun h => ?_) (fun h => ?_)
            ·exact ad (G _ _ _ BE (m7.finL (.inl (GB h))))
            ·have h:BY - 1≠0:=by simpa using h
             have:=fun mg ac bc=>Db Cn (BA.push x4) (BY - 1) Cc mg ac bc BE m7 (by lia) Dr (by lia) De (by rw [HU];lia)
             exact af (fun _=>ad (this _ _ _).1) (fun _=>ad (this _ _ _).2)
           clear_value C5
           refine af (fun h0 => ?_) (fun h0 => ?_)
           ·dsimp only;have m6:=m6.cut (a:=b) e2;refine af (fun h => ?_) (fun h => ?_)
            ·exact ad (G _ _ _ BE (m6.finR (by rw [GB h];exact BS)))
            ·have h:X2.length≠1:=by simpa using h
             refine af (fun h9 => ?_) (fun h9 => ?_)
             ·exact ad (G _ _ _ BE (m6.finL (.inr (GB h9))))
             ·have h9:X2.length≠0:=by simpa using h9
              exact Ca _ _ m6 (BH (by lia)) (by lia) (by lia) (by rw [Gs];lia)
           ·have h0 : ¬ (U - 1 - X2.length > 0):=h0;have hl:X2.length=U - 1:=by lia
            have Cz : 0 < X2.length:=by lia
            have hr:=BH Cz;rw [hl] at hr;exact Ca _ _ m5 hr (by lia) (by lia) BL
         clear_value C3
         refine af (fun h0 => ?_) (fun h0 => ?_)
         ·dsimp only;have m4:=m4.cut (a:=a) e;refine af (fun h => ?_) (fun h => ?_)
          ·exact ad (G _ _ _ BE (m4.finL (.inl (GB h))))
          ·have h:X.length≠0:=by simpa using h
           exact C9 _ _ m4 (BG (by lia)) (by lia) (by lia) (by rw [Gs];lia)
         ·have h0 : ¬ (BC - X.length > 0):=h0;have hl:X.length=BC:=by lia
          have hr:=BG (by lia)
          rw [hl] at hr;exact C9 _ _ m3 hr h1 BP h5
        clear_value jp
        exact af (fun _=>CI _) (fun _=>CI _)
       ·rintro r By ⟨BO,BC,U,F,BN,CG,CH,rfl,m3,h1,h2,BP,BR,h5⟩;exact ⟨BO, .inl ⟨_,_,_,_,_,_,rfl,m3,h1,h2,BP,BR,h5⟩⟩
       ·rintro r By ⟨BO,⟨BC,U,F,BN,CG,CH,rfl,m3,h1,h2,BP,BR,h5⟩ | ⟨res,t,rfl,J⟩⟩
        ·try dsimp -zeta -zetaHave -zetaUnused only
         refine D1 (Gy ?_);exact ad ⟨BO.trans ⟨rfl,rfl,rfl,rfl⟩,_,_,_,_,rfl,m3,h1,h2,BP,BR,by lia⟩
        ·exact ad ⟨BO,_,_,rfl,J⟩
      ·exact ad ⟨sm,_,_,rfl,J⟩
    ·rintro r BV ⟨sm,na,nb,out,mg,rfl,m,Cd,Cu,CN,CO,hsz⟩;have:=m.size (by simp;lia) (by simp;lia)
     simp at this;lia
    ·rintro r BV ⟨sm,res,t,rfl,J⟩;exact ad (q res BV J.1 J.2 sm)
end
end Srt
end L2
namespace L2
namespace Srt
open PySem PySem.Spec PyProof.Rows
section
variable {prog:E3} {w:Ep} {A:Ew} {E:gV->h7->Prop} {s:h7} {kd:GL} {P:D2->Prop} {lt:D2->D2->Bool}
structure Kp (st st':EB):Prop where
 kind:F8 st'=F8 st
 pend:ET st'=ET st
 fail:Fs st'=Fs st
theorem Kp.refl {st:EB}:Kp st st:=⟨rfl,rfl,rfl⟩
theorem Kp.trans {a b c:EB} (h:Kp a b) (g:Kp b c):Kp a c:=⟨g.kind.trans h.kind,g.pend.trans h.pend,g.fail.trans h.fail⟩
theorem nK {a:Array D2} {L B R:List D2} (e:a.toList=L++(B++R)) {i j:Nat} (hi:i=L.length) (q:j=L.length+B.length):(mirror a i j ((j - i) / 2)).toList=L++(B.reverse++R):=by
 have hs:a.size=L.length+(B.length+R.length):=by rw [<- Em,e];simp
 apply FW;intro k;rw [E7,getElem?_mirror_all (by lia)]
 have g:∀ n:Nat,a[n]? = (L++(B++R))[n]? := fun n=>by rw [<- E7,e]
 rw [g,g]
 by_cases h1:k < L.length
 ·rw [if_neg (by lia),DS h1,DS h1]
 ·by_cases h2:k < j
  ·rw [if_pos (by lia),r0 (by lia),DS (by lia),r0 (by lia),DS (by simp;lia),List.getElem?_reverse (by lia)]
   congr 1;lia
  ·rw [if_neg (by lia),r0 (by lia),r0 (by lia),r0 (by lia),r0 (by simp;lia)]
   simp
theorem nL {a:Array D2} {L j q R:List D2} {x:D2} (e:a.toList=L++((j++q)++x::R)) {src d:Nat} (hi:src=L.length+(j.length+q.length)) (hd:d=q.length):(bubble a src d).toList=L++((j++x::q)++R):=by
 have hs:a.size=L.length+(j.length+q.length+(R.length+1)):=by rw [<- Em,e];simp;lia
 apply FW;intro k;rw [E7,getElem?_bubble (by lia) d (by lia)]
 have g:∀ n:Nat,a[n]? = (L++((j++q)++x::R))[n]? := fun n=>by rw [<- E7,e]
 rw [g,g,g]
 by_cases h1:k < L.length
 ·rw [if_neg (by lia),if_neg (by lia),DS h1,DS h1]
 ·by_cases h2:k < L.length+j.length
  ·rw [if_neg (by lia),if_neg (by lia),r0 (by lia),DS (by simp;lia),DS (by lia),r0 (by lia),DS (by simp;lia),DS (by lia)]
  ·by_cases h3:k=L.length+j.length
   ·rw [if_pos (by lia),r0 (by lia),r0 (by simp;lia),r0 (by lia),DS (by simp;lia),r0 (by lia)]
    have B:src - L.length - (j++q).length=0:=by simp;lia
    have z:k - L.length - j.length=0:=by lia
    rw [B,z];rfl
   ·by_cases h4:k<=src
    ·rw [if_neg (by lia),if_pos (by lia),r0 (by lia),DS (by simp;lia),r0 (by lia),r0 (by lia),DS (by simp;lia),r0 (by lia)]
     have z:k - L.length - j.length=(k - 1 - L.length - j.length)+1:=by lia
     rw [z,G4]
    ·rw [if_neg (by lia),if_neg (by lia),r0 (by lia),r0 (by simp;lia),r0 (by lia),r0 (by simp;lia)]
     have z:k - L.length - (j++q).length=(k - L.length - (j++x::q).length)+1:=by simp;lia
     rw [z,G4]
theorem dl (c:Cm prog w A s kd P lt) {i j:Nat} {x y:D2} {st:EB} {Q:Option Bool->EB->Prop} (z:F8 st=kd) (hx:(Ea st)[i]? = some x) (B:(Ea st)[j]? = some y) (px:P x) (py:P y) (q:Q (some (lt x y)) st):wpS (DW prog w) A E s (ltAt' i j) Q st:=by
 rw [ltAt'_eq];exact D1 (HC (D1 (aC hx (D1 (aC B (iR c z px py q))))))
theorem iS {i j:Nat} {st:EB} {Q:Unit->EB->Prop} {L B R:List D2} (e:(Ea st).toList=L++(B++R)) (hi:i=L.length) (z:j=L.length+B.length) (q:∀ st',(Ea st').toList=L++(B.reverse++R)->Kp st st'->Q () st'):wpS (DW prog w) A E s (reverseSlice' i j) Q st:=by
 rw [reverseSlice'_eq];exact Gy (q _ (nK e hi z) ⟨rfl,rfl,rfl⟩)
theorem ca {st:EB} {L xs:List D2} (e:(Ea st).toList=L++xs) {i n:Nat} (hi:i=L.length+n):(Ea st)[i]? = xs[n]? := by
 rw [<- E7,e,hi,r0 (by lia)]
 congr 1;lia
theorem mn (c:Cm prog w A s kd P lt) {xs:List D2} {n:Nat} {x y:D2} (h:Ord lt (xs.take n)) (hn : 0 < n) (hx:xs[n]? = some x) (q:xs[n - 1]? = some y) (B:lt x y=false):Ord lt (xs.take (n+1)):=by
 rw [KG,hx];refine z4.mpr ⟨h,by simp,fun z F u j => ?_⟩
 simp at j;subst j;exact gk c h hn q B z F
noncomputable abbrev cL (lt:D2->D2->Bool) (l:List D2):Prop:=l.Pairwise fun x y=>lt x y=false
theorem gR (c:Cm prog w A s kd P lt) {D:List D2} {e x:D2} (h:cL lt (D++[e])) (hx:lt e x=false):cL lt (D++[e]++[x]):=by
 refine z4.mpr ⟨h,by simp,fun z B u j => ?_⟩
 simp at j;subst j;obtain ⟨_,_,F⟩:=z4.mp h
 rcases E5.mp B with g | g
 ·cases q:lt z u with
  | false=>rfl
  | true=>rcases c.neg z e u q with r | r
          ·rw [F z g e (by simp)] at r;cases r
          ·rw [hx] at r;cases r
 ·simp at g;subst g;exact hx
theorem on {q F:List D2} (h:cL lt (q++F)) (he:∀ x∈F, ∀ y∈F,lt x y=false):cL lt (q++F.reverse):=by
 obtain ⟨h1,h2,z⟩:=z4.mp h;refine z4.mpr ⟨h1, ?_,fun x hx y j=>z x hx y (GC.mp j)⟩;rw [Ju];exact h2.imp_of_mem fun hx j _=>he _ j _ hx
theorem perm_take {xs:List D2} {n:Nat}:(xs.take n++xs.drop n).Perm xs:=by rw [FP]
theorem nM (c:Cm prog w A s kd P lt) {L xs:List D2} {st:EB} {Q:Option Nat->EB->Prop} (hk:F8 st=kd) (O:(Ea st).toList=L++xs) (h0:xs≠[]) (hP:∀ x∈xs,P x)
 (q:∀ r R st',(Ea st').toList=L++(r++R)->(r++R).Perm xs->r≠[]->Ord lt r->Kp st st'->Q (some r.length) st'):wpS (DW prog w) A E s (countRun' L.length xs.length) Q st:=by
 have BX : 0 < xs.length:=G1.mpr h0;rw [countRun'_eq]
 try dsimp -zeta -zetaHave -zetaUnused only
 refine D1 (aF (Q:=fun r st'=>st'=st /\ ∃ n,r=(none,n)/\1<=n/\n<=xs.length/\Ord lt (xs.take n)/\(n=xs.length ∨ ∃ x y,xs[n]? = some x/\xs[n - 1]? = some y/\lt x y=true))
  (EC (fun i r st'=>st'=st/\r=(none,i)/\Ord lt (xs.take i)) ?_ ?_ ⟨rfl,rfl,by
    cases xs with
    | nil=>exact absurd rfl h0
    | cons x t=>simp⟩) ?_)
 ·rintro i r st' h1 hi ⟨rfl,rfl,ho⟩;dsimp only;obtain ⟨x,hx⟩:∃ x,xs[i]? = some x:=⟨_,D0 hi⟩;obtain ⟨y,hy⟩:∃ y,xs[i - 1]? = some y:=⟨_,D0 (by lia)⟩
  refine D1 (dl c hk ((ca O rfl).trans hx) ((ca O (by lia)).trans hy) (hP _ (Ef hx)) (hP _ (Ef hy)) ?_)
  dsimp only;refine af (fun h => ?_) (fun h => ?_)
  ·exact ad ⟨rfl,i,rfl,h1,by lia,ho, .inr ⟨x,y,hx,hy,h⟩⟩
  ·exact ad ⟨rfl,rfl,mn c ho (by lia) hx hy (by simpa using h)⟩
 ·rintro r st' ⟨rfl,rfl,ho⟩;exact ⟨rfl,_,rfl,by lia,by lia,ho, .inl (by lia)⟩
 ·rintro r st' ⟨rfl,n,rfl,Ck,BY,ho,hc⟩;dsimp -zeta -zetaHave -zetaUnused only;have BK:Q (some n) st':=by
   have:=q (xs.take n) (xs.drop n) st' (by rw [O,FP]) perm_take (fun z=>by
    have h3:=congrArg Gx z;rw [Er,FU] at h3;lia) ho Kp.refl
   rw [Er,GP BY] at this;exact this
  extract_lets -underBinder +onlyGivenNames vr vn
  dsimp -zeta -zetaHave -zetaUnused only [vr];clear vr;have en:n=vn:=rfl
  clear_value vn
  subst en;refine af (fun h=>ad BK) (fun h => ?_);have C9:n≠xs.length:=by simpa using h
  obtain ⟨x,y,hx,hy,Ca⟩:=hc.resolve_left C9;have Cl:n < xs.length:=by lia
  have exs:xs=xs.take n++x::xs.drop (n+1):=by
   have h1:=(FP n xs).symm;rw [dD hx] at h1;exact h1
  have BZ:y∈xs.take n:=by rw [cz (by lia) hy];simp
  extract_lets -underBinder +onlyGivenNames jp
  have C0:∀ (B:List D2) (Bz:EB),(Ea Bz).toList=L++(B++x::xs.drop (n+1))->B.Perm (xs.take n)->B.length=n->(∀ u∈B, ∀ v∈B,lt u v=false)->y∈B->Kp st' Bz->wpS (DW prog w) A E s (jp ()) Q Bz:=by
   intro B Bz e1 hB BA BB BC BD;dsimp -zeta -zetaHave -zetaUnused only [jp];clear jp;refine D1 (cy ?_)
   try dsimp -zeta -zetaHave -zetaUnused only
   extract_lets -underBinder +onlyGivenNames vn1 vq1
   have Cb:vn1=n+1:=rfl;have eq1:vq1=0:=rfl
   clear_value vn1 vq1
   subst Cb eq1;refine D1 (aF (Q:=fun r U => ∃ G F R neq,Kp st' U/\(Ea U).toList=L++((G++F)++R)/\((G++F)++R).Perm xs/\r=(none,(G++F).length,neq)/\F.length=neq+1/\cL lt (G++F)/\(∀ u∈F, ∀ v∈F,lt u v=false))
    (EC (fun i r U => ∃ G F R neq,Kp st' U/\(Ea U).toList=L++((G++F)++R)/\((G++F)++R).Perm xs/\r=(none,(G++F).length,neq)/\F.length=neq+1/\cL lt (G++F)/\(∀ u∈F, ∀ v∈F,lt u v=false)/\(G++F).length=i) ?_ ?_ ?_) ?_)
   ·rintro i r U Cn hi ⟨G,F,R,neq,kp,ea,hp,rfl,hF,hN,hE,C1⟩;subst C1;have hlen:=hp.length_eq;rw [DO] at hlen;obtain ⟨z,R',rfl⟩:∃ z R',R=z::R':=by
     cases R with
     | nil=>simp at hlen;simp at hi;lia
     | cons z R'=>exact ⟨z,R',rfl⟩
    have Cc:F≠[]:=fun z=>by rw [z] at hF;simp at hF
    obtain ⟨F0,e,rfl⟩:∃ F0 e,F=F0++[e]:=⟨F.dropLast,F.getLast Cc,(HS _).symm⟩;have hz:(Ea U)[L.length+(G++(F0++[e])).length]? = some z:=by
     rw [ca ea rfl,r0 (by lia),KI];rfl
    have he:(Ea U)[L.length+(G++(F0++[e])).length - 1]? = some e:=by
     rw [ca ea (n:=(G++F0).length) (by simp <;> lia),DS (by simp <;> lia), <- DZ,r0 (by lia),KI];rfl
    have C2:P z:=hP z (hp.mem_iff.mp (by simp))
    have C3:P e:=hP e (hp.mem_iff.mp (by simp))
    dsimp only;refine D1 (dl c (kp.kind.trans hk) hz he C2 C3 ?_);dsimp only;have BO:cL lt (G++F0++[e]):=by rw [DZ];exact hN
    refine af (fun BP => ?_) (fun BP => ?_)
    ·have BE:lt e z=false:=c.asym _ _ BP;refine af (fun BG => ?_) (fun BG => ?_)
     ·refine D1 (iS (L:=L++G) (B:=F0++[e]) (R:=z::R') (by rw [ea];simp) (by simp only [DO] at hF ⊢;simp only [Ht] at hF ⊢;lia) (by simp <;> lia) fun Z e3 Y => ?_)
      refine ad ⟨G++(F0++[e]).reverse,[z],R',0,kp.trans Y,by rw [e3];simp, ?_,by simp <;> lia,rfl, ?_, ?_,by simp <;> lia⟩
      ·refine H8.trans ?_ hp;rw [DZ,DZ,DZ];exact F5 _ (EL _ (Hl _))
      ·have h1:=on hN hE;refine z4.mpr ⟨h1,by simp,fun u j v J => ?_⟩
       simp at J;subst J;have hm:=gR c BO BE;refine (z4.mp hm).2.2 u ?_ v (by simp)
       rw [DZ]
       rcases E5.mp j with g | g
       ·exact Ff _ g
       ·exact E1 _ (GC.mp g)
      ·intro u j v J;simp at j J;subst j J;exact c.irr
     ·refine ad ⟨G++(F0++[e]),[z],R',0,kp,by rw [ea];simp,by simpa using hp,by simp <;> lia,rfl, ?_, ?_,by simp <;> lia⟩
      ·have hm:=gR c BO BE;simpa using hm
      ·intro u j v J;simp at j J;subst j J;exact c.irr
    ·have Cd:lt z e=false:=by simpa using BP
     refine D1 (dl c (kp.kind.trans hk) he hz C3 C2 ?_);dsimp only;refine af (fun C4 => ?_) (fun C4 => ?_)
     ·exact ad ⟨G,F0++[e],z::R',neq,kp,ea,hp,rfl,hF,hN,hE⟩
     ·have BE:lt e z=false:=by simpa using C4
      refine ad ⟨G,(F0++[e])++[z],R',neq+1,kp,by rw [ea];simp,by simpa using hp,by simp <;> lia,by simp at hF ⊢;lia, ?_, ?_,by simp <;> lia⟩
      ·have hm:=gR c BO BE;simpa using hm
      ·have Ce:∀ u∈F0++[e],lt u z=false:=fun u j=>by
        cases q1:lt u z with
        | false=>rfl
        | true=>rcases c.neg u e z q1 with r | r
                ·rw [hE u j e (by simp)] at r;cases r
                ·rw [BE] at r;cases r
       have Cf:∀ u∈F0++[e],lt z u=false:=fun u j=>by
        cases q1:lt z u with
        | false=>rfl
        | true=>rcases c.neg z e u q1 with r | r
                ·rw [Cd] at r;cases r
                ·rw [hE e (by simp) u j] at r;cases r
       intro u j v J
       rcases E5.mp j with g | g <;> rcases E5.mp J with g2 | g2
       ·exact hE u g v g2
       ·simp at g2;subst g2;exact Ce u g
       ·simp at g;subst g;exact Cf v g2
       ·simp at g g2;subst g g2;exact c.irr
   ·rintro r U ⟨G,F,R,neq,kp,ea,hp,hr,hF,hN,hE,C1⟩;exact ⟨G,F,R,neq,kp,ea,hp,hr,hF,hN,hE⟩
   ·refine ⟨B,[x],xs.drop (n+1),0,BD,by rw [e1];simp, ?_,by simp [BA],rfl, ?_, ?_,by simp [BA]⟩
    ·have h9:(B++x::xs.drop (n+1)).Perm xs:=by
      have h9:=EL (x::xs.drop (n+1)) hB;rw [<- exs] at h9;exact h9
     simpa using h9
    ·refine z4.mpr ⟨List.Pairwise.imp_of_mem (fun j J _=>BB _ j _ J) (List.pairwise_of_forall_mem_list (r:=fun _ _=>True) fun _ _ _ _=>trivial),by simp,fun u j v J => ?_⟩
     simp at J;subst J
     cases q1:lt u v with
     | false=>rfl
     | true=>rcases c.neg u y v q1 with r | r
             ·rw [BB u j y BC] at r;cases r
             ·rw [c.asym _ _ Ca] at r;cases r
    ·intro u j v J;simp at j J;subst j J;exact c.irr
   ·rintro r U ⟨G,F,R,neq,kp,ea,hp,rfl,hF,hN,hE⟩;dsimp -zeta -zetaHave -zetaUnused only
    extract_lets -underBinder +onlyGivenNames vr vs vn2 vq2
    dsimp -zeta -zetaHave -zetaUnused only [vr];have Cg:vn2=(G++F).length:=rfl;have eq2:neq=vq2:=rfl
    clear_value vn2 vq2
    clear vs vr;subst Cg eq2
    extract_lets -underBinder +onlyGivenNames BH
    have BL:∀ (D:List D2) (Z:EB),(Ea Z).toList=L++(D++R)->cL lt D->(D++R).Perm xs->D.length=(G++F).length->0 < D.length->Kp st' Z->wpS (DW prog w) A E s (BH ()) Q Z:=by
     intro D Z e3 BQ BR BI BM Y;dsimp -zeta -zetaHave -zetaUnused only [BH];clear BH;have Ch : 0 < D.length:=by lia
     refine D1 (iS (L:=L) (B:=D) (R:=R) e3 rfl (by rw [BI]) fun C5 e4 C6 => ?_)
     have o4:Ord lt D.reverse:=Ju.mpr BQ;have BJ:(D.reverse++R).Perm xs:=(EL _ (Hl D)).trans BR;have C7:(D.reverse++R).length=xs.length:=BJ.length_eq;have BS:Ord lt ((D.reverse++R).take D.length):=by
      rw [List.take_append_of_le_length (by simp),Hk (by simp)];exact o4
     have BU:∀ u∈D.reverse++R,P u:=fun u j=>hP u (BJ.mem_iff.mp j);have Ci:D.length<=xs.length:=by rw [<- C7];simp
     rw [<- BI];generalize D.length=N0 at BS Ch Ci;generalize D.reverse++R=ys at e4 BJ C7 BS BU;refine D1 (aF (Q:=fun r By=>By=C5 /\ ∃ n,r=(none,n)/\1<=n/\n<=xs.length/\Ord lt (ys.take n))
      (EC (fun i r By=>By=C5/\r=(none,i)/\Ord lt (ys.take i)) ?_ ?_ ⟨rfl,rfl,BS⟩) ?_)
     ·rintro i r By h1 hi ⟨rfl,rfl,ho⟩;dsimp only;obtain ⟨u,j⟩:∃ u,ys[i]? = some u:=⟨_,D0 (by lia)⟩
      obtain ⟨v,J⟩:∃ v,ys[i - 1]? = some v:=⟨_,D0 (by lia)⟩
      refine D1 (dl c ((Y.trans C6).kind.trans hk) ((ca e4 rfl).trans j) ((ca e4 (by lia)).trans J) (BU _ (Ef j)) (BU _ (Ef J)) ?_)
      dsimp only;refine af (fun h => ?_) (fun h => ?_)
      ·exact ad ⟨rfl,i,rfl,by lia,by lia,ho⟩
      ·exact ad ⟨rfl,rfl,mn c ho (by lia) j J (by simpa using h)⟩
     ·rintro r By ⟨rfl,rfl,ho⟩;exact ⟨rfl,_,rfl,by lia,by lia,ho⟩
     ·rintro r By ⟨rfl,m,rfl,Co,Cp,ho⟩;refine ad ?_;have:=q (ys.take m) (ys.drop m) By (by rw [e4,FP]) (perm_take.trans BJ) (fun z=>by
       have h3:=congrArg Gx z;rw [Er,FU] at h3;lia) ho (Y.trans C6)
      rw [Er,GP (by lia)] at this
      exact this
    clear_value BH
    refine af (fun BG => ?_) (fun BG => ?_)
    ·refine D1 (iS (L:=L++G) (B:=F) (R:=R) (by rw [ea];simp) (by simp <;> lia) (by simp <;> lia) fun Z e3 Y => ?_)
     have Y:=kp.trans Y;have e3:(Ea Z).toList=L++((G++F.reverse)++R):=by rw [e3];simp
     have BQ:=on hN hE;have BR:((G++F.reverse)++R).Perm xs:=(EL _ (F5 _ (Hl _))).trans hp;have BI:(G++F.reverse).length=(G++F).length:=by simp
     have BM : 0 < (G++F.reverse).length:=by simp <;> lia
     exact BL _ _ e3 BQ BR BI BM Y
    ·exact BL _ _ ea hN hp rfl (by simp <;> lia) kp
  clear_value jp
  refine af (fun h1 => ?_) (fun h1 => ?_)
  ·obtain ⟨x0,BV⟩:∃ x0,xs[0]? = some x0:=⟨_,D0 BX⟩;refine D1 (dl c hk ((ca O (n := 0) (by lia)).trans BV) ((ca O (by lia)).trans hy) (hP _ (Ef BV)) (hP _ (Ef hy)) ?_)
   dsimp only;refine af (fun hr=>ad BK) (fun hr => ?_);have hr:lt x0 y=false:=by simpa using hr
   have C8:∀ u∈xs.take n,lt u x0=false:=fun u j=>by
    obtain ⟨i,hi,eu⟩:=Ft.mp j;have BW:(xs.take n)[i]? = some u:=by rw [<- eu];exact D0 hi
    have BN:(xs.take n)[0]? = some x0:=by rw [GG (by lia)];exact BV
    by_cases hi0:i=0
    ·subst hi0;rw [BN] at BW;cases BW;exact c.irr
    ·exact eK ho (by lia) BN BW
   have Cj:∀ u∈xs.take n,lt y u=false:=gk c ho (by lia) hy c.irr
   have heq:∀ u∈xs.take n, ∀ v∈xs.take n,lt u v=false:=fun u j v J=>by
    exact c.le_trans (c.le_trans (Cj v J) hr) (C8 u j)
   refine D1 (iS (L:=L) (B:=xs.take n) (R:=x::xs.drop (n+1)) (by rw [O];exact congrArg (L ++ ·) exs) rfl (by rw [Er,GP BY]) fun Bz e1 BD => ?_)
   have hB:(xs.take n).reverse.Perm (xs.take n):=Hl _;have BA:(xs.take n).reverse.length=n:=by rw [JZ,Er];lia
   have BB:∀ u∈(xs.take n).reverse, ∀ v∈(xs.take n).reverse,lt u v=false:=fun u j v J=>heq u (GC.mp j) v (GC.mp J);have BC:y∈(xs.take n).reverse:=GC.mpr BZ;exact C0 _ _ e1 hB BA BB BC BD
  ·have Bz:=st';have hn:n=1:=by lia
   have BD:Kp st' st':=Kp.refl;have e1:(Ea st').toList=L++(xs.take n++x::xs.drop (n+1)):=by rw [O];exact congrArg (L ++ ·) exs
   have hB:(xs.take n).Perm (xs.take n):=JN _;have BA:(xs.take n).length=n:=by rw [Er];lia
   have BC:=BZ;have BB:∀ u∈xs.take n, ∀ v∈xs.take n,lt u v=false:=fun u j v J=>by
    have e0:xs.take n=[y]:=by
     subst hn;rw [cz (by lia) hy];rfl
    rw [e0] at j J;simp at j J;subst j J;exact c.irr
   exact C0 _ _ e1 hB BA BB BC BD
end
end Srt
end L2
namespace L2
namespace Srt
open PySem PySem.Spec PyProof.Rows
section
variable {prog:E3} {w:Ep} {A:Ew} {E:gV->h7->Prop} {s:h7} {kd:GL} {P:D2->Prop} {lt:D2->D2->Bool}
theorem rS (c:Cm prog w A s kd P lt) {L r R:List D2} {n:Nat} {st:EB} {Q:Bool->EB->Prop} (hk:F8 st=kd) (Z:(Ea st).toList=L++(r++R)) (h0:r≠[]) (ho:Ord lt r) (hn:r.length<=n) (By:n<=(r++R).length) (hP:∀ x∈r++R,P x)
 (q:∀ r' R' st',(Ea st').toList=L++(r'++R')->(r'++R').Perm (r++R)->r'.length=n->Ord lt r'->Kp st st'->Q true st'):wpS (DW prog w) A E s (binarySort' L.length n r.length) Q st:=by
 have BE : 0 < r.length:=G1.mpr h0;rw [binarySort'_eq];refine D1 (aF (Q:=fun x st'=>x=(none,()) /\ ∃ D T,Kp st st'/\(Ea st').toList=L++(D++T)/\(D++T).Perm (r++R)/\D.length=n/\Ord lt D)
  (EC (fun i x st'=>x=(none,()) /\ ∃ D T,Kp st st'/\(Ea st').toList=L++(D++T)/\(D++T).Perm (r++R)/\D.length=i/\Ord lt D) ?_ ?_ ⟨rfl,r,R,Kp.refl,Z,JN _,by lia,ho⟩) ?_)
 ·rintro k x B BG BH ⟨rfl,D,T,kp,ea,J,hD,O⟩;dsimp only;subst hD;have hlen:=J.length_eq;rw [DO] at hlen;obtain ⟨z,T',rfl⟩:∃ z T',T=z::T':=by
   cases T with
   | nil=>simp at hlen By;lia
   | cons z T'=>exact ⟨z,T',rfl⟩
  have Bz:∀ u∈D,P u:=fun u G=>hP u (J.mem_iff.mp (Ff _ G));have BA:P z:=hP z (J.mem_iff.mp (by simp))
  have hz:(Ea B)[L.length+D.length]? = some z:=by
   rw [ca ea rfl,r0 (by lia),KI];rfl
  refine D1 (aF (Q:=fun x st'=>st'=B /\ ∃ k,x=(none,k,k)/\Gal lt false z D k k)
   (EC (fun i x st'=>st'=B /\ ∃ lo hi,x=(none,lo,hi)/\Gal lt false z D lo hi/\hi - lo+i<=D.length) ?_ ?_ ⟨rfl,0,D.length,rfl,⟨by lia,by lia,fun _ _ h=>by lia,fun i x hi hx=>by
     have:=(DY.mp hx).1;lia⟩,by lia⟩) ?_)
  ·rintro i x U _ hi ⟨rfl,lo,j,rfl,F,hm⟩;dsimp only;have hl:=F.le;have BB:=F.len;refine af (fun BC => ?_) (fun BC => ?_)
   ·exact ad ⟨rfl,j,by rw [show lo=j by lia],by rw [show lo=j by lia] at F;exact F⟩
   ·obtain ⟨u,G⟩:∃ u,D[(lo+j) / 2]? = some u:=⟨_,D0 (by lia)⟩
    have BD:(Ea U)[L.length+(lo+j) / 2]? = some u:=by
     rw [ca ea rfl,DS (by lia)];exact G
    refine D1 (dl c (kp.kind.trans hk) hz BD BA (Bz _ (Ef G)) ?_);dsimp only;refine af (fun hf => ?_) (fun hf => ?_)
    ·exact ad ⟨rfl,_,_,rfl,⟨by lia,by lia,F.up,gj c O G (by simp [bey,hf])⟩,by lia⟩
    ·exact ad ⟨rfl,_,_,rfl,⟨by lia,BB,gi c O G (by simpa [bey] using hf),F.dn⟩,by lia⟩
  ·rintro x U ⟨rfl,lo,j,rfl,F,hm⟩;have hl:=F.le;exact ⟨rfl,j,by rw [show lo=j by lia],by rw [show lo=j by lia] at F;exact F⟩
  ·rintro x U ⟨rfl,l,rfl,F⟩;dsimp only;obtain ⟨X,Y,e,hl,hX,hY⟩:=F.out;subst hl e;rw [moveDown'_eq];refine D1 (Gy ?_);refine ad ⟨rfl,X++z::Y,T',kp.trans ⟨rfl,rfl,rfl⟩,nL ea (by simp) (by simp;lia), ?_,by simp;lia, ?_⟩
   ·refine H8.trans ?_ J;rw [DZ,DZ];refine F5 _ ?_;rw [La];exact List.perm_middle.symm
   ·obtain ⟨o1,o2,o3⟩:=z4.mp O;refine z4.mpr ⟨o1,Io.mpr ⟨fun u G=>c.asym _ _ (by have:=hY u G;simpa [bey] using this),o2⟩,fun u G v hv => ?_⟩
    rcases DT.mp hv with g | g
    ·subst g;have:=hX u G;simpa [bey] using this
    ·exact o3 u G v g
 ·rintro x B ⟨rfl,D,T,kp,ea,J,hD,O⟩;exact ⟨rfl,D,T,kp,ea,J,by lia,O⟩
 ·rintro x B ⟨rfl,D,T,kp,ea,J,hD,O⟩;exact ad (q D T B ea J hD O kp)
noncomputable def Pd:Nat->List (List D2)->List (Nat×Nat×Nat)->Prop
 | _,[],ps=>ps=[]
 | s,r::rs,ps => ∃ p t,ps=(s,r.length,p)::t/\Pd (s+r.length) rs t
theorem Pd.length:∀ {l:List (List D2)} {s:Nat} {ps:List (Nat×Nat×Nat)},Pd s l ps->ps.length=l.length
 | [],_,_,h=>by rw [show _=[] from h];rfl
 | r::l,s,ps,h=>by
   obtain ⟨p,q,e,h⟩:=h;rw [e];simp [h.length]
structure Rn (lt:D2->D2->Bool) (kd:GL) (a₀:List D2) (st:EB) (rs:List (List D2)) (R:List D2):Prop where
 arr:(Ea st).toList=rs.flatten++R
 perm:(rs.flatten++R).Perm a₀
 ord:∀ r∈rs,r≠[]/\Ord lt r
 pend:Pd 0 rs (ET st).toList
 kind:F8 st=kd
 fail:Fs st=none
theorem Rn.size {a₀:List D2} {st:EB} {rs:List (List D2)} {R:List D2} (h:Rn lt kd a₀ st rs R):rs.flatten.length+R.length=a₀.length:=by
 have:=h.perm.length_eq;rw [DO] at this;exact this
end
end Srt
end L2
namespace L2
namespace Srt
open PySem PySem.Spec PyProof.Rows
def gm (cap:Nat):Prop := ∀ (prog:E3) (w:Ep) (A:Ew) (E:gV->h7->Prop) (s:h7) (kd:GL) (P:D2->Prop) (lt:D2->D2->Bool),Cm prog w A s kd P lt -> ∀ (st:EB) (Q:Unit->EB->Prop),F8 st=kd->Fs st=none->ET st = #[]->(∀ x∈(Ea st).toList,P x)->2<=(Ea st).size->(Ea st).size<=cap ->
 (∀ st',(Ea st').toList.Perm (Ea st).toList->Ord lt (Ea st').toList->Fs st'=none->Q () st')->wpS (DW prog w) A E s sortRuns' Q st
theorem nN:gm 63:=by
 intro prog w A E s kd P lt c st Q hk hf Y Z h2 By q;rw [sortRuns'_eq];refine D1 (HC ?_);dsimp only;have J:minRun' (Ea st).size (Ea st).size 0=(Ea st).size:=by
  obtain ⟨f,hf⟩:∃ f,(Ea st).size=f+1:=⟨(Ea st).size - 1,by lia⟩
  have:minRun' (f+1) (Ea st).size 0=(Ea st).size:=by rw [minRun'_succ,if_pos (by lia)];rfl
  rwa [<- hf] at this
 rw [J];have hsz:(Ea st).size=(Ea st).toList.length:=by simp
 generalize hA:(Ea st).toList=a₀ at Z q hsz;generalize hS:(Ea st).size=size at hsz h2 By J;have h0:a₀ ≠ []:=fun z=>by rw [z] at hsz;simp at hsz;lia
 refine D1 (aF (Q:=fun r st'=>r=(none,size)/\(Ea st').toList.Perm a₀ /\ Ord lt (Ea st').toList/\Fs st'=none/\ET st' = #[(0,size,0)])
  (EC (fun i r st'=>(i=0/\r=(none,0)/\st'=st)∨(1<=i/\r=(none,size)/\(Ea st').toList.Perm a₀ /\ Ord lt (Ea st').toList/\Fs st'=none/\ET st' = #[(0,size,0)])) ?_ ?_ (.inl ⟨rfl,rfl,rfl⟩)) ?_)
 ·rintro i r B _ hi (⟨rfl,rfl,rfl⟩ | ⟨_,rfl,hD⟩)
  ·dsimp only;rw [if_neg (by lia)]
   rw [show size - 0=a₀.length by lia,show min a₀.length size=size by lia]
   refine D1 (nM (L := []) c hk hA h0 Z fun r R O ea F Bz ho kp => ?_);dsimp only;have hl:=F.length_eq;rw [DO] at hl;have fin:∀ (r':List D2) (j:EB),(Ea j).toList=r'->r'.Perm a₀ -> Ord lt r'->Kp B j->wpS (DW prog w) A E s (modify fun z=>setPending z ((ET z).push (0,size,0))) (fun _ st'=>(Ea st').toList.Perm a₀ /\ Ord lt (Ea st').toList/\Fs st'=none/\ET st' = #[(0,size,0)]) j:=fun r' j e3 p3 o3 k3=>by
    refine Gy ?_;exact ⟨by show (Ea j).toList.Perm a₀;rw [e3];exact p3,by show Ord lt (Ea j).toList;rw [e3];exact o3,k3.fail.trans hf,by show (ET j).push _=_;rw [k3.pend,Y];rfl⟩
   by_cases hlt:r.length < size
   ·rw [if_pos hlt];refine D1 (cy ?_);refine D1 (rS (L := []) c (kp.kind.trans hk) ea Bz ho (n:=size) (by lia) (by simp;lia) (fun x hx=>Z x (F.mem_iff.mp hx)) fun r2 R2 j BA G BG BB U => ?_)
    rw [if_neg (by simp)]
    refine D1 (HC ?_);have hb:(ET j).back? = none:=by rw [U.pend,kp.pend,Y];rfl
    rw [hb];dsimp only;have BC:=G.length_eq;rw [DO,DO] at BC;have:R2=[]:=Et.mp (by lia)
    subst this;rw [show 0+size=size by lia]
    refine D1 (aF (fin r2 j (by simpa using BA) (by simpa using G.trans F) BB (kp.trans U)) fun _ BD h4=>ad (.inr ⟨by lia,rfl,h4⟩))
   ·rw [if_neg hlt];refine D1 (HC ?_);have hb:(ET O).back? = none:=by rw [kp.pend,Y];rfl
    rw [hb];dsimp only;have:R=[]:=Et.mp (by lia)
    subst this;have BE:r.length=size:=by simp at hl;lia
    rw [BE,show 0+size=size by lia]
    refine D1 (aF (fin r O (by simpa using ea) (by simpa using F) ho kp) fun _ BD h4=>ad (.inr ⟨by lia,rfl,h4⟩))
  ·dsimp only;rw [if_pos (DP _)];exact ad ⟨rfl,hD⟩
 ·rintro r B (⟨h,_,_⟩ | ⟨_,rfl,hD⟩)
  ·lia
  ·exact ⟨rfl,hD⟩
 ·rintro r B ⟨rfl,p1,o1,f1,pd⟩;dsimp only;refine D1 (aF (EC (I:=fun _ c st''=>st''=B/\c=(none,())) (Q:=fun c st''=>st''=B/\c=(none,())) ?_ (fun _ _ hh=>hh) ⟨rfl,rfl⟩) ?_)
  ·rintro x c st'' _ _ ⟨rfl,rfl⟩;refine D1 (HC ?_);rw [if_pos (by rw [pd];exact DP 1)]
   exact ad ⟨rfl,rfl⟩
  ·rintro c st'' ⟨rfl,rfl⟩;exact ad (q _ p1 o1 f1)
end Srt
end L2
namespace L2
namespace Srt
open PySem PySem.Spec PyProof.Rows
inductive Ky where
 | int (i:Int)
 | tup (l:List Ky)
mutual
noncomputable def aA:Ky->Ky->Ordering
 | .int a, .int b=>if a < b then .lt else if a=b then .eq else .gt
 | .int _, .tup _ => .lt
 | .tup _, .int _ => .gt
 | .tup a, .tup b=>cmpKs a b
noncomputable def cmpKs:List Ky->List Ky->Ordering
 | [],[] => .eq
 | [],_::_ => .lt
 | _::_,[] => .gt
 | x::xs,y::ys=>(aA x y).then (cmpKs xs ys)
end
mutual
theorem cM:∀ a b,aA b a=(aA a b).swap
 | .int a, .int b=>by
  simp only [aA]
  by_cases h1:a < b
  ·rw [if_pos h1,if_neg (by lia),if_neg (by lia)];rfl
  ·by_cases h2:a=b
   ·rw [if_neg h1,if_pos h2,if_neg (by lia),if_pos h2.symm];rfl
   ·rw [if_neg h1,if_neg h2,if_pos (by lia)];rfl
 | .int _, .tup _=>by simp [aA]
 | .tup _, .int _=>by simp [aA]
 | .tup a, .tup b=>by simp only [aA];exact cmpKs_swap a b
theorem cmpKs_swap:∀ a b,cmpKs b a=(cmpKs a b).swap
 | [],[] => rfl
 | [],_::_=>rfl
 | _::_,[] => rfl
 | x::xs,y::ys=>by
   simp only [cmpKs];rw [cM x y,cmpKs_swap xs ys]
   cases aA x y <;> rfl
end
mutual
theorem gn:∀ a b,aA a b = .eq->a=b
 | .int a, .int b,h=>by
  simp only [aA] at h
  by_cases h1:a < b
  ·rw [if_pos h1] at h;cases h
  ·by_cases h2:a=b
   ·rw [h2]
   ·rw [if_neg h1,if_neg h2] at h;cases h
 | .int _, .tup _,h=>by simp [aA] at h
 | .tup _, .int _,h=>by simp [aA] at h
 | .tup a, .tup b,h=>by simp only [aA] at h;rw [cmpKs_eq a b h]
theorem cmpKs_eq:∀ a b,cmpKs a b = .eq->a=b
 | [],[],_=>rfl
 | [],_::_,h=>by simp [cmpKs] at h
 | _::_,[],h=>by simp [cmpKs] at h
 | x::xs,y::ys,h=>by
   simp only [cmpKs] at h
   cases e:aA x y with
   | lt=>rw [e] at h;cases h
   | gt=>rw [e] at h;cases h
   | eq=>rw [e] at h;rw [gn x y e,cmpKs_eq xs ys h]
end
mutual
theorem iT:∀ a b c,aA a b = .lt->aA b c = .lt->aA a c = .lt
 | .int a, .int b, .int c,h,g=>by
  simp only [aA] at h g ⊢;have h1:a < b:=by
   by_cases h1:a < b
   ·exact h1
   ·rw [if_neg h1] at h;split at h <;> cases h
  have h2:b < c:=by
   by_cases h1:b < c
   ·exact h1
   ·rw [if_neg h1] at g;split at g <;> cases g
  rw [if_pos (by lia)]
 | .int _, .tup _, .int _,_,g=>by simp [aA] at g
 | .int _, .int _, .tup _,_,_=>by simp [aA]
 | .int _, .tup _, .tup _,_,_=>by simp [aA]
 | .tup _, .int _,_,h,_=>by simp [aA] at h
 | .tup _, .tup _, .int _,_,g=>by simp [aA] at g
 | .tup a, .tup b, .tup c,h,g=>by simp only [aA] at h g ⊢;exact cmpKs_trans a b c h g
theorem cmpKs_trans:∀ a b c,cmpKs a b = .lt->cmpKs b c = .lt->cmpKs a c = .lt
 | [],[],_,h,_=>by simp [cmpKs] at h
 | [],_::_,[],_,g=>by simp [cmpKs] at g
 | [],_::_,_::_,_,_=>by simp [cmpKs]
 | _::_,[],_,h,_=>by simp [cmpKs] at h
 | _::_,_::_,[],_,g=>by simp [cmpKs] at g
 | x::xs,y::ys,z::zs,h,g=>by
   simp only [cmpKs] at h g ⊢
   cases e:aA x y with
   | gt=>rw [e] at h;cases h
   | eq =>
     have:=gn x y e;subst this;rw [e] at h
     cases e2:aA x z with
     | gt=>rw [e2] at g;cases g
     | lt=>rfl
     | eq=>rw [e2] at g;exact cmpKs_trans xs ys zs h g
   | lt =>
     cases e2:aA y z with
     | gt=>rw [e2] at g;cases g
     | lt=>rw [iT x y z e e2];rfl
     | eq =>
       have:=gn y z e2;subst this;rw [e];rfl
end
noncomputable def ltK (a b:Ky):Bool:=aA a b == .lt
noncomputable def mv (a b:List Ky):Bool:=cmpKs a b == .lt
theorem v6 (a b:Ky) (h:ltK a b=true):ltK b a=false:=by
 unfold ltK at h ⊢;rw [cM a b,(by simpa using h:aA a b = .lt)];rfl
theorem rT (a b:Ky) (h:ltK a b=false) (g:ltK b a=false):a=b:=by
 unfold ltK at h g;rw [cM a b] at g;apply gn
 cases e:aA a b with
 | eq=>rfl
 | lt=>rw [e] at h;cases h
 | gt=>rw [e] at g;cases g
theorem xO (a b c:Ky) (h:ltK a c=true):ltK a b=true∨ltK b c=true:=by
 cases e:ltK a b with
 | true=>exact .inl rfl
 | false =>
   right
   cases j:ltK b a with
   | false=>rw [rT a b e j] at h;exact h
   | true =>
     unfold ltK at h j ⊢;rw [iT b a c (by simpa using j) (by simpa using h)];rfl
theorem rV (x y:Ky) (xs ys:List Ky):mv (x::xs) (y::ys)=if (!ltK x y && !ltK y x)=true then mv xs ys else ltK x y:=by
 unfold mv ltK;rw [cM x y];simp only [cmpKs]
 cases aA x y <;> simp
mutual
noncomputable def toK:EH->Ky
 | .int i => .int i
 | .tuple xs => .tup (toKs xs)
 | _ => .int 0
noncomputable def toKs:List EH->List Ky
 | [] => []
 | x::xs=>toK x::toKs xs
end
inductive Cmpb:EH->EH->Prop where
 | int (a b:Int):Cmpb (.int a) (.int b)
 | nil (ys:List EH):Cmpb (.tuple []) (.tuple ys)
 | nil' (xs:List EH):Cmpb (.tuple xs) (.tuple [])
 | cons {x y:EH} {xs ys:List EH}:Cmpb x y->Cmpb (.tuple xs) (.tuple ys)->Cmpb (.tuple (x::xs)) (.tuple (y::ys))
theorem Cmpb.eqv {x y:EH} (h:Cmpb x y):Ej x y=(!ltK (toK x) (toK y) && !ltK (toK y) (toK x)):=by
 have g:∀ {x y:EH},Cmpb x y->Ej x y=(aA (toK x) (toK y) == .eq):=by
  intro x y h
  induction h with
  | int a b =>
    simp only [Ej,toK,aA]
    by_cases h1:a < b
    ·rw [if_pos h1];simp;lia
    ·by_cases h2:a=b
     ·rw [if_neg h1,if_pos h2];simp [h2]
     ·rw [if_neg h1,if_neg h2];simp;lia
  | nil ys=>cases ys <;> simp [Ej,GN,toK,toKs,aA,cmpKs]
  | nil' xs=>cases xs <;> simp [Ej,GN,toK,toKs,aA,cmpKs]
  | @cons x y xs ys h1 h2 ih1 j =>
   simp only [Ej] at j ⊢;simp only [GN,toK,toKs,aA,cmpKs] at j ⊢;rw [ih1,j]
   cases aA (toK x) (toK y) <;> simp
 rw [g h];unfold ltK;rw [cM (toK x) (toK y)]
 cases aA (toK x) (toK y) <;> rfl
section
variable {prog:E3} {w:Ep} {A:Ew} {E:gV->h7->Prop} {s:h7}
theorem trd {b:Bool} {Q:Bool->h7->Prop} (q:Q b s):DU (DW prog w) A (truthOfDropped (.bool b)) Q E s:=by
 unfold truthOfDropped
 wp_walk
 exact q
theorem gp (a b:Int):ltK (.int a) (.int b)=decide (a < b):=by
 simp only [ltK,aA]
 by_cases h:a < b
 ·simp [h]
 ·by_cases h2:a=b <;> simp [h,h2]
theorem rW {a b:Int} {t u:Tok} {Q:gV->h7->Prop} (q:Q (.bool (decide (a < b))) s):DU (DW prog w) A (Lo .Lt (.int a t) (.int b u)) Q E s :=
 wpAny_richCompare_same (T := "int") rfl rfl F.slot_int_lt (call_int_lt ⟨by simp,q⟩)
noncomputable def cb:List EH->List EH->Option Bool
 | x::xs,y::ys=>if Ej x y=true then cb xs ys else some (ltK (toK x) (toK y))
 | _,_=>none
theorem gS:∀ {xs ys:List EH},Cmpb (.tuple xs) (.tuple ys)->ltK (toK (.tuple xs)) (toK (.tuple ys))=match cb xs ys with | some b=>b | none=>decide (xs.length < ys.length)
 | [],[],_=>rfl
 | [],_::_,_=>by simp [cb,toK,toKs,ltK,aA,cmpKs]
 | _::_,[],_=>by simp [cb,toK,toKs,ltK,aA,cmpKs]
 | x::xs,y::ys,h=>by
   cases h with
   | cons h1 h2 =>
     have ih:=gS h2;have e:∀ a b:List Ky,ltK (.tup a) (.tup b)=mv a b:=fun a b=>by simp [ltK,mv,aA]
     simp only [toK,toKs,e] at ih ⊢;rw [rV, <- h1.eqv];simp only [cb]
     split
     ·rw [ih];simp
     ·rfl
noncomputable def ck {α β:Type} (M:Hs) (A:Ew) (E:gV->h7->Prop) (f : α -> β -> Sem (ForInStep β)) (Q : β -> h7->Prop):List α -> β -> h7->Prop
 | [],c,s=>Q c s
 | x::xs,c,s=>DU M A (f x c) (fun r s'=>match r with | .done c'=>Q c' s' | .yield c'=>ck M A E f Q xs c' s') E s
theorem ff {α β:Type} {M:Hs} {f : α -> β -> Sem (ForInStep β)} {Q : β -> h7->Prop}:∀ {l:List α} {c : β} {s:h7},ck M A E f Q l c s->DU M A (forIn l c f) Q E s
 | [],c,s,h=>by rw [JF];exact i4 h
 | x::xs,c,s,h=>by
   rw [Gh];refine g6 (Fj h (fun r s' j => ?_) fun _ _ z=>z)
   cases r with
   | done c'=>exact i4 j
   | yield c'=>exact ff j
theorem bQ {h:Heap}:∀ {vs:List gV} {xs:List EH} {as:List Addr},JL h vs xs as->vs.length=xs.length
 | _,_,_, .nil=>rfl
 | _,_,_, .cons _ r=>by simp [bQ r]
theorem gT {α β:Type} {M:Hs} {n:Nat} {f : α -> Option β × Unit->Sem (ForInStep (Option β × Unit))} {g:Bool -> β} {pr : α -> gV×gV} {Q:Option β × Unit->h7->Prop} :
 ∀ {l:List α} {vs us:List gV} {xs ys:List EH} {as bs:List Addr},l.map pr=vs.zip us->JL s.heap vs xs as->JL s.heap us ys bs->Cmpb (.tuple xs) (.tuple ys)->ER xs=true->ER ys=true->FA xs<=n ->
  (∀ (z : α) (x y:gV) (d e:EH) (as bs:List Addr) (R:ForInStep (Option β × Unit)->h7->Prop),z∈l->pr z=(x,y)->Hi s.heap x d as->Hi s.heap y e bs->Cmpb d e->d.canLay0=true->e.canLay0=true->d.depth<=n ->
   R (if Ej d e=true then .yield (none,()) else .done (some (g (ltK (toK d) (toK e))),())) s->DU M A (f z (none,())) R E s) ->
  Q ((cb xs ys).map g,()) s->ck M A E f Q l (none,()) s
 | [],vs,us,xs,ys,as,bs,e,j,B,F,_,_,_,_,q=>by
  have h1:=bQ j;have h2:=bQ B;have:vs=[]∨us=[]:=by
   cases vs with
   | nil=>exact .inl rfl
   | cons v vs=>cases us with
     | nil=>exact .inr rfl
     | cons u us=>simp at e
  have G:cb xs ys=none:=by
   rcases this with rfl | rfl
   ·cases xs with
    | nil=>simp [cb]
    | cons x xs=>simp at h1
   ·cases ys with
    | nil=>cases xs <;> simp [cb]
    | cons y ys=>simp at h2
  rw [G] at q;exact q
 | z::l,vs,us,xs,ys,as,bs,e,j,B,F,lx,ly,hd,hf,q=>by
   cases j with
   | nil=>simp at e
   | cons rx j =>
     cases B with
     | nil=>simp at e
     | cons ry B =>
       simp only [E6,List.zip_cons_cons,Lz] at e;simp only [ER,hH] at lx ly;simp only [FA] at hd
       cases F with
       | cons J L =>
         simp only [ck];refine hf z _ _ _ _ _ _ _ (by simp) e.1 rx ry J lx.1 ly.1 (by lia) ?_
         simp only [cb] at q
         split at q
         ·next h =>
          rw [if_pos h];exact gT e.2 j B L lx.2 ly.2 (by lia) (fun z x y d e as bs R O=>hf z x y d e as bs R (by simp [O])) q
         ·next h =>
          rw [if_neg h];exact q
def Bq (n:Nat):Prop := ∀ (prog:E3) (w:Ep) (A:Ew) (s:h7) (a b:gV) (d e:EH) (as bs:List Addr) (E:gV->h7->Prop) (Q:gV->h7->Prop),d.depth<=n->Cmpb d e->Hi s.heap a d as->Hi s.heap b e bs->d.canLay0=true->e.canLay0=true->A.units+n+1 < FQ ->
 Q (.bool (ltK (toK d) (toK e))) s->DU (DW prog w) A (Lo .Lt a b) Q E s
theorem AO:∀ n,Bq n:=by
 intro n
 induction n with
 | zero =>
   intro prog w A s a b d e as bs E Q hd z ra rb ld le Z q
   cases z with
   | int i j =>
     cases ra;cases rb
     exact rW (by rw [<- gp];exact q)
   | nil ys=>simp [Gd] at hd
   | nil' xs=>simp [Gd] at hd
   | cons _ _=>simp [Gd] at hd
 | succ n ih =>
   intro prog w A s a b d e as bs E Q hd z ra rb ld le Z q;have tup:∀ xs ys,d = .tuple xs->e = .tuple ys->DU (DW prog w) A (Lo .Lt a b) Q E s:=by
    rintro xs ys rfl rfl
    cases ra with
    | tuple h1 h2 h3 J =>
      cases rb with
      | tuple g1 g2 g3 L =>
        rename_i l ol vl nl p ob vb nb;have tl:s.TypeIs (.ref l) "tuple" := ⟨_,h1,h2⟩;have tb:s.TypeIs (.ref p) "tuple" := ⟨_,g1,g2⟩;refine Ic tl tb LA (EG LA tl F.entry_tuple_lt ?_ (F.args_tuple_lt_2 _ _)) (by lia)
        unfold G0.«tuple.__lt__»;refine g6 ?_;have O:isSubtype (.type "tuple") (.type "tuple")=pure true:=by rw [JO];kernel_rfl
        wp_walk
        rw [h3]
        wp_walk
        rw [g3];refine i4 ?_;refine i4 ?_;refine g6 (ff (gT (n:=n) (g:=fun b=>Fin.done (Flow.ret (J2 b))) (pr:=id) (List.map_id _) J L z ld le (by simp [Gd] at hd;lia) ?_ ?_))
        ·rintro ⟨x,y⟩ x' y' d e as bs R _ hz rx ry z ld le hd r
         cases hz
         dsimp only;refine g6 (Lb d e _ _ _ _ _ _ rx ry ld le ?_ prog w E _ ?_)
         ·show A.units+1+min d.depth e.depth < FQ;lia
         ·by_cases B:Ej d e=true
          ·rw [if_pos B] at r;rw [B];exact i4 r
          ·rw [if_neg B] at r;have B:Ej d e=false:=by simpa using B
           rw [B];refine g6 (Fz (g6 (ih prog w _ s x y d e as bs E _ hd z rx ry ld le ?_ ?_)))
           ·show A.units+1+n+1 < FQ;lia
           ·exact i4 r
        ·have G:=gS z
         cases e2:cb xs ys with
         | some b =>
           rw [e2] at G;dsimp only at G;rw [G] at q;exact i4 ⟨_,rfl,by simp,q⟩
         | none =>
           rw [e2] at G;dsimp only at G;rw [G] at q;have U:=bQ J;have Y:=bQ L;refine i4 ⟨_,rfl, ?_, ?_⟩
           ·simp [Hr]
           ·simp only [Em] at U Y;simp only [Hr];rw [U,Y];exact q
   cases z with
   | int i j =>
     cases ra;cases rb
     exact rW (by rw [<- gp];exact q)
   | nil ys=>exact tup _ _ rfl rfl
   | nil' xs=>exact tup _ _ rfl rfl
   | cons _ _=>exact tup _ _ rfl rfl
end
end Srt
end L2
namespace L2
namespace Srt
open PySem PySem.Spec PyProof.Rows
section
variable {prog:E3} {w:Ep} {A:Ew} {E:gV->h7->Prop} {s:h7}
theorem iU {α β:Type} {M:Hs} {f : α -> Sem β} {g : α -> β}:∀ {l:List α} {Q:List β -> h7->Prop},(∀ x∈l, ∀ R : β -> h7->Prop,R (g x) s->DU M A (f x) R E s)->Q (l.map g) s->DU M A (l.mapM f) Q E s
 | [],Q,_,q=>by rw [List.mapM_nil];exact i4 q
 | x::xs,Q,h,q=>by
   rw [List.mapM_cons];refine g6 (h x (by simp) _ (g6 (iU (fun y j=>h y (by simp [j])) (i4 q))))
theorem dX {α β:Type} {M:Hs} {f : α -> Sem β} {g : α -> β} {xs:Array α} {Q:Array β -> h7->Prop} (h:∀ x∈xs.toList, ∀ R : β -> h7->Prop,R (g x) s->DU M A (f x) R E s) (q:Q (xs.map g) s):DU M A (xs.mapM f) Q E s:=by
 rw [Array.mapM_eq_mapM_toList];rw [map_eq_pure_bind];refine g6 (iU h (i4 ?_));have:(xs.toList.map g).toArray=xs.map g:=by
  apply Hz.mp;simp
 rw [this];exact q
theorem jV {a:Addr} {v:gV} {vs:List gV} {o:Obj} {n:Nat} (h1:s.heap.get? a=some o) (h2:o.cls = .type "tuple") (j:o.data = .seq (v::vs).toArray n) {Q:Option gV->h7->Prop} (q:Q (some v) s):DU (DW prog w) A (firstOfTuple' (.ref a)) Q E s:=by
 unfold firstOfTuple';have ty:s.TypeIs (.ref a) "tuple" := ⟨_,h1,h2⟩
 wp_walk
 rw [j];refine i4 ?_;refine i4 ?_;exact i4 q
theorem xP {a:Addr} {o:Obj} {T:gV} (h1:s.heap.get? a=some o) (h2:o.cls=T) {Q:gV->h7->Prop} (q:Q T s):DU (DW prog w) A (typeOf (.ref a)) Q E s:=by
 wp_walk
 rw [h2];exact q
theorem rX {n:Nat} {x y:gV} {d e:EH} {as bs:List Addr} (j:Cmpb d e) (rx:Hi s.heap x d as) (ry:Hi s.heap y e bs) (ld:d.canLay0=true) (le:e.canLay0=true) (hd:d.depth<=n) (z:A.units+n+1 < FQ) {Q:Bool->h7->Prop} (q:Q (ltK (toK d) (toK e)) s):DU (DW prog w) A (oneLt' false x y) Q E s:=by
 rw [oneLt'_eq];exact g6 (AO n prog w A s x y d e as bs E _ hd j rx ry ld le z (trd q))
theorem jW {n:Nat} {b:Bool} {x y:gV} {xs ys:List EH} {as bs:List Addr} (hb:b=true -> ∀ d e,xs.head? = some d->ys.head? = some e->(∃ i,d = .int i) /\ ∃ i,e = .int i)
 (G:Cmpb (.tuple xs) (.tuple ys)) (rx:Hi s.heap x (.tuple xs) as) (ry:Hi s.heap y (.tuple ys) bs) (lx:ER xs=true) (ly:ER ys=true) (hd:FA xs<=n) (hu:A.units+n+1 < FQ) {Q:Bool->h7->Prop} (q:Q (ltK (toK (.tuple xs)) (toK (.tuple ys))) s) :
 DU (DW prog w) A (keyLt' (tuples' b) x y) Q E s:=by
 cases rx with
 | tuple h1 h2 h3 J =>
   cases ry with
   | tuple g1 g2 g3 L =>
     refine g6 (KJ h1 h3 ?_);refine g6 (KJ g1 g3 ?_);refine g6 (ff (gT (n:=n) (g:=id) (pr:=Prod.fst) (I0 _ _) J L G lx ly hd ?_ ?_))
     ·rintro ⟨⟨x,y⟩,i⟩ x' y' d e as bs R hz hp rx ry G ld le hd r
      cases hp
      dsimp only;refine g6 (Lb d e _ _ _ _ _ _ rx ry ld le (by lia) prog w E _ ?_)
      by_cases F:Ej d e=true
      ·rw [if_pos F] at r;rw [F];exact i4 r
      ·rw [if_neg F] at r;have F:Ej d e=false:=by simpa using F
       rw [F];refine g6 ?_
       by_cases z:(b&&i==0)=true
       ·rw [z];simp only [hH,beq_iff_eq] at z;obtain ⟨rfl,rfl⟩:=z;have j:=List.mem_zipIdx_iff_getElem?.mp hz;obtain ⟨U,Y,t1,Z,B,O⟩:∃ (U Y:Int) (t1 Z:Tok),x = .int U t1/\y = .int Y Z:=by
         generalize hV:J3 _=vl at J j;generalize hU:J3 _=ul at L j
         cases J with
         | nil=>simp at j
         | cons p1 p2 =>
           cases L with
           | nil=>simp at j
           | cons q1 q2 =>
             simp at j;obtain ⟨⟨U,ei⟩,⟨Y,ej⟩⟩:=hb rfl _ _ rfl rfl;subst ei ej
             cases p1;cases q1
             exact ⟨_,_,_,_,j.1.symm,j.2.symm⟩
        subst B O
        cases rx;cases ry
        refine oneLt_int ?_;rw [<- gp];exact i4 r
       ·have z:(b&&i==0)=false:=by simpa using z
        rw [z];exact rX G rx ry ld le hd hu (i4 r)
     ·have B:=gS G
      cases O:cb xs ys with
      | some b =>
        rw [O] at B;dsimp only at B;rw [B] at q;exact i4 q
      | none =>
        rw [O] at B;dsimp only at B;rw [B] at q;have n1:=bQ J;have n2:=bQ L;refine i4 ?_;simp only [Em] at n1 n2;rw [n1,n2];exact q
end
end Srt
end L2
namespace L2
namespace Srt
open PySem PySem.Spec PyProof.Rows
structure mw (n:Nat) (ds:List EH):Prop where
 cmp:∀ d∈ds, ∀ e∈ds,Cmpb d e
 lay:∀ d∈ds,d.canLay0=true/\d.depth<=n
 kind:(∀ d∈ds, ∃ i,d = .int i)∨(∀ d∈ds, ∃ i xs,d = .tuple (.int i::xs))∨(∀ d∈ds, ∃ ys xs,d = .tuple (.tuple ys::xs))
noncomputable def cu (h:Heap):gV->Option gV
 | .ref a=>(h.get? a).bind fun o=>match o.data with | .seq xs _=>xs[0]? | _=>none
 | _=>none
section
variable {prog:E3} {w:Ep} {A:Ew} {E:gV->h7->Prop} {s:h7}
noncomputable def de (h:Heap) (x:D2):Ky:=toK (Fg h x.1)
def RdL (h:Heap) (vs:List gV) (ds:List EH):Prop := ∀ v∈vs, ∃ d∈ds, ∃ as,Hi h v d as
theorem fO {arr:Array gV} {T:String} (h0 : 0 < arr.size) (h:∀ v∈arr.toList, ∀ R:gV->h7->Prop,R (.type T) s->DU (DW prog w) A (typeOf v) R E s) {Q:Option gV->h7->Prop} (q:Q (some (.type T)) s):DU (DW prog w) A (oneTypeOnly' arr) Q E s:=by
 rw [oneTypeOnly'_eq];refine g6 (dX (g:=fun _=>EN T) h ?_);have e:(HA (fun _=>EN T) arr)[0]? = some (EN T):=by
  rw [Array.getElem?_map,EJ h0];rfl
 rw [e];dsimp only;have j:((HA (fun _=>EN T) arr).all fun x=>x==EN T)=true:=by
  rw [KL];intro i hi;simp
 rw [j];exact i4 q
theorem pT {n:Nat} {kd:GL} {vs:List gV} {ds:List EH} (j:RdL s.heap vs ds) (hs:mw n ds)
 (h:∀ (x y:gV) (d e:EH) (as bs:List Addr) (E:gV->h7->Prop) (Q:Bool->h7->Prop),d∈ds->e∈ds->Hi s.heap x d as->Hi s.heap y e bs->Q (ltK (toK d) (toK e)) s->DU (DW prog w) A (keyLt' kd x y) Q E s) :
 Cm prog w A s kd (fun x=>x.1∈vs) (fun x y=>ltK (de s.heap x) (de s.heap y)) where
 asym:=fun x y=>v6 _ _
 neg:=fun x y z=>xO _ _ _
 run:=fun x y E Q hx B q=>by
  obtain ⟨d,hd,as,ra⟩:=j _ hx;obtain ⟨e,he,bs,rb⟩:=j _ B;have F:=FV (hs.lay d hd).1 ra;have G:=FV (hs.lay e he).1 rb;unfold de at q;rw [F,G] at q;exact h _ _ d e as bs E Q hd he ra rb q
theorem mz {h:Heap} {vs:List gV} (j:∀ v∈vs, ∃ u,cu h v=some u):((vs.toArray.map (cu h)).all fun x=>x.isSome)=true:=by
 rw [KL];intro i hi;simp at hi;obtain ⟨u,q⟩:=j vs[i] (L9 hi);simp [q]
theorem rY {h:Heap} {vs:List gV} {x:gV} (hx:x∈(LB id (vs.toArray.map (cu h))).toList):∃ v∈vs,cu h v=some x:=by
 simp at hx;exact hx
theorem rZ {h:Heap} {v:gV} {vs:List gV} {u:gV} (j:cu h v=some u) : 0 < (LB id ((v::vs).toArray.map (cu h))).size:=by
 rw [<- Em];simp [j]
theorem jX {h:Heap} {v:gV} {d:EH} {xs:List EH} {as:List Addr} (r:Hi h v (.tuple (d::xs)) as):∃ a o u us n bs,v = .ref a/\h.get? a=some o/\o.cls = .type "tuple" /\ o.data = .seq (u::us).toArray n/\Hi h u d bs:=by
 cases r with
 | @tuple a o vs n xs as h1 h2 j h4 =>
  generalize q:vs.toList=vl at h4
  cases h4 with
  | @cons u us _ _ bs _ z p2=>exact ⟨_,_,u,us,n,bs,rfl,h1,h2,by rw [j];congr 1;apply Hz.mp;simpa using q,z⟩
theorem AQ {n:Nat} {v:gV} {vs:List gV} {ds:List EH} (Y:RdL s.heap (v::vs) ds) (hs:mw n ds) (z:A.units+n+1 < FQ) :
 ∃ kd,(∀ (E:gV->h7->Prop) (Q:GL->h7->Prop),Q kd s->DU (DW prog w) A (keyKind' (v::vs).toArray) Q E s)/\Cm prog w A s kd (fun x=>x.1∈v::vs) (fun x y=>ltK (de s.heap x) (de s.heap y)):=by
 rcases hs.kind with J | J | J
 ·refine ⟨oneType',fun E Q q => ?_,pT Y hs fun x y d e as bs E Q hd he ra rb q => ?_⟩
  ·have aS:∀ u∈v::vs, ∃ i t,u = .int i t:=fun u z=>by
    obtain ⟨d,hd,as,ra⟩:=Y u z;obtain ⟨i,rfl⟩:=J d hd
    cases ra
    exact ⟨_,_,rfl⟩
   rw [Lp];refine g6 (dX (g:=fun _=>(none:Option gV)) (fun u z R r => ?_) ?_)
   ·obtain ⟨i,t,rfl⟩:=aS u (by simpa using z)
    rw [firstOfTuple'_int];exact i4 r
   ·have Z:((HA (fun _=>(none:Option gV)) (v::vs).toArray).all fun x=>x.isSome)=false:=by
     simp
    rw [Z];have B:((HA (fun _=>(none:Option gV)) (v::vs).toArray)[0]?.bind id).isSome=false:=by simp
    simp only [B,EK,if_false];refine g6 (fO (T := "int") (by simp) (fun u z R r => ?_) ?_)
    ·obtain ⟨i,t,rfl⟩:=aS u (by simpa using z)
     exact i4 r
    ·exact i4 q
  ·obtain ⟨i,rfl⟩:=J d hd;obtain ⟨j,rfl⟩:=J e he
   cases ra;cases rb
   rw [keyLt'_oneType];exact oneLt_int (by rw [<- gp];exact q)
 ·refine ⟨tuples' true,fun E Q q => ?_,pT Y hs fun x y d e as bs E Q hd he ra rb q => ?_⟩
  ·have hf:∀ u∈v::vs, ∃ a o i t us n,u = .ref a/\s.heap.get? a=some o/\o.cls = .type "tuple" /\ o.data = .seq (.int i t::us).toArray n:=fun u z=>by
    obtain ⟨d,hd,as,ra⟩:=Y u z;obtain ⟨i,xs,rfl⟩:=J d hd;obtain ⟨a,o,u1,us,n,bs,Z,B,L,G,O⟩:=jX ra
    cases O
    exact ⟨a,o,_,_,us,n,Z,B,L,G⟩
   have F:∀ u∈v::vs, ∃ i t,cu s.heap u=some (.int i t):=fun u z=>by
    obtain ⟨a,o,i,t,us,n,rfl,B,L,G⟩:=hf u z;exact ⟨i,t,by simp [cu,B,G]⟩
   rw [Lp];refine g6 (dX (g:=cu s.heap) (fun u z R r => ?_) ?_)
   ·obtain ⟨a,o,i,t,us,n,rfl,B,L,G⟩:=hf u (by simpa using z)
    refine jV B L G ?_;simpa [cu,B,G] using r
   ·rw [mz (fun u z=>let ⟨i,t,e⟩:=F u z; ⟨_,e⟩)];refine g6 (Fz ?_);obtain ⟨i0,t0,e0⟩:=F v (by simp)
    refine g6 (fO (T := "int") (rZ e0) (fun u z R r => ?_) ?_)
    ·obtain ⟨u',U,e⟩:=rY z;obtain ⟨i,t,e'⟩:=F u' U;rw [e'] at e;cases e;exact i4 r
    ·exact i4 q
  ·obtain ⟨i,xs,rfl⟩:=J d hd;obtain ⟨j,ys,rfl⟩:=J e he;have l1:=hs.lay _ hd;have l2:=hs.lay _ he;refine jW (n:=n) (fun _ d e hd he => ?_) (hs.cmp _ hd _ he) ra rb (by simpa [Hm] using l1.1) (by simpa [Hm] using l2.1) (by have:=l1.2;simp [Gd] at this;lia) z q
   simp at hd he;subst hd he;exact ⟨⟨_,rfl⟩,_,rfl⟩
 ·refine ⟨tuples' false,fun E Q q => ?_,pT Y hs fun x y d e as bs E Q hd he ra rb q => ?_⟩
  ·have hf:∀ u∈v::vs, ∃ a o b ob us n,u = .ref a/\s.heap.get? a=some o/\o.cls = .type "tuple" /\ o.data = .seq (.ref b::us).toArray n/\s.heap.get? b=some ob/\ob.cls = .type "tuple" := fun u z=>by
    obtain ⟨d,hd,as,ra⟩:=Y u z;obtain ⟨ys,xs,rfl⟩:=J d hd;obtain ⟨a,o,u1,us,n,bs,Z,B,L,G,O⟩:=jX ra
    cases O with
    | tuple h1 h2 h3 h4=>exact ⟨a,o,_,_,us,n,Z,B,L,G,h1,h2⟩
   have F:∀ u∈v::vs, ∃ b ob,cu s.heap u=some (.ref b)/\s.heap.get? b=some ob/\ob.cls = .type "tuple" := fun u z=>by
    obtain ⟨a,o,b,ob,us,n,rfl,B,L,G,O,e6⟩:=hf u z;exact ⟨b,ob,by simp [cu,B,G],O,e6⟩
   rw [Lp];refine g6 (dX (g:=cu s.heap) (fun u z R r => ?_) ?_)
   ·obtain ⟨a,o,b,ob,us,n,rfl,B,L,G,O,e6⟩:=hf u (by simpa using z)
    refine jV B L G ?_;simpa [cu,B,G] using r
   ·rw [mz (fun u z=>let ⟨i,t,e,_⟩:=F u z; ⟨_,e⟩)];refine g6 (Fz ?_);obtain ⟨i0,t0,e0,_⟩:=F v (by simp)
    refine g6 (fO (T := "tuple") (rZ e0) (fun u z R r => ?_) ?_)
    ·obtain ⟨u',U,e⟩:=rY z;obtain ⟨b,ob,e',O,e6⟩:=F u' U;rw [e'] at e;cases e;exact xP O e6 r
    ·exact i4 q
  ·obtain ⟨zs,xs,rfl⟩:=J d hd;obtain ⟨zs',ys,rfl⟩:=J e he;have l1:=hs.lay _ hd;have l2:=hs.lay _ he;exact jW (n:=n) (fun h=>by cases h) (hs.cmp _ hd _ he) ra rb (by simpa [Hm] using l1.1) (by simpa [Hm] using l2.1) (by have:=l1.2;simp [Gd] at this;lia) z q
end
end Srt
end L2
namespace L2
namespace Srt
open PySem PySem.Spec PyProof.Rows
inductive Pl:EH->Prop where
 | int (i:Int):Pl (.int i)
 | tup (xs:List EH):(∀ x∈xs,Pl x)->Pl (.tuple xs)
theorem bv {h h':Heap} (k:∀ b o,h.get? b=some o->o.cls = .type "tuple" -> h'.get? b=some o) {d:EH} (p:Pl d):∀ {v:gV} {as:List Addr},Hi h v d as->Hi h' v d as:=by
 induction p with
 | int i=>intro v as r;cases r;exact .int _ _
 | tup xs hx ih =>
   intro v as r
   cases r with
   | tuple h1 h2 q z =>
     refine .tuple (k _ _ h1 h2) h2 q ?_;have g:∀ (xs:List EH),(∀ x∈xs, ∀ {v:gV} {as:List Addr},Hi h v x as->Hi h' v x as) -> ∀ (vs:List gV) (as:List Addr),JL h vs xs as->JL h' vs xs as:=by
      intro xs
      induction xs with
      | nil=>intro _ vs as r;cases r;exact .nil
      | cons x xs ihx =>
        intro j vs as r
        cases r with
        | cons B p2=>exact .cons (j x (by simp) B) (ihx (fun y F=>j y (by simp [F])) _ _ p2)
     exact g xs ih _ _ z
section
variable {prog:E3} {w:Ep} {A:Ew} {E:gV->h7->Prop} {s:h7}
theorem xQ {cap:Nat} (S:gm cap) {m:Nat} {a:Addr} {vs:List gV} {n:Nat} {ds:List EH} (ha:s.heap.get? a=some (Lc "list" vs.toArray n)) (Z:RdL s.heap vs ds) (hs:mw m ds) (hp:∀ d∈ds,Pl d) (hl:vs.length<=DL) (BC:vs.length<=cap) (hu:A.units+m+1 < FQ) {Q:PySem.Fin->h7->Prop}
 (q:∀ (h':Heap) (out:List gV) (n':Nat),(∀ b o,b≠a->s.heap.get? b=some o->h'.get? b=some o)->h'.get? a=some (Lc "list" out.toArray n')->out.Perm vs->out.Pairwise (fun x y=>ltK (toK (Fg s.heap y)) (toK (Fg s.heap x))=false)->Q (.done (.ret .none)) { s with heap:=h' }) :
 DU (DW prog w) A (G0.«list.sort» ⟨[.ref a],[]⟩) Q E s:=by
 rw [list_sort_plain];refine g6 (KJ ha rfl ?_);refine g6 (HD ha rfl ?_ (by simpa using hl) (by simp))
 have g1:=GQ ha (fun _ => #[]);generalize BD:s.heap.update a (Gb fun _ => #[])=h1 at g1;generalize (if ((#[]:Array gV).size==vs.toArray.size)=true then n else n+1)=n1 at g1
 refine g6 (Lq g1 rfl ?_);refine g6 (JG ?_ (by simpa using hl))
 refine g6 (IG ?_ (by simp))
 refine FI ?_;dsimp only;generalize O:({ heap:=(h1.push { cls:=EN "tuple",data:=HG vs.toArray.toList.toArray }).push { cls:=EN "list",data:=HG [].toArray },gens:=s.gens,drawn:=s.drawn,toks:=s.toks,os:=s.os }:h7)=s3;have g3:s3.heap.get? a=some (Lc "list" #[] n1):=by
  rw [<- O];exact i3 _ (i3 _ g1)
 have keep:∀ b o,b≠a->s.heap.get? b=some o->s3.heap.get? b=some o:=fun b o G J=>by
  rw [<- O, <- BD];exact i3 _ (i3 _ (by rw [Fi _ _ _ _ G];exact J))
 have keepT:∀ b o,s.heap.get? b=some o->o.cls = .type "tuple" -> s3.heap.get? b=some o:=fun b o G hc=>keep b o (fun z=>by
  rw [z,ha] at G;cases G;simp at hc) G
 have BE:RdL s3.heap vs ds:=fun v hv=>by
  obtain ⟨d,hd,as,r⟩:=Z v hv;exact ⟨d,hd,as,bv keepT (hp d hd) r⟩
 have same:∀ v∈vs,Fg s3.heap v=Fg s.heap v:=fun v hv=>by
  obtain ⟨d,hd,as,r⟩:=Z v hv;rw [FV (hs.lay d hd).1 r,FV (hs.lay d hd).1 (bv keepT (hp d hd) r)]
 have q:∀ (h':Heap) (out:List gV) (n':Nat),(∀ b o,b≠a->s.heap.get? b=some o->h'.get? b=some o)->h'.get? a=some (Lc "list" out.toArray n')->out.Perm vs->out.Pairwise (fun x y=>ltK (toK (Fg s.heap y)) (toK (Fg s.heap x))=false)->Q (.done (.ret .none)) { s3 with heap:=h' }:=by
  rw [<- O];exact q
 have BG:∀ A':Ew,A'.units=A.units->True:=fun _ _=>trivial;clear O
 let Good:EB->Prop:=fun st'=>Fs st'=none/\(Ea st').toList.Perm (vs.zip vs)/\(Ea st').toList.Pairwise (fun x y=>ltK (de s3.heap y) (de s3.heap x)=false)
 by_cases F:vs.toArray.size < 2
 ·rw [if_pos F,if_pos F];refine g6 (i4 ?_);have B:vs.length < 2:=by simpa using F
  have run:DU (DW prog w) A ((pure ():StateT EB Sem Unit).run (Hy general' (vs.toArray.zip vs.toArray) #[] 7 none)) (fun r s'=>s'=s3/\Good r.2) E s3:=by
   refine i4 ⟨rfl,rfl, ?_, ?_⟩
   ·show (vs.toArray.zip vs.toArray).toList.Perm _;simp
   ·show List.Pairwise _ (vs.toArray.zip vs.toArray).toList
    match vs,B with
    | [],_=>simp
    | [x],_=>simp
  refine g6 (Fj (Q:=fun r s'=>s'=s3/\Good r.2) run (fun r s' Z => ?_) (fun _ _ z=>z));obtain ⟨rfl,L,j,U⟩:=Z;obtain ⟨u,st'⟩:=r;refine g6 (Lq g3 rfl ?_);refine g6 (HD g3 rfl ?_ (by simp) (by simp only [Array.size_map];have:=j.length_eq;simp at this;rw [this];lia))
  dsimp only at L;rw [L];simp only [bne_self_eq_false,EK,if_false];refine i4 ?_;have gq:=GQ g3 (fun _=>HA (fun x=>x.snd) (Ea st'));have eo:HA (fun x=>x.snd) (Ea st')=((Ea st').toList.map fun x=>x.snd).toArray:=by apply Hz.mp;simp
  refine q _ ((Ea st').toList.map fun x=>x.snd) _ (fun b o G J => ?_) (by rw [gq,eo]) ?_ ?_
  ·rw [Fi _ _ _ _ G];exact keep b o G J
  ·have h8:=j.map (fun x:D2=>x.snd);rw [Ld (by simp)] at h8
   exact h8
  ·rw [Hn];refine U.imp_of_mem fun {x y} hx hy hxy => ?_;have mx:=Ie (j.mem_iff.mp hx);have my:=Ie (j.mem_iff.mp hy);unfold de at hxy;rw [mx.1,my.1,same y.2 (by rw [<- my.1];exact my.2),same x.2 (by rw [<- mx.1];exact mx.2)] at hxy
   exact hxy
 ·rw [if_neg F,if_neg F];have B : 2<=vs.length:=by simpa using F
  obtain ⟨v0,Y,By⟩:∃ v0 Y,vs=v0::Y:=by
   match vs,B with
   | v::t,_=>exact ⟨v,t,rfl⟩
  obtain ⟨kd,Bz,BA⟩:=AQ (prog:=prog) (w:=w) (A:=A) (v:=v0) (vs:=Y) (by rw [<- By];exact BE) hs hu
  rw [<- By] at Bz BA;refine g6 (Bz E _ ?_);have run:DU (DW prog w) A (sortRuns'.run (Hy kd (vs.toArray.zip vs.toArray) #[] 7 none)) (fun r s'=>s'=s3/\Good r.2) E s3:=by
   have ez:(Ea (Hy kd (vs.toArray.zip vs.toArray) #[] 7 none)).toList=vs.zip vs:=by
    show (vs.toArray.zip vs.toArray).toList=_;simp
   have h9:wpS (DW prog w) A E s3 sortRuns' (fun _ st'=>Good st') (Hy kd (vs.toArray.zip vs.toArray) #[] 7 none):=by
    have BB:(Ea (Hy kd (vs.toArray.zip vs.toArray) #[] 7 none)).size=vs.length:=by rw [<- Em,ez];simp
    refine S _ _ _ _ _ _ _ _ BA (Hy kd (vs.toArray.zip vs.toArray) #[] 7 none) _ rfl rfl rfl (fun x hx => ?_) (by rw [BB];exact B) (by rw [BB];exact BC) fun st' p1 p2 p3=>⟨p3,by rw [ez] at p1;exact p1,p2⟩
    rw [ez] at hx;exact (Ie hx).2
   exact h9
  refine g6 (Fj (Q:=fun r s'=>s'=s3/\Good r.2) run (fun r s' Z => ?_) (fun _ _ z=>z));obtain ⟨rfl,L,j,U⟩:=Z;obtain ⟨u,st'⟩:=r;refine g6 (Lq g3 rfl ?_);refine g6 (HD g3 rfl ?_ (by simp) (by simp only [Array.size_map];have:=j.length_eq;simp at this;rw [this];lia))
  dsimp only at L;rw [L];simp only [bne_self_eq_false,EK,if_false];refine i4 ?_;have gq:=GQ g3 (fun _=>HA (fun x=>x.snd) (Ea st'));have eo:HA (fun x=>x.snd) (Ea st')=((Ea st').toList.map fun x=>x.snd).toArray:=by apply Hz.mp;simp
  refine q _ ((Ea st').toList.map fun x=>x.snd) _ (fun b o G J => ?_) (by rw [gq,eo]) ?_ ?_
  ·rw [Fi _ _ _ _ G];exact keep b o G J
  ·have h8:=j.map (fun x:D2=>x.snd);rw [Ld (by simp)] at h8
   exact h8
  ·rw [Hn];refine U.imp_of_mem fun {x y} hx hy hxy => ?_;have mx:=Ie (j.mem_iff.mp hx);have my:=Ie (j.mem_iff.mp hy);unfold de at hxy;rw [mx.1,my.1,same y.2 (by rw [<- my.1];exact my.2),same x.2 (by rw [<- mx.1];exact mx.2)] at hxy
   exact hxy
theorem pU (u:gV):checkBuiltinCall "sorted" ⟨[u],[]⟩=pure ():=by kernel_rfl
theorem s9 {cap:Nat} (S:gm cap) {m:Nat} {u:gV} {ds:List EH} {C:Heap->List gV->Prop} {Q:gV->h7->Prop} (hu:A.units+m+3 < FQ) (hs:mw m ds) (F:∀ d∈ds,Pl d)
 (G:∀ (E:gV->h7->Prop) (R:List gV->h7->Prop),(∀ (h':Heap) (vs':List gV) (t':Nat),C h' vs'->RdL h' vs' ds->vs'.length<=DL/\vs'.length<=cap->s.toks<=t'->R vs' { s with heap:=h',toks:=t' })->DU (DW prog w) A.in1 (collect u) R E s)
 (q:∀ (h1 h2:Heap) (vs out:List gV) (n' t':Nat),C h1 vs->(∀ b o,h1.get? b=some o->h2.get? b=some o)->h2.get? h1.objs.size=some (Lc "list" out.toArray n')->out.Perm vs->out.Pairwise (fun x y=>ltK (toK (Fg h2 y)) (toK (Fg h2 x))=false)->RdL h2 out ds->vs.length<=DL->s.toks<=t'->Q (.ref h1.objs.size) { s with heap:=h2,toks:=t' }) :
 DU (DW prog w) A (call (.builtin "sorted") [u]) Q E s:=by
 refine wpAny_call (codeAny_call_builtin plain_sorted entry_sorted (HH (pU u) ?_));unfold Builtin.sorted;refine g6 (HH (a:=()) (by kernel_rfl) ?_)
 refine g6 (G _ _ fun h1 vs t' hC L J ht => ?_);obtain ⟨J,O⟩:=J;refine g6 (IG ?_ J);refine g6 (FI ?_);have U:RdL (h1.push { cls:=EN "list",data:=HG vs.toArray }) vs ds:=fun v B=>by
  obtain ⟨d,hd,as,r⟩:=L v B;exact ⟨d,hd,as,bv (fun b o z _=>i3 _ z) (F d hd) r⟩
 have ha:(h1.push { cls:=EN "list",data:=HG vs.toArray }).get? h1.objs.size=some (Lc "list" vs.toArray 0):=DQ _ rfl;refine EG slot_list_sort (T := "list") ⟨_,ha,rfl⟩ entry_list_sort ?_ (args_list_sort _);refine xQ S (m:=m) ha U hs F J O (by show A.units+1+1+m+1 < FQ;lia) fun h2 out n' keep g2 j Y=>⟨_,rfl,i4 ?_⟩
 have old:∀ b o,h1.get? b=some o->h2.get? b=some o:=fun b o z=>keep b o (Ec (DM z)) (i3 _ z);have Z:RdL h2 vs ds:=fun v B=>by
  obtain ⟨d,hd,as,r⟩:=L v B;exact ⟨d,hd,as,bv (fun b o z _=>old b o z) (F d hd) r⟩
 refine q h1 h2 vs out n' t' hC old g2 j ?_ (fun v B=>Z v (j.mem_iff.mp B)) J ht;have same:∀ v∈vs,Fg (h1.push { cls:=EN "list",data:=HG vs.toArray }) v=Fg h2 v:=fun v B=>by
  obtain ⟨d,hd,as,r⟩:=L v B;rw [FV (hs.lay d hd).1 (bv (fun b o z _=>old b o z) (F d hd) r),FV (hs.lay d hd).1 (bv (fun b o z _=>i3 _ z) (F d hd) r)]
 refine Y.imp_of_mem fun {x y} hx hy hxy => ?_;rw [same y (j.mem_iff.mp hy),same x (j.mem_iff.mp hx)] at hxy;exact hxy
end
end Srt
end L2
namespace L2
namespace It
open PySem PySem.Spec PyProof.Rows
end It
end L2
namespace L2
namespace It
open PySem PySem.Spec PyProof.Rows
end It
end L2
namespace L2
namespace It
open PySem PySem.Spec PyProof.Rows
end It
end L2
namespace L2
open PySem PySem.Spec PyProof.Rows
section
section
variable {P:E3} {w:Ep} {H:Hp} {h:Heap} {a:Addr} {o:HO}
theorem ObjOk.there (x:ObjOk P w H h a o):∃ ob,h.get? a=some ob:=by
 cases o with
 | lst xs=>obtain ⟨_,_,_,_,e⟩:=x;exact ⟨_,e⟩
 | tup xs=>obtain ⟨_,_,_,_,e,_⟩:=x;exact ⟨_,e⟩
 | dK kvs=>obtain ⟨_,_,_,_,o,_,_,e,_⟩:=x;exact ⟨_,e⟩
 | dT kvs=>obtain ⟨_,_,_,_,o,_,_,e,_⟩:=x;exact ⟨_,e⟩
 | set S n=>obtain ⟨o,_,_,_,e,_⟩:=x;exact ⟨_,e⟩
 | ins C dx fs=>obtain ⟨_,_,_,e,_⟩:=x;exact ⟨_,e⟩
 | own y=>obtain ⟨_,e⟩:=x;exact ⟨_,e⟩
 | xd fs=>obtain ⟨_,⟨_,_,_,e,_⟩,_⟩:=x;exact ⟨_,e⟩
 | rng lo hi=>obtain ⟨_,_,_,e⟩:=x;exact ⟨_,e⟩
 | frz ob u=>obtain ⟨e,_⟩:=x;exact ⟨_,e⟩
 | tbl ps=>exact ⟨_,show h.get? a=some _ from x⟩
 | met f y=>exact ⟨_,show h.get? a=some _ from x⟩
 | ext φ => obtain ⟨_,⟨_,e⟩,_⟩:=x;exact ⟨_,e⟩
end
noncomputable def lay (H:Hp) (N:Addr->Option HO):Hp:=fun b=>match N b with | some o=>some o | none=>H b
section
variable {X:Cx} {pins:List (Addr×Obj)} {σ:List (Option V)} {H:Hp} {s:h7} {h':Heap} {N:Addr->Option HO}
theorem xR {b:Addr} {o:HO} (e:N b=some o):lay H N b=some o:=by unfold lay;rw [e]
theorem jq {b:Addr} (e:N b=none):lay H N b=H b:=by unfold lay;rw [e]
theorem Inv.fresh' (I:Inv X pins σ H s) {b:Addr} (e:s.heap.get? b=none):H b=none:=by
 cases q:H b with
 | none=>rfl
 | some o=>obtain ⟨ob,eo⟩:=(I.hok b o q).there;rw [e] at eo;cases eo
theorem Inv.laidN {t':Nat} (I:Inv X pins σ H s) (k:∀ b u,s.heap.get? b=some u->h'.get? b=some u) (j:∀ b o,N b=some o->s.heap.get? b=none) (new:∀ b o,N b=some o->ObjOk X.prog X.w (lay H N) h' b o):Inv X pins σ (lay H N) { s with heap:=h',toks:=t' }:=by
 have old:∀ b u,s.heap.get? b=some u->N b=none:=fun b u e=>by
  cases q:N b with
  | none=>rfl
  | some o=>rw [j b o q] at e;cases e
 have oldH:∀ b o,H b=some o->lay H N b=some o:=fun b o e=>by
  obtain ⟨ob,eo⟩:=(I.hok b o e).there;rw [jq (old b ob eo)];exact e
 refine I.un ⟨fun b u q _ _ _=>k b u q,fun b u q _ _ _=>⟨u.slots,k b u q⟩,fun b u q n _=>by rw [jq (old b u q)];exact n,fun b u q _=>⟨u,k b u q⟩,fun b xs q=>oldH b _ q,fun b u xs q=>oldH b _ q,fun b ps q=>⟨#[],by rw [oldH b _ q];simp⟩⟩ fun b o e => ?_
 cases q:N b with
 | some o'=>rw [xR q] at e;cases e;exact new b o q
 | none =>
   rw [jq q] at e;exact (I.hok b o e).stay (fun c v _ q=>k c v q) (fun c q=>oldH c _ q) fun c xs q=>oldH c _ q
end
namespace Mi
open L2.Srt
inductive Sh where
 | int
 | tup (l:List Sh)
mutual
noncomputable def hs:Sh->D->Bool
 | .int, .int _=>true
 | .tup l, .tup ds=>hss l ds
 | _,_=>false
noncomputable def hss:List Sh->List D->Bool
 | [],[] => true
 | s::l,d::ds=>hs s d&&hss l ds
 | _,_=>false
end
mutual
noncomputable def pd:D->EH
 | .int i => .int i
 | .tup ds => .tuple (pds ds)
 | _ => .none
noncomputable def pds:List D->List EH
 | [] => []
 | d::ds=>pd d::pds ds
end
mutual
noncomputable def dep:Sh->Nat
 | .int => 0
 | .tup l=>deps l+1
noncomputable def deps:List Sh->Nat
 | [] => 0
 | s::l=>max (dep s) (deps l)
end
noncomputable def jr:Sh->Bool
 | .int=>true
 | .tup (.int::l)=>decide (deps l<=6)
 | .tup (.tup a::l)=>decide (deps (.tup a::l)<=6)
 | .tup [] => false
noncomputable def kyD (d:D):Ky:=toK (pd d)
mutual
theorem se:∀ (s:Sh) (x y:D),hs s x=true->hs s y=true->Cmpb (pd x) (pd y)
 | .int, .int a, .int b,_,_=>by simp only [pd];exact .int a b
 | .tup l, .tup a, .tup b,h,g=>by simp only [hs] at h g;simp only [pd];exact hss_cmp l a b h g
 | .int, .int _, .non,_,g=>by simp [hs] at g
 | .int, .int _, .bl _,_,g=>by simp [hs] at g
 | .int, .int _, .str _,_,g=>by simp [hs] at g
 | .int, .int _, .tup _,_,g=>by simp [hs] at g
 | .int, .int _, .con _,_,g=>by simp [hs] at g
 | .int, .int _, .ref _,_,g=>by simp [hs] at g
 | .int, .non,_,h,_=>by simp [hs] at h
 | .int, .bl _,_,h,_=>by simp [hs] at h
 | .int, .str _,_,h,_=>by simp [hs] at h
 | .int, .tup _,_,h,_=>by simp [hs] at h
 | .int, .con _,_,h,_=>by simp [hs] at h
 | .int, .ref _,_,h,_=>by simp [hs] at h
 | .tup _, .non,_,h,_=>by simp [hs] at h
 | .tup _, .bl _,_,h,_=>by simp [hs] at h
 | .tup _, .int _,_,h,_=>by simp [hs] at h
 | .tup _, .str _,_,h,_=>by simp [hs] at h
 | .tup _, .con _,_,h,_=>by simp [hs] at h
 | .tup _, .ref _,_,h,_=>by simp [hs] at h
 | .tup _, .tup _, .non,_,g=>by simp [hs] at g
 | .tup _, .tup _, .bl _,_,g=>by simp [hs] at g
 | .tup _, .tup _, .int _,_,g=>by simp [hs] at g
 | .tup _, .tup _, .str _,_,g=>by simp [hs] at g
 | .tup _, .tup _, .con _,_,g=>by simp [hs] at g
 | .tup _, .tup _, .ref _,_,g=>by simp [hs] at g
theorem hss_cmp:∀ (l:List Sh) (a b:List D),hss l a=true->hss l b=true->Cmpb (.tuple (pds a)) (.tuple (pds b))
 | [],[],[],_,_=>by simp only [pds];exact .nil _
 | [],[],_::_,_,g=>by simp [hss] at g
 | [],_::_,_,h,_=>by simp [hss] at h
 | _::_,[],_,h,_=>by simp [hss] at h
 | _::_,_::_,[],_,g=>by simp [hss] at g
 | s::l,x::a,y::b,h,g=>by
   simp only [hss,hH] at h g;simp only [pds];exact .cons (se s x y h.1 g.1) (hss_cmp l a b h.2 g.2)
end
mutual
theorem pV:∀ (s:Sh) (x:D),hs s x=true->Pl (pd x)/\(pd x).canLay0=true/\(pd x).depth<=dep s
 | .int, .int a,_=>by simp only [pd];exact ⟨.int a,rfl,by simp [Gd]⟩
 | .tup l, .tup a,h=>by
  simp only [hs] at h;obtain ⟨h1,h2,j⟩:=hss_pl l a h;simp only [pd];exact ⟨.tup _ h1,by simpa [Hm] using h2,by simp [Gd,dep];lia⟩
 | .int, .non,h=>by simp [hs] at h
 | .int, .bl _,h=>by simp [hs] at h
 | .int, .str _,h=>by simp [hs] at h
 | .int, .tup _,h=>by simp [hs] at h
 | .int, .con _,h=>by simp [hs] at h
 | .int, .ref _,h=>by simp [hs] at h
 | .tup _, .non,h=>by simp [hs] at h
 | .tup _, .bl _,h=>by simp [hs] at h
 | .tup _, .int _,h=>by simp [hs] at h
 | .tup _, .str _,h=>by simp [hs] at h
 | .tup _, .con _,h=>by simp [hs] at h
 | .tup _, .ref _,h=>by simp [hs] at h
theorem hss_pl:∀ (l:List Sh) (a:List D),hss l a=true->(∀ x∈pds a,Pl x)/\ER (pds a)=true/\FA (pds a)<=deps l
 | [],[],_=>by simp [pds,ER,FA]
 | [],_::_,h=>by simp [hss] at h
 | _::_,[],h=>by simp [hss] at h
 | s::l,x::a,h=>by
   simp only [hss,hH] at h;obtain ⟨h1,h2,q⟩:=pV s x h.1;obtain ⟨g1,g2,g3⟩:=hss_pl l a h.2;simp only [pds];refine ⟨fun y j => ?_,by simp [ER,h2,g2],by simp [FA,deps];lia⟩
   rcases DT.mp j with z | z
   ·rw [z];exact h1
   ·exact g1 y z
end
mutual
theorem wa (M:Mem):∀ (s:Sh) (x:D) (n:Nat),hs s x=true->dep s<=n->rb n M x=some (pd x)
 | .int, .int a,n,_,_=>by cases n <;> simp [rb,pd]
 | .tup l, .tup a,n,h,hn=>by
  simp only [hs] at h;simp only [dep] at hn;obtain ⟨k,rfl⟩:∃ k,n=k+1:=⟨n - 1,by lia⟩
  simp only [rb,pd];rw [hss_rb M l a k h (by lia)];rfl
 | .int, .non,_,h,_=>by simp [hs] at h
 | .int, .bl _,_,h,_=>by simp [hs] at h
 | .int, .str _,_,h,_=>by simp [hs] at h
 | .int, .tup _,_,h,_=>by simp [hs] at h
 | .int, .con _,_,h,_=>by simp [hs] at h
 | .int, .ref _,_,h,_=>by simp [hs] at h
 | .tup _, .non,_,h,_=>by simp [hs] at h
 | .tup _, .bl _,_,h,_=>by simp [hs] at h
 | .tup _, .int _,_,h,_=>by simp [hs] at h
 | .tup _, .str _,_,h,_=>by simp [hs] at h
 | .tup _, .con _,_,h,_=>by simp [hs] at h
 | .tup _, .ref _,_,h,_=>by simp [hs] at h
theorem hss_rb (M:Mem):∀ (l:List Sh) (a:List D) (n:Nat),hss l a=true->deps l<=n->aw (rb n M) a=some (pds a)
 | [],[],_,_,_=>by simp [pds,aw]
 | [],_::_,_,h,_=>by simp [hss] at h
 | _::_,[],_,h,_=>by simp [hss] at h
 | s::l,x::a,n,h,hn=>by
   simp only [hss,hH] at h;simp only [deps] at hn;simp only [pds,aw];rw [wa M s x n h.1 (by lia),hss_rb M l a n h.2 (by lia)];rfl
end
theorem mC {s:Sh} (h:jr s=true):dep s<=7:=by
 match s,h with
 | .int,_=>simp [dep]
 | .tup (.int::l),h=>simp [jr] at h;simp [dep,deps];lia
 | .tup (.tup a::l),h=>simp only [jr,decide_eq_true_eq] at h;simp only [dep];lia
theorem xS {s:Sh} (h:jr s=true) {xs:List D} (hx:∀ x∈xs,hs s x=true):mw 7 (xs.map pd) /\ ∀ d∈xs.map pd,Pl d:=by
 refine ⟨⟨?_, ?_, ?_⟩, ?_⟩
 ·intro d hd e he;obtain ⟨x,h1,rfl⟩:=EO.mp hd;obtain ⟨y,h2,rfl⟩:=EO.mp he;exact se s x y (hx x h1) (hx y h2)
 ·intro d hd;obtain ⟨x,h1,rfl⟩:=EO.mp hd;obtain ⟨_,g2,g3⟩:=pV s x (hx x h1);exact ⟨g2,by have:=mC h;lia⟩
 ·match s,h with
  | .int,_ =>
   left
   intro d hd;obtain ⟨x,h1,rfl⟩:=EO.mp hd;have:=hx x h1
   cases x <;> simp [hs] at this
   exact ⟨_,rfl⟩
  | .tup (.int::l),_ =>
   right;left
   intro d hd;obtain ⟨x,h1,rfl⟩:=EO.mp hd;have:=hx x h1
   cases x <;> simp [hs] at this
   rename_i ds
   cases ds with
   | nil=>simp [hss] at this
   | cons y ys =>
     simp [hss] at this
     cases y <;> simp [hs] at this
     exact ⟨_,_,rfl⟩
  | .tup (.tup a::l),_ =>
   right;right
   intro d hd;obtain ⟨x,h1,rfl⟩:=EO.mp hd;have:=hx x h1
   cases x <;> simp [hs] at this
   rename_i ds
   cases ds with
   | nil=>simp [hss] at this
   | cons y ys =>
     simp [hss] at this
     cases y <;> simp [hs] at this
     exact ⟨_,_,rfl⟩
 ·intro d hd;obtain ⟨x,h1,rfl⟩:=EO.mp hd;exact (pV s x (hx x h1)).1
theorem sf {α β:Type} (f : α -> β):∀ {l m:List β},l.Perm m -> ∀ {t:List α},t.map f=m -> ∃ t':List α,t'.Perm t/\t'.map f=l:=by
 intro l m h
 induction h with
 | nil=>intro t e;exact ⟨[],by rw [List.map_eq_nil_iff.mp e],rfl⟩
 | cons x h ih =>
   intro t e
   cases t with
   | nil=>simp at e
   | cons a t =>
     simp at e;obtain ⟨t',h1,h2⟩:=ih e.2;exact ⟨a::t',h1.cons a,by simp [h2,e.1]⟩
 | swap x y l =>
   intro t e
   match t,e with
   | a::b::t,e =>
     simp at e;exact ⟨b::a::t, .swap _ _ _,by simp [e]⟩
 | trans h1 h2 j q =>
   intro t e;obtain ⟨G,p2,z⟩:=q e;obtain ⟨t1,B,F⟩:=j z;exact ⟨t1,B.trans p2,F⟩
def v7 (ys:List D):Prop:=ys.Pairwise fun a b=>ltK (kyD b) (kyD a)=false
theorem oo {K:Frag} {H:Hp}:∀ {ds:List D} {vs:List V} {us:List gV},RDs K H ds vs->Vals vs us -> ∃ t:List (D×V×gV),t.map (·.1)=ds/\t.map (·.2.1)=vs/\t.map (·.2.2)=us /\ ∀ p∈t,RD K H p.1 p.2.1/\RelV p.2.1 p.2.2
 | [],vs,us,h,g=>by
  cases RDs.nil_iff.mp h
  cases g
  exact ⟨[],rfl,rfl,rfl,fun _ h=>by simp at h⟩
 | d::ds,vs,us,h,g=>by
   obtain ⟨v,r,rfl,h1,h2⟩:=Mg.mp h
   cases g with
   | cons g1 g2 =>
     rename_i u us;obtain ⟨t,j,q,B,F⟩:=oo h2 g2;exact ⟨(d,v,u)::t,by simp [j],by simp [q],by simp [B],fun p G=>by
      rcases DT.mp G with z | z
      ·rw [z];exact ⟨h1,g1⟩
      ·exact F p z⟩
theorem ot {K:Frag} {H:Hp}:∀ {t:List (D×V×gV)},(∀ p∈t,RD K H p.1 p.2.1/\RelV p.2.1 p.2.2)->RDs K H (t.map (·.1)) (t.map (·.2.1))/\Vals (t.map (·.2.1)) (t.map (·.2.2))
 | [],_=>⟨RDs.nil, .nil⟩
 | p::t,h=>by
   obtain ⟨h1,h2⟩:=ot (t:=t) fun q j=>h q (by simp [j])
   exact ⟨RDs.cons (h p (by simp)).1 h1, .cons (h p (by simp)).2 h2⟩
section
variable {X:Cx}
theorem nO {cap:Nat} (S:gm cap) (L:X.A.units+16 < FQ) {pins:List (Addr×Obj)} {s:h7} {σ:St} {H:Hp} {Q:VK} (I:Inv X pins σ H s) {M:Mem} (rm:RM X.K M H) {es:List D} {sh:Sh} {vs:List V} {p:Addr} (rvs:RDs X.K H es vs) (hok:jr sh=true) (O:∀ d∈es,hs sh d=true)
 (q:∀ p ys,M p=none->ys.Perm es->v7 ys->KE' X.K M H Q (.ref p) (ah M p (.lst ys))) {its:List gV} (hv:Vals vs its) (hl:vs.length<=DL) (BA:vs.length<=cap)
 (U:∀ (E:gV->h7->Prop) (R:List gV->h7->Prop),(∀ (h':Heap) (tk:Nat),(∀ b o,s.heap.get? b=some o->h'.get? b=some o)->s.toks<=tk->R its { s with heap:=h',toks:=tk })->DU (DW X.prog X.w) X.A.in1 (collect (.ref p)) R E s) :
 DU (DW X.prog X.w) X.A (call (.builtin "sorted") [.ref p]) (EP X pins σ Q) X.xe s:=by
 obtain ⟨hS,J⟩:=xS hok O;have BD:=mC hok;obtain ⟨t,t1,t2,t3,t4⟩:=oo rvs hv;have Y:∀ pp∈t, ∃ as,Hi s.heap pp.2.2 (pd pp.1) as:=fun pp j=>by
  have hm:pp.1∈es:=by rw [<- t1];exact FC j
  exact bO I rm 16 pp.1 (pd pp.1) pp.2.1 pp.2.2 (wa M sh pp.1 16 (O _ hm) (by lia)) (t4 pp j).1 (t4 pp j).2
 have Z:RdL s.heap its (es.map pd):=fun u L=>by
  rw [<- t3] at L;obtain ⟨pp,j,rfl⟩:=EO.mp L;obtain ⟨as,ra⟩:=Y pp j;exact ⟨pd pp.1,FC (by rw [<- t1];exact FC j),as,ra⟩
 refine s9 S (m := 7) (ds:=es.map pd) (C:=fun h' vs'=>vs'=its /\ ∀ b o,s.heap.get? b=some o->h'.get? b=some o) (by lia) hS J (fun E R hR => ?_) fun h1 h2 vs' out n' tk hC old g2 F By BE BG ht => ?_
 ·refine U E R fun h' tk kp BB=>hR h' its tk ⟨rfl,kp⟩ (fun u L => ?_) ⟨by rw [<- hv.length];exact hl,by rw [<- hv.length];exact BA⟩ BB
  obtain ⟨d,hd,as,ra⟩:=Z u L;exact ⟨d,hd,as,bv (fun b o e _=>kp b o e) (J d hd) ra⟩
 ·obtain ⟨rfl,kp⟩:=hC;rw [<- t3] at F;obtain ⟨t',p1,p2⟩:=sf (fun pp:D×V×gV=>pp.2.2) F rfl;have hz:=ot (t:=t') fun pp j=>t4 pp (p1.mem_iff.mp j);have Bz:∀ b o,s.heap.get? b=some o->h2.get? b=some o:=fun b o e=>old b o (kp b o e);have z:s.heap.get? h1.objs.size=none:=by
   cases hq:s.heap.get? h1.objs.size with
   | none=>rfl
   | some o=>exact absurd (DM (kp _ _ hq)) (F6 _)
  have BC:=I.fresh' z;have hlen:(t'.map (·.2.1)).length<=DL:=by
   rw [i5,p1.length_eq, <- i5 (f:=fun pp:D×V×gV=>pp.2.1),t2];exact hl
  have I2:=I.laidN (t':=tk) (h':=h2) (N:=fun b=>if b=h1.objs.size then some (.lst (t'.map (·.2.1))) else none) Bz (fun b o e=>by
   by_cases B:b=h1.objs.size
   ·rw [B];exact z
   ·rw [if_neg B] at e;cases e) (fun b o e=>by
   by_cases B:b=h1.objs.size
   ·subst B;rw [if_pos rfl] at e;cases e;exact ⟨hlen,out,n',by rw [<- p2];exact hz.2,g2⟩
   ·rw [if_neg B] at e;cases e)
  have eH:lay H (fun b=>if b=h1.objs.size then some (.lst (t'.map (·.2.1))) else none)=upd H h1.objs.size (.lst (t'.map (·.2.1))):=by
   funext b
   unfold lay upd;dsimp only
   by_cases B:b=h1.objs.size
   ·rw [if_pos B,if_pos B]
   ·rw [if_neg B,if_neg B]
  rw [eH] at I2;refine ⟨.ref h1.objs.size,_,I2,rfl, ?_⟩;refine eF rm hz.1 (fun p' n=>q p' _ n ?_ ?_) BC
  ·have:=p1.map (fun pp:D×V×gV=>pp.1);rw [t1] at this;exact this
  ·unfold v7;rw [Hn];rw [<- p2,Hn] at By;refine By.imp_of_mem fun {a b} ha B hab => ?_;have rd:∀ pp∈t',Fg h2 pp.2.2=pd pp.1:=fun pp j=>by
    have G:=p1.mem_iff.mp j;obtain ⟨as,ra⟩:=Y pp G;have hm:pp.1∈es:=by rw [<- t1];exact FC G
    exact FV (hS.lay _ (FC hm)).1 (bv (fun b o e _=>Bz b o e) (J _ (FC hm)) ra)
   rw [rd a ha,rd b B] at hab;exact hab
end
end Mi
end
end L2
namespace L2
namespace Mi
open PySem PySem.Spec PyProof.Rows L2.Srt
def mD (K:Frag) (H:Hp) (kv:D×D) (e:G3):Prop := ∃ kV vV,RD K H kv.1 kV/\RelV kV e.key/\RD K H kv.2 vV/\RelV vV e.val
theorem ou {K:Frag} {H:Hp} {d:D} {k:Key} (h:RKey d k):RD K H d (kV k):=by
 cases d <;> first
  | exact h.elim
  | (cases h;first | exact Md.mpr rfl | exact Mh.mpr rfl)
theorem jY {K:Frag} {H:Hp}:∀ {ds:List D} {ks:List Key},EE RKey ds ks->RDs K H ds (ks.map kV)
 | _,_, .nil=>RDs.nil
 | _,_, .cons r t=>RDs.cons (ou r) (jY t)
theorem wb {P:E3} {w:Ep} {K:Frag} {H:Hp}:∀ {kvs:List (D×D)} {ps:List (Key×V)} {vs:List (Key×gV)} {es:List G3},EE (fun (p:D×D) (q:Key×V)=>RKey p.1 q.1/\RD K H p.2 q.2) kvs ps->KV ps vs->Pairs (aP P w) es vs->EE (mD K H) kvs es
 | _,_,_,_, .nil, .nil, .nil => .nil
 | _,_,_,_, .cons B t1, .cons F G, .cons h1 h2 t3=>by
   refine .cons ⟨kV _,_,ou B.1, ?_,B.2,by rw [h2];exact F.2⟩ (wb t1 G t3)
   rw [<- F.1] at h1
   rcases aY h1 with ⟨i,t,j,z⟩ | ⟨x,t,j,z⟩
   ·rw [j,z];exact ⟨t,rfl⟩
   ·rw [j,z];exact ⟨t,rfl⟩
theorem wc {P:E3} {w:Ep} {K:Frag} {H:Hp}:∀ {kvs:List (D×D)} {ps:List (List Key×V)} {xs:List (List Key×Addr×gV)},EE (fun (p:D×D) (q:List Key×V)=>RKeys p.1 q.1/\RD K H p.2 q.2) kvs ps->EE (fun (p:List Key×V) (q:List Key×Addr×gV)=>p.1=q.1/\H q.2.1=some (.tup (p.1.map kV))/\RelV p.2 q.2.2) ps xs->EE (mD K H) kvs (xs.map (entryOfKey (Ih (aP P w))))
 | _,_,_, .nil, .nil => .nil
 | kv::_,_,_, .cons z t1, .cons B F=>by
   refine .cons ?_ (wc t1 F);obtain ⟨d,v⟩:=kv;have j:=z.1
   cases d <;> first
    | exact j.elim
    | exact ⟨.ref _,_,Mp ⟨_,_,rfl,B.2.1,jY j⟩,rfl,z.2,B.2.2⟩
theorem bU {α β:Type} {R : α -> β -> Prop}:∀ {l:List α} {m:List β},EE R l m->l.length=m.length
 | _,_, .nil=>rfl
 | _,_, .cons _ t=>by simp [bU t]
section
variable {X:Cx}
theorem zL {H:Hp} {h:Heap} {P:E3} {w:Ep} {K:Frag} {a:Addr} {ps:List (List Key×V)} {kvs:List (D×D)} (ok:ObjOk P w H h a (.dT ps)) (pr:EE (fun (p:D×D) (q:List Key×V)=>RKeys p.1 q.1/\RD K H p.2 q.2) kvs ps) :
 ∃ cd dd sl es ep,h.get? a=some { cls:=cd,dict:=dd,data := .dict es ep,slots:=sl }/\es.size<=DL/\EE (mD K H) kvs es.toList:=by
 obtain ⟨G,B,xs,j,o,es,ep,h1,h2,z,F,J⟩:=ok;obtain ⟨cd,dd,dat,sl⟩:=o;dsimp only at z;subst z;have pp:=wc (P:=P) (w:=w) pr j;rw [<- F] at pp;refine ⟨cd,dd,sl,es,ep,h1, ?_,pp⟩;have:=bU pp;have:=bU pr;simp at *;lia
theorem xT {pins:List (Addr×Obj)} {σ:St} {H:Hp} {s:h7} {M:Mem} (I:Inv X pins σ H s) (rm:RM X.K M H) {a:Addr} {t:Bool} {kvs:List (D×D)} (e:M a=some (.dct t kvs)) :
 ∃ cd dd sl es ep,s.heap.get? a=some { cls:=cd,dict:=dd,data := .dict es ep,slots:=sl }/\es.size<=DL/\EE (mD X.K H) kvs es.toList/\IsD H a:=by
 have ro:=rm a _ e
 cases t with
 | false =>
   obtain ⟨ps,j,pr⟩:=ro;obtain ⟨G,B,vs,z,o,es,ep,h1,h2,q,J,F,L⟩:=I.hok a _ j;obtain ⟨cd,dd,dat,sl⟩:=o;dsimp only at q;subst q;have pp:=wb pr z F;refine ⟨cd,dd,sl,es,ep,h1, ?_,pp, .inl ⟨_,Rd.of j⟩⟩;have:=bU pp;have:=bU pr;simp at *;lia
 | true =>
   obtain ⟨ps,j,pr⟩:=ro;obtain ⟨cd,dd,sl,es,ep,h1,h2,q⟩:=zL (I.hok a _ j) pr;exact ⟨cd,dd,sl,es,ep,h1,h2,q, .inr ⟨_,Rd.of j⟩⟩
end
section
noncomputable def iV (to tk tx:TEd):TEd:=fun ρ M Q=>to ρ M fun x M1 => ∃ a t kvs,x = .ref a/\M1 a=some (.dct t kvs)/\tk ρ M1 fun k M2=>tx ρ M2 fun z M3 => ∃ t' kvs',M3 a=some (.dct t' kvs')/\dR t' k=true/\Q ((dget kvs' k).getD z) M3
theorem sg {to tk tx:TEd} (h1:ae to) (h2:ae tk) (j:ae tx):ae (iV to tk tx):=fun ρ M Q Q' i q=>h1 _ _ _ _ (fun x M1 ⟨a,t,kvs,e,B,F⟩=>⟨a,t,kvs,e,B,h2 _ _ _ _ (fun k M2 G=>j _ _ _ _ (fun z O ⟨t',kvs',J,ok,L⟩=>⟨t',kvs',J,ok,i _ _ L⟩) G) F⟩) q
section
variable {X:Cx}
theorem si {K:Frag} {M:Mem} {H:Hp} (rm:RM K M H) {a:Addr} {t:Bool} {kvs:List (D×D)} (e:M a=some (.dct t kvs)):IsD H a:=by
 have ro:=rm a _ e
 cases t with
 | false=>obtain ⟨ps,j,_⟩:=ro;exact .inl ⟨_,Rd.of j⟩
 | true=>obtain ⟨ps,j,_⟩:=ro;exact .inr ⟨_,Rd.of j⟩
theorem xU {o e f:Expr} {to tk tx:TEd} {apos cpos:Pos} (Y:X.A.units+1 < FQ) (mo:ae to) (mk:ae tk) (mx:ae tx) (ho:PE X o (lE X.K to)) (he:PE X e (lE X.K tk)) (hf:PE X f (lE X.K tx)) (m:M2 X o "get" apos e f cpos) :
 PE X (.Call (.Attribute o "get" apos) [e,f] [] cpos) (lE X.K (iV to tk tx)):=by
 refine PE.imp (ue Y ho he hf m) fun σ H Q h => ?_;obtain ⟨ρ,M,rs,rm,q⟩:=h;refine ⟨ρ,M,rs,rm,mo _ _ _ _ (fun x M1 ⟨a,t,kvs,e,Z,q1⟩ v H1 L j rd1 => ?_) q⟩;subst e
 cases Mf.mp rd1
 have B:=rs.mono (L.stab rm);refine ⟨a,rfl,si j Z, ρ,M1,B,j,mk _ _ _ _ (fun k M2 q2 v2 H2 O F G => ?_) q1⟩;have J:=B.mono (O.stab j);refine ⟨ρ,M2,J,F,mx _ _ _ _ (fun z M3 ⟨t',kvs',e3,ok,q3⟩ v3 H3 U rm3 rd3 => ?_) q2⟩;obtain ⟨w,g,g1,g2⟩:=jm rm3 e3 ok (G.mono (U.stab F));refine ⟨w,g, ?_⟩;refine q3 _ H3 (L.trans (O.trans U)) rm3 ?_
 cases e4:dget kvs' k with
 | none=>rw [g2 e4];exact rd3
 | some d =>
   obtain ⟨w',e5,r5⟩:=g1 d e4;rw [e5];exact r5
end
end
end Mi
end L2
namespace L2
open PySem PySem.Spec PyProof.Rows
namespace Mi
end Mi
end L2
namespace L2
open PySem PySem.Spec PyProof.Rows
namespace Mi
end Mi
end L2
namespace L2
open PySem PySem.Spec PyProof.Rows
namespace Mi
end Mi
end L2
namespace L2
open PySem PySem.Spec PyProof.Rows
end L2
namespace L2
namespace Mi
open PySem PySem.Spec PyProof.Rows
section
section
variable {K:Frag} {p:Addr}
theorem Paired.len {α β:Type} {R : α -> β -> Prop}:∀ {a:List α} {b:List β},EE R a b->a.length=b.length
 | _,_, .nil=>rfl
 | _,_, .cons _ t=>by rw [Fl,Fl,Paired.len t]
end
end
end Mi
end L2
namespace L2
namespace Dk
open PySem PySem.Spec PyProof.Rows
section
variable {prog:E3} {w:Ep} {A:Ew} {E:gV->h7->Prop} {s:h7}
noncomputable def kO (d:Addr) (i n ep:Nat):Obj := { cls := .type "dict_keyiterator",data := .fields #[.ref d, .int i 0, .int n 0, .int ep 0] }
theorem slot_next:Slot "dict_keyiterator" "__next__" "dict_keyiterator.__next__" := .of (owner := "dict_keyiterator") (n := "__next__") (by rw [typeLookup_type,Js];kernel_rfl) (by decide +kernel) (by decide +kernel) (by decide +kernel) (.inl (by decide +kernel)) (by rw [JO];kernel_rfl)
theorem iW:entryFor table "dict_keyiterator.__next__" = some G0.«dict_keyiterator.__next__» := entryFor_of_tree (by kernel_rfl)
theorem jZ (a:gV):argsOk "dict_keyiterator.__next__" ⟨[a],[]⟩:=by unfold argsOk;kernel_rfl
theorem sj {it:Addr} (ty:s.TypeIs (.ref it) "dict_keyiterator") {types:List String} {Q:Bool->h7->Prop} (q:Q (types.any fun t => [EN "dict_keyiterator",EN "object"].contains (EN t)) s):DU (model prog w) A (Iq (.ref it) types) Q E s:=by
 have hm:=K5;unfold Iq
 wp_walk
 exact q
theorem di {it d:Addr} {i ep:Nat} {cd:gV} {dd:Option Addr} {sl:Array (Option gV)} {es:Array G3} {e:G3} {Q:Option gV->h7->Prop} (hi:s.heap.get? it=some (kO d i es.size ep)) (hd:s.heap.get? d=some { cls:=cd,dict:=dd,data := .dict es ep,slots:=sl }) (he:es[i]? = some e)
 (q:∀ h',h'.get? it=some (kO d (i+1) es.size ep)->F9 it s.heap h'->Q (some e.key) { s with heap:=h' }):DU (model prog w) A (H9 (.ref it)) Q E s:=by
 have ty:s.TypeIs (.ref it) "dict_keyiterator" := ⟨_,hi,rfl⟩;unfold H9;refine g6 (GK (Ey (name:=h6 "__next__") ty slot_next (EG slot_next ty iW ?_ (jZ _))));unfold G0.«dict_keyiterator.__next__»;have hm:=K5
 wp_walk
 dsimp only;rw [if_neg (by simp)]
 simp only [F4,he];refine g6 (Fj (Q:=fun n s'=>n=0/\s'=s) ?_ (fun n s' hs => ?_) fun _ _ z=>z)
 ·wp_walk
  exact ⟨by kernel_rfl,rfl⟩
 obtain ⟨rfl,rfl⟩:=hs;refine g6 (sj ty ?_);refine g6 (Eu hi (by simp) fun h1 j s1 => ?_)
 rw [if_neg (by decide +kernel)] at j
 have j:h1.get? it=some (kO d (i+1) es.size ep):=j;have B:Shared.TypeIs { s' with heap:=h1 } (.ref it) "dict_keyiterator" := ⟨_,j,rfl⟩
 refine g6 (FI ?_);refine g6 (sj B ?_);refine JP (by decide +kernel) ?_
 refine i4 (i4 ⟨_,rfl,i4 ?_⟩);exact q h1 j s1
theorem nx_end {it d:Addr} {ep:Nat} {cd:gV} {dd:Option Addr} {sl:Array (Option gV)} {es:Array G3} {Q:Option gV->h7->Prop} (hn:A.handled=none) (hi:s.heap.get? it=some (kO d es.size es.size ep)) (hd:s.heap.get? d=some { cls:=cd,dict:=dd,data := .dict es ep,slots:=sl })
 (q:∀ h',(∀ b o,b≠it->s.heap.get? b=some o->h'.get? b=some o)->Q none { s with heap:=h' }):DU (model prog w) A (H9 (.ref it)) Q E s:=by
 have ty:s.TypeIs (.ref it) "dict_keyiterator" := ⟨_,hi,rfl⟩;unfold H9;refine g6 (GK (Ey (name:=h6 "__next__") ty slot_next (EG slot_next ty iW ?_ (jZ _))));unfold G0.«dict_keyiterator.__next__»;have hm:=K5
 wp_walk
 dsimp only;rw [if_neg (by simp)]
 have he:es[es.size]? = none:=Ho (DP _);simp only [F4,he];refine g6 (Fj (Q:=fun n s'=>n=0/\s'=s) ?_ (fun n s' hs => ?_) fun _ _ z=>z)
 ·wp_walk
  exact ⟨by kernel_rfl,rfl⟩
 obtain ⟨rfl,rfl⟩:=hs;refine g6 (Eu hi (by simp) fun h1 B s1 => ?_)
 refine g6 (m:=newExc (.type "StopIteration") []) ?_;simp only [newExc,newTuple];refine g6 (Gq ?_ (by size_fits))
 refine g6 (m:=Il _ _) (HH (a:=FX) (by first | rfl | (simp only [Il];rfl)) (Gq ?_ (by size_fits)))
 simp only [raiseNew];refine g6 (wpAny_handled ?_)
 first | rw [show A.in1.handled=none from hn] | rw [hn]
 refine g6 (i4 (wpAny_throw ?_));exact g6 (GA (T := "StopIteration") (b:=true) ⟨_,DQ _ rfl,rfl⟩ JH (i4 (q _ fun b o j e=>i3 _ (i3 _ (s1.extBut b o j e)))))
theorem xV {d:Addr} {es:Array G3} {ep:Nat} {dd:Option Addr} {sl:Array (Option gV)} {Q:gV->h7->Prop} (j:(d==EF)=false) (hd:s.heap.get? d=some { cls := .type "dict",dict:=dd,data := .dict es ep,slots:=sl })
 (q:Q (.ref s.heap.objs.size) { s with heap:=s.heap.push (kO d 0 es.size ep) }):DU (model prog w) A (Jy (.ref d)) Q E s:=by
 have ty:s.TypeIs (.ref d) "dict" := ⟨_,hd,rfl⟩;refine wpAny_pyIter_slot ty Le (EG Le ty F.entry_dict_iter ?_ (F.args_dict_iter_1 _));unfold G0.«dict.__iter__»
 wp_walk
 exact ⟨_,rfl, "dict_keyiterator",_,⟨_,DQ _ rfl,rfl⟩,slot_next.lookup,q⟩
theorem walk (hn:A.handled=none) (it d:Addr) (hne:d≠it) (es:Array G3) (ep:Nat) :
 Walks prog w A it [it,d] [it] es.size (fun i v => ∃ e,es[i]? = some e/\v=e.key) (fun i h=>h.get? it=some (kO d i es.size ep) /\ ∃ cd dd sl,h.get? d=some { cls:=cd,dict:=dd,data := .dict es ep,slots:=sl }) where
 sub:=fun b hb=>by simp at hb;simp [hb]
 frame:=fun _ _ _ st k=>⟨k it (by simp) _ st.1,by obtain ⟨cd,dd,sl,h⟩:=st.2;exact ⟨cd,dd,sl,k d (by simp) _ h⟩⟩
 item:=fun i s Q E hi st q=>by
  obtain ⟨h1,cd,dd,sl,h2⟩:=st;refine di (e:=es[i]) h1 h2 (EJ hi) fun h' e' s' => ?_;exact q _ h' s.toks ⟨_,EJ hi,rfl⟩ ⟨e',cd,dd,sl,s'.extBut d _ hne h2⟩ fun b o hb x=>s'.extBut b o (fun z=>hb (by simp [z])) x
 done:=fun s Q E st q=>by
  obtain ⟨h1,cd,dd,sl,h2⟩:=st;exact nx_end hn h1 h2 fun h' k=>q h' s.toks fun b o hb x=>k b o (fun z=>hb (by simp [z])) x
 self:=fun i s Q E st q=>wpAny_pyIter_keyiter ⟨_,st.1,rfl,rfl⟩ q
theorem sk {d:Addr} {Q:Bool->h7->Prop} (ty:s.TypeIs (.ref d) "dict") (q:Q false s):DU (model prog w) A (Ig (.ref d)) Q E s:=by
 unfold Ig;refine g6 (wpAny_specialOf ty F.slot_dict_len.lookup ?_);generalize j:("dict.__len__":String)=z
 (fail_if_success (clear j z));wp_delta
 rw [show splitId z=some ("dict", "__len__") from by subst j;decide +kernel]
 subst j;refine g6 (GA (b:=true) ty (by rw [JO];kernel_rfl) ?_)
 rw [if_neg (by decide)]
 refine JP (by decide +kernel) ?_
 refine g6 (wpAny_typeOf ty ?_);exact i4 q
open Builtin.List in
theorem v8 (hn:A.handled=none) {S d:Addr} {es:Array G3} {ep c:Nat} {dd:Option Addr} {sl:Array (Option gV)} {R:Result->h7->Prop} (res:gV) (Z:(d==EF)=false) (hd:s.heap.get? d=some { cls := .type "dict",dict:=dd,data := .dict es ep,slots:=sl }) (Y:s.heap.get? S=some { cls := .type "list",data := .seq #[] c }) (hz:es.size<=DL)
 (q:∀ (h':Heap) (tk:Nat) (acc':Array gV) (c':Nat),(∀ b o,b≠S->s.heap.get? b=some o->h'.get? b=some o)->h'.get? S=some { cls := .type "list",data := .seq acc' c' }->acc'.toList=es.toList.map (·.key)->s.toks<=tk->R (.ok (.ret res)) { s with heap:=h',toks:=tk }) :
 DU (model prog w) A.in1 (listExtendWith (.ref S) (.ref d) res) (fun fin s'=>match fin with | .done f=>R (.ok f) s' | .again c'=>c'.quiet=true/\I7 (model prog w) A c' R s') (fun e s'=>R (.error e) s') s:=by
 have ty:s.TypeIs (.ref d) "dict" := ⟨_,hd,rfl⟩;have G:S≠d:=fun e=>by rw [e,hd] at Y;simp at Y
 have h1:listSameRef (.ref S) (.ref d)=false:=by simp [listSameRef,G]
 unfold listExtendWith;refine g6 (wpAny_typeOf ty ?_);rw [if_neg (by rw [h1];decide)]
 refine g6 (xV Z hd ?_);refine g6 (FI (sk (s := { s with heap:=s.heap.push (kO d 0 es.size ep) }) ⟨_,i3 _ hd,rfl⟩ ?_))
 have B:=DM Y;have J:=DM hd;have W:=(walk (prog:=prog) (w:=w) (A:=A.in1) hn s.heap.objs.size d (Ec J) es ep).toS;have By:S∉[s.heap.objs.size,d]:=fun hm=>by
  simp only [DT,Es,or_false] at hm
  rcases hm with e | e
  ·exact absurd (e ▸ B) (F6 _)
  ·exact G e
 refine JP (by decide +kernel) ?_
 refine g6 (Fz ?_);unfold listTouch;have L:(s.heap.push (kO d 0 es.size ep)).get? S=some (Lc "list" #[] c):=i3 _ Y;refine g6 (g6 (HD L rfl ?_ (by simp) (by simp)))
 have O:=GQ L (fun x=>x.push FX);refine HD O rfl ?_ (by simp;decide) (by simp)
 have Bz:=GQ O (fun x=>x.pop);have oth:∀ b o,b≠S->s.heap.get? b=some o->(((s.heap.push (kO d 0 es.size ep)).update S (Gb fun x=>x.push FX)).update S (Gb fun x=>x.pop)).get? b=some o:=fun b o U e=>by
  rw [Fi _ _ _ _ U,Fi _ _ _ _ U];exact i3 _ e
 have hit:(((s.heap.push (kO d 0 es.size ep)).update S (Gb fun x=>x.push FX)).update S (Gb fun x=>x.pop)).get? s.heap.objs.size=some (kO d 0 es.size ep):=by
  rw [Fi _ _ _ _ (G9 B),Fi _ _ _ _ (G9 B)];exact DQ _ rfl
 refine i4 ⟨plainId_quiet F.plain_extend_loop _,codeAny_extend_loopS W hz _ By _ es.size 0 _ _ _ rfl (FJ _) ⟨hit,_,_,_,oth d _ G.symm hd⟩ Bz (ItemsOf.nil _) fun s' acc c' hm BA ha => ?_⟩;rw [hm.eq_with];refine q _ _ acc c' (fun b o U e => ?_) BA ?_ hm.toks
 ·exact hm.heap b o (fun z=>by
   simp only [DT,Es,or_false] at z
   rcases z with z | z
   ·exact U z
   ·exact absurd (z ▸ DM e) (F6 _)) (oth b o U e)
 ·obtain ⟨g1,g2⟩:=ha;apply FW;intro j;rw [E7,Ei,E7]
  by_cases hj:j < es.size
  ·obtain ⟨e,he,hv⟩:=g2 j (acc[j]'(by lia)) (EJ (by lia))
   rw [EJ (by lia),hv,he];rfl
  ·rw [Ho (by lia),Ho (by lia)];rfl
theorem collect_dict (hn:A.handled=none) {d:Addr} {es:Array G3} {ep:Nat} {dd:Option Addr} {sl:Array (Option gV)} {Q:List gV->h7->Prop} (j:(d==EF)=false) (hd:s.heap.get? d=some { cls := .type "dict",dict:=dd,data := .dict es ep,slots:=sl }) (L:es.size<=DL)
 (q:∀ (h':Heap) (tk:Nat),(∀ b o,s.heap.get? b=some o->h'.get? b=some o)->s.toks<=tk->Q (es.toList.map (·.key)) { s with heap:=h',toks:=tk }):DU (model prog w) A (collect (.ref d)) Q E s:=by
 unfold collect;refine g6 (wpAny_runValue (codeAny_builtin F.entry_proto_collect ?_));unfold G0.«proto.collect»;dsimp only;refine g6 (IG ?_ (by simp))
 refine i4 ⟨Code.quiet_builtin _ (by decide +kernel), ?_⟩
 refine codeAny_builtin entry_list_iadd' ?_;unfold G0.«list.__iadd__»;refine g6 (HH (a:=(Eo s.heap.objs.size,[Eo d])) (by kernel_rfl) ?_)
 have z:(s.heap.push { cls:=EN "list",data:=HG [].toArray }).get? s.heap.objs.size=some { cls:=EN "list",data:=HG #[] 0 }:=DQ _ rfl;rw [Around.under_plain (by rfl) (by rfl)]
 refine Fj (v8 (s := { s with heap:=s.heap.push { cls:=EN "list",data:=HG [].toArray } }) (R:=fun r s'=>r = .ok (.ret (.ref s.heap.objs.size))/\DU (model prog w) A (do
  let o <- load s.heap.objs.size
  match o.data with
  | .seq xs _=>pure xs.toList
  | _=>unsupported "internal:collect") Q E s') hn (Eo s.heap.objs.size) j (i3 _ hd) z L fun h' tk acc c' kp B O G=>⟨rfl, ?_⟩) (fun fn s' h => ?_) (fun e s' h => ?_)
 ·refine g6 (wpAny_load B ?_);refine i4 ?_;rw [O];exact q h' tk (fun b o e=>kp b o (Ec (DM e)) (i3 _ e)) G
 ·cases fn with
  | done f =>
    obtain ⟨e,h⟩:=h
    cases e
    exact h
  | again c' =>
    refine ⟨h.1,Hc h.2 fun r s1 J => ?_⟩;obtain ⟨rfl,J⟩:=J;exact J
 ·cases h.1
end
end Dk
end L2
namespace L2
namespace Mi
open PySem PySem.Spec PyProof.Rows L2.Srt
noncomputable def iX:RAd:=fun ds M Q => ∃ a t kvs sh,ds=[.ref a]/\M a=some (.dct t kvs)/\jr sh=true/\(∀ kv∈kvs,hs sh kv.1=true)/\kvs.length<=63 /\ ∀ p ys,M p=none->ys.Perm (kvs.map (·.1))->v7 ys->Q (.ref p) (ah M p (.lst ys))
theorem iY:b5 iX:=fun _ _ _ _ h ⟨a,t,kvs,sh,e,j,z,B,F,q⟩=>⟨a,t,kvs,sh,e,j,z,B,F,fun p ys n G hs=>h _ _ (q p ys n G hs)⟩
theorem ow {K:Frag} {H:Hp}:∀ {kvs:List (D×D)} {es:List G3},EE (mD K H) kvs es -> ∃ vs,RDs K H (kvs.map (·.1)) vs/\Vals vs (es.map (·.key))
 | _,_, .nil=>⟨[],RDs.nil, .nil⟩
 | _,_, .cons r t=>by
   obtain ⟨vs,h1,h2⟩:=ow t;obtain ⟨kV,vV,g1,g2,_,_⟩:=r;exact ⟨kV::vs,RDs.cons g1 h1, .cons g2 h2⟩
section
variable {X:Cx}
theorem mF (L:X.A.units+16 < FQ) (O:X.calm=true):CallR X (.builtin "sorted") (lR X.K iX):=by
 intro pins s σ H xs us Q I r h;obtain ⟨ds,M,rm,rs,a,t,kvs,sh,rfl,e,hok,j,U,q⟩:=h;obtain ⟨v,rfl,rv⟩:=rs.one;obtain ⟨u,rfl,ru⟩:=cT r
 cases Mf.mp rv
 cases (show u=Eo a from ru)
 obtain ⟨cd,dd,sl,es,ep,hd,Y,z,hD⟩:=xT I rm e;obtain ⟨t1,t2,B⟩:=iw I hD;obtain ⟨vs,h1,h2⟩:=ow z;have F:cd = .type "dict" := by
  obtain ⟨o,g1,g2⟩:=t1;rw [hd] at g1;cases g1;exact g2
 subst F;have hn:X.A.in1.handled=none:=I.ok.hd O;exact nO nN L I rm h1 hok (fun d hd=>by
  obtain ⟨kv,G,rfl⟩:=EO.mp hd;exact j kv G) q h2 (by have:=h2.length;rw [i5] at this;simp at this;lia) (by have:=h2.length;rw [i5] at this;have Z:=h1.length;rw [i5] at Z;lia) fun E R hR=>Dk.collect_dict hn B hd Y fun h' tk kp J=>hR h' tk kp J
end
end Mi
end L2
namespace L2
open PySem PySem.Spec PyProof.Rows
section
section
variable {X:Cx} {pins:List (Addr×Obj)} {σ:St} {H:Hp} {s:h7}
theorem xW {x:V} {u:gV} {t:String} (I:Inv X pins σ H s) (rx:RelV x u) (ty:bW X.K H x (.type t)):∃ P,PySem.W.KitX X.K u (.type t) P/\P s.heap/\u≠Value.builtin "__main__.__loader__#opaque" := by
 generalize j:EN t=T at ty
 cases ty with
 | non=>cases (show u=FX from rx);exact ⟨_,Kq,Fe,fun z=>nomatch z⟩
 | bl y=>cases (show u=J2 y from rx);exact ⟨_,Kr,Fe,fun z=>nomatch z⟩
 | int i=>obtain ⟨t,rfl⟩:=(show ∃ t,u=IK i t from rx);exact ⟨_,KR,Fe,fun z=>nomatch z⟩
 | str y=>obtain ⟨t,rfl⟩:=(show ∃ t,u=IM y t from rx);exact ⟨_,KS,Fe,fun z=>nomatch z⟩
 | flt y=>obtain ⟨t,rfl⟩:=(show ∃ t,u=Lk y t from rx);exact ⟨_,Ke,Fe,fun z=>nomatch z⟩
 | @lst a xs ea =>
  cases (show u=Eo a from rx)
  obtain ⟨_,_,n,_,h1⟩:=(show ObjOk X.prog X.w H s.heap a (.lst xs) from I.hok a _ ea);exact ⟨_,Ha,⟨_,h1,rfl⟩,fun z=>nomatch z⟩
 | @frz a ob xs ea =>
  cases (show u=Eo a from rx)
  obtain ⟨_,_,_,n,_,h1⟩:=(show ObjOk X.prog X.w H s.heap a (.frz ob (.lst xs)) from I.hok a _ ea);exact ⟨_,Ha,⟨_,h1,rfl⟩,fun z=>nomatch z⟩
 | @tup a xs ea =>
  cases (show u=Eo a from rx)
  obtain ⟨_,_,⟨o,h1,h2,_⟩,_⟩:=I.tuple ea;exact ⟨_,Kf,⟨o,h1,h2⟩,fun z=>nomatch z⟩
 | @dK a kvs ea =>
  cases (show u=Eo a from rx)
  obtain ⟨_,_,vs,_,o,es,ep,h1,h2,_⟩:=(show ObjOk X.prog X.w H s.heap a (.dK kvs) from I.hok a _ ea);exact ⟨_,Hb,⟨o,h1,h2.1⟩,fun z=>nomatch z⟩
 | @dT a kvs ea =>
  cases (show u=Eo a from rx)
  obtain ⟨_,_,xs,_,o,es,ep,h1,h2,_⟩:=(show ObjOk X.prog X.w H s.heap a (.dT kvs) from I.hok a _ ea);exact ⟨_,Hb,⟨o,h1,h2.1⟩,fun z=>nomatch z⟩
 | ins=>cases j
end
namespace Mi
section
variable {X:Cx}
theorem xX (K:Frag) {T U:String} (q:T∈["bool", "int", "str", "tuple", "list", "dict"]) (z:U∈["bool", "int", "str", "tuple", "list", "dict"]) {t:String} (j:t∈cf):JQ K (.type t) [.type T, .type U]=some (bY T t || bY U t):=by
 have h1:=jn K T q t j;have h2:=jn K U z t j;unfold JQ;rw [h1]
 cases e1:bY T t with
 | true=>rfl
 | false =>
   dsimp only;unfold JQ;rw [h2]
   cases bY U t <;> rfl
theorem pW {T U:String} (z:T∈["bool", "int", "str", "tuple", "list", "dict"]) (B:U∈["bool", "int", "str", "tuple", "list", "dict"]):CallR X (.builtin "isinstance") (fun vs H Q => ∃ v t p,vs=[v, .ref p]/\H p=some (.tup [.ty T, .ty U])/\bW X.K H v (.type t)/\t∈cf/\Q (.bl (bY T t || bY U t)) H):=by
 intro pins s σ H xs us Q I r h;obtain ⟨v,t,p,rfl,F,ty,G,q⟩:=h;obtain ⟨u,c,rfl,ru,rc⟩:=kw r
 cases (show c=Eo p from rc)
 obtain ⟨P,g1,g2,g3⟩:=xW I ru ty;obtain ⟨_,its,rv,⟨cls,dd,dat,sl⟩,h1,h2,n,j⟩:=(show ObjOk X.prog X.w H s.heap p (.tup [.ty T, .ty U]) from I.hok p _ F);dsimp only at h2 j;subst h2 j
 cases rv with
 | cons J rv =>
 cases rv with
 | cons L rv =>
 cases rv
 cases J
 cases L
 exact PySem.W.kia_tup g1 I.kIn g2 h1 (xX X.K z B G) g3 fun tk=>⟨.bl _,H,I.tok tk,rfl,q⟩
noncomputable def fP (T U:String) (ta:TEd):TEd:=fun ρ M Q=>ta ρ M fun x M1 => ∃ t,tyN M1 x=some t/\Q (.bl (bY T t || bY U t)) M1
theorem pX {T U:String} {ta:TEd} (h:ae ta):ae (fP T U ta):=fun ρ M Q Q' i q=>h _ _ _ _ (fun x M1 ⟨t,e,j⟩=>⟨t,e,i _ _ j⟩) q
theorem v9 {e:Expr} {ta:TEd} {T U:String} {y z:Str} {k:Nat} {p p2 j G pos:Pos} (hT:T∈["bool", "int", "str", "tuple", "list", "dict"]) (hU:U∈["bool", "int", "str", "tuple", "list", "dict"]) (m:ae ta) (he:PE X e (lE X.K ta)) (hg:Gl X "isinstance") (hm:X.mg "isinstance" = none)
 (J:Gl X y) (L:X.mg y=none) (hv:FE y=some (.type T)) (hn:y ≠ "__name__") (O:(y==("__debug__":Str))=false)
 (Y:Gl X z) (Z:X.mg z=none) (By:FE z=some (.type U)) (Bz:z ≠ "__name__") (B:(z==("__debug__":Str))=false)
 (hs:E4 [e, .Tuple [.Name y p2, .Name z j] k G] X.env=(false,eval e X.env)::E4 [.Tuple [.Name y p2, .Name z j] k G] X.env) :
 PE X (.Call (.Name "isinstance" p) [e, .Tuple [.Name y p2, .Name z j] k G] [] pos) (lE X.K (fP T U ta)):=by
 have h2:PE X (.Name y p2) (tC (.ty T)):=jd J L hv rfl hn O;have h3:PE X (.Name z j) (tC (.ty U)):=jd Y Z By rfl Bz B;have h4:PE X (.Tuple [.Name y p2, .Name z j] k G) _:=qK (cw h2 (cw h3 io rfl) rfl);refine PE.imp (bw (pW hT hU) hg hm (by decide +kernel) (cw he (cw h4 io rfl) hs) (by decide) (by decide) hs rfl) fun σ H Q h => ?_
 obtain ⟨ρ,M,rs,rm,q⟩:=h;refine ⟨ρ,M,rs,rm,m _ _ _ _ (fun x M1 ⟨t,e,q1⟩ v H1 x1 rm1 BA => ?_) q⟩;refine ⟨by simp;decide,fun pp n => ?_⟩
 have st:=(Mn (M:=M1) (ho := .tup [.ty T, .ty U]) n).stab rm1;have F:=rm1.new (ho := .tup [.ty T, .ty U]) n;exact ⟨v,t,pp,rfl,aH,vZ F (BA.mono st) e,og e,q1 _ _ (x1.trans (Mn n)) F (Me.mpr rfl)⟩
end
end Mi
end
end L2
namespace L2
open PySem PySem.Spec PyProof.Rows
namespace Mi
end Mi
end L2
namespace L2
open PySem PySem.Spec PyProof.Rows
namespace Mi
section
variable {X:Cx}
def dI (M:Mem) (a:Addr) (kvs:List (D×D)):Prop:=(M a=some (.dct true kvs)∨M a=some (.fdc kvs)) /\ ∀ kv∈kvs, ∃ i,kv.2 = .int i
theorem dI.at {K:Frag} {M:Mem} {H:Hp} {a:Addr} {kvs:List (D×D)} (rm:RM K M H) (h:dI M a kvs):∃ ps,Rd H a (.dT ps)/\EE (fun (p:D×D) (q:List Key×V)=>RKeys p.1 q.1/\RD K H p.2 q.2) kvs ps:=by
 rcases h.1 with e | e
 ·obtain ⟨ps,j,pr⟩:=rm a _ e;exact ⟨ps, .inl j,pr⟩
 ·obtain ⟨o,ps,j,pr⟩:=rm a _ e;exact ⟨ps, .inr ⟨o,j⟩,pr⟩
end
section
section
variable {lt:Nat->Nat->Bool} {prog:E3} {w:Ep} {A:Ew} {R:Result->h7->Prop} {I:Addr} {fp wr:List Addr} {n:Nat} {P:Nat->gV->Prop} {St:Nat->Heap->Prop} {h0:Heap} {S:Addr}
def Kpt (wr:List Addr) (S:Addr) (h h':Heap):Prop := ∀ b o,b∉wr->b≠S->h.get? b=some o->h'.get? b=some o
theorem Kpt.trans {wr:List Addr} {S:Addr} {a b c:Heap} (h:Kpt wr S a b) (g:Kpt wr S b c):Kpt wr S a c:=fun x o h1 h2 e=>g x o h1 h2 (h x o h1 h2 e)
end
end
end Mi
end L2
namespace L2
open PySem PySem.Spec PyProof.Rows
namespace Mi
end Mi
end L2
namespace L2
namespace Mi
open PySem PySem.Spec PyProof.Rows
section
section
variable {X:Cx}
theorem mG {i:Int}:∀ ns:List Int,inV (.int i) (ns.map V.int)=decide (i∈ns)
 | [] => by simp [inV]
 | n::ns=>by
   have ih:=mG (i:=i) ns;unfold inV at ih ⊢;rw [E6,Fo,ih];show (n==i || decide (i∈ns))=_
   by_cases h:n=i
   ·subst h;simp
   ·rw [show (n==i)=false by simpa using h]
    simp only [GJ,DT];exact decide_eq_decide.mpr ⟨.inr,fun z=>z.resolve_left fun w=>h w.symm⟩
end
end
section
section
variable {X:Cx}
def DF (M:Mem) (a:Addr) (t:Bool) (kvs:List (D×D)):Prop:=M a=some (.dct t kvs)∨(t=true/\M a=some (.fdc kvs))
noncomputable def mH (neg:Bool):R2d:=fun k x M Q => ∃ a t kvs,x = .ref a/\DF M a t kvs/\dR t k=true/\Q (.bl (if neg then !(dget kvs k).isSome else (dget kvs k).isSome)) M
theorem mJ {neg:Bool}:ay (mH neg):=fun _ _ _ _ _ h ⟨a,t,kvs,j,z,B,q⟩=>⟨a,t,kvs,j,z,B,h _ _ q⟩
theorem sn {K:Frag} {M:Mem} {H:Hp} {a:Addr} {t:Bool} {kvs:List (D×D)} {k:D} {v:V} (rm:RM K M H) (e:DF M a t kvs) (ok:dR t k=true) (rk:RD K H k v):∃ o,DGet H a v o/\o.isSome=(dget kvs k).isSome:=by
 have:∃ o,DGet H a v o/\(∀ d,dget kvs k=some d -> ∃ w,o=some w/\RD K H d w)/\(dget kvs k=none->o=none):=by
  rcases e with e | ⟨rfl,e⟩
  ·exact jm rm e ok rk
  ·obtain ⟨ob,ps,j,pr⟩:=rm a _ e;exact lc (.inr ⟨ob,j⟩) pr ok rk
 obtain ⟨o,g,g1,g2⟩:=this;refine ⟨o,g, ?_⟩
 cases h:dget kvs k with
 | none=>rw [g2 h];rfl
 | some d=>obtain ⟨w,rfl,_⟩:=g1 d h;rfl
theorem va (j:X.A.units+1 < FQ):OpR X (Eg .In) (l2 X.K (mH false)):=by
 intro pins s σ H y x u v Q I ry rx h;obtain ⟨dk,dx,M,rm,rk,rd,a,t,kvs,rfl,e,ok,q⟩:=h
 cases Mf.mp rd
 cases rx
 obtain ⟨o,g,ho⟩:=sn rm e ok rk;exact Bm j I g ry fun s' I'=>⟨.bl o.isSome,H,I',rfl,by rw [ho];exact q _ H Ext.refl rm (Me.mpr rfl)⟩
theorem su (j:X.A.units+1 < FQ):OpR X (Eg .NotIn) (l2 X.K (mH true)):=by
 intro pins s σ H y x u v Q I ry rx h;obtain ⟨dk,dx,M,rm,rk,rd,a,t,kvs,rfl,e,ok,q⟩:=h
 cases Mf.mp rd
 cases rx
 obtain ⟨o,g,ho⟩:=sn rm e ok rk;exact wQ j I g ry fun s' I'=>⟨.bl (!o.isSome),H,I',rfl,by rw [ho];exact q _ H Ext.refl rm (Me.mpr rfl)⟩
end
end
section
section
variable {X:Cx}
theorem RDs.dropLast {K:Frag} {H:Hp} {ds:List D} {vs:List V} (r:RDs K H ds vs):RDs K H ds.dropLast vs.dropLast:=by
 rw [Jv,Jv,r.length];exact r.take _
end
end
end Mi
end L2
namespace L2
open PySem PySem.Spec PyProof.Rows
namespace Mi
end Mi
end L2
namespace L2
open PySem PySem.Spec PyProof.Rows
namespace Mi
open L2.Srt
end Mi
end L2
namespace L2
namespace Srt
open PySem PySem.Spec PyProof.Rows
open AutoSeq1 (wpAny_loadPart')
open MeetsSeq MeetsSeq2 MeetsSeq3
end Srt
end L2
namespace L2
namespace Srt
open PySem PySem.Spec PyProof.Rows
end Srt
end L2
namespace L2
namespace Mi
open PySem PySem.Spec PyProof.Rows L2.Srt
end Mi
end L2
namespace L2
open PySem PySem.Spec PyProof.Rows
section
theorem KT.drop {H:Hp} {kvs:List (List Key×V)} {xs:List (List Key×Addr×gV)} (r:KT H kvs xs) (k:List Key):KT H (bS kvs k) (xs.filter fun x=>decide (x.1≠k)):=by
 unfold bS
 induction r with
 | nil=>exact .nil
 | @cons p q ps qs h t ih =>
  obtain ⟨h1,h2,j⟩:=h
  by_cases e:p.1=k
  ·rw [G5 (by simp [e]),G5 (by simp [h1.symm.trans e])];exact ih
  ·rw [G6 (by simp [e]),G6 (by simpa using fun z=>e (h1.trans z))];exact .cons ⟨h1,h2,j⟩ ih
namespace Mi
section
variable {K:Frag} {H:Hp} {κ:Type} [DecidableEq κ] {RK:D -> κ -> Prop}
theorem ka (inj:∀ {a b:D} {q : κ},RK a q->RK b q->a=b) (fn:∀ {a:D} {p q : κ},RK a p->RK a q->p=q) {k:D} {q : κ} (j:RK k q) {kvs:List (D×D)} {ps:List (κ × V)} (r:EE (fun p r=>RK p.1 r.1/\RD K H p.2 r.2) kvs ps) :
 EE (fun p r=>RK p.1 r.1/\RD K H p.2 r.2) (dQ kvs k) (bS ps q):=by
 unfold dQ bS
 induction r with
 | nil=>exact .nil
 | @cons p r ps qs h t ih =>
  by_cases e:p.1=k
  ·have e':r.1=q:=by have h1:=h.1;rw [e] at h1;exact fn h1 j
   rw [G5 (by simp [e]),G5 (by simp [e'])];exact ih
  ·have e' : ¬ r.1=q:=fun z=>e (by have h1:=h.1;rw [z] at h1;exact inj h1 j)
   rw [G6 (by simp [e]),G6 (by simp [e'])];exact .cons h ih
end
end Mi
end
section
theorem sx {X:Cx}:CallR X (.builtin "len") (fun xs H Q => ∃ a kvs,xs=[.ref a]/\H a=some (.dK kvs)/\Q (.int kvs.length) H):=by
 intro pins s σ H xs us Q I r h;obtain ⟨a,kvs,rfl,e,q⟩:=h;obtain ⟨u,rfl,rx⟩:=cT r
 cases rx
 obtain ⟨z,hd,vs,rel,dd⟩:=I.hok a _ e;obtain ⟨o,es,ep,ho,G,j,J,he,hn⟩:=dd;have hlen:es.size=kvs.length:=by
  rw [FH rel, <- Em];exact he.length
 have B:s.TypeIs (.ref a) "dict" := ⟨_,ho,G.1⟩;have mt:MeetsIn X.prog X.w (G0.«dict.__len__» ⟨[.ref a],[]⟩) (fun _ R s=>s.heap.get? a=some o/\R (.ok (.ret (.int kvs.length s.toks))) { s with toks:=s.toks+1 }) := .of_wp fun A R s ⟨ho,h⟩=>by
  show DU _ _ (dictSize a >>= _) _ _ s;unfold dictSize;refine g6 (g6 (IE ho j (i4 ?_)));show DU _ _ (Builtin.Dict.pendingCount a >>= _) _ _ s;refine g6 (wpAny_pendingCount_other hd (wpAny_ret_mkInt ?_));rw [KN,hlen];exact h
 have L:=dw;rw [q7] at z;refine Calls.call_function_entry kind_len plain_len entry_len (args_len1 _) ?_;unfold G0.«len»;refine g6 (m:=oneArg "len" _) (i4 ?_);refine g6 (m:=callSpecial? (.ref a) (h6 "__len__")) (Ey (name:=h6 "__len__") B LC (I9 LC B F.entry_dict_len (F.args_dict_len_1 _) mt ⟨ho, ?_⟩));show DU _ _ _ _ _ { s with toks:=s.toks+1 }
 refine g6 (FI (i4 ?_));refine g6 (ID ?_);show DU _ _ (if ((kvs.length:Nat):Int) < 0 then _ else _) _ _ _
 rw [if_neg (by omega)]
 show DU _ _ (if ((kvs.length:Nat):Int)≥2 ^ 63 then _ else _) _ _ _
 rw [if_neg (by omega)]
 exact g6 (wpAny_mkInt (i4 ⟨_,rfl,⟨.int kvs.length,H,I.tok _,⟨_,rfl⟩,q⟩⟩))
namespace Mi
section
variable {X:Cx}
noncomputable def pY:RAd:=fun xs M Q => ∃ a kvs,xs=[.ref a]/\M a=some (.dct false kvs)/\Q (.int kvs.length) M
theorem kb:b5 pY:=fun _ _ _ _ h ⟨a,kvs,e,l,q⟩=>⟨a,kvs,e,l,h _ _ q⟩
theorem nP:CallR X (.builtin "len") (lR X.K pY):=by
 refine CallR.of sx fun vs H Q h => ?_;obtain ⟨ds,M,rm,rs,a,kvs,rfl,e,q⟩:=h;obtain ⟨v,rfl,r⟩:=rs.one
 cases Mf.mp r
 obtain ⟨ps,j,pr⟩:=rm _ _ e;exact ⟨a,ps,rfl,j,by rw [<- FH pr];exact q _ H Ext.refl rm (Md.mpr rfl)⟩
noncomputable def pZ:R2d
 | .str i,y,M,Q => ∃ ns:List Str,aD M y=some (ns.map .str)/\Q (.bl (decide (i∈ns))) M
 | _,_,_,_=>False
noncomputable def q0:R2d
 | .int i,y,M,Q => ∃ ns:List Int,aD M y=some (ns.map .int)/\Q (.bl (!decide (i∈ns))) M
 | _,_,_,_=>False
theorem vc:ay pZ:=by
 intro x y M Q Q' h q
 cases x <;> first
  | exact q.elim
  | (obtain ⟨ns,e,q⟩:=q;exact ⟨ns,e,h _ _ q⟩)
theorem sy:ay q0:=by
 intro x y M Q Q' h q
 cases x <;> first
  | exact q.elim
  | (obtain ⟨ns,e,q⟩:=q;exact ⟨ns,e,h _ _ q⟩)
theorem mK {i:Str}:∀ ns:List Str,inV (.str i) (ns.map V.str)=decide (i∈ns)
 | [] => by simp [inV]
 | n::ns=>by
   have ih:=mK (i:=i) ns;unfold inV at ih ⊢;rw [E6,Fo,ih];have e:eqV (V.str n) (V.str i)=decide (n=i):=(by simp only [eqV];exact Jw n i)
   rw [e]
   by_cases h:n=i
   ·subst h;simp
   ·rw [decide_eq_false h];simp only [GJ,DT];exact decide_eq_decide.mpr ⟨.inr,fun z=>z.resolve_left fun w=>h w.symm⟩
theorem RDs.strs_eq {K:Frag} {H:Hp}:∀ {ns:List Str} {vs:List V},RDs K H (ns.map D.str) vs->vs=ns.map V.str
 | [],vs,h=>RDs.nil_iff.mp h
 | n::ns,vs,h=>by
   obtain ⟨v,r,rfl,h1,h2⟩:=Mg.mp h;rw [Mh.mp h1,RDs.strs_eq h2];rfl
theorem vd:OpR X (Eg .In) (l2 X.K pZ):=by
 refine OpR.of qO fun v u H Q h => ?_;obtain ⟨x,y,M,rm,rx,ry,q⟩:=h
 cases x <;> first
  | exact q.elim
  | skip
 case str i =>
  obtain ⟨ns,e,q⟩:=q;obtain ⟨p,vs,rfl,hs,r⟩:=fH rm ry e;have rv:=r.strs_eq;subst rv
  cases Mh.mp rx
  refine ⟨p,_,rfl,hs,rfl, ?_, ?_⟩
  ·simp [cG]
  ·rw [if_neg y2,mK];exact q _ H Ext.refl rm (Me.mpr rfl)
theorem sB:OpR X (Eg .NotIn) (l2 X.K q0):=by
 refine OpR.of kK fun v u H Q h => ?_;obtain ⟨x,y,M,rm,rx,ry,q⟩:=h
 cases x <;> first
  | exact q.elim
  | skip
 case int i =>
  obtain ⟨ns,e,q⟩:=q;obtain ⟨p,vs,rfl,hs,r⟩:=fH rm ry e;have rv:=r.ints_eq;subst rv
  cases Md.mp rx
  refine ⟨p,_,rfl,hs,rfl, ?_, ?_⟩
  ·simp [cG]
  ·rw [if_pos rfl,mG];exact q _ H Ext.refl rm (Me.mpr rfl)
noncomputable def kC (to tk:TEd):TEd:=fun ρ M Q=>to ρ M fun x M1 => ∃ a kvs,x = .ref a/\M1 a=some (.dct false kvs)/\tk ρ M1 fun k M2 => ∃ kvs' d,M2 a=some (.dct false kvs')/\cW k=true/\dget kvs' k=some d/\Q d (ah M2 a (.dct false (dQ kvs' k)))
theorem sC {to tk:TEd} (h1:ae to) (h2:ae tk):ae (kC to tk):=fun ρ M Q Q' i q=>h1 _ _ _ _ (fun x M1 ⟨a,kvs,e,j,z⟩=>⟨a,kvs,e,j,h2 _ _ _ _ (fun k M2 ⟨kvs',d,B,ok,g,F⟩=>⟨kvs',d,B,ok,g,i _ _ F⟩) z⟩) q
theorem xY {o e:Expr} {to tk:TEd} {apos cpos:Pos} (mo:ae to) (mk:ae tk) (ho:PE X o (lE X.K to)) (he:PE X e (lE X.K tk)) (m:M1 X o "pop" apos e cpos) :
 PE X (.Call (.Attribute o "pop" apos) [e] [] cpos) (lE X.K (kC to tk)):=by
 refine PE.imp (uf ho he m) fun σ H Q h => ?_;obtain ⟨ρ,M,rs,rm,q⟩:=h;refine ⟨ρ,M,rs,rm,mo _ _ _ _ (fun x M1 ⟨a,kvs,e,Y,Z⟩ v H1 U B rd1 => ?_) q⟩;subst e
 cases Mf.mp rd1
 have G:=rs.mono (U.stab rm);refine ⟨a,rfl,si B Y, ρ,M1,G,B,mk _ _ _ _ (fun k M2 ⟨kvs',d,F,ok,g,q3⟩ v2 H2 x2 j J => ?_) Z⟩;obtain ⟨ps,hp,pr⟩:=j _ _ F;obtain ⟨kq,L⟩:=fF ok;obtain ⟨g1,g2⟩:=dB (RK:=RKey) RKey.inj RKey.fun L pr;obtain ⟨w,gw,rw'⟩:=g1 d g;have st:Stab H2 (upd H2 a (.dK (bS ps kq))):=j.stabPut F;have O:=ka (RK:=RKey) RKey.inj RKey.fun L pr;exact ⟨ps,kq,w,hp,eG L J,gw,q3 _ _ ((U.trans x2).trans (Ext.put F)) (j.put (o := .dct false (dQ kvs' k)) F ⟨_,aH,Mj O fun _ _ z=>⟨z.1,z.2.mono st⟩⟩) (rw'.mono st)⟩
noncomputable def kD (to tk:TEd):TSd:=fun D ρ M=>to ρ M fun x M1=>tk ρ M1 fun k M2 => ∃ a kvs,x = .ref a/\M2 a=some (.dct false kvs)/\cW k=true/\(dget kvs k).isSome=true/\D.nx ρ (ah M2 a (.dct false (dQ kvs k)))
theorem sD {to tk:TEd} (h1:ae to) (h2:ae tk):aT (kD to tk):=fun a b ρ M i q=>h1 _ _ _ _ (fun x M1 j=>h2 _ _ _ _ (fun k M2 ⟨a,kvs,e,z,ok,g,B⟩=>⟨a,kvs,e,z,ok,g,i.nx _ _ B⟩) j) q
theorem xZ {o i:Expr} {to tk:TEd} {tpos pos:Pos} (mo:ae to) (mk:ae tk) (ho:PE X o (lE X.K to)) (hi:PE X i (lE X.K tk)):PS X (.Delete [.Subscript o i tpos] pos) (lS X.K (kD to tk)):=by
 refine PS.imp (wR ho hi) fun D σ H h => ?_;obtain ⟨ρ,M,A,rs,rm,l,q⟩:=h;refine ⟨ρ,M,rs,rm,mo _ _ _ _ (fun x M1 q1 v H1 Y B J => ?_) q⟩;have F:=rs.mono (Y.stab rm);refine ⟨ρ,M1,F,B,mk _ _ _ _ (fun k M2 ⟨a,kvs,e,G,ok,g,q2⟩ v2 H2 Z j L => ?_) q1⟩;subst e
 cases Mf.mp J
 obtain ⟨ps,hp,pr⟩:=j _ _ G;obtain ⟨kq,O⟩:=fF ok;obtain ⟨g1,g2⟩:=dB (RK:=RKey) RKey.inj RKey.fun O pr;obtain ⟨d,hd⟩:=Fn.mp g;obtain ⟨w,gw,rw'⟩:=g1 d hd;have st:Stab H2 (upd H2 a (.dK (bS ps kq))):=j.stabPut G;have U:=ka (RK:=RKey) RKey.inj RKey.fun O pr;refine ⟨a,ps,kq,rfl,hp,eG O L,by rw [gw];rfl, ?_⟩
 exact l.nx _ _ _ _ ((Y.trans Z).trans (Ext.put G)) ((F.mono (Z.stab B)).mono st) (j.put (o := .dct false (dQ kvs k)) G ⟨_,aH,Mj U fun _ _ z=>⟨z.1,z.2.mono st⟩⟩) q2
end
end Mi
end
end L2
namespace L2
namespace It
open PySem PySem.Spec PyProof.Rows
end It
open PySem PySem.Spec PyProof.Rows
namespace Mi
end Mi
end L2
namespace L2
open PySem PySem.Spec PyProof.Rows
namespace Mi
end Mi
end L2
namespace L2
open PySem PySem.Spec PyProof.Rows
namespace Mi
open L2.Srt
end Mi
end L2
namespace L2
open PySem PySem.Spec PyProof.Rows
end L2
namespace L2
namespace Mi
open PySem PySem.Spec PyProof.Rows
end Mi
end L2
namespace L2
open PySem PySem.Spec PyProof.Rows
section
section
variable {prog:E3} {w:Ep} {A:Ew} {E:gV->h7->Prop} {s:h7} {K:Type} [DecidableEq K] {knd:KeyKind prog w K}
theorem kc {es:List G3} {xs:List (K×gV)} (h:Pairs knd es xs):xs.length=es.length:=h.length.symm
theorem zM {nm:String} {a b:Addr} {xa:List (K×gV)} {Q:Bool->h7->Prop} (U:(a==EF)=false) (Y:(b==EF)=false)
 (da:s.heap.DictOf knd a xa) (db:s.heap.DictOf knd b []) (h:Q (xa.length==0) s) :
 DU (model prog w) A (Ji nm a b) Q E s:=by
 obtain ⟨oa,es,ep,q,_,z,Z,B⟩:=da;obtain ⟨ob,es',ep',F,_,G,By,J⟩:=db;have L:xa.length=es.size:=by rw [kc B.1];simp
 have j:es'.size=0:=by have:=kc J.1;simp at this;simp [<- this]
 rw [L] at h;unfold Ji Builtin.Dict.showsAll;rw [if_neg (show ¬ (a==EF)=true by rw [U];exact y2),if_neg (show ¬ (b==EF)=true by rw [Y];exact y2)]
 refine g6 (i4 (g6 (i4 ?_)));refine g6 (IE q z ?_);dsimp only;refine g6 (IE F G ?_)
 by_cases hsz:es.size=es'.size
 case neg =>
  rw [if_pos (by simpa using hsz)]
  have O:(es.size==0)=false:=by rw [j] at hsz;simpa using hsz
  rw [O] at h;exact g6 (Fz (i4 h))
 case pos =>
  have h':Q true s:=by rw [hsz,j] at h;exact h
  rw [if_neg (by rw [hsz];simp)]
  refine g6 (wpAny_dictEpoch q z ?_);refine g6 ?_;rw [Std.Legacy.Range.forIn_eq_forIn_range'];simp only [Std.Legacy.Range.size,Nat.sub_zero,Ki,Nat.div_one];rw [hsz,j];refine i4 ?_;exact i4 h'
theorem AR {a b:Addr} {xa:List (K×gV)} {Q:gV->h7->Prop} (j:A.units < FQ) (q:(a==EF)=false) (z:(b==EF)=false)
 (da:s.heap.DictOf knd a xa) (db:s.heap.DictOf knd b []) (h:Q (.bool (!(xa.length==0))) s) :
 DU (model prog w) A (Eg .NotEq (.ref a) (.ref b)) Q E s:=by
 refine Ic (op := .NotEq) da.typeIs db.typeIs JR (EG JR da.typeIs PySem.F.entry_dict_ne ?_ (PySem.F.args_dict_ne_2 _ _)) j;show DU _ _ (Iv "__ne__" ⟨[.ref a, .ref b],[]⟩ >>= _) _ _ s;refine g6 ?_;unfold Iv;refine g6 (wpAny_notOrdered_dict da.typeIs ?_);show DU _ _ (pure (Eo a,Eo b)) _ _ s;refine i4 ?_;refine g6 (GA (T := "dict") db.typeIs PySem.F.sub_dict_dict ?_);simp only [Bool.not_true,EK,if_false];refine g6 (i4 (g6 (i4 ?_)));refine g6 (zM q z da db ?_);refine i4 ⟨_,rfl, ?_, ?_⟩
 ·exact fun x=>nomatch x
 ·simpa using h
end
namespace Mi
section
variable {X:Cx}
noncomputable def ve:R2d:=fun x y M Q => ∃ a b kvs,x = .ref a/\y = .ref b/\M a=some (.dct false kvs)/\M b=some (.dct false [])/\Q (.bl (!(kvs.length==0))) M
theorem vf:ay ve:=fun _ _ _ _ _ h ⟨a,b,ps,j,z,B,F,q⟩=>⟨a,b,ps,j,z,B,F,h _ _ q⟩
theorem vg (F:X.A.units+2 < FQ):OpR X (Eg .NotEq) (l2 X.K ve):=by
 intro pins s σ H x y v u Q I rx ry h;obtain ⟨x',y',M,rm,rdx,rdy,a,b,kvs,rfl,rfl,h1,h2,q⟩:=h
 cases Mf.mp rdx
 cases Mf.mp rdy
 cases rx
 cases ry
 obtain ⟨ps,j,pr⟩:=rm _ _ h1;obtain ⟨qs,z,pr'⟩:=rm _ _ h2
 cases pr'
 obtain ⟨_,sm,xs,kv,dd⟩:=iu I.hok j;obtain ⟨_,sm',ys,kv',dd'⟩:=iu I.hok z
 cases kv'
 have B:xs.length=kvs.length:=by rw [<- FH kv, <- bU pr]
 refine AR (by lia) sm sm' dd dd' ?_
 rw [B];exact ⟨.bl (!(kvs.length==0)),H,I,rfl,q _ H Ext.refl rm (Me.mpr rfl)⟩
end
section
mutual
noncomputable def GV (K:Frag):D->gV->Prop
 | .int i,v => ∃ t,v = .int i t
 | .str x,v => ∃ t,v = .str x t
 | .tup ds,v => ∃ a o its n,v = .ref a/\K.lookup a=some o/\o.cls = .type "tuple" /\ o.data = .seq its n/\its.size<=DL/\fk ds=false/\GVs K ds its.toList
 | _,_=>False
noncomputable def GVs (K:Frag):List D->List gV->Prop
 | [],us=>us=[]
 | d::ds,us => ∃ u r,us=u::r/\GV K d u/\GVs K ds r
end
theorem GV.ints {K:Frag} {i:Int} {t}:GV K (.int i) (.int i t):=by unfold GV;exact ⟨t,rfl⟩
theorem GV.tups {K:Frag} {ds:List D} {a:Addr} {od sl} {its:Array gV} {n:Nat} (h:K.lookup a=some ⟨.type "tuple",od, .seq its n,sl⟩) (j:its.size<=1000) (f:fk ds=false) (r:GVs K ds its.toList):GV K (.tup ds) (.ref a):=by
 unfold GV;exact ⟨a,_,its,n,rfl,h,rfl,rfl,by rw [q7];lia,f,r⟩
theorem GVs.nil {K:Frag}:GVs K [] []:=by unfold GVs;rfl
theorem GVs.cons {K:Frag} {d:D} {ds:List D} {u:gV} {us:List gV} (h:GV K d u) (r:GVs K ds us):GVs K (d::ds) (u::us):=by unfold GVs;exact ⟨u,us,rfl,h,r⟩
end
section
inductive BOp where | add | sub | mul | fdiv | mod | pow
inductive COp where | eq | ne | lt | le | gt | ge | is | neE | inD | ninD | inT | ninS
inductive BF where | len | abs | max2 | min2 | int | list | sum | all | sorts | lenK
inductive MF where | append
inductive MF0 where | clear
mutual
inductive MG where
 | name (i:Nat)
 | tup (gs:MGs)
inductive MGs where
 | nil
 | cons (g:MG) (r:MGs)
end
mutual
inductive ME where
 | var (i:Nat)
 | int (i:Int)
 | bl (b:Bool)
 | non
 | str (x:Str)
 | bin (op:BOp) (a b:ME)
 | neg (a:ME)
 | cmp (op:COp) (a b:ME)
 | and (es:MEs)
 | or (es:MEs)
 | not (a:ME)
 | ite (c:MT) (a b:ME)
 | tup (es:MEs)
 | lst (es:MEs)
 | ix (a b:ME)
 | call (f:Nat) (es:MEs)
 | blt (f:BF) (es:MEs)
 | isin (a:ME) (T:String)
 | isin2 (a:ME) (T U:String)
 | chain (op op':COp) (a b c:ME)
 | dnew (t:Bool)
 | popk (o k:ME)
 | dget (o k x:ME)
 | meth (m:MF) (o a:ME)
 | comp (fr:List (Option Nat)) (N:List Str) (c:MC)
inductive MEs where
 | nil
 | cons (e:ME) (r:MEs)
inductive MO where
 | none
 | some (e:ME)
inductive MT where
 | tru (e:ME)
 | cmp (op:COp) (a b:ME)
 | chain (op op':COp) (a b c:ME)
 | and (ts:MTs)
 | or (ts:MTs)
 | not (t:MT)
inductive MTs where
 | nil
 | cons (t:MT) (r:MTs)
inductive MI where
 | seq (e:ME)
 | rng1 (a:ME)
 | zip (a b:ME)
 | enum (a:ME)
inductive MC where
 | last (src:MI) (g:MG) (ifs:MTs) (elt:ME)
 | more (src:MI) (g:MG) (ifs:MTs) (rest:MC)
end
mutual
inductive MS where
 | asg (g:MG) (e:ME)
 | par (i j:Nat) (a b:ME)
 | put (o i e:ME)
 | drop (e:ME)
 | ret (e:ME)
 | ite (c:MT) (a b:MSs)
 | for (g:MG) (src:MI) (b:MSs)
 | while (c:MT) (b:MSs)
 | delk (o k:ME)
 | bot
 | pass | brk | cnt
inductive MSs where
 | nil
 | cons (s:MS) (r:MSs)
end
noncomputable def opB:BOp->R2d
 | .add=>gM | .sub=>pB | .mul=>jl | .fdiv=>kx | .mod=>pC | .pow=>pD
noncomputable def opC:COp->R2d
 | .eq=>wEq | .ne=>wNe | .lt=>wLt | .le=>wLe | .gt=>wGt | .ge=>wGe | .is=>wIs| .neE=>ve| .inD=>mH false | .ninD=>mH true | .inT=>pZ | .ninS=>q0
noncomputable def opF:BF->RAd
 | .len=>el| .lenK=>pY | .abs=>lh | .max2=>ky | .min2=>kz | .int=>lj | .list=>pI| .sum=>pJ | .all=>pR| .sorts=>iX
noncomputable def opM:MF->D->List D->Mem->QD->Prop
 | .append=>jo
noncomputable def zN:MF0->D->List D->Mem->QD->Prop
 | .clear=>zy
theorem mL:∀ o,ay (opB o)
 | .add=>uk | .sub=>um | .mul=>uo | .fdiv=>rf | .mod=>uq | .pow=>ur
theorem bf:∀ o,ay (opC o)
 | .eq=>xb | .ne=>xc | .lt=>xh | .le=>xi | .gt=>xj | .ge=>xk | .is=>xH| .neE=>vf| .inD=>mJ | .ninD=>mJ | .inT=>vc | .ninS=>sy
theorem vh:∀ o,b5 (opF o)
 | .len=>lg| .lenK=>kb | .abs=>ll | .max2=>jL | .min2=>jM | .int=>lm | .list=>jN| .sum=>lq | .all=>lV| .sorts=>iY
theorem vj:∀ o,kA (opM o)
 | .append=>gE
noncomputable abbrev Phi:=Nat->RAd
mutual
noncomputable def bG:MG->BT
 | .name i=>cH i
 | .tup gs=>pM (bGs gs)
noncomputable def bGs:MGs->BTs
 | .nil=>gO
 | .cons g r=>cq (bG g) (bGs r)
end
mutual
noncomputable def wE (Φ:Phi):ME->TEd
 | .var i=>gK i
 | .int i=>wC (.int i)
 | .bl b=>wC (.bl b)
 | .non=>wC .non
 | .str x=>wC (.str x)
 | .bin op a b=>wOp (opB op) (wE Φ a) (wE Φ b)
 | .neg a=>wUn pE (wE Φ a)
 | .cmp op a b=>wOp (opC op) (wE Φ a) (wE Φ b)
 | .and es=>wAnds Φ es
 | .or es=>wOrs Φ es
 | .not a=>iH (wE Φ a)
 | .ite c a b=>wIf (wT Φ c) (wE Φ a) (wE Φ b)
 | .tup es=>wAr ji (wA Φ es)
 | .lst es=>wAr kW (wA Φ es)
 | .ix a b=>wOp wIx (wE Φ a) (wE Φ b)
 | .call f es=>wAr (Φ f) (wA Φ es)
 | .blt f es=>wAr (opF f) (wA Φ es)
 | .isin a T=>iJ T (wE Φ a)
 | .isin2 a T U=>fP T U (wE Φ a)
 | .chain op op' a b c=>cK (opC op) (opC op') (wE Φ a) (wE Φ b) (wE Φ c)
 | .dnew t=>iQ t
 | .popk o k=>kC (wE Φ o) (wE Φ k)
 | .dget o k x=>iV (wE Φ o) (wE Φ k) (wE Φ x)
 | .meth m o a=>wBM (opM m) (wE Φ o) (br (wE Φ a) cn)
 | .comp fr _ c=>wCmp Φ fr c
noncomputable def wA (Φ:Phi):MEs->TAd
 | .nil=>cn
 | .cons e r=>br (wE Φ e) (wA Φ r)
noncomputable def wAnds (Φ:Phi):MEs->TEd
 | .nil=>fun _ _ _=>False
 | .cons e .nil=>wE Φ e
 | .cons e (.cons f r)=>iG (wE Φ e) (wAnds Φ (.cons f r))
noncomputable def wOrs (Φ:Phi):MEs->TEd
 | .nil=>fun _ _ _=>False
 | .cons e .nil=>wE Φ e
 | .cons e (.cons f r)=>lB (wE Φ e) (wOrs Φ (.cons f r))
noncomputable def wO (Φ:Phi):MO->TOd
 | .none=>eI
 | .some e=>iI (wE Φ e)
noncomputable def wT (Φ:Phi):MT->TTd
 | .tru e=>lu (wE Φ e)
 | .cmp op a b=>eY (wOp (opC op) (wE Φ a) (wE Φ b))
 | .chain op op' a b c=>eY (cK (opC op) (opC op') (wE Φ a) (wE Φ b) (wE Φ c))
 | .and ts=>wAndTs Φ ts
 | .or ts=>wOrTs Φ ts
 | .not t=>iE (wT Φ t)
noncomputable def wAndTs (Φ:Phi):MTs->TTd
 | .nil=>fun _ _ _=>False
 | .cons e .nil=>wT Φ e
 | .cons e (.cons f r)=>iF (wT Φ e) (wAndTs Φ (.cons f r))
noncomputable def wOrTs (Φ:Phi):MTs->TTd
 | .nil=>fun _ _ _=>False
 | .cons e .nil=>wT Φ e
 | .cons e (.cons f r)=>lw (wT Φ e) (wOrTs Φ (.cons f r))
noncomputable def wTl (Φ:Phi):MTs->List TTd
 | .nil => []
 | .cons t r=>wT Φ t::wTl Φ r
noncomputable def wI (Φ:Phi):MI->TId
 | .seq e=>lD (wE Φ e)
 | .rng1 a=>iK (br (wE Φ a) cn)
 | .zip a b=>lF (wE Φ a) (wE Φ b)
 | .enum a=>iL (wE Φ a)
noncomputable def wCl (Φ:Phi):MC->TCd
 | .last src g ifs elt=>dj (wI Φ src) (bG g) (bu (wTl Φ ifs) (dS (wE Φ elt)))
 | .more src g ifs rest=>dj (wI Φ src) (bG g) (bu (wTl Φ ifs) (wCl Φ rest))
noncomputable def wCmp (Φ:Phi) (fr:List (Option Nat)):MC->TEd
 | .last src g ifs elt=>gc fr (wI Φ src) (bG g) (bu (wTl Φ ifs) (dS (wE Φ elt)))
 | .more src g ifs rest=>gc fr (wI Φ src) (bG g) (bu (wTl Φ ifs) (wCl Φ rest))
end
mutual
noncomputable def wS (Φ:Phi):MS->TSd
 | .asg g e=>gQ (wE Φ e) (bG g)
 | .par i j a b=>lM (br (wE Φ a) (br (wE Φ b) cn)) (cq (cH i) (cq (cH j) gO))
 | .put o i e=>lP (wE Φ e) (wE Φ o) (wE Φ i)
 | .drop e=>iO (wE Φ e)
 | .ret e=>lL (wE Φ e)
 | .ite c a b=>sIf (wT Φ c) (wSs Φ a) (wSs Φ b)
 | .for g src b=>lN (wI Φ src) (bG g) (wSs Φ b)
 | .while c b=>fL (wT Φ c) (wSs Φ b)
 | .delk o k=>kD (wE Φ o) (wE Φ k)
 | .bot=>fun _ _ _=>False
 | .pass=>gd
 | .brk=>fK
 | .cnt=>iN
noncomputable def wSs (Φ:Phi):MSs->TSd
 | .nil=>gd
 | .cons s r=>lK (wS Φ s) (wSs Φ r)
end
section
variable {Φ:Phi} (hΦ:∀ f,b5 (Φ f))
include hΦ
mutual
theorem mE:∀ m,ae (wE Φ m)
 | .var _=>uj
 | .int _=>iD
 | .bl _=>iD
 | .non=>iD
 | .str _=>iD
 | .bin op a b=>eD (mL op) (mE a) (mE b)
 | .neg a=>wX kY (mE a)
 | .cmp op a b=>eD (bf op) (mE a) (mE b)
 | .and es=>mAnds es
 | .or es=>mOrs es
 | .not a=>rn (mE a)
 | .ite c a b=>xu (mT c) (mE a) (mE b)
 | .tup es=>fZ qY (mA es)
 | .lst es=>fZ qZ (mA es)
 | .ix a b=>eD nZ (mE a) (mE b)
 | .call f es=>fZ (hΦ f) (mA es)
 | .blt f es=>fZ (vh f) (mA es)
 | .isin a T=>rB (mE a)
 | .isin2 a T U=>pX (mE a)
 | .chain op op' a b c=>fb (bf op) (bf op') (mE a) (mE b) (mE c)
 | .dnew _=>rO
 | .popk o k=>sC (mE o) (mE k)
 | .dget o k x=>sg (mE o) (mE k) (mE x)
 | .meth m o a=>xz (vj m) (mE o) (aR (mE a) aU)
 | .comp fr _ c=>mCmp fr c
theorem mA:∀ m,bp (wA Φ m)
 | .nil=>aU
 | .cons e r=>aR (mE e) (mA r)
theorem mAnds:∀ m,ae (wAnds Φ m)
 | .nil=>fun _ _ _ _ _ q=>q.elim
 | .cons e .nil=>mE e
 | .cons e (.cons f r)=>rl (mE e) (mAnds (.cons f r))
theorem mOrs:∀ m,ae (wOrs Φ m)
 | .nil=>fun _ _ _ _ _ q=>q.elim
 | .cons e .nil=>mE e
 | .cons e (.cons f r)=>uF (mE e) (mOrs (.cons f r))
theorem mO:∀ m,pL (wO Φ m)
 | .none=>nJ
 | .some e=>rq (mE e)
theorem mT:∀ m,aI (wT Φ m)
 | .tru e=>uD (mE e)
 | .cmp op a b=>kT (eD (bf op) (mE a) (mE b))
 | .chain op op' a b c=>kT (fb (bf op) (bf op') (mE a) (mE b) (mE c))
 | .and ts=>mAndTs ts
 | .or ts=>mOrTs ts
 | .not t=>rh (mT t)
theorem mAndTs:∀ m,aI (wAndTs Φ m)
 | .nil=>fun _ _ _ _ _ q=>q.elim
 | .cons e .nil=>mT e
 | .cons e (.cons f r)=>rj (mT e) (mAndTs (.cons f r))
theorem mOrTs:∀ m,aI (wOrTs Φ m)
 | .nil=>fun _ _ _ _ _ q=>q.elim
 | .cons e .nil=>mT e
 | .cons e (.cons f r)=>uE (mT e) (mOrTs (.cons f r))
theorem mTl:∀ m, ∀ t∈wTl Φ m,aI t
 | .nil=>by rw [wTl];intro t j;simp at j
 | .cons t r=>by
  rw [wTl];intro t' j
  rcases DT.mp j with e | e
  ·rw [e];exact mT t
  ·exact mTl r t' e
theorem mI:∀ m,cr (wI Φ m)
 | .seq e=>uI (mE e)
 | .rng1 a=>rE (aR (mE a) aU)
 | .zip a b=>uJ (mE a) (mE b)
 | .enum a=>rF (mE a)
theorem mCl:∀ m,bT (wCl Φ m)
 | .last src g ifs elt=>gF (mI src) (aV (bC (mE elt)) (mTl ifs))
 | .more src g ifs rest=>gF (mI src) (aV (mCl rest) (mTl ifs))
theorem mCmp (fr:List (Option Nat)):∀ m,ae (wCmp Φ fr m)
 | .last src g ifs elt=>jO (mI src) (aV (bC (mE elt)) (mTl ifs))
 | .more src g ifs rest=>jO (mI src) (aV (mCl rest) (mTl ifs))
end
mutual
theorem mS:∀ m,aT (wS Φ m)
 | .asg g e=>uM (mE hΦ e)
 | .par i j a b=>uN (aR (mE hΦ a) (aR (mE hΦ b) aU))
 | .put o i e=>uT (mE hΦ e) (mE hΦ o) (mE hΦ i)
 | .drop e=>rJ (mE hΦ e)
 | .ret e=>uK (mE hΦ e)
 | .ite c a b=>uL (mT hΦ c) (mSs a) (mSs b)
 | .for g src b=>uO (mI hΦ src) (mSs b)
 | .while c b=>pO (mT hΦ c) (mSs b)
 | .delk o k=>sD (mE hΦ o) (mE hΦ k)
 | .bot=>fun _ _ _ _ _ q=>q
 | .pass=>jQ
 | .brk=>pN
 | .cnt=>rG
theorem mSs:∀ m,aT (wSs Φ m)
 | .nil=>jQ
 | .cons s r=>rH (mS s) (mSs r)
end
end
end
section
structure Ctx where
 Γ:List Str
 N:List Str
 sc:Scope
 fn:List Str
 cs:List (Str×D)
noncomputable def glB (sc:Scope) (x:Str):Bool:=sc.names.lookup x==some .globalImplicit
noncomputable def vm (sc:Scope) (x:Str):Bool:=sc.names.lookup x==some .local || sc.names.lookup x==some .cell || sc.names.lookup x==some .free
noncomputable def vp (sc:Scope) (x:Str):Bool:=sc.names.lookup x==some .local || sc.names.lookup x==some .cell
noncomputable def aW:Expr->Bool
 | .Starred .. => false
 | _=>true
noncomputable def mM:Expr->Bool
 | .Name .. | .Call .. | .Subscript .. | .Constant .. | .BinOp .. | .Attribute .. => true
 | _=>false
noncomputable def eL:Expr->Bool
 | .Slice .. => false
 | _=>true
noncomputable def fQ:Expr->Bool
 | .ListComp .. | .SetComp .. | .DictComp .. => false
 | _=>true
noncomputable def kE:Expr->Bool
 | .Set .. => false
 | _=>true
noncomputable def eM:Expr->Bool
 | .Call .. => false
 | _=>true
noncomputable def opO:BOp->Ko
 | .add => .Add | .sub => .Sub | .mul => .Mult | .fdiv => .FloorDiv | .mod => .Mod | .pow => .Pow
noncomputable def gU:COp->K2
 | .eq => .Eq | .ne => .NotEq | .lt => .Lt | .le => .LtE | .gt => .Gt | .ge => .GtE | .is => .Is| .neE => .NotEq| .inD => .In | .ninD => .NotIn | .inT => .In | .ninS => .NotIn
noncomputable def mN:BF->Str
 | .len => "len"| .lenK => "len" | .abs => "abs" | .max2 => "max" | .min2 => "min" | .int => "int" | .list => "list"| .sum => "sum" | .all => "all"| .sorts => "sorted"
noncomputable def zO:MF->Str
 | .append => "append"
noncomputable def bltNames:List Str := ["len", "abs", "max", "min", "int", "list", "tuple", "sum", "isinstance", "range", "bool", "str", "dict", "zip", "enumerate", "reversed", "sorted", "all", "any", "set"]
noncomputable def gW (sc osc:Scope):Scope :=
 { sc with names:=sc.names.map fun (n,k)=>if (k == .free&&osc.kind == .function&&osc.names.lookup n==some .cell) then (n, .cell) else (n,k) }
theorem nQ (sc:Scope) (env:Env):relabel sc env=gW sc env.scope:=rfl
noncomputable def vq (sc osc:Scope) (oN N':List Str) (fr:List (Option Nat)):Bool :=
 decide (sc.kind = .function)&&decide ((sc.names.map (·.1)).Nodup)&&decide (N'.Nodup)
  && sc.names.all (fun x => !(x.2 == .free) || osc.names.lookup x.1==some .cell || osc.names.lookup x.1==some .free)
  && decide (fr.length=N'.length)
  && (EZ N'.length).all fun i=>match fr[i]?,N'[i]? with
   | some (some j),some x=>decide (oN[j]? = some x)&&sc.names.any (fun y=>decide (y=(x,Eh)))
   | _,_=>true
theorem pk {p:Prop} [d:Decidable p] {t:p->Bool} (h:dite p t (fun _=>false)=true):∃ c,t c=true:=by
 cases d with
 | isTrue c=>exact ⟨c,h⟩
 | isFalse c=>cases h
noncomputable def df (e:Expr) (f:Str->Pos->Bool):Bool:=if h:e.ctorIdx=23 then @LX.elim (fun _=>Bool) e h f else false
@[elab_as_elim]
theorem dY {P:Expr->Prop} (e:Expr) {f:Str->Pos->Bool} (h:df e f=true) (k:∀ a b,f a b=true->P (.Name a b)):P e :=
 (pk h).elim fun c => @LX.elim (fun e => ∀ c, @LX.elim (fun _=>Bool) e c f=true->P e) e c (fun a b _ h=>k a b h) c
noncomputable def cN (e:Expr) (f:Const->Nat->Pos->Bool):Bool:=if h:e.ctorIdx=19 then @K6.elim (fun _=>Bool) e h f else false
@[elab_as_elim]
theorem dZ {P:Expr->Prop} (e:Expr) {f:Const->Nat->Pos->Bool} (h:cN e f=true) (k:∀ a b c,f a b c=true->P (.Constant a b c)):P e :=
 (pk h).elim fun c => @K6.elim (fun e => ∀ c, @K6.elim (fun _=>Bool) e c f=true->P e) e c (fun a b c _ h=>k a b c h) c
noncomputable def sF (e:Expr) (f:Expr->Ko->Expr->Pos->Bool):Bool:=if h:e.ctorIdx=2 then @LQ.elim (fun _=>Bool) e h f else false
@[elab_as_elim]
theorem zP {P:Expr->Prop} (e:Expr) {f:Expr->Ko->Expr->Pos->Bool} (h:sF e f=true) (k:∀ a b c d,f a b c d=true->P (.BinOp a b c d)):P e :=
 (pk h).elim fun c => @LQ.elim (fun e => ∀ c, @LQ.elim (fun _=>Bool) e c f=true->P e) e c (fun a b c d _ h=>k a b c d h) c
noncomputable def fg (e:Expr) (f:UnaryOp->Expr->Pos->Bool):Bool:=if h:e.ctorIdx=3 then @KO.elim (fun _=>Bool) e h f else false
@[elab_as_elim]
theorem gX {P:Expr->Prop} (e:Expr) {f:UnaryOp->Expr->Pos->Bool} (h:fg e f=true) (k:∀ a b c,f a b c=true->P (.UnaryOp a b c)):P e :=
 (pk h).elim fun c => @KO.elim (fun e => ∀ c, @KO.elim (fun _=>Bool) e c f=true->P e) e c (fun a b c _ h=>k a b c h) c
noncomputable def dF (e:Expr) (f:Expr->List K2->List Expr->Pos->Bool):Bool:=if h:e.ctorIdx=15 then @KP.elim (fun _=>Bool) e h f else false
@[elab_as_elim]
theorem fh {P:Expr->Prop} (e:Expr) {f:Expr->List K2->List Expr->Pos->Bool} (h:dF e f=true) (k:∀ a b c d,f a b c d=true->P (.Compare a b c d)):P e :=
 (pk h).elim fun c => @KP.elim (fun e => ∀ c, @KP.elim (fun _=>Bool) e c f=true->P e) e c (fun a b c d _ h=>k a b c d h) c
noncomputable def eN (e:Expr) (f:BoolOp->List Expr->Pos->Bool):Bool:=if h:e.ctorIdx=0 then @Lr.elim (fun _=>Bool) e h f else false
@[elab_as_elim]
theorem gr {P:Expr->Prop} (e:Expr) {f:BoolOp->List Expr->Pos->Bool} (h:eN e f=true) (k:∀ a b c,f a b c=true->P (.BoolOp a b c)):P e :=
 (pk h).elim fun c => @Lr.elim (fun e => ∀ c, @Lr.elim (fun _=>Bool) e c f=true->P e) e c (fun a b c _ h=>k a b c h) c
noncomputable def sH (e:Expr) (f:Expr->Expr->Expr->Pos->Bool):Bool:=if h:e.ctorIdx=5 then @LR.elim (fun _=>Bool) e h f else false
@[elab_as_elim]
theorem zQ {P:Expr->Prop} (e:Expr) {f:Expr->Expr->Expr->Pos->Bool} (h:sH e f=true) (k:∀ a b c d,f a b c d=true->P (.IfExp a b c d)):P e :=
 (pk h).elim fun c => @LR.elim (fun e => ∀ c, @LR.elim (fun _=>Bool) e c f=true->P e) e c (fun a b c d _ h=>k a b c d h) c
noncomputable def cO (e:Expr) (f:List Expr->Nat->Pos->Bool):Bool:=if h:e.ctorIdx=25 then @LS.elim (fun _=>Bool) e h f else false
@[elab_as_elim]
theorem dG {P:Expr->Prop} (e:Expr) {f:List Expr->Nat->Pos->Bool} (h:cO e f=true) (k:∀ a b c,f a b c=true->P (.Tuple a b c)):P e :=
 (pk h).elim fun c => @LS.elim (fun e => ∀ c, @LS.elim (fun _=>Bool) e c f=true->P e) e c (fun a b c _ h=>k a b c h) c
noncomputable def we (e:Expr) (f:List Expr->Pos->Bool):Bool:=if h:e.ctorIdx=24 then @LY.elim (fun _=>Bool) e h f else false
@[elab_as_elim]
theorem AS {P:Expr->Prop} (e:Expr) {f:List Expr->Pos->Bool} (h:we e f=true) (k:∀ a b,f a b=true->P (.List a b)):P e :=
 (pk h).elim fun c => @LY.elim (fun e => ∀ c, @LY.elim (fun _=>Bool) e c f=true->P e) e c (fun a b _ h=>k a b h) c
noncomputable def dg (e:Expr) (f:Expr->Expr->Pos->Bool):Bool:=if h:e.ctorIdx=21 then @JS.elim (fun _=>Bool) e h f else false
@[elab_as_elim]
theorem fi {P:Expr->Prop} (e:Expr) {f:Expr->Expr->Pos->Bool} (h:dg e f=true) (k:∀ a b c,f a b c=true->P (.Subscript a b c)):P e :=
 (pk h).elim fun c => @JS.elim (fun e => ∀ c, @JS.elim (fun _=>Bool) e c f=true->P e) e c (fun a b c _ h=>k a b c h) c
noncomputable def q8 (e:Expr) (f:Expr->List Expr->List I8->Pos->Bool):Bool:=if h:e.ctorIdx=16 then @LZ.elim (fun _=>Bool) e h f else false
@[elab_as_elim]
theorem wf {P:Expr->Prop} (e:Expr) {f:Expr->List Expr->List I8->Pos->Bool} (h:q8 e f=true) (k:∀ a b c d,f a b c d=true->P (.Call a b c d)):P e :=
 (pk h).elim fun c => @LZ.elim (fun e => ∀ c, @LZ.elim (fun _=>Bool) e c f=true->P e) e c (fun a b c d _ h=>k a b c d h) c
noncomputable def iZ (e:Expr) (f:Expr->Str->Pos->Bool):Bool:=if h:e.ctorIdx=20 then @JT.elim (fun _=>Bool) e h f else false
@[elab_as_elim]
theorem q9 {P:Expr->Prop} (e:Expr) {f:Expr->Str->Pos->Bool} (h:iZ e f=true) (k:∀ a b c,f a b c=true->P (.Attribute a b c)):P e :=
 (pk h).elim fun c => @JT.elim (fun e => ∀ c, @JT.elim (fun _=>Bool) e c f=true->P e) e c (fun a b c _ h=>k a b c h) c
noncomputable def ke (e:Expr) (f:Expr->List EA->Scope->Pos->Bool):Bool:=if h:e.ctorIdx=8 then @K7.elim (fun _=>Bool) e h f else false
@[elab_as_elim]
theorem sJ {P:Expr->Prop} (e:Expr) {f:Expr->List EA->Scope->Pos->Bool} (h:ke e f=true) (k:∀ a b c d,f a b c d=true->P (.ListComp a b c d)):P e :=
 (pk h).elim fun c => @K7.elim (fun e => ∀ c, @K7.elim (fun _=>Bool) e c f=true->P e) e c (fun a b c d _ h=>k a b c d h) c
noncomputable def wg (e:Expr) (f:List (Option Expr)->List Expr->Pos->Bool):Bool:=if h:e.ctorIdx=6 then @Ma.elim (fun _=>Bool) e h f else false
@[elab_as_elim]
theorem AT {P:Expr->Prop} (e:Expr) {f:List (Option Expr)->List Expr->Pos->Bool} (h:wg e f=true) (k:∀ a b c,f a b c=true->P (.Dict a b c)):P e :=
 (pk h).elim fun c => @Ma.elim (fun e => ∀ c, @Ma.elim (fun _=>Bool) e c f=true->P e) e c (fun a b c _ h=>k a b c h) c
noncomputable def fj (e:Stmt) (f:List Expr->Expr->Pos->Bool):Bool:=if h:e.ctorIdx=5 then @Ls.elim (fun _=>Bool) e h f else false
@[elab_as_elim]
theorem gY {P:Stmt->Prop} (e:Stmt) {f:List Expr->Expr->Pos->Bool} (h:fj e f=true) (k:∀ a b c,f a b c=true->P (.Assign a b c)):P e :=
 (pk h).elim fun c => @Ls.elim (fun e => ∀ c, @Ls.elim (fun _=>Bool) e c f=true->P e) e c (fun a b c _ h=>k a b c h) c
noncomputable def mP (e:Stmt) (f:List Expr->Pos->Bool):Bool:=if h:e.ctorIdx=4 then @Lu.elim (fun _=>Bool) e h f else false
@[elab_as_elim]
theorem vt {P:Stmt->Prop} (e:Stmt) {f:List Expr->Pos->Bool} (h:mP e f=true) (k:∀ a b,f a b=true->P (.Delete a b)):P e :=
 (pk h).elim fun c => @Lu.elim (fun e => ∀ c, @Lu.elim (fun _=>Bool) e c f=true->P e) e c (fun a b _ h=>k a b h) c
noncomputable def sK (e:Stmt) (f:Expr->Pos->Bool):Bool:=if h:e.ctorIdx=24 then @Mb.elim (fun _=>Bool) e h f else false
@[elab_as_elim]
theorem zR {P:Stmt->Prop} (e:Stmt) {f:Expr->Pos->Bool} (h:sK e f=true) (k:∀ a b,f a b=true->P (.Expr a b)):P e :=
 (pk h).elim fun c => @Mb.elim (fun e => ∀ c, @Mb.elim (fun _=>Bool) e c f=true->P e) e c (fun a b _ h=>k a b h) c
noncomputable def mQ (e:Stmt) (f:Option Expr->Pos->Bool):Bool:=if h:e.ctorIdx=3 then @Lv.elim (fun _=>Bool) e h f else false
@[elab_as_elim]
theorem vw {P:Stmt->Prop} (e:Stmt) {f:Option Expr->Pos->Bool} (h:mQ e f=true) (k:∀ a b,f a b=true->P (.Return a b)):P e :=
 (pk h).elim fun c => @Lv.elim (fun e => ∀ c, @Lv.elim (fun _=>Bool) e c f=true->P e) e c (fun a b _ h=>k a b h) c
noncomputable def zS (e:Stmt) (f:Expr->List Stmt->List Stmt->Pos->Bool):Bool:=if h:e.ctorIdx=12 then @Stmt.If.elim (fun _=>Bool) e h f else false
@[elab_as_elim]
theorem Br {P:Stmt->Prop} (e:Stmt) {f:Expr->List Stmt->List Stmt->Pos->Bool} (h:zS e f=true) (k:∀ a b c d,f a b c d=true->P (.If a b c d)):P e :=
 (pk h).elim fun c => @Stmt.If.elim (fun e => ∀ c, @Stmt.If.elim (fun _=>Bool) e c f=true->P e) e c (fun a b c d _ h=>k a b c d h) c
noncomputable def wj (e:Stmt) (f:Expr->Expr->List Stmt->List Stmt->Pos->Bool):Bool:=if h:e.ctorIdx=9 then @Stmt.For.elim (fun _=>Bool) e h f else false
@[elab_as_elim]
theorem AU {P:Stmt->Prop} (e:Stmt) {f:Expr->Expr->List Stmt->List Stmt->Pos->Bool} (h:wj e f=true) (k:∀ a b c d e,f a b c d e=true->P (.For a b c d e)):P e :=
 (pk h).elim fun c => @Stmt.For.elim (fun e => ∀ c, @Stmt.For.elim (fun _=>Bool) e c f=true->P e) e c (fun a b c d e _ h=>k a b c d e h) c
noncomputable def ox (e:Stmt) (f:Expr->List Stmt->List Stmt->Pos->Bool):Bool:=if h:e.ctorIdx=11 then @LU.elim (fun _=>Bool) e h f else false
@[elab_as_elim]
theorem y3 {P:Stmt->Prop} (e:Stmt) {f:Expr->List Stmt->List Stmt->Pos->Bool} (h:ox e f=true) (k:∀ a b c d,f a b c d=true->P (.While a b c d)):P e :=
 (pk h).elim fun c => @LU.elim (fun e => ∀ c, @LU.elim (fun _=>Bool) e c f=true->P e) e c (fun a b c d _ h=>k a b c d h) c
noncomputable def sL (e:Stmt) (f:Pos->Bool):Bool:=if h:e.ctorIdx=25 then @Mc.elim (fun _=>Bool) e h f else false
@[elab_as_elim]
theorem zT {P:Stmt->Prop} (e:Stmt) {f:Pos->Bool} (h:sL e f=true) (k:∀ a,f a=true->P (.Pass a)):P e :=
 (pk h).elim fun c => @Mc.elim (fun e => ∀ c, @Mc.elim (fun _=>Bool) e c f=true->P e) e c (fun a _ h=>k a h) c
noncomputable def oz (e:Stmt) (f:Pos->Bool):Bool:=if h:e.ctorIdx=26 then @LV.elim (fun _=>Bool) e h f else false
@[elab_as_elim]
theorem y4 {P:Stmt->Prop} (e:Stmt) {f:Pos->Bool} (h:oz e f=true) (k:∀ a,f a=true->P (.Break a)):P e :=
 (pk h).elim fun c => @LV.elim (fun e => ∀ c, @LV.elim (fun _=>Bool) e c f=true->P e) e c (fun a _ h=>k a h) c
noncomputable def j3 (e:Stmt) (f:Pos->Bool):Bool:=if h:e.ctorIdx=27 then @K8.elim (fun _=>Bool) e h f else false
@[elab_as_elim]
theorem qb {P:Stmt->Prop} (e:Stmt) {f:Pos->Bool} (h:j3 e f=true) (k:∀ a,f a=true->P (.Continue a)):P e :=
 (pk h).elim fun c => @K8.elim (fun e => ∀ c, @K8.elim (fun _=>Bool) e c f=true->P e) e c (fun a _ h=>k a h) c
noncomputable def lv0 {α:Type} (xs:List α) (b:Bool):Bool:=xs.isEmpty&&b
noncomputable def lvc {α:Type} (xs:List α) (f : α -> List α -> Bool):Bool:=match xs with
 | y::r=>f y r
 | [] => false
noncomputable def lv1 {α:Type} (xs:List α) (f : α -> Bool):Bool:=lvc xs fun y r=>lv0 r (f y)
noncomputable def lv2 {α:Type} (xs:List α) (f : α -> α -> Bool):Bool:=lvc xs fun y r=>lv1 r (f y)
noncomputable def os {α:Type} (o:Option α) (f : α -> Bool):Bool:=match o with
 | some x=>f x
 | none=>false
@[elab_as_elim]
theorem gZ {α:Type} {P:List α -> Prop} (xs:List α) {b:Bool} (h:lv0 xs b=true) (k:b=true->P []):P xs:=by
 cases xs with
 | nil=>exact k h
 | cons _ _=>cases h
@[elab_as_elim]
theorem zU {α:Type} {P:List α -> Prop} (xs:List α) {f : α -> List α -> Bool} (h:lvc xs f=true) (k:∀ y r,f y r=true->P (y::r)):P xs:=by
 cases xs with
 | nil=>cases h
 | cons y r=>exact k y r h
@[elab_as_elim]
theorem cA {α:Type} {P:List α -> Prop} (xs:List α) {f : α -> Bool} (h:lv1 xs f=true) (k:∀ y,f y=true->P [y]):P xs :=
 zU xs h fun y r h=>gZ r h fun h=>k y h
@[elab_as_elim]
theorem dH {α:Type} {P:List α -> Prop} (xs:List α) {f : α -> α -> Bool} (h:lv2 xs f=true) (k:∀ y z,f y z=true->P [y,z]):P xs :=
 zU xs h fun y r h=>cA r h fun z h=>k y z h
@[elab_as_elim]
theorem jos {α:Type} {P:Option α -> Prop} (o:Option α) {f : α -> Bool} (h:os o f=true) (k:∀ x,f x=true->P (some x)):P o:=by
 cases o with
 | none=>cases h
 | some x=>exact k x h
theorem bM {a b:Bool} (h:(a&&b)=true):a=true/\b=true:=by rwa [hH] at h
noncomputable def cP (e:Expr) (g:Str->List Expr->Bool):Bool:=q8 e fun f xs ks _=>lv0 ks (df f fun x _=>g x xs)
@[elab_as_elim]
theorem dJ {P:Expr->Prop} (e:Expr) {g:Str->List Expr->Bool} (h:cP e g=true) (k:∀ x xs p pos,g x xs=true->P (.Call (.Name x p) xs [] pos)):P e :=
 wf e h fun f xs ks pos h=>gZ ks h fun h=>dY f h fun x p h=>k x xs p pos h
noncomputable def kF (e:Expr) (g:Expr->Str->List Expr->Pos->Pos->Bool):Bool:=q8 e fun f xs ks p=>lv0 ks (iZ f fun o n q=>g o n xs q p)
@[elab_as_elim]
theorem qc {P:Expr->Prop} (e:Expr) {g:Expr->Str->List Expr->Pos->Pos->Bool} (h:kF e g=true) (k:∀ o n xs q p,g o n xs q p=true->P (.Call (.Attribute o n q) xs [] p)):P e :=
 wf e h fun f xs ks pos h=>gZ ks h fun h=>q9 f h fun o n q h=>k o n xs q pos h
mutual
noncomputable def okG:MG->Ctx->Expr->Bool
 | .name i,C,e=>df e fun x _=>decide (C.N[i]? = some x)&&vp C.sc x&&(C.sc.names.lookup x==some .local || C.fn.contains x)
 | .tup gs,C,e=>cO e fun es _ _=>okGs gs C es
noncomputable def okGs:MGs->Ctx->List Expr->Bool
 | .nil,_,es=>es.isEmpty
 | .cons g r,C,es=>match es with
  | e::es=>aW e&&okG g C e&&okGs r C es
  | [] => false
end
mutual
noncomputable def okE:ME->Ctx->Expr->Bool
 | .var i,C,e=>df e fun x _=>decide (C.N[i]? = some x)&&vm C.sc x && !(x==("__debug__":Str)) && !(x==("__classdict__":Str))
 | .int i,_,e=>cN e fun c _ _=>decide (c = .int i)
 | .bl i,_,e=>cN e fun c _ _=>decide (c = .bool i)
 | .non,_,e=>cN e fun c _ _=>decide (c = .none)
 | .str i,_,e=>cN e fun c _ _=>decide (c = .str i)
 | .bin op a b,C,e=>sF e fun l o r _=>decide (o=opO op)&&okE a C l&&okE b C r
 | .neg a,C,e=>fg e fun o x _=>decide (o = .USub)&&okE a C x
 | .cmp op a b,C,e=>dF e fun l os rs _=>lv1 os fun o=>lv1 rs fun r=>decide (o=gU op)&&okE a C l&&okE b C r && !(GF o r)
 | .and es,C,e=>eN e fun o xs _=>decide (o = .And) && !xs.isEmpty&&okEs es C xs
 | .or es,C,e=>eN e fun o xs _=>decide (o = .Or) && !xs.isEmpty&&okEs es C xs
 | .not a,C,e=>fg e fun o x _=>decide (o = .Not)&&okE a C x
 | .ite c a b,C,e=>sH e fun t x y _=>okT c C t&&okE a C x&&okE b C y
 | .tup es,C,e=>cO e fun xs _ _=>okEs es C xs
 | .lst es,C,e=>we e fun xs _=>okEs es C xs
 | .ix a b,C,e=>dg e fun x y _=>eL y&&okE a C x&&okE b C y
 | .call f es,C,e=>cP e fun x xs=>decide (C.Γ[f]? = some x)&&glB C.sc x && !(x==("__debug__":Str))&&okEs es C xs
 | .blt f es,C,e=>cP e fun x xs=>decide (x=mN f)&&glB C.sc x && !xs.isEmpty&&okEs es C xs
 | .isin2 a T U,C,e=>cP e fun x xs=>lv2 xs fun y w=>cO w fun ws _ _=>lv2 ws fun z' v'=>df z' fun z _=>df v' fun v _=>decide (x = "isinstance")&&glB C.sc x&&glB C.sc z&&glB C.sc v&&decide (z=h6 T)&&decide (v=h6 U)&&decide (T∈["bool", "int", "str", "tuple", "list", "dict"])&&decide (U∈["bool", "int", "str", "tuple", "list", "dict"])&&aW y&&okE a C y
 | .isin a T,C,e=>cP e fun x xs=>lv2 xs fun y w=>df w fun z _=>decide (x = "isinstance")&&glB C.sc x&&glB C.sc z&&decide (z=h6 T)&&decide (T∈["bool", "int", "str", "tuple", "list", "dict"])&&aW y&&okE a C y
 | .chain op op' a b c,C,e=>dF e fun l os rs _=>lv2 os fun o o'=>lv2 rs fun r q=>decide (o=gU op)&&decide (o'=gU op')&&okE a C l&&okE b C r&&okE c C q && !(IP [o,o'] [r,q])
 | .dnew _,_,e=>wg e fun ks vs _=>lv0 ks (lv0 vs true)
 | .popk o k,C,e=>kF e fun y n xs ap cp=>lv1 xs fun e1=>decide (n = "pop")&&eM y&&(ap.endLine==cp.line)&&aW e1&&okE o C y&&okE k C e1
 | .dget o k x,C,e=>kF e fun y n xs ap cp=>lv2 xs fun e1 e2=>decide (n = "get")&&eM y&&(ap.endLine==cp.line)&&aW e1&&aW e2&&okE o C y&&okE k C e1&&okE x C e2
 | .meth m o a,C,e=>kF e fun x n xs ap cp=>lv1 xs fun y=>decide (n=zO m)&&eM x&&(ap.endLine==cp.line)&&aW y&&okE o C x&&okE a C y
 | .comp fr N' c,C,e=>ke e fun elt gens sc _=>vq sc C.sc C.N N' fr&&okC c C ⟨C.Γ,N',gW sc C.sc,(sc.names.filter (·.2 == .cell)).map (·.1),C.cs⟩ gens elt
noncomputable def okEs:MEs->Ctx->List Expr->Bool
 | .nil,_,es=>es.isEmpty
 | .cons m r,C,es=>match es with
  | e::es=>aW e&&okE m C e&&okEs r C es
  | [] => false
noncomputable def okO:MO->Ctx->Option Expr->Bool
 | .none,_,e=>e.isNone
 | .some m,C,e=>match e with
  | some e=>okE m C e
  | none=>false
noncomputable def okT:MT->Ctx->Expr->Bool
 | .tru m,C,e=>mM e&&okE m C e
 | .cmp op a b,C,e=>dF e fun l os rs _=>lv1 os fun o=>lv1 rs fun r=>decide (o=gU op)&&okE a C l&&okE b C r && !(GF o r)
 | .chain op op' a b c,C,e=>dF e fun l os rs _=>lv2 os fun o o'=>lv2 rs fun r q=>decide (o=gU op)&&decide (o'=gU op')&&okE a C l&&okE b C r&&okE c C q && !(IP [o,o'] [r,q])
 | .and ts,C,e=>eN e fun o xs _=>decide (o = .And) && !xs.isEmpty&&okTs ts C xs
 | .or ts,C,e=>eN e fun o xs _=>decide (o = .Or) && !xs.isEmpty&&okTs ts C xs
 | .not t,C,e=>fg e fun o x _=>decide (o = .Not)&&okT t C x
noncomputable def okTs:MTs->Ctx->List Expr->Bool
 | .nil,_,es=>es.isEmpty
 | .cons m r,C,es=>match es with
  | e::es=>okT m C e&&okTs r C es
  | [] => false
noncomputable def okI:MI->Ctx->Expr->Expr->Bool
 | .seq m,C,_,e=>kE e&&okE m C e
 | .rng1 a,C,_,e=>cP e fun x xs=>lv1 xs fun y=>decide (x = "range")&&glB C.sc x&&aW y&&okE a C y
 | .enum a,C,t,e=>cP e fun x xs=>lv1 xs fun y=>cO t fun _ _ _=>decide (x = "enumerate")&&glB C.sc x&&aW y&&okE a C y
 | .zip a b,C,t,e=>cP e fun x xs=>lv2 xs fun y z=>cO t fun _ _ _=>decide (x = "zip")&&glB C.sc x&&aW y&&aW z&&okE a C y&&okE b C z
noncomputable def okC:MC->Ctx->Ctx->List EA->Expr->Bool
 | .last src g ifs m,Cs,C,gens,elt=>match gens with
  | [⟨t,it,fs,a⟩] => decide (a=0)&&okI src Cs t it&&okG g C t&&okTs ifs C fs&&okE m C elt
  | _=>false
 | .more src g ifs rest,Cs,C,gens,elt=>match gens with
  | ⟨t,it,fs,a⟩::g2::gs=>decide (a=0)&&okI src Cs t it&&okG g C t&&okTs ifs C fs&&okC rest C C (g2::gs) elt
  | _=>false
end
noncomputable def b7 (sc:Scope) (ts:List Expr):List Str:=ts.filterMap fun
 | .Name id pos=>if sc.names.lookup id==some .local&&pos.line==(ts.head?.map (·.pos.line)).getD 0 then some id else none
 | _=>none
noncomputable def qd (sc:Scope) (ts vs:List Expr):Bool := !(ts.length==2 || ts.length==3) || vs.length != ts.length || (b7 sc ts).length != ts.length || (b7 sc ts).eraseDups.length != (b7 sc ts).length || vs.all (K9 8)
noncomputable def qe (C:Ctx) (i:Nat) (x:Str):Bool:=decide (C.N[i]? = some x)&&decide (C.sc.names.lookup x=some .local)
noncomputable def qf (sc:Scope) (ts vs:List Expr) (ns:List Str):Bool := !(!(ts.length==2 || ts.length==3) || vs.length != ts.length) && !(vs.any fun | .Starred .. => true | _=>false)&&decide (b7 sc ts=ns) && !((b7 sc ts).length != ts.length || (b7 sc ts).eraseDups.length != (b7 sc ts).length) && !(vs.all (K9 8)) && !(vs.all (constantsAlone 8))
noncomputable def j4 (sc:Scope) (tg e:Expr):Bool:=match tg,e with
 | .Tuple ts _ _, .Tuple vs _ _=>qd sc ts vs
 | .Tuple ..,_=>true
 | .Name ..,_=>true
 | _,_=>false
noncomputable def zV (sc:Scope) (x:Str) (px:Pos) (e:Expr):Bool:=match e with
 | .DictComp _ _ _ s _ => !(sc.names.lookup x==some .local&&px.line==e.pos.line && !(s.names.any fun (n,k)=>n==x&&(k == .local || k == .cell)))
 | _=>true
noncomputable def qg (sc:Scope) (x:Str) (px:Pos) (e:Expr):Bool:=match e with
 | .ListComp _ _ s _=>sc.names.lookup x==some .local&&px.line==e.pos.line && !(s.names.any fun (n,k)=>n==x&&(k == .local || k == .cell))
 | _=>false
mutual
noncomputable def okS:MS->Ctx->Stmt->Bool
 | .asg g m,C,s=>fj s fun ts e _=>lv1 ts fun tg=>okG g C tg&&okE m C e&&j4 C.sc tg e&&(match tg with | .Name x px=>zV C.sc x px e | _=>fQ e)
 | .par i j a b,C,s=>fj s fun ts e _=>lv1 ts fun tg=>cO tg fun ts _ _=>cO e fun es _ _=>lv2 ts fun t u=>lv2 es fun e f=>df t fun x px=>df u fun y py=>qe C i x&&qe C j y&&decide (i≠j)&&aW e&&aW f&&okE a C e&&okE b C f&&qf C.sc [.Name x px, .Name y py] [e,f] [x,y]
 | .put o i m,C,s=>fj s fun ts e _=>lv1 ts fun tg=>dg tg fun x y _=>eL y&&fQ e&&okE o C x&&okE i C y&&okE m C e
 | .drop m,C,s=>sK s fun e _=>fQ e&&okE m C e
 | .ret m,C,s=>mQ s fun o _=>os o fun e=>okE m C e
 | .ite c a b,C,s=>zS s fun t x y _=>okT c C t&&okSs a C x&&okSs b C y
 | .for g src b,C,s=>wj s fun tg it body els _=>lv0 els (kE it&&okG g C tg&&okI src C tg it&&okSs b C body)
 | .while c b,C,s=>ox s fun t body els _=>lv0 els (okT c C t&&okSs b C body)
 | .delk o k,C,s=>mP s fun ts _=>lv1 ts fun t=>dg t fun x y _=>okE o C x&&okE k C y
 | .bot,_,_=>true
 | .pass,_,s=>sL s fun _=>true
 | .brk,_,s=>oz s fun _=>true
 | .cnt,_,s=>j3 s fun _=>true
noncomputable def okSs:MSs->Ctx->List Stmt->Bool
 | .nil,_,ss=>ss.isEmpty
 | .cons m r,C,ss=>match ss with
  | s::ss=>okS m C s&&okSs r C ss
  | [] => false
end
theorem ao {e:Expr} {es:List Expr} {env:Env} (h:aW e=true):E4 (e::es) env=(false,eval e env)::E4 es env:=by
 cases e <;> first | rfl | (simp [aW] at h;done)
theorem kf {e:Expr} {es:List Expr} {env:Env} (h:aW e=true):Fk (e::es) env=(false,assign e env)::Fk es env:=by
 cases e <;> first | rfl | (simp [aW] at h;done)
theorem qh {e:Expr} {env:Env} (h:mM e=true):∀ whole,isTrue e env whole=(do let v <- whole;Iz e.pos;holding [v] (truthy v)):=by
 intro w
 cases e <;> first | rfl | (simp [mM] at h;done)
theorem vx {e:Expr} (h:eL e=true):jf e:=by
 intro o i
 cases e <;> first | rfl | (simp [eL] at h;done)
theorem sM {e:Expr} {env:Env} (h:kE e=true):∀ x,Fv e env x=pure x:=by
 intro x
 cases e <;> first | rfl | (simp [kE] at h;done)
theorem hJ {e:Expr} {n:Str} {env:Env} (h:eM e=true):IF e n env (eval e env)=eval e env:=by
 cases e <;> first | rfl | (simp [eM] at h;done)
theorem jt {e:Expr} {t:Option Expr} {l:Nat} {env:Env} (h:fQ e=true):GY e t l env=pure false:=by
 cases e <;> first | rfl | (simp [fQ] at h;done)
end
section
noncomputable def lSp (K:Frag) (r:RAd):Sp:=fun vs H Q _=>lR K r vs H Q
structure Good (C:Ctx) (Φ:Phi) (k:Nat) (X:Cx):Prop where
 hx:∀ e s,X.xe e s->False
 calm:X.calm=true
 N:X.N=C.N
 sc:X.env.scope=C.sc
 nd:X.N.Nodup
 fn:∀ x∈C.fn,X.fn x=true
 room:Room k X.A
 mgB:∀ x∈bltNames,X.mg x=none
 fns:∀ (i:Nat) (x:Str),C.Γ[i]? = some x -> ∃ f fd ps,X.mg x=some (.ref f)/\Hh X.K EM x=some (some (.ref f))/\Gw X.K (.ref f)=true/\Binds X.K fd ps []/\dy X.prog X.w X.K X.mg X.base CX0 k f fd ps (lSp X.K (Φ i))
 mono:∀ f,b5 (Φ f)
 cs:∀ x d,(x,d)∈C.cs -> ∃ u,X.mg x=some u/\GV X.K d u
section
variable {C:Ctx} {Φ:Phi} {k:Nat} {X:Cx}
theorem Good.units (G:Good C Φ k X):X.A.units+64 < FQ:=G.room.units
theorem Good.gl (G:Good C Φ k X) {x:Str} (h:glB C.sc x=true):Gl X x:=by
 show X.env.scope.names.lookup x=_;rw [G.sc];simpa [glB] using h
theorem Good.vis (G:Good C Φ k X) {x:Str} (h:vm C.sc x=true):Vis X.env.scope x:=by
 unfold Vis;rw [G.sc];simp [vm] at h
 rcases h with (h | h) | h
 ·exact .inl h
 ·exact .inr (.inl h)
 ·exact .inr (.inr h)
theorem Good.loc (G:Good C Φ k X) {x:Str} (h:vp C.sc x=true):Loc X.env.scope x:=by
 unfold Loc;rw [G.sc];simpa [vp] using h
theorem Good.own (G:Good C Φ k X) {x:Str} (h:(C.sc.names.lookup x==some .local || C.fn.contains x)=true):X.fn x=true∨X.env.scope.names.lookup x=some .local:=by
 rw [G.sc];simp at h
 rcases h with h | h
 ·exact .inr h
 ·exact .inl (G.fn x h)
theorem zW (G:Good C Φ k X):∀ o:BOp,OpR X (F7 (opO o)) (l2 X.K (opB o))
 | .add=>ut | .sub=>uu | .mul=>uv | .fdiv=>rg | .mod=>uz | .pow=>uA
theorem dm (G:Good C Φ k X):∀ o:COp,OpR X (Eg (gU o)) (l2 X.K (opC o))
 | .eq=>xf (by have:=G.units;lia) | .ne=>xg (by have:=G.units;lia) | .lt=>xm | .le=>xo | .gt=>xp | .ge=>xq | .is=>xJ| .neE=>vg (by have:=G.units;lia)| .inD=>va (by have:=G.units;lia) | .ninD=>su (by have:=G.units;lia) | .inT=>vd | .ninS=>sB
theorem zX (G:Good C Φ k X) {f:BF} {e:Expr} {es:List Expr} {t:TAd} {p pos:Pos} (mt:bp t) (q:Gl X (mN f)) (z:PA X (e::es) (lA X.K t))
 (he:E4 (e::es) X.env=(false,eval e X.env)::E4 es X.env) (j:(Gu pos (E4 es X.env)).any (·.1)=false):PE X (.Call (.Name (mN f) p) (e::es) [] pos) (lE X.K (wAr (opF f) t)):=by
 cases f with
 | lenK=>exact PE.imp (bw nP q (G.mgB _ (by decide)) PySem.boot_len z (by decide) (by decide) he j) (bA kb mt)
 | len=>exact PE.imp (bw pF q (G.mgB _ (by decide)) PySem.boot_len z (by decide) (by decide) he j) (bA lg mt)
 | abs=>exact PE.imp (bw pG q (G.mgB _ (by decide)) (by decide +kernel) z (by decide) (by decide) he j) (bA ll mt)
 | max2=>exact PE.imp (bw (nG G.calm) q (G.mgB _ (by decide)) (by decide +kernel) z (by decide) (by decide) he j) (bA jL mt)
 | min2=>exact PE.imp (bw (nH G.calm) q (G.mgB _ (by decide)) (by decide +kernel) z (by decide) (by decide) he j) (bA jM mt)
 | int=>exact PE.imp (jD pH q (G.mgB _ (by decide)) (by decide +kernel) z (by decide) (by decide) he j) (bA lm mt)
 | list=>exact PE.imp (jD nI q (G.mgB _ (by decide)) (by decide +kernel) z (by decide) (by decide) he j) (bA jN mt)
 | sum=>exact PE.imp (bw (pK G.calm) q (G.mgB _ (by decide)) (by decide +kernel) z (by decide) (by decide) he j) (bA lq mt)
 | all=>exact PE.imp (bw (pS G.calm) q (G.mgB _ (by decide)) (by decide +kernel) z (by decide) (by decide) he j) (bA lV mt)
 | sorts=>exact PE.imp (bw (mF (by have:=G.units;lia) G.calm) q (G.mgB _ (by decide)) (by decide +kernel) z (by decide) (by decide) he j) (bA iY mt)
theorem y7 (G:Good C Φ k X) {f:Nat} {x:Str} {e:Expr} {es:List Expr} {t:TAd} {p pos:Pos} (mt:bp t) (hf:C.Γ[f]? = some x) (z:Gl X x) (j:(x==("__debug__":Str))=false) (B:PA X (e::es) (lA X.K t))
 (he:E4 (e::es) X.env=(false,eval e X.env)::E4 es X.env) (q:(Gu pos (E4 es X.env)).any (·.1)=false):PE X (.Call (.Name x p) (e::es) [] pos) (lE X.K (wAr (Φ f) t)):=by
 obtain ⟨a,fd,ps,hm,_,J,L,F⟩:=G.fns f x hf;refine PE.imp (wL F G.room z hm J L .nil vU B j he q) fun σ H Q h => ?_;have h2:=bA (G.mono f) mt σ H Q h;have:(fun vs H1=>lSp X.K (Φ f) (vs++[]) H1 Q E0)=fun vs H1=>lR X.K (Φ f) vs H1 Q:=by
  funext vs H1;rw [Fb];rfl
 show (lA X.K t) σ H _;rw [this];exact h2
theorem vy (G:Good C Φ k X) {f:Nat} {x:Str} {p pos:Pos} (hf:C.Γ[f]? = some x) (z:Gl X x) (j:(x==("__debug__":Str))=false):PE X (.Call (.Name x p) [] [] pos) (lE X.K (wAr (Φ f) cn)):=by
 obtain ⟨a,fd,ps,hm,_,B,J,F⟩:=G.fns f x hf;refine PE.imp (u6 F G.room z hm B J .nil vU j) fun σ H Q h => ?_;obtain ⟨ρ,M,rs,rm,q⟩:=h;exact ⟨[],M,rm,RDs.nil,q⟩
theorem hW {env:Env} {pos:Pos}:∀ {es:List Expr},es.all aW=true->(Gu pos (E4 es env)).any (·.1)=false
 | [],_=>rfl
 | e::es,h=>by
   simp only [Gk,hH] at h;rw [ao h.1];show (false || (Gu pos (E4 es env)).any (·.1))=false
   rw [hW h.2];rfl
theorem fR:∀ {ms:MEs} {es:List Expr},okEs ms C es=true->es.all aW=true
 | .nil,[],_=>rfl
 | .nil,_::_,h=>by simp [okEs] at h
 | .cons m r,[],h=>by simp [okEs] at h
 | .cons m r,e::es,h=>by
  simp only [okEs,hH] at h;simp only [Gk,hH];exact ⟨h.1.1,fR h.2⟩
theorem oB:∀ {gs:MGs} {es:List Expr},okGs gs C es=true -> ∀ ds ρ ρ',bGs gs ds ρ = some ρ'->ds.length=es.length
 | .nil,es,h,ds, ρ, ρ',e=>by
  simp [okGs] at h;subst h;rw [bGs] at e
  cases ds with
  | nil=>rfl
  | cons _ _=>cases e
 | .cons g r,[],h,_,_,_,_=>by simp [okGs] at h
 | .cons g r,x::es,h,ds, ρ, ρ',e=>by
  simp only [okGs,hH] at h;rw [bGs] at e
  cases ds with
  | nil=>cases e
  | cons d ds =>
    simp only [cq] at e
    cases e1:bG g d ρ with
    | none=>rw [e1] at e;cases e
    | some ρ1 =>
      rw [e1] at e;simp [oB h.2 ds ρ1 ρ' e]
theorem mR {env:Env}:∀ {gs:MGs} {es:List Expr},okGs gs C es=true->(Fk es env).length=es.length/\(Fk es env).findIdx? (·.1)=none
 | .nil,es,h=>by simp [okGs] at h;subst h;exact ⟨rfl,rfl⟩
 | .cons g r,[],h=>by simp [okGs] at h
 | .cons g r,x::es,h=>by
  simp only [okGs,hH] at h;obtain ⟨a,b⟩:=mR (env:=env) h.2;rw [kf h.1.1];refine ⟨by simp [a], ?_⟩
  rw [List.findIdx?_cons];simp [b]
mutual
theorem sG (G:Good C Φ k X):∀ (m:MG) (e:Expr),okG m C e=true->PG X e (lG X.K (bG m))
 | .name i,e,h=>by
  refine dY e h fun x _ h => ?_;simp only [hH] at h;exact xC G.nd (by rw [G.N];exact of_decide_eq_true h.1.1) (G.loc h.1.2) (G.own h.2)
 | .tup gs,e,h=>by
  refine dG e h fun es _ _ h => ?_;rw [bG];obtain ⟨a,b⟩:=mR (env:=X.env) h;exact zz G.calm (oB h) (sGs G gs _ h) a b
theorem sGs (G:Good C Φ k X):∀ (m:MGs) (es:List Expr),okGs m C es=true->PGs X es (lGs X.K (bGs m))
 | .nil,es,h=>by
  simp [okGs] at h;subst h;exact xD
 | .cons g r,[],h=>by simp [okGs] at h
 | .cons g r,e::es,h=>by
  simp only [okGs,hH] at h;exact uH (sG G g e h.1.2) (sGs G r es h.2) (by rw [kf h.1.1];rfl)
end
theorem PB.imp {F:Sem Fin->Sem Fin} {t t':TC} (h:PB X F t) (i:∀ σ H N,t' σ H N->t σ H N):PB X F t':=fun pins s σ H N k Q E I q hk=>h pins s σ H N k Q E I (i _ _ _ q) hk
theorem j5 {sc osc:Scope} {oN N':List Str} {fr:List (Option Nat)} (h:vq sc osc oN N' fr=true):ba sc osc oN N' fr:=by
 simp only [vq,hH,decide_eq_true_eq] at h;obtain ⟨⟨⟨⟨⟨h1,h2⟩,F⟩,G⟩,J⟩,L⟩:=h;refine ⟨h1,h2,F,fun x hx e => ?_,J,fun i j x hi hf => ?_⟩
 ·have z:=HB.mp G x hx;rw [e] at z;simpa using z
 ·have B:i < N'.length:=(DY.mp hi).1;have q:=HB.mp L i (List.mem_range.mpr B);rw [hf,hi] at q;simp only [hH,decide_eq_true_eq,List.any_eq_true] at q;obtain ⟨a,y,O,e⟩:=q;exact ⟨a,by rw [<- e];exact O⟩
theorem Good.blk (G:Good C Φ k X) {sc:Scope} {N':List Str} {fr:List (Option Nat)} (B:ba sc C.sc C.N N' fr) (s:h7) (H:Hp) (fp:List Addr) :
 Good ⟨C.Γ,N',gW sc C.sc,(sc.names.filter (·.2 == .cell)).map (·.1),C.cs⟩ Φ k (aQ X sc N' s H fp):=by
 refine ⟨fun _ _ h=>h,G.calm,rfl, ?_,B.ndN,fun x hx => ?_,G.room,G.mgB,G.fns,G.mono,G.cs⟩
 ·show relabel sc X.env=_;rw [nQ,G.sc]
 ·obtain ⟨y,q,e⟩:=EO.mp hx;obtain ⟨h1,h2⟩:=HL.mp q;obtain ⟨n,kd⟩:=y;have j:kd = .cell:=by simpa using h2
  subst j;have e':n=x:=e;subst e';show (sc.names.lookup n==some .cell)=true;rw [b3 B.nd h1];rfl
end
end
section
section
variable {Φ:Phi} {k:Nat}
theorem dq {C:Ctx} {X:Cx} (G:Good C Φ k X) {F:Sem Fin->Sem Fin} {p:Addr} {tb:TCd} {ifs:List Expr} {ts:List TTd} (mb:bT tb) (mt:∀ t∈ts,aI t) (j:PB X F (lC X.K p tb)) (q:EE (fun c t=>PT X c t) ifs (ts.map (lT X.K))) :
 PB X (fun k=>bn ifs X.env >>= fun ok=>if ok=true then F k else k) (lC X.K p (bu ts tb)) :=
 PB.imp (ug G.hx j q) (iM mb mt)
theorem fS {m:MC} {Cs C:Ctx} {g2:EA} {gs:List EA} {elt:Expr} (h:okC m Cs C (g2::gs) elt=true):g2.is_async=0:=by
 obtain ⟨t,i,f,a⟩:=g2
 cases m with
 | last src g ifs m =>
   cases gs with
   | nil=>simp only [okC,hH,decide_eq_true_eq] at h;exact h.1.1.1.1
   | cons _ _=>simp [okC] at h
 | more src g ifs rest =>
   cases gs with
   | nil=>simp [okC] at h
   | cons _ _=>simp only [okC,hH,decide_eq_true_eq] at h;exact h.1.1.1.1
theorem hZ {C:Ctx} {X:Cx} (G:Good C Φ k X):∀ T∈["bool", "int", "str", "tuple", "list", "dict"],X.mg (h6 T)=none/\FE (h6 T)=some (.type T)/\h6 T ≠ "__name__" /\ (h6 T==("__debug__":Str))=false:=by
 intro T j;simp only [DT,Es,or_false] at j
 rcases j with rfl | rfl | rfl | rfl | rfl | rfl
 all_goals exact ⟨G.mgB _ (by decide),by decide +kernel,by decide,by decide⟩
mutual
theorem sE:∀ (m:ME) {C:Ctx} {X:Cx} (G:Good C Φ k X) (e:Expr),okE m C e=true->PE X e (lE X.K (wE Φ m))
 | .var i,C,X,G,e,h=>by
  refine dY e h fun x _ h => ?_;simp only [hH,ES,decide_eq_true_eq] at h;exact zi (by rw [G.N];exact h.1.1.1) (G.vis h.1.1.2) h.1.2 h.2
 | .int i,C,X,G,e,h=>by
  refine dZ e h fun c _ _ h => ?_;rw [of_decide_eq_true h];exact le_int
 | .bl i,C,X,G,e,h=>by
  refine dZ e h fun c _ _ h => ?_;rw [of_decide_eq_true h];exact AE
 | .non,C,X,G,e,h=>by
  refine dZ e h fun c _ _ h => ?_;rw [of_decide_eq_true h];exact zj
 | .str i,C,X,G,e,h=>by
  refine dZ e h fun c _ _ h => ?_;rw [of_decide_eq_true h];exact zk
 | .bin op a b,C,X,G,e,h=>by
  refine zP e h fun l o r _ h => ?_;simp only [hH,decide_eq_true_eq] at h;rw [h.1.1];exact AF (zW G op) (mL op) (mE G.mono a) (mE G.mono b) (sE a G _ h.1.2) (sE b G _ h.2)
 | .neg a,C,X,G,e,h=>by
  refine gX e h fun o x _ h => ?_;replace h:=bM h;obtain ⟨ho,h⟩:=h
  cases of_decide_eq_true ho
  exact AG uB kY (mE G.mono a) (sE a G _ h)
 | .cmp op a b,C,X,G,e,h=>by
  refine fh e h fun l os rs pos h => ?_;refine cA os h fun o h => ?_;refine cA rs h fun r h => ?_;simp only [hH,decide_eq_true_eq] at h;obtain ⟨⟨⟨ho,O⟩,hb⟩,hm⟩:=h;rw [ES] at hm;subst ho;exact zm (dm G op) (bf op) (mE G.mono a) (mE G.mono b) (sE a G _ O) (sE b G _ hb) hm
 | .and es,C,X,G,e,h=>by
  refine gr e h fun o xs _ h => ?_;replace h:=bM h;obtain ⟨ho,h⟩:=h;obtain ⟨ho,j⟩:=bM ho
  cases of_decide_eq_true ho
  exact sAnds es G _ _ h (by intro z;rw [z] at j;cases j)
 | .or es,C,X,G,e,h=>by
  refine gr e h fun o xs _ h => ?_;replace h:=bM h;obtain ⟨ho,h⟩:=h;obtain ⟨ho,j⟩:=bM ho
  cases of_decide_eq_true ho
  exact sOrs es G _ _ h (by intro z;rw [z] at j;cases j)
 | .not a,C,X,G,e,h=>by
  refine gX e h fun o x _ h => ?_;replace h:=bM h;obtain ⟨ho,h⟩:=h
  cases of_decide_eq_true ho
  exact zx (mE G.mono a) (sE a G _ h)
 | .ite c a b,C,X,G,e,h=>by
  refine zQ e h fun t x y _ h => ?_;simp only [hH] at h;exact AM (mT G.mono c) (mE G.mono a) (mE G.mono b) (sT c G _ h.1.1) (sE a G _ h.1.2) (sE b G _ h.2)
 | .tup es,C,X,G,e,h=>by
  refine dG e h fun xs _ _ h => ?_;exact zo (mA G.mono es) (sA es G _ h)
 | .lst es,C,X,G,e,h=>by
  refine AS e h fun xs _ h => ?_;exact zp (mA G.mono es) (sA es G _ h)
 | .ix a b,C,X,G,e,h=>by
  refine fi e h fun x y _ h => ?_;simp only [hH] at h;exact AH (Bo (by have:=G.units;lia)) nZ (mE G.mono a) (mE G.mono b) (sE a G _ h.1.2) (sE b G _ h.2) (vx h.1.1)
 | .call f es,C,X,G,e,h=>by
  refine dJ e h fun x xs p pos h => ?_;simp only [hH,decide_eq_true_eq,ES] at h;have hA:=sA es G _ h.2;have J:=fR h.2
  cases xs with
  | nil =>
    cases es with
    | nil=>exact vy G h.1.1.1 (G.gl h.1.1.2) h.1.2
    | cons _ _=>simp [okEs] at h
  | cons y ys =>
    simp only [Gk,hH] at J;exact y7 G (mA G.mono es) h.1.1.1 (G.gl h.1.1.2) h.1.2 hA (ao J.1) (hW J.2)
 | .blt f es,C,X,G,e,h=>by
  refine dJ e h fun x xs p pos h => ?_;simp only [hH,decide_eq_true_eq,ES] at h;have hA:=sA es G _ h.2;have J:=fR h.2;obtain ⟨⟨⟨rfl,Y⟩,j⟩,_⟩:=h
  cases xs with
  | nil=>simp at j
  | cons y ys =>
    simp only [Gk,hH] at J;exact zX G (mA G.mono es) (G.gl Y) hA (ao J.1) (hW J.2)
 | .chain op op' a b c,C,X,G,e,h=>by
  refine fh e h fun l os rs pos h => ?_;refine dH os h fun o o' h => ?_;refine dH rs h fun r q h => ?_;simp only [hH,decide_eq_true_eq,ES] at h;obtain ⟨⟨⟨⟨⟨rfl,rfl⟩,O⟩,hb⟩,hc⟩,hm⟩:=h;exact uX (dm G op) (dm G op') (bf op) (bf op') (mE G.mono a) (mE G.mono b) (mE G.mono c) (sE a G _ O) (sE b G _ hb) (sE c G _ hc) hm
 | .dnew t,C,X,G,e,h=>by
  refine AT e h fun ks vs _ h => ?_;refine gZ ks h fun  h => ?_;refine gZ vs h fun  h => ?_;exact xL
 | .popk o k',C,X,G,e,h=>by
  refine qc e h fun y n xs ap cp h => ?_;refine cA xs h fun e1 h => ?_;simp only [hH,decide_eq_true_eq] at h;obtain ⟨⟨⟨⟨⟨rfl,L⟩,hl⟩,Z⟩,ho⟩,hk⟩:=h;have st:E4 [e1] X.env=[(false,eval e1 X.env)]:=by
   rw [ao Z];rfl
  refine xY (mE G.mono o) (mE G.mono k') (sE o G _ ho) (sE k' G _ hk) ⟨hJ L, ?_,hl, ?_⟩
  ·rw [st];rfl
  ·rw [st];rfl
 | .dget o k' x,C,X,G,e,h=>by
  refine qc e h fun y n xs ap cp h => ?_;refine dH xs h fun e1 e2 h => ?_;simp only [hH,decide_eq_true_eq] at h;obtain ⟨⟨⟨⟨⟨⟨⟨rfl,L⟩,hl⟩,Z⟩,Bz⟩,ho⟩,hk⟩,hx⟩:=h;have st:E4 [e1,e2] X.env=[(false,eval e1 X.env),(false,eval e2 X.env)]:=by
   rw [ao Z,ao Bz];rfl
  refine xU (by have:=G.units;lia) (mE G.mono o) (mE G.mono k') (mE G.mono x) (sE o G _ ho) (sE k' G _ hk) (sE x G _ hx) ⟨hJ L, ?_,hl, ?_⟩
  ·rw [st];rfl
  ·rw [st];rfl
 | .isin2 a T U,C,X,G,e,h=>by
  refine dJ e h fun x xs p pos h => ?_;refine dH xs h fun y w h => ?_;refine dG w h fun ws k1 p1 h => ?_;refine dH ws h fun z' v' h => ?_;refine dY z' h fun z p2 h => ?_;refine dY v' h fun v p3 h => ?_;simp only [hH,decide_eq_true_eq] at h;obtain ⟨⟨⟨⟨⟨⟨⟨⟨⟨rfl,Y⟩,By⟩,BA⟩,hz⟩,hy⟩,hT⟩,hU⟩,hs⟩,O⟩:=h;obtain ⟨n1,n2,n3,n4⟩:=hZ G T hT;obtain ⟨m1,m2,m3,m4⟩:=hZ G U hU;subst hz hy;exact v9 hT hU (mE G.mono a) (sE a G _ O) (G.gl Y) (G.mgB _ (by decide)) (G.gl By) n1 n2 n3 n4 (G.gl BA) m1 m2 m3 m4 (ao hs)
 | .isin a T,C,X,G,e,h=>by
  refine dJ e h fun x xs p pos h => ?_;refine dH xs h fun y w h => ?_;refine dY w h fun z p2 h => ?_;simp only [hH,decide_eq_true_eq] at h;obtain ⟨⟨⟨⟨⟨⟨rfl,Y⟩,By⟩,hz⟩,hT⟩,hs⟩,O⟩:=h;obtain ⟨n1,n2,n3,n4⟩:=hZ G T hT;subst hz;exact xx hT (mE G.mono a) (sE a G _ O) (G.gl Y) (G.mgB _ (by decide)) (G.gl By) n1 n2 n3 n4 (ao hs) rfl
 | .meth m o a,C,X,G,e,h=>by
  refine qc e h fun x n xs ap cp h => ?_;refine cA xs h fun y h => ?_;simp only [hH,decide_eq_true_eq] at h;obtain ⟨⟨⟨⟨⟨hn,L⟩,hl⟩,hs⟩,ho⟩,O⟩:=h;subst hn;have pa:PA X [y] (lA X.K (br (wE Φ a) cn)):=ce (mE G.mono a) aU (sE a G _ O) eE (ao hs);have few:((Gu cp (E4 [y] X.env)).all (fun x => !x.1)&&(LM cp (JC [] X.env)).all (fun x=>x.1.isSome)&&decide (([y]:List Expr).length+([]:List I8).length+(if ([]:List I8).isEmpty then 0 else 1) < 30))=true:=by
   rw [ao hs];rfl
  cases m with
  | append=>exact PE.imp (Ay PySem.F.plainAttrs_list PySem.F.slot_list_append PySem.F.type_list_append jE (sE o G _ ho) pa (hJ L) few hl (ao hs) rfl) (xA gE (mE G.mono o) (aR (mE G.mono a) aU) uG)
 | .comp fr N' c,C,X,G,e,h=>by
  refine sJ e h fun elt gens sc pos h => ?_;simp only [hH] at h;have B:ba sc X.env.scope X.N N' fr:=by rw [G.sc,G.N];exact j5 h.1
  have B':ba sc C.sc C.N N' fr:=j5 h.1
  cases c with
  | last src g ifs m =>
    have h2:=h.2;simp only [okC] at h2
    split at h2
    ·rename_i t it fs a;simp only [hH,decide_eq_true_eq] at h2;obtain ⟨⟨⟨⟨rfl,hi⟩,Y⟩,ht⟩,he⟩:=h2;refine PE.imp (gD G.calm G.hx B (fun g' z=>by simp at z) (sI src G _ t hi).1 (fun s H fp=>sG (G.blk B' s H fp) g t Y) (tb:=fun p=>lC X.K p (bu (wTl Φ ifs) (dS (wE Φ m)))) (fun s H fp p => ?_) (sI src G _ t hi).2) (dU (mI G.mono src) (aV (bC (mE G.mono m)) (mTl G.mono ifs)))
     have G':=G.blk B' s H fp;exact dq (p:=p) G' (bC (mE G.mono m)) (mTl G.mono ifs) (PB.imp (jg G'.hx (sE m G' elt he) rfl) (fJ (mE G.mono m))) (sTl ifs G' fs ht)
    ·cases h2
  | more src g ifs rest =>
    have h2:=h.2;simp only [okC] at h2
    split at h2
    ·rename_i t it fs a g2 gs;simp only [hH,decide_eq_true_eq] at h2;obtain ⟨⟨⟨⟨rfl,hi⟩,Y⟩,ht⟩,he⟩:=h2;have BB:∀ g',(g2::gs)[0]? = some g'->g'.is_async=0:=fun g' z=>by
      have z':g2=g':=by simpa using z
      subst z';exact fS he
     refine PE.imp (gD G.calm G.hx B BB (sI src G _ t hi).1 (fun s H fp=>sG (G.blk B' s H fp) g t Y) (tb:=fun p=>lC X.K p (bu (wTl Φ ifs) (wCl Φ rest))) (fun s H fp p => ?_) (sI src G _ t hi).2) (dU (mI G.mono src) (aV (mCl G.mono rest) (mTl G.mono ifs)));have G':=G.blk B' s H fp;exact dq (p:=p) G' (mCl G.mono rest) (mTl G.mono ifs) (sCl rest G' elt (⟨t,it,fs,0⟩::g2::gs) sc pos 0 (.inl rfl) p he) (sTl ifs G' fs ht)
    ·cases h2
theorem sA:∀ (m:MEs) {C:Ctx} {X:Cx} (G:Good C Φ k X) (es:List Expr),okEs m C es=true->PA X es (lA X.K (wA Φ m))
 | .nil,C,X,G,es,h=>by
  simp [okEs] at h;subst h;exact eE
 | .cons m r,C,X,G,[],h=>by simp [okEs] at h
 | .cons m r,C,X,G,e::es,h=>by
  simp only [okEs,hH] at h;exact ce (mE G.mono m) (mA G.mono r) (sE m G e h.1.2) (sA r G es h.2) (ao h.1.1)
theorem sAnds:∀ (m:MEs) {C:Ctx} {X:Cx} (G:Good C Φ k X) (es:List Expr) (pos:Pos),okEs m C es=true->es≠[]->PE X (.BoolOp .And es pos) (lE X.K (wAnds Φ m))
 | .nil,C,X,G,es,pos,h,j=>by simp [okEs] at h;exact absurd h j
 | .cons m r,C,X,G,[],pos,h,j=>absurd rfl j
 | .cons m .nil,C,X,G,e::es,pos,h,_=>by
  simp only [okEs,hH] at h;obtain ⟨h1,h2⟩:=h;simp at h2;subst h2;exact rp (sE m G e h1.2)
 | .cons m (.cons m2 r),C,X,G,e::es,pos,h,_=>by
  simp only [okEs,hH] at h;obtain ⟨h1,h2⟩:=h
  cases es with
  | nil=>simp at h2
  | cons f fs =>
    exact zw (mE G.mono m) (mAnds G.mono _) (sE m G e h1.2) (sAnds (.cons m2 r) G (f::fs) pos (by simpa only [okEs,hH] using h2) (by simp))
theorem sOrs:∀ (m:MEs) {C:Ctx} {X:Cx} (G:Good C Φ k X) (es:List Expr) (pos:Pos),okEs m C es=true->es≠[]->PE X (.BoolOp .Or es pos) (lE X.K (wOrs Φ m))
 | .nil,C,X,G,es,pos,h,j=>by simp [okEs] at h;exact absurd h j
 | .cons m r,C,X,G,[],pos,h,j=>absurd rfl j
 | .cons m .nil,C,X,G,e::es,pos,h,_=>by
  simp only [okEs,hH] at h;obtain ⟨h1,h2⟩:=h;simp at h2;subst h2;exact rp (sE m G e h1.2)
 | .cons m (.cons m2 r),C,X,G,e::es,pos,h,_=>by
  simp only [okEs,hH] at h;obtain ⟨h1,h2⟩:=h
  cases es with
  | nil=>simp at h2
  | cons f fs =>
    exact AL (mE G.mono m) (mOrs G.mono _) (sE m G e h1.2) (sOrs (.cons m2 r) G (f::fs) pos (by simpa only [okEs,hH] using h2) (by simp))
theorem sO:∀ (m:MO) {C:Ctx} {X:Cx} (G:Good C Φ k X) (e:Option Expr),okO m C e=true->PO X e (lO X.K (wO Φ m))
 | .none,C,X,G,e,h=>by
  simp [okO] at h;subst h;exact xv
 | .some m,C,X,G,none,h=>by simp [okO] at h
 | .some m,C,X,G,some e,h=>by
  simp only [okO] at h;exact xw (mE G.mono m) (sE m G e h)
theorem sT:∀ (m:MT) {C:Ctx} {X:Cx} (G:Good C Φ k X) (e:Expr),okT m C e=true->PT X e (lT X.K (wT Φ m))
 | .tru m,C,X,G,e,h=>by
  simp only [okT,hH] at h;exact zr (mE G.mono m) (sE m G e h.2) (qh h.1)
 | .cmp op a b,C,X,G,e,h=>by
  refine fh e h fun l os rs pos h => ?_;refine cA os h fun o h => ?_;refine cA rs h fun r h => ?_;simp only [hH,decide_eq_true_eq] at h;obtain ⟨⟨⟨ho,B⟩,F⟩,hm⟩:=h;rw [ES] at hm;subst ho;exact zn (dm G op) (bf op) (mE G.mono a) (mE G.mono b) (sE a G _ B) (sE b G _ F) hm
 | .chain op op' a b c,C,X,G,e,h=>by
  refine fh e h fun l os rs pos h => ?_;refine dH os h fun o o' h => ?_;refine dH rs h fun r q h => ?_;simp only [hH,decide_eq_true_eq,ES] at h;obtain ⟨⟨⟨⟨⟨rfl,rfl⟩,B⟩,F⟩,J⟩,hm⟩:=h;exact uY (dm G op) (dm G op') (bf op) (bf op') (mE G.mono a) (mE G.mono b) (mE G.mono c) (sE a G _ B) (sE b G _ F) (sE c G _ J) hm
 | .and ts,C,X,G,e,h=>by
  refine gr e h fun o xs _ h => ?_;replace h:=bM h;obtain ⟨ho,h⟩:=h;obtain ⟨ho,j⟩:=bM ho
  cases of_decide_eq_true ho
  exact (sAndTs ts G _ _ h (by intro z;rw [z] at j;cases j)).pt
 | .or ts,C,X,G,e,h=>by
  refine gr e h fun o xs _ h => ?_;replace h:=bM h;obtain ⟨ho,h⟩:=h;obtain ⟨ho,j⟩:=bM ho
  cases of_decide_eq_true ho
  exact (sOrTs ts G _ _ h (by intro z;rw [z] at j;cases j)).pt
 | .not t,C,X,G,e,h=>by
  refine gX e h fun o x _ h => ?_;replace h:=bM h;obtain ⟨ho,h⟩:=h
  cases of_decide_eq_true ho
  exact zt (mT G.mono t) (sT t G _ h)
theorem sAndTs:∀ (m:MTs) {C:Ctx} {X:Cx} (G:Good C Φ k X) (es:List Expr) (pos:Pos),okTs m C es=true->es≠[]->PW X (.BoolOp .And es pos) (lT X.K (wAndTs Φ m))
 | .nil,C,X,G,es,pos,h,j=>by simp [okTs] at h;exact absurd h j
 | .cons m r,C,X,G,[],pos,h,j=>absurd rfl j
 | .cons m .nil,C,X,G,e::es,pos,h,_=>by
  simp only [okTs,hH] at h;obtain ⟨h1,h2⟩:=h;simp at h2;subst h2;exact xt (sT m G e h1)
 | .cons m (.cons m2 r),C,X,G,e::es,pos,h,_=>by
  simp only [okTs,hH] at h;obtain ⟨h1,h2⟩:=h
  cases es with
  | nil=>simp at h2
  | cons f fs =>
    exact zv (mT G.mono m) (mAndTs G.mono _) (sT m G e h1) (sAndTs (.cons m2 r) G (f::fs) pos (by simpa only [okTs,hH] using h2) (by simp))
theorem sOrTs:∀ (m:MTs) {C:Ctx} {X:Cx} (G:Good C Φ k X) (es:List Expr) (pos:Pos),okTs m C es=true->es≠[]->PW X (.BoolOp .Or es pos) (lT X.K (wOrTs Φ m))
 | .nil,C,X,G,es,pos,h,j=>by simp [okTs] at h;exact absurd h j
 | .cons m r,C,X,G,[],pos,h,j=>absurd rfl j
 | .cons m .nil,C,X,G,e::es,pos,h,_=>by
  simp only [okTs,hH] at h;obtain ⟨h1,h2⟩:=h;simp at h2;subst h2;exact zu (sT m G e h1)
 | .cons m (.cons m2 r),C,X,G,e::es,pos,h,_=>by
  simp only [okTs,hH] at h;obtain ⟨h1,h2⟩:=h
  cases es with
  | nil=>simp at h2
  | cons f fs =>
    exact AK (mT G.mono m) (mOrTs G.mono _) (sT m G e h1) (sOrTs (.cons m2 r) G (f::fs) pos (by simpa only [okTs,hH] using h2) (by simp))
theorem sTl:∀ (m:MTs) {C:Ctx} {X:Cx} (G:Good C Φ k X) (es:List Expr),okTs m C es=true->EE (fun c t=>PT X c t) es ((wTl Φ m).map (lT X.K))
 | .nil,C,X,G,es,h=>by
  simp [okTs] at h;subst h;exact .nil
 | .cons m r,C,X,G,[],h=>by simp [okTs] at h
 | .cons m r,C,X,G,e::es,h=>by
  simp only [okTs,hH] at h;exact .cons (sT m G e h.1) (sTl r G es h.2)
theorem sI:∀ (m:MI) {C:Ctx} {X:Cx} (G:Good C Φ k X) (e tg:Expr),okI m C tg e=true->PI X tg e (lI X.K (wI Φ m)) /\ ∀ x,Fv e X.env x=pure x
 | .seq m,C,X,G,e,tg,h=>by
  simp only [okI,hH] at h;exact ⟨zC (mE G.mono m) (sE m G e h.2),sM h.1⟩
 | .rng1 a,C,X,G,e,tg,h=>by
  refine dJ e h fun x xs p pos h => ?_;refine cA xs h fun y h => ?_;simp only [hH,decide_eq_true_eq] at h;obtain ⟨⟨⟨rfl,q⟩,hs⟩,B⟩:=h;exact ⟨xE (aR (mE G.mono a) aU) (G.gl q) (G.mgB _ (by decide)) (ce (mE G.mono a) aU (sE a G _ B) eE (ao hs)) (ao hs),fun x=>rfl⟩
 | .enum a,C,X,G,e,tg,h=>by
  refine dJ e h fun x xs p pos h => ?_;refine cA xs h fun y h => ?_;refine dG tg h fun ts kt pt h => ?_;simp only [hH,decide_eq_true_eq] at h;obtain ⟨⟨⟨rfl,q⟩,hs⟩,B⟩:=h;exact ⟨xF (mE G.mono a) (G.gl q) (G.mgB _ (by decide)) (ce (mE G.mono a) aU (sE a G _ B) eE (ao hs)) (ao hs),fun x=>rfl⟩
 | .zip a b,C,X,G,e,tg,h=>by
  refine dJ e h fun x xs p pos h => ?_;refine dH xs h fun y z h => ?_;refine dG tg h fun ts kt pt h => ?_;simp only [hH,decide_eq_true_eq] at h;obtain ⟨⟨⟨⟨⟨rfl,q⟩,hs⟩,j⟩,B⟩,F⟩:=h;exact ⟨zF (mE G.mono a) (mE G.mono b) (G.gl q) (G.mgB _ (by decide)) (ce (mE G.mono a) (aR (mE G.mono b) aU) (sE a G _ B) (ce (mE G.mono b) aU (sE b G _ F) eE (ao j)) (ao hs)) (by rw [ao hs,ao j];rfl) (ao j),fun x=>rfl⟩
theorem sCl:∀ (m:MC) {C:Ctx} {X:Cx} (G:Good C Φ k X) (elt:Expr) (gens:List EA) (sc:Scope) (pos:Pos) (d:Nat) (_:d=0∨d=d) (p:Addr),okC m C C (gens.drop (d+1)) elt=true ->
 PB X (b9 elt gens sc pos d (.ref p) X.env) (lC X.K p (wCl Φ m))
 | .last src g ifs m,C,X,G,elt,gens,sc,pos,d,_,p,h=>by
  simp only [okC] at h
  split at h
  ·rename_i t it fs a hd;simp only [hH,decide_eq_true_eq] at h;obtain ⟨⟨⟨⟨rfl,hi⟩,q⟩,B⟩,he⟩:=h;have F:gens[d+1]? = some ⟨t,it,fs,0⟩:=by
    have z:(gens.drop (d+1))[0]? = some ⟨t,it,fs,0⟩:=by rw [hd];rfl
    rw [GW] at z;simpa using z
   have j:gens[d+1+1]? = none:=by
    have z:(gens.drop (d+1))[1]? = none:=by rw [hd];rfl
    rw [GW] at z;simpa using z
   refine PB.imp (jI G.hx G.calm F (fun g' z=>by rw [j] at z;cases z) (sI src G _ t hi).1 (sG G g t q) (dq (p:=p) G (bC (mE G.mono m)) (mTl G.mono ifs) (PB.imp (jg G.hx (sE m G elt he) j) (fJ (mE G.mono m))) (sTl ifs G fs B)) (sI src G _ t hi).2) (gG (mI G.mono src) (aV (bC (mE G.mono m)) (mTl G.mono ifs)))
  ·cases h
 | .more src g ifs rest,C,X,G,elt,gens,sc,pos,d,_,p,h=>by
  simp only [okC] at h
  split at h
  ·rename_i t it fs a g2 gs hd;simp only [hH,decide_eq_true_eq] at h;obtain ⟨⟨⟨⟨rfl,hi⟩,q⟩,B⟩,he⟩:=h;have F:gens[d+1]? = some ⟨t,it,fs,0⟩:=by
    have z:(gens.drop (d+1))[0]? = some ⟨t,it,fs,0⟩:=by rw [hd];rfl
    rw [GW] at z;simpa using z
   have j:gens[d+1+1]? = some g2:=by
    have z:(gens.drop (d+1))[1]? = some g2:=by rw [hd];rfl
    rw [GW] at z;simpa using z
   have L:gens.drop (d+1+1)=g2::gs:=by
    have z:(gens.drop (d+1)).drop 1=g2::gs:=by rw [hd];rfl
    rw [Ip] at z;simpa using z
   have J:∀ g',gens[d+1+1]? = some g'->g'.is_async=0:=fun g' z=>by
    rw [j] at z;cases z;exact fS he
   refine PB.imp (jI G.hx G.calm F J (sI src G _ t hi).1 (sG G g t q) (dq (p:=p) G (mCl G.mono rest) (mTl G.mono ifs) (sCl rest G elt gens sc pos (d+1) (.inr rfl) p (by rw [L];exact he)) (sTl ifs G fs B)) (sI src G _ t hi).2) (gG (mI G.mono src) (aV (mCl G.mono rest) (mTl G.mono ifs)))
  ·cases h
end
end
end
section
section
variable {Φ:Phi} {k:Nat} {C:Ctx} {X:Cx}
theorem vz {sc:Scope} {ts vs:List Expr} {kk j:Nat} {pp p2:Pos} {env:Env} (hs:env.scope=sc) (q:sc.kind = .function) (h:qd sc ts vs=true):FY [.Tuple ts kk pp] (.Tuple vs j p2) env=pure none:=by
 have z:env.blockKind = .function:=by unfold IJ;rw [hs,q];rfl
 have h':qd sc ts vs=true:=h;unfold FY;dsimp only;rw [z]
 by_cases c1:(!(ts.length==2 || ts.length==3) || vs.length != ts.length)=true
 ·simp only [c1,Bool.true_or,if_true]
 ·simp only [Hx] at c1;rw [c1];simp only [GJ,bne_self_eq_false,EK,if_false]
  split
  ·rfl
  ·
    generalize B:List.filterMap _ ts=L;obtain rfl:L=b7 sc ts:=by
     rw [<- B];unfold b7;congr 1
     funext x
     cases x <;> first | rfl | (unfold Kj;rw [hs])
    unfold qd at h';rw [c1] at h';simp only [GJ,Jp] at h'
    by_cases c3:((b7 sc ts).length != ts.length || (b7 sc ts).eraseDups.length != (b7 sc ts).length)=true
    ·rw [if_pos c3]
    ·rw [if_neg c3];have F:vs.all (K9 8)=true:=by
      rcases h' with h' | h'
      ·exact absurd (Jp _ _ |>.mpr h') c3
      ·exact h'
     rw [if_pos F]
theorem y8 {sc:Scope} {ts vs:List Expr} {ns:List Str} {kk j:Nat} {pp p2:Pos} {env:Env} (hs:env.scope=sc) (q:sc.kind = .function) (h:qf sc ts vs ns=true):FY [.Tuple ts kk pp] (.Tuple vs j p2) env=pure (some ns):=by
 have B:env.blockKind = .function:=by unfold IJ;rw [hs,q];rfl
 simp only [qf,hH,ES,decide_eq_true_eq] at h;obtain ⟨⟨⟨⟨⟨F,G⟩,J⟩,O⟩,U⟩,Y⟩:=h;unfold FY;dsimp only;rw [B,F];simp only [GJ,bne_self_eq_false,EK,if_false]
 split
 ·next z=>exact absurd z (by rw [Hx];exact G)
 ·generalize Z:List.filterMap _ ts=L;obtain rfl:L=b7 sc ts:=by
   rw [<- Z];unfold b7;congr 1
   funext x
   cases x <;> first | rfl | (unfold Kj;rw [hs])
  rw [O,U,Y,J];rfl
theorem oC {C:Ctx} {i:Nat} {x:Str} (h:qe C i x=true):C.N[i]? = some x/\C.sc.names.lookup x=some .local:=by
 simpa [qe] using h
theorem dr {tg e:Expr} {l:Nat} {env:Env} {b:Bool} (h:GY e (some tg) l env=pure b):GD [tg] e l env=pure b:=by
 unfold GD;exact h
theorem y9 {sc:Scope} {tg e:Expr} {env:Env} (hs:env.scope=sc) (j:sc.kind = .function) (h:j4 sc tg e=true):FY [tg] e env=pure none:=by
 cases tg with
 | Tuple ts kk pp =>
   cases e with
   | Tuple vs q p2=>exact vz hs j h
   | _=>rfl
 | _=>first | rfl | (simp [j4] at h;done)
theorem mU {elt:Expr} {gens:List EA} {s sc:Scope} {pos px:Pos} {x:Str} {l:Nat} {env:Env} (hs:env.scope=sc) (j:sc.kind = .function) :
 GY (.ListComp elt gens s pos) (some (.Name x px)) l env=pure (qg sc x px (.ListComp elt gens s pos)):=by
 have q:env.blockKind = .function:=by unfold IJ;rw [hs,j];rfl
 unfold GY;dsimp only;rw [q];unfold qg Kj;rw [hs];rfl
theorem sN {ek ev:Expr} {gens:List EA} {s sc:Scope} {pos px:Pos} {x:Str} {l:Nat} {env:Env} (hs:env.scope=sc) (j:sc.kind = .function) :
 GY (.DictComp ek ev gens s pos) (some (.Name x px)) l env=pure (sc.names.lookup x==some .local&&px.line==(Expr.DictComp ek ev gens s pos).pos.line && !(s.names.any fun (n,k)=>n==x&&(k == .local || k == .cell))):=by
 have q:env.blockKind = .function:=by unfold IJ;rw [hs,j];rfl
 unfold GY;dsimp only;rw [q];unfold Kj;rw [hs];rfl
mutual
theorem sS:∀ (m:MS) (G:Good C Φ k X) (F:C.sc.kind = .function) (s:Stmt),okS m C s=true->PS X s (lS X.K (wS Φ m))
 | .asg g m,G,F,s,h=>by
  refine gY s h fun ts e pos h1 => ?_;clear h;refine cA ts h1 fun tg h => ?_;clear h1;simp only [hH] at h;obtain ⟨⟨⟨J,he⟩,Y⟩,U⟩:=h;have hw:=y9 G.sc F Y;have pg:=sG G g tg J;have plain:GD [tg] e pos.line X.env=pure false->PS X (.Assign [tg] e pos) (lS X.K (gQ (wE Φ m) (bG g))):=fun hs =>
   PS.imp (qA (sE m G e he) pg hs hw (by cases tg <;> first | rfl | (simp [j4] at Y;done))) (uR (mE G.mono m))
  cases tg with
  | Tuple ts a b=>exact plain (dr (jt U))
  | Name x px =>
    cases e with
    | ListComp elt gens sc cpos =>
      by_cases sw:qg C.sc x px (.ListComp elt gens sc cpos)=true
      ·cases g with
       | tup gs=>exact absurd J y2
       | name i =>
         cases m with
         | comp fr N' c =>
           replace he:=bM he;have B:ba sc X.env.scope X.N N' fr:=by rw [G.sc,G.N];exact j5 he.1
           have B':ba sc C.sc C.N N' fr:=j5 he.1;have Z:PG X (.Name x px) (ik i):=by
            have J:=bM J;have J:=Hw (bM J.1) J.2;exact nS G.nd (by rw [G.N];exact of_decide_eq_true J.1.1) (G.loc J.1.2) (G.own J.2)
           have By:∀ l,GY (.ListComp elt gens sc cpos) (some (.Name x px)) l X.env=pure true:=fun l=>by rw [mU G.sc F,sw]
           have mc:=mCmp G.mono fr c
           cases c with
           | last src g ifs m =>
             have h2:=he.2;simp only [okC] at h2
             split at h2
             ·rename_i t it fs a;simp only [hH,decide_eq_true_eq] at h2;obtain ⟨⟨⟨⟨rfl,hi⟩,O⟩,ht⟩,L⟩:=h2;refine PS.imp (iC (i:=i) (g:=lG X.K (bG g)) (wi:=lI X.K (wI Φ src)) G.calm G.hx B (fun g' z=>by simp at z) (sI src G _ t hi).1 (fun s H fp=>sG (G.blk B' s H fp) g t O) (tb:=fun p=>lC X.K p (bu (wTl Φ ifs) (dS (wE Φ m)))) (fun s H fp p => ?_) (sI src G _ t hi).2 Z (By _)) fun D σ H h => ?_
              ·have G':=G.blk B' s H fp;exact dq (p:=p) G' (bC (mE G.mono m)) (mTl G.mono ifs) (PB.imp (jg G'.hx (sE m G' elt L) rfl) (fJ (mE G.mono m))) (sTl ifs G' fs ht)
              ·exact dU (mI G.mono src) (aV (bC (mE G.mono m)) (mTl G.mono ifs)) σ H _ (jS mc D σ H h)
             ·cases h2
           | more src g ifs rest =>
             have h2:=he.2;simp only [okC] at h2
             split at h2
             ·rename_i t it fs a g2 gs;simp only [hH,decide_eq_true_eq] at h2;obtain ⟨⟨⟨⟨rfl,hi⟩,O⟩,ht⟩,L⟩:=h2;have Bz:∀ g',(g2::gs)[0]? = some g'->g'.is_async=0:=fun g' z=>by
               have z':g2=g':=by simpa using z
               subst z';exact fS L
              refine PS.imp (iC (i:=i) (g:=lG X.K (bG g)) (wi:=lI X.K (wI Φ src)) G.calm G.hx B Bz (sI src G _ t hi).1 (fun s H fp=>sG (G.blk B' s H fp) g t O) (tb:=fun p=>lC X.K p (bu (wTl Φ ifs) (wCl Φ rest))) (fun s H fp p => ?_) (sI src G _ t hi).2 Z (By _)) fun D σ H h => ?_
              ·have G':=G.blk B' s H fp;exact dq (p:=p) G' (mCl G.mono rest) (mTl G.mono ifs) (sCl rest G' elt (⟨t,it,fs,0⟩::g2::gs) sc cpos 0 (.inl rfl) p L) (sTl ifs G' fs ht)
              ·exact dU (mI G.mono src) (aV (mCl G.mono rest) (mTl G.mono ifs)) σ H _ (jS mc D σ H h)
             ·cases h2
         | _=>exact absurd he y2
      ·refine plain ?_;simp only [Hx] at sw;refine dr ?_;rw [mU G.sc F,sw]
    | SetComp _ _ _ _=>cases m <;> exact absurd he y2
    | DictComp _ _ _ _ _ =>
      refine plain (dr ?_);rw [sN G.sc F];unfold zV at U;simp only [ES] at U;rw [U]
    | _=>exact plain (dr rfl)
  | _=>simp [j4] at Y
 | .par i j a b,G,F,s,h=>by
  refine gY s h fun ts e pos h => ?_;refine cA ts h fun tg h => ?_;refine dG tg h fun ts k p h => ?_;refine dG e h fun es k' p' h => ?_;refine dH ts h fun t u h => ?_;refine dH es h fun e f h => ?_;refine dY t h fun x px h => ?_;refine dY u h fun y py h => ?_;simp only [hH,decide_eq_true_eq] at h;obtain ⟨⟨⟨⟨⟨⟨⟨hi,hj⟩,BA⟩,n1⟩,n2⟩,Y⟩,hb⟩,hw⟩:=h;obtain ⟨i1,i2⟩:=oC hi;obtain ⟨j1,j2⟩:=oC hj;exact PS.imp (yO G.calm G.nd (by rw [G.N];exact i1) (by rw [G.N];exact j1) BA (by rw [G.sc];exact i2) (by rw [G.sc];exact j2) (ce (mE G.mono a) (aR (mE G.mono b) aU) (sE a G _ Y) (ce (mE G.mono b) aU (sE b G _ hb) eE (ao n2)) (ao n1)) (y8 G.sc F hw) (dr rfl)) (rN (aR (mE G.mono a) (aR (mE G.mono b) aU)))
 | .put o i m,G,F,s,h=>by
  refine gY s h fun ts e pos h => ?_;refine cA ts h fun tg h => ?_;refine fi tg h fun x y tp h => ?_;simp only [hH] at h;obtain ⟨⟨⟨⟨BB,U⟩,ho⟩,hi⟩,he⟩:=h;exact zH (by have:=G.units;lia) (mE G.mono m) (mE G.mono o) (mE G.mono i) (sE m G e he) (sE o G x ho) (sE i G y hi) (dr (jt U)) rfl (fun v=>by cases y <;> first | rfl | (simp [eL] at BB;done))
 | .drop m,G,F,s,h=>by
  refine zR s h fun e _ h => ?_;simp only [hH] at h;exact PS.imp (wF (sE m G _ h.2) (jt h.1)) (rL (mE G.mono m))
 | .ret m,G,F,s,h=>by
  refine vw s h fun o _ h => ?_;refine jos o h fun e h => ?_;rw [wS];exact PS.imp (yJ (sE m G _ h)) (uQ (mE G.mono m))
 | .ite c a b,G,F,s,h=>by
  refine Br s h fun t x y _ h => ?_;simp only [hH] at h;exact PS.imp (Al (sT c G _ h.1.1) (sSs a G F _ h.1.2) (sSs b G F _ h.2)) (xG (mT G.mono c))
 | .for g src b,G,F,s,h=>by
  refine AU s h fun tg it body els _ h => ?_;refine gZ els h fun  h => ?_;simp only [hH] at h;obtain ⟨⟨⟨hs,J⟩,hi⟩,hb⟩:=h;exact PS.imp (yQ (fun e s z=>(G.hx e s z).elim) G.calm (sI src G _ _ hi).1 (sG G g _ J) (sSs b G F _ hb) (sM hs)) (uS (mI G.mono src) (mSs G.mono b))
 | .while c b,G,F,s,h=>by
  refine y3 s h fun t body els _ h => ?_;refine gZ els h fun  h => ?_;simp only [hH] at h;exact PS.imp (tS (fun e s z=>(G.hx e s z).elim) (sT c G _ h.1) (sSs b G F _ h.2)) (pQ (mT G.mono c) (mSs G.mono b))
 | .delk o k,G,F,s,h=>by
  refine vt s h fun ts pos h => ?_;refine cA ts h fun t h => ?_;refine fi t h fun x y tp h => ?_;simp only [hH] at h;exact xZ (mE G.mono o) (mE G.mono k) (sE o G x h.1) (sE k G y h.2)
 | .bot,G,F,s,h=>fun pins s0 σ H D I ⟨ρ,M,A,rs,rm,l,q⟩=>q.elim
 | .pass,G,F,s,h=>by
  refine zT s h fun _ h => ?_;exact PS.imp wD jR
 | .brk,G,F,s,h=>by
  refine y4 s h fun _ h => ?_;exact PS.imp tQ pP
 | .cnt,G,F,s,h=>by
  refine qb s h fun _ h => ?_;exact PS.imp nF rK
theorem sSs:∀ (m:MSs) (G:Good C Φ k X) (j:C.sc.kind = .function) (s:List Stmt),okSs m C s=true->PSs X s (lS X.K (wSs Φ m))
 | .nil,G,j,s,h=>by
  simp [okSs] at h;subst h;exact PSs.imp wB jR
 | .cons m r,G,j,[],h=>by simp [okSs] at h
 | .cons m r,G,j,s::ss,h=>by
  simp only [okSs,hH] at h;exact PSs.imp (tP (sS m G j s h.1) (sSs r G j ss h.2)) (uP (mS G.mono m) (mSs G.mono r))
end
end
end
section
structure FD where
 name:Str
 st:Stmt
 N:List Str
 np:Nat
 body:MSs
noncomputable def eO (N:List Str) (ds:List D):aq:=ds.map some++DN (N.length - ds.length) none
noncomputable def phi (T:List FD):Nat->Phi
 | 0=>fun _ _ _ _=>False
 | k+1=>fun f ds M Q => ∃ d,T[f]? = some d/\ds.length=d.np/\wSs (phi T k) d.body { nx:=fun _ M'=>Q .non M',rt:=Q } (eO d.N ds) M
theorem i6 (T:List FD):∀ k f,b5 (phi T k f)
 | 0,f=>fun _ _ _ _ _ q=>q.elim
 | k+1,f=>fun ds M Q Q' h ⟨d,e,l,q⟩=>⟨d,e,l,mSs (i6 T k) d.body { nx:=fun _ M'=>Q .non M',rt:=Q } { nx:=fun _ M'=>Q' .non M',rt:=Q' } _ _ ⟨fun _ M' q'=>h _ _ q',h,fun _ _ z=>z,fun _ _ z=>z⟩ q⟩
noncomputable def qi (Γ:List Str) (cs:List (Str×D)) (d:FD):Bool :=
 decide ((aB d.st).kind = .function) && !(aB d.st).isCoroutine && !(aB d.st).isGenerator&&decide (d.N.Nodup)&&decide (d.np<=d.N.length)
  && (d.N.take d.np).all (fun x=>(aB d.st).names.lookup x==some .local || (aB d.st).names.lookup x==some .cell)
  && (aB d.st).names.all (fun y => !(y.2 == .free))&&okSs d.body ⟨Γ,d.N,aB d.st,d.N,cs⟩ (bR d.st)
theorem vA {Γ:List Str} {cs:List (Str×D)} {d:FD} (h:qi Γ cs d=true):fV d.N (d.N.take d.np) (aB d.st)/\(d.N.take d.np).length=d.np/\okSs d.body ⟨Γ,d.N,aB d.st,d.N,cs⟩ (bR d.st)=true:=by
 simp only [qi,hH,decide_eq_true_eq,ES] at h;obtain ⟨⟨⟨⟨⟨⟨⟨h1,h2⟩,q⟩,B⟩,O⟩,F⟩,G⟩,J⟩:=h;have j:(d.N.take d.np).length=d.np:=by rw [Er];lia
 refine ⟨⟨h1,h2,q,B,by rw [j],fun x hx => ?_,fun y L e => ?_⟩,j,J⟩
 ·have z:=HB.mp F x hx;simpa using z
 ·have z:=HB.mp G y L;rw [e] at z;simp at z
section
variable {P:E3} {w:Ep} {K:Frag} {mg:Str->Option gV} {base:Heap}
structure wk (K:Frag) (mg:Str->Option gV) (T:List FD) (cs:List (Str×D)):Prop where
 blt:∀ x∈bltNames,mg x=none
 fns:∀ (i:Nat) (d:FD),T[i]? = some d -> ∃ f fd,Fun K d.name d.name d.st f fd/\mg d.name=some (.ref f)/\Hh K EM d.name=some (some (.ref f))/\Binds K fd (d.N.take d.np) []
 ok:∀ d∈T,qi (T.map (·.name)) cs d=true
 cst:∀ x d,(x,d)∈cs -> ∃ u,mg x=some u/\GV K d u
theorem sP {T:List FD} {cs:List (Str×D)} (O:wk K mg T cs):∀ (k i:Nat) (d:FD) (f:Addr) (fd:Gv),T[i]? = some d->Fun K d.name d.name d.st f fd->dy P w K mg base CX0 k f fd (d.N.take d.np) (lSp K (phi T k i))
 | 0,i,d,f,fd,e,F=>⟨fun vs H Q E h=>by obtain ⟨ds,M,_,_,q⟩:=h;exact q.elim,fun A outer s H args us vs Q E _ _ _ _ h=>by obtain ⟨ds,M,_,_,q⟩:=h;exact q.elim⟩
 | k+1,i,d,f,fd,e,F=>by
   obtain ⟨S,hl,hb⟩:=vA (O.ok d (Ef e));refine F.ok S (fun vs H Q E h => ?_) fun cdv A outer s H vs Q E hr h => ?_
   ·obtain ⟨ds,M,rm,rs,d',e',l,q⟩:=h;rw [e] at e';cases e';rw [rs.length,l,hl]
   ·obtain ⟨ds,M,rm,rs,d',e',l,q⟩:=h;rw [e] at e';cases e';have G:Good ⟨T.map (·.name),d.N,aB d.st,d.N,cs⟩ (phi T k) k ((gJ CX0 P w K mg base d.N d.name (aB d.st) f cdv A outer s H E).nox):=by
     refine ⟨fun _ _ z=>z,rfl,rfl,rfl,S.nd,fun _ _=>rfl,hr,O.blt,fun j x hx => ?_,i6 T k,O.cst⟩;have B:(T.map (·.name))[j]? = some x:=hx;rw [Ei] at B
     cases Y:T[j]? with
     | none=>rw [Y] at B;cases B
     | some d2 =>
       rw [Y] at B;cases B;obtain ⟨f2,U,Z,m2,n2,b2⟩:=O.fns j d2 Y;exact ⟨f2,U,_,m2,n2,Z.kp,b2,sP O k j d2 f2 U Y Z⟩
    refine ⟨_,sSs d.body G S.kind _ hb,eO d.N ds,M, { nx:=fun _ M'=>KE' K M H Q .non M',rt:=KE' K M H Q }, ?_,rm,⟨fun ρ M' σ H' x rs' rm' q' => ?_,fun d M' v H' x rm' rd' q'=>q' v H' x rm' rd',fun _ _ _ _ _ _ _ z=>z,fun _ _ _ _ _ _ _ z=>z⟩,q⟩
    ·refine ⟨by simp [cF,eO,rs.length],fun j dd J => ?_⟩
     unfold eO at J;unfold cF
     by_cases L:j < ds.length
     ·rw [DS (by simpa using L),Ei] at J
      cases e3:ds[j]? with
      | none=>rw [e3] at J;cases J
      | some z =>
        rw [e3] at J;cases J;obtain ⟨v,hv,rv⟩:=rs.get e3;refine ⟨v, ?_,rv⟩;rw [DS (by rw [i5,rs.length];exact L),Ei,hv];rfl
     ·rw [r0 (by simpa using L),GZ] at J
      split at J <;> cases J
    ·exact q' .non H' x rm' (Mm.mpr rfl)
theorem zY {T:List FD} {k i:Nat} {H:Hp} {a:Addr} {ns:List Int} (B:pv H) (F:SqL K H a (ns.map V.int)) (h:phi T k i [.con (ns.map D.int)] (fun _=>none) fun d _=>d = .bl true) :
 lSp K (phi T k i) [.ref a] H (fun v _=>v = .bl true) fun _ _ _=>False:=by
 have j:RM K (fun _=>none) H:=fun _ _ z=>by cases z
 refine ⟨[.con (ns.map D.int)],fun _=>none,j,RDs.cons (Mk.mpr ⟨a,ns.map V.int,rfl, ?_,RDs.ints ns⟩) RDs.nil,i6 T k i [.con (ns.map D.int)] (fun _=>none) (fun d _=>d = .bl true) (KE' K (fun _=>none) H fun v _=>v = .bl true) (fun d M' e=>fun v H' x rm rd => ?_) h⟩
 ·rcases F with (z | ⟨o,z⟩) | z
  ·rcases B a with q | ⟨o,xs,q⟩
   ·rw [z] at q;cases q
   ·rw [z] at q;cases q
  ·exact .inl ⟨o,z⟩
  ·exact .inr z
 ·subst e;exact Me.mp rd
end
theorem ee (us:List gV) (h:us.length=1):∃ a,us=[a]:=List.length_eq_one_iff.mp h
theorem cI (us:List gV) (h:us.length=2):∃ a b,us=[a,b]:=by
 cases us with
 | nil=>cases h
 | cons a us=>obtain ⟨b,rfl⟩:=ee us (LW.inj h);exact ⟨a,b,rfl⟩
theorem qj (us:List gV) (h:us.length=3):∃ a b c,us=[a,b,c]:=by
 cases us with
 | nil=>cases h
 | cons a us=>obtain ⟨b,c,rfl⟩:=cI us (LW.inj h);exact ⟨a,b,c,rfl⟩
theorem j6 (us:List gV) (h:us.length=4):∃ a b c d,us=[a,b,c,d]:=by
 cases us with
 | nil=>cases h
 | cons a us=>obtain ⟨b,c,d,rfl⟩:=qj us (LW.inj h);exact ⟨a,b,c,d,rfl⟩
end
section
theorem zZ {T:List FD} {k f:Nat} {d:FD} {ds:List D} {M:Mem} {Q:QD} (e:T[f]? = some d) (l:ds.length=d.np) {ρ:aq} (r:eO d.N ds = ρ)
 (h:wSs (phi T k) d.body { nx:=fun _ M'=>Q .non M',rt:=Q } ρ M):phi T (k+1) f ds M Q:=⟨d,e,l,by rw [r];exact h⟩
theorem ax {T:List FD} {n f:Nat} {d:FD} {ds:List D} {M:Mem} {Q:QD} (hn : 1<=n) (e:T[f]? = some d) (l:ds.length=d.np) {ρ:aq} (r:eO d.N ds = ρ)
 (h:wSs (phi T (n - 1)) d.body { nx:=fun _ M'=>Q .non M',rt:=Q } ρ M):phi T n f ds M Q:=by
 obtain ⟨k,rfl⟩:∃ k,n=k+1:=⟨n - 1,by lia⟩
 exact zZ e l r h
theorem al {Φ:Phi} {D:bJ} {ρ:aq} {M:Mem}:wSs Φ .nil D ρ M=D.nx ρ M:=by rw [wSs];rfl
theorem i7 {Φ:Phi} {s:MS} {r:MSs} {D:bJ} {ρ:aq} {M:Mem}:wSs Φ (.cons s r) D ρ M=wS Φ s { D with nx:=wSs Φ r D } ρ M:=by rw [wSs];rfl
theorem oD {ds:List D} {y:D} {M:Mem} {Q:QD}:wIx (.tup ds) y M Q = ∃ i d,y = .int i/\atI ds i=some d/\Q d M:=rfl
theorem oE {ds:List D} {y:D} {M:Mem} {Q:QD}:wIx (.con ds) y M Q = ∃ i d,y = .int i/\atI ds i=some d/\Q d M:=rfl
theorem az {a:Addr} {i:Int} {ds:List D} {d:D} {M:Mem} {Q:QD} (h:M a=some (.lst ds)) (e:atI ds i=some d) (q:Q d M):wIx (.ref a) (.int i) M Q := .inl ⟨ds,i,d,h,rfl,e,q⟩
theorem i8 {a:Addr} {i:Int} {ds:List D} {v:D} {j:Nat} {M:Mem} {Q:Mem->Prop} (h:M a=some (.lst ds)) (e:ixN ds.length i=some j) (q:Q (ah M a (.lst (ds.set j v)))):cZ (.ref a) (.int i) v M Q:=⟨a,rfl, .inl ⟨ds,i,j,rfl,h,e,q⟩⟩
theorem cg {a:Addr} {ds:List D} {M:Mem} {Q:QD} (h:M a=some (.lst ds)) (q:Q (.int ds.length) M):el [.ref a] M Q:=⟨_,_,rfl,by simp only [fG,h],q⟩
theorem ak {a:Addr} {ds:List D} {M:Mem} (h:M a=some (.lst ds)):aD M (.ref a)=some ds:=by simp only [aD,h]
theorem A0 {i:Int} {M:Mem} {Q:QD}:lj [.int i] M Q=Q (.int i) M:=by
 apply propext;constructor
 ·rintro (⟨j,e,q⟩ | ⟨k,e,q⟩)
  ·cases e;exact q
  ·cases e
 ·exact fun q => .inl ⟨i,rfl,q⟩
theorem A1 {b:Bool} {M:Mem} {Q:QD}:lj [.bl b] M Q=Q (.int (if b then 1 else 0)) M:=by
 apply propext;constructor
 ·rintro (⟨j,e,q⟩ | ⟨k,e,q⟩)
  ·cases e
  ·cases e;exact q
 ·exact fun q => .inr ⟨b,rfl,q⟩
theorem AV {i j:Int} {M:Mem} {Q:QD}:wEq (.int i) (.int j) M Q=Q (.bl (i==j)) M:=by
 simp [wEq,rb,Ej]
theorem AW {i j:Int} {M:Mem} {Q:QD}:wNe (.int i) (.int j) M Q=Q (.bl (!(i==j))) M:=by
 simp [wNe,rb,Ej]
theorem sQ {i j:Int} {M:Mem} {Q:QD}:gM (.int i) (.int j) M Q=Q (.int (i+j)) M:=rfl
theorem sR {a b:List D} {M:Mem} {Q:QD}:gM (.tup a) (.tup b) M Q=((a≠[]∨True)/\a.length+b.length<=DL/\Q (.tup (a++b)) M):=rfl
theorem sU {i j:Int} {M:Mem} {Q:QD}:pB (.int i) (.int j) M Q=Q (.int (i - j)) M:=rfl
theorem sV {i j:Int} {M:Mem} {Q:QD}:jl (.int i) (.int j) M Q=(MulOk i j/\Q (.int (i*j)) M):=rfl
theorem sW {ds:List D} {k:Int} {M:Mem} {Q:QD}:jl (.tup ds) (.int k) M Q=(-(2 ^ 63)<=k/\k < 2 ^ 63/\ds.length*k.toNat<=DL/\Q (.tup (DN k.toNat ds).flatten) M):=rfl
theorem oF {i j:Int} {M:Mem} {Q:QD}:kx (.int i) (.int j) M Q=(0 < j/\j < 2 ^ 256/\Q (.int (i / j)) M):=rfl
theorem sX {i j:Int} {M:Mem} {Q:QD}:pC (.int i) (.int j) M Q=(0 < j/\Q (.int (i % j)) M):=rfl
theorem sY {i j:Int} {M:Mem} {Q:QD}:pD (.int i) (.int j) M Q=(0<=j/\j<=1000000/\i.natAbs < 2 ^ 64/\Q (.int (i ^ j.toNat)) M):=rfl
theorem wl {i j:Int} {M:Mem} {Q:QD}:wLt (.int i) (.int j) M Q=Q (.bl (decide (i < j))) M:=rfl
theorem wm {i j:Int} {M:Mem} {Q:QD}:wLe (.int i) (.int j) M Q=Q (.bl (decide (i<=j))) M:=rfl
theorem qk {i j:Int} {M:Mem} {Q:QD}:wGt (.int i) (.int j) M Q=Q (.bl (decide (j < i))) M:=rfl
theorem wn {i j:Int} {M:Mem} {Q:QD}:wGe (.int i) (.int j) M Q=Q (.bl (decide (j<=i))) M:=rfl
theorem sZ {i:Int} {M:Mem} {Q:QD}:pE (.int i) M Q=Q (.int (-i)) M:=rfl
theorem A2 {i:Int} {M:Mem} {Q:QD}:lh [.int i] M Q=Q (.int (if i < 0 then -i else i)) M:=by simp [lh]
theorem ya {i j:Int} {M:Mem} {Q:QD}:ky [.int i, .int j] M Q=Q (.int (if j > i then j else i)) M:=by
 apply propext;constructor
 ·rintro ⟨a,b,e,q⟩;cases e;exact q
 ·exact fun q=>⟨i,j,rfl,q⟩
theorem yb {i j:Int} {M:Mem} {Q:QD}:kz [.int i, .int j] M Q=Q (.int (if j < i then j else i)) M:=by
 apply propext;constructor
 ·rintro ⟨a,b,e,q⟩;cases e;exact q
 ·exact fun q=>⟨i,j,rfl,q⟩
theorem A3 {ds:List D} {M:Mem} {Q:QD}:el [.con ds] M Q=Q (.int ds.length) M:=by simp [el,fG]
theorem A4 {ds:List D} {M:Mem} {Q:QD}:el [.tup ds] M Q=Q (.int ds.length) M:=by simp [el,fG]
theorem t5 {ds:List D} {M:Mem}:aD M (.tup ds)=some ds:=rfl
theorem t6 {ds:List D} {M:Mem}:aD M (.con ds)=some ds:=rfl
theorem wo {α:Sort _} {a b : α}:(if true=true then a else b)=a:=rfl
theorem wp {α:Sort _} {a b : α}:(if false=true then a else b)=b:=rfl
theorem yc {ta tb:TEd} {ρ:aq} {M:Mem} {R:List D->(Mem->Prop)->Mem->Prop}:lF ta tb ρ M R=ta ρ M fun x M1=>tb ρ M1 fun y M2 => ∃ xs ys,aD M2 x=some xs/\aD M2 y=some ys/\R (Jh kB xs ys) (fun M=>aD M x=some xs/\aD M y=some ys) M2:=by
 unfold lF br;congr 1;funext x M1;unfold cn;congr 1;funext y M2;apply propext;constructor
 ·rintro ⟨x',y',xs,ys,e,q⟩
  cases e;exact ⟨xs,ys,q⟩
 ·rintro ⟨xs,ys,q⟩;exact ⟨x,y,xs,ys,rfl,q⟩
theorem t7 {x y:Str} {M:Mem} {Q:QD}:gM (.str x) (.str y) M Q=(x.length+y.length<=DL/\Q (.str (x++y)) M):=rfl
local macro_rules | `(tactic| walk_at "wp") => `(tactic| ((try dsimp only [wS,wE,wA,wAnds,wOrs,wO,wT,wAndTs,wOrTs,wTl,wI,wCl,wCmp,bG,bGs,opB,opC,opF,opM,zN,opI,gK,kC,kD,wC,wOp,wUn,cn,br,wAr,eY,ji,kW,lu,iE,iF,lw,iG,lB,iH,wIf,eI,iI,iJ,fP,cK,iQ,iV,wBM,cH,gO,cq,pM,lD,iL,iK,dS,bu,dj,gc,jh,gd,lK,fK,iN,iO,lL,sIf,gQ,lM,lN,fL,lP,sQ,sR,t7,sU,sV,sW,oF,sX,sY,wl,wm,qk,wn,sZ,t5,t6,oD,oE,wo,wp,IY,G4,Kk,Kl,EY,ED,Lf,Lg,Lh,E6,Fc,Fl,FU]);(try simp only [wS,wE,wA,wAnds,wOrs,wO,wT,wAndTs,wOrTs,wTl,wI,wCl,wCmp,bG,bGs,opB,opC,opF,opM,zN,opI,gK,wC,wOp,wUn,cn,br,wAr,eY,ji,kW,lu,iE,iF,lw,iG,lB,iH,wIf,eI,iI,iJ,fP,cK,iQ,iV,wBM,cH,gO,cq,pM,lD,yc,iL,iK,dS,bu,dj,gc,jh,gd,lK,fK,iN,iO,lL,sIf,gQ,lM,lN,fL,lP,al,
 sQ,sR,t7,sU,sV,sW,oF,sX,sY,wl,wm,qk,wn,sZ,A0,A1,AV,AW,A2,ya,yb,A3,A4,t5,t6,oD,oE,wo,wp,EK,if_false,if_true,
 IY,G4,Kk,Kl,KD,exists_eq_left',exists_eq_left,exists_eq_right,exists_and_left,exists_and_right,D.bl.injEq,D.int.injEq,D.ref.injEq,D.tup.injEq,EY,ED,Lf,Lg,Lh,E6,Fc,decide_eq_true_eq,Lz,and_true,true_and,Fl,FU])))
local macro_rules | `(tactic| walk_at "st") => `(tactic| ((first | rw [i7] | (dsimp only;rw [i7]));walk_at "wp"))
theorem bH {a:Addr} {t:Bool} {kvs:List (D×D)} {k d:D} {M:Mem} {Q:QD} (h:M a=some (.dct t kvs)) (ok:dR t k=true) (e:dget kvs k=some d) (q:Q d M):wIx (.ref a) k M Q := .inr (.inl ⟨t,kvs,d,h,ok,e,q⟩)
theorem fq {a:Addr} {t:Bool} {kvs:List (D×D)} {k v:D} {M:Mem} {Q:Mem->Prop} (h:M a=some (.dct t kvs)) (ok:dR t k=true) (j:kvs.length < DL) (q:Q (ah M a (.dct t (fE kvs k v)))):cZ (.ref a) k v M Q:=⟨a,rfl, .inr ⟨t,kvs,h,ok,j,q⟩⟩
def Ge (M M':Mem):Prop := ∀ a o,M a=some o->M' a=some o
theorem Ge.refl {M:Mem}:Ge M M:=fun _ _ h=>h
theorem Ge.trans {M M' M'':Mem} (h:Ge M M') (g:Ge M' M''):Ge M M'':=fun _ _ e=>g _ _ (h _ _ e)
theorem Ge.new {M:Mem} {p:Addr} {o:O} (h:M p=none):Ge M (ah M p o):=fun a o' e=>by
 rw [ag (fun z=>by rw [z,h] at e;cases e)];exact e
def Box (b:Addr) (M:Mem):Prop := ∃ x y z:Int,M b=some (.lst [.int x, .int y, .int z])
structure Bx (b:Addr) (M M':Mem):Prop where
 box:Box b M'
 keep:∀ a o,a≠b->M a=some o->M' a=some o
theorem Bx.refl {b:Addr} {M:Mem} (h:Box b M):Bx b M M:=⟨h,fun _ _ _ e=>e⟩
theorem Bx.trans {b:Addr} {M M' M'':Mem} (h:Bx b M M') (g:Bx b M' M''):Bx b M M'':=⟨g.box,fun a o n e=>g.keep a o n (h.keep a o n e)⟩
theorem Bx.ge {b:Addr} {M M' M'':Mem} (h:Bx b M M') (g:Ge M' M''):Bx b M M'':=⟨by obtain ⟨x,y,z,e⟩:=h.box;exact ⟨x,y,z,g _ _ e⟩,fun a o n e=>g _ _ (h.keep a o n e)⟩
theorem Bx.put {b:Addr} {M:Mem} {x y z:Int}:Bx b M (ah M b (.lst [.int x, .int y, .int z])):=⟨⟨x,y,z,aa⟩,fun a o n e=>by rw [ag n];exact e⟩
theorem Bx.of {b:Addr} {M M':Mem} (h:Box b M) (g:Ge M M'):Bx b M M':=(Bx.refl h).ge g
theorem kg {b:BT} {tb:TCd} {chk:Mem->Prop} {N:NC} (I:List D->aq->Mem->List D->Prop) {xs:List D} {ρ:aq} {M:Mem} {acc:List D}
 (h0:I [] ρ M acc)
 (q:∀ l ρ M acc,I l ρ M acc->chk M)
 (hs:∀ l x r ρ M acc,xs=l++x::r->I l ρ M acc -> ∃ ρ',b x ρ = some ρ' /\ ∀ N':NC,(∀ ρ2 M2 j,I (l++[x]) ρ2 M2 j->N' ρ2 M2 j)->tb ρ' M acc N')
 (z:∀ ρ M acc,I xs ρ M acc->N ρ M acc):bK b tb chk N xs ρ M acc:=by
 have g:∀ (r l:List D) (ρ:aq) (M:Mem) (acc:List D),xs=l++r->I l ρ M acc->bK b tb chk N r ρ M acc:=by
  intro r
  induction r with
  | nil=>intro l ρ M acc e i;rw [Fb] at e;subst e;exact ⟨q _ _ _ _ i,z _ _ _ i⟩
  | cons x r ih =>
    intro l ρ M acc e i;obtain ⟨ρ',B,h⟩:=hs l x r ρ M acc e i;exact ⟨q _ _ _ _ i, ρ',B,h _ fun ρ2 M2 j F=>ih (l++[x]) ρ2 M2 j (by rw [e];simp) F⟩
 exact g xs [] ρ M acc rfl h0
theorem mV {b:BT} {tb:TSd} {chk:Mem->Prop} {E:bJ} (I:List D->aq->Mem->Prop) {xs:List D} {ρ:aq} {M:Mem}
 (h0:I [] ρ M)
 (j:∀ l ρ M,I l ρ M->chk M)
 (hs:∀ l x r ρ M,xs=l++x::r->I l ρ M -> ∃ ρ',b x ρ = some ρ' /\ ∀ F:aq->Mem->Prop,(∀ ρ2 M2,I (l++[x]) ρ2 M2->F ρ2 M2)->tb { E with nx:=F,ct:=F,bk:=E.nx } ρ' M)
 (q:∀ ρ M,I xs ρ M->E.nx ρ M):bE b tb chk E xs ρ M:=by
 have g:∀ (r l:List D) (ρ:aq) (M:Mem),xs=l++r->I l ρ M->bE b tb chk E r ρ M:=by
  intro r
  induction r with
  | nil=>intro l ρ M e i;rw [Fb] at e;subst e;exact ⟨j _ _ _ i,q _ _ i⟩
  | cons x r ih =>
    intro l ρ M e i;obtain ⟨ρ',z,h⟩:=hs l x r ρ M e i;exact ⟨j _ _ _ i, ρ',z,h _ fun ρ2 M2 B=>ih (l++[x]) ρ2 M2 (by rw [e];simp) B⟩
 exact g xs [] ρ M rfl h0
section
variable {T:List FD}
noncomputable def j7 (s:Stmt):FD:=⟨"_law_cell_at",s,["_law_script", "_law_k"],2,
 (.cons (.ite (.cmp .lt (.var 1) (.blt .len (.cons (.var 0) .nil))) (.cons (.ret (.ix (.var 0) (.var 1)))
 .nil) .nil)
 (.cons (.ret (.int 0))
 .nil))⟩
theorem i9 {α:Type} {xs:List α} {i:Int} (h0 : 0<=i) (h1:i < xs.length):∃ x,atI xs i=some x/\xs[i.toNat]? = some x:=by
 have:i.toNat < xs.length:=by lia
 refine ⟨xs[i.toNat], ?_,D0 this⟩;unfold atI ixN;simp [h0,h1,D0 this]
theorem yd {f:Nat} {s:Stmt} (hf:T[f]? = some (j7 s)) {n:Nat} (hn : 1<=n) {ns:List Int} {k:Int} {M:Mem} {Q:QD} (h0 : 0<=k) (q:∀ i,Q (.int i) M):phi T n f [.con (ns.map D.int), .int k] M Q:=by
 refine ax hn hf rfl (ρ := [some _,some _]) rfl ?_;unfold j7;walk_at "st"
 split
 ·next h =>
  walk_at "st";obtain ⟨x,e,j⟩:=i9 (xs:=ns.map D.int) h0 h;rw [Ei] at j
  cases e3:ns[k.toNat]? with
  | none=>rw [e3] at j;cases j
  | some y=>rw [e3] at j;cases j;exact ⟨_,e,q y⟩
 ·walk_at "st";exact q 0
theorem ql {i j:Int} (h : -(2 ^ 64) < i/\i < 2 ^ 64):MulOk i j := .inl h
theorem ic {i j:Int} (h : -(2 ^ 64) < j/\j < 2 ^ 64):MulOk i j := .inr (.inl h)
noncomputable def ju (s:Stmt):FD:=⟨"_law_mixed",s,["_law_number_here", "_law_k", "_law_once", "_law_twice"],2,
 (.cons (.asg (.name 2) (.bin .mod (.bin .mul (.bin .add (.bin .add (.bin .mod (.var 0) (.int 1000000007)) (.bin .mul (.int 7) (.var 1))) (.int 1)) (.int 48271)) (.int 2147483647)))
 (.cons (.asg (.name 3) (.bin .mod (.bin .mul (.var 2) (.bin .add (.bin .add (.bin .mod (.var 2) (.int 1009)) (.var 1)) (.int 3))) (.int 998244353)))
 (.cons (.ret (.bin .fdiv (.bin .mod (.bin .add (.bin .mul (.var 3) (.int 39373)) (.var 2)) (.int 2147483629)) (.int 64)))
 .nil)))⟩
theorem vB {f:Nat} {s:Stmt} (hf:T[f]? = some (ju s)) {n:Nat} (hn : 1<=n) {x k:Int} {M:Mem} {Q:QD} (q:∀ i,Q (.int i) M):phi T n f [.int x, .int k] M Q:=by
 refine ax hn hf rfl (ρ := [some _,some _,none,none]) rfl ?_;unfold ju;walk_at "st";refine ⟨by decide,ql (by decide),ic (by decide),by decide, ?_⟩
 walk_at "st";refine ⟨by decide,ql ?_,by decide, ?_⟩
 ·have h1:=HV ((x % 1000000007+7*k+1)*48271) (b := 2147483647) (by decide)
  have h2:=GX ((x % 1000000007+7*k+1)*48271) (b := 2147483647) (by decide)
  lia
 walk_at "st";refine ⟨ic (by decide),by decide,by decide,by decide, ?_⟩
 exact q _
noncomputable def qm (s:Stmt) (fc fm:Nat):FD:=⟨"_law_box",s,["_law_script", "_law_k", "_law_cell"],2,
 (.cons (.asg (.name 2) (.call fc (.cons (.var 0) (.cons (.var 1) .nil))))
 (.cons (.ret (.lst (.cons (.bin .mul (.blt .abs (.cons (.var 2) .nil)) (.blt .int (.cons (.cmp .ge (.blt .abs (.cons (.var 2) .nil)) (.bin .pow (.int 10) (.int 18))) .nil))) (.cons (.call fm (.cons (.var 2) (.cons (.bin .add (.int 900) (.var 1)) .nil))) (.cons (.int 0) .nil)))))
 .nil))⟩
theorem A5 {f fc fm:Nat} {s sc:Stmt} (hf:T[f]? = some (qm s fc fm)) (z:T[fc]? = some (j7 sc)) {n:Nat} (B:∀ {x k:Int} {M:Mem} {Q:QD},(∀ i,Q (.int i) M)->phi T (n - 1) fm [.int x, .int k] M Q) (hn : 2<=n) {ns:List Int} {k:Int} {M:Mem} {Q:QD} (h0 : 0<=k)
 (q:∀ p x y,M p=none->Q (.ref p) (ah M p (.lst [.int x, .int y, .int 0]))):phi T n f [.con (ns.map D.int), .int k] M Q:=by
 refine ax (by lia) hf rfl (ρ := [some _,some _,none]) rfl ?_
 unfold qm;walk_at "st";refine yd z (by lia) h0 fun i => ?_
 walk_at "st";refine ⟨by decide,by decide,by decide,ic ?_, ?_⟩
 ·split <;> lia
 refine B fun j => ?_;exact ⟨by rw [q7];lia,fun p F=>q p _ _ F⟩
noncomputable def mW (s:Stmt) (fm:Nat):FD:=⟨"_law_take",s,["_law_box_here", "_law_many", "_law_found", "_law_reach"],2,
 (.cons (.ite (.cmp .gt (.ix (.var 0) (.int 0)) (.int 0)) (.cons (.asg (.name 2) (.bin .mod (.ix (.var 0) (.int 0)) (.var 1)))
 (.cons (.put (.var 0) (.int 0) (.bin .fdiv (.ix (.var 0) (.int 0)) (.var 1)))
 (.cons (.ret (.var 2))
 .nil))) .nil)
 (.cons (.asg (.tup (.cons (.name 2) (.cons (.name 3) .nil))) (.tup (.cons (.int 0) (.cons (.int 1) .nil))))
 (.cons (.while (.cmp .lt (.var 3) (.var 1)) (.cons (.put (.var 0) (.int 2) (.bin .add (.ix (.var 0) (.int 2)) (.int 1)))
 (.cons (.asg (.name 2) (.bin .add (.bin .mul (.var 2) (.int 33554432)) (.call fm (.cons (.ix (.var 0) (.int 1)) (.cons (.ix (.var 0) (.int 2)) .nil)))))
 (.cons (.asg (.name 3) (.bin .mul (.var 3) (.int 33554432)))
 .nil))))
 (.cons (.ret (.bin .mod (.var 2) (.var 1)))
 .nil))))⟩
def wq (T:List FD) (n fm:Nat):Prop := ∀ {x k:Int} {M:Mem} {Q:QD},(∀ i,Q (.int i) M)->phi T n fm [.int x, .int k] M Q
theorem ye {f fm:Nat} {s:Stmt} (hf:T[f]? = some (mW s fm)) {n:Nat} (J:wq T (n - 1) fm) (hn : 2<=n) {b:Addr} {m:Int} {M:Mem} {Q:QD} (L:Box b M) (h1 : 0 < m) (h2:m<=2 ^ 120)
 (q:∀ r M',0<=r->r < m->Bx b M M'->Q (.int r) M'):phi T n f [.ref b, .int m] M Q:=by
 refine ax (by lia) hf rfl (ρ := [some _,some _,none,none]) rfl ?_
 unfold mW;obtain ⟨x,y,z,G⟩:=L;walk_at "st";refine az G (d := .int x) rfl ?_;simp only [qk];walk_at "wp"
 split
 ·next hx =>
  walk_at "st";refine az G (d := .int x) rfl ?_;walk_at "wp";refine ⟨h1, ?_⟩;walk_at "st";refine az G (d := .int x) rfl ?_;walk_at "wp";refine ⟨h1,by lia, ?_⟩
  refine i8 G (j := 0) rfl ?_;walk_at "st";exact q _ _ (HV _ (by lia)) (GX _ h1) Bx.put
 ·next hx =>
  walk_at "st";refine ⟨by rw [q7];lia, ?_⟩
  walk_at "st";refine ⟨6, ?_⟩;have go:∀ (f:Nat) (found reach z:Int) (M':Mem),m<=reach*33554432 ^ f->M' b=some (.lst [.int x, .int y, .int z])->Bx b M M' ->
   bh (eY (wOp wLt (gK 3) (gK 1))) (wSs (phi T (n - 1)) (MSs.cons (MS.put (ME.var 0) (ME.int 2) (ME.bin BOp.add ((ME.var 0).ix (ME.int 2)) (ME.int 1)))
    (MSs.cons (MS.asg (MG.name 2) (ME.bin BOp.add (ME.bin BOp.mul (ME.var 2) (ME.int 33554432)) (ME.call fm (MEs.cons ((ME.var 0).ix (ME.int 1)) (MEs.cons ((ME.var 0).ix (ME.int 2)) MEs.nil)))))
      (MSs.cons (MS.asg (MG.name 3) (ME.bin BOp.mul (ME.var 3) (ME.int 33554432))) MSs.nil))))
    { nx:=wSs (phi T (n - 1)) (MSs.cons (MS.ret (ME.bin BOp.mod (ME.var 2) (ME.var 1))) MSs.nil) { nx:=fun x M'=>Q D.non M',rt:=Q },rt:=Q } (f+1) [some (.ref b),some (.int m),some (.int found),some (.int reach)] M':=by
   intro f
   induction f with
   | zero =>
     intro found reach z M' hm F B;simp only [bh];walk_at "wp";rw [if_neg (by lia)]
     walk_at "st";exact ⟨h1,q _ _ (HV _ (by lia)) (GX _ h1) B⟩
   | succ f ih =>
     intro found reach z M' hm F B;rw [bh];walk_at "wp"
     split
     ·next O =>
      walk_at "st";refine az F (d := .int z) rfl ?_;walk_at "wp";refine i8 F (j := 2) rfl ?_;walk_at "st";refine ⟨ic (by decide), ?_⟩
      refine az aa (d := .int y) rfl ?_;refine az aa (d := .int (z+1)) rfl ?_;refine J fun i => ?_;walk_at "wp";walk_at "st";refine ⟨ic (by decide), ?_⟩
      exact ih _ _ (z+1) _ (by rw [Int.mul_assoc, <- Int.pow_succ'];exact hm) aa (B.trans Bx.put)
     ·walk_at "st";exact ⟨h1,q _ _ (HV _ (by lia)) (GX _ h1) B⟩
  exact go 5 0 1 z M (by lia) G (Bx.refl ⟨x,y,z,G⟩)
def cv (T:List FD) (n f:Nat):Prop := ∀ {b:Addr} {m:Int} {M:Mem} {Q:QD},Box b M->0 < m->m<=2 ^ 120->(∀ r M',0<=r->r < m->Bx b M M'->Q (.int r) M')->phi T n f [.ref b, .int m] M Q
noncomputable def ie (s:Stmt) (ft:Nat):FD:=⟨"_law_number",s,["_law_box_here", "_law_way"],1,
 (.cons (.asg (.name 1) (.call ft (.cons (.var 0) (.cons (.int 9) .nil))))
 (.cons (.ite (.cmp .eq (.var 1) (.int 0)) (.cons (.ret (.bin .sub (.call ft (.cons (.var 0) (.cons (.int 2001) .nil))) (.int 1000)))
 .nil) .nil)
 (.cons (.ret (.ix (.lst (.cons (.int 0) (.cons (.int 0) (.cons (.int 0) (.cons (.int 1) (.cons (.int 1) (.cons (.int 1) (.cons (.neg (.int 1)) (.cons (.neg (.int 1)) (.cons (.int 2) .nil)))))))))) (.var 1)))
 .nil)))⟩
theorem t8 {f ft:Nat} {s:Stmt} (hf:T[f]? = some (ie s ft)) {n:Nat} (j:cv T (n - 1) ft) (hn : 1<=n) {b:Addr} {M:Mem} {Q:QD} (G:Box b M)
 (q:∀ r M', -1000<=r->r<=1000->Bx b M M'->Q (.int r) M'):phi T n f [.ref b] M Q:=by
 refine ax (by lia) hf rfl (ρ := [some _,none]) rfl ?_
 unfold ie;walk_at "st";refine j G (by decide) (by decide) fun r M1 h0 h1 B => ?_
 walk_at "st"
 split
 ·walk_at "st";refine j B.box (by decide) (by decide) fun U M2 h0 h1 J => ?_
  walk_at "wp";exact q _ _ (by lia) (by lia) (B.trans J)
 ·next F =>
  walk_at "st";refine ⟨by rw [q7];lia,fun p L => ?_⟩
  have F:r=1∨r=2∨r=3∨r=4∨r=5∨r=6∨r=7∨r=8:=by
   have:r≠0:=fun z=>F (by rw [z];rfl)
   lia
  have O:=B.ge (Ge.new (o := .lst [.int 0, .int 0, .int 0, .int 1, .int 1, .int 1, .int (-1), .int (-1), .int 2]) L)
  rcases F with rfl | rfl | rfl | rfl | rfl | rfl | rfl | rfl <;> exact az aa rfl (q _ _ (by decide) (by decide) O)
end
section
variable {T:List FD}
def mX (T:List FD) (n f:Nat):Prop := ∀ {b:Addr} {M:Mem} {Q:QD},Box b M->(∀ r M', -1000<=r->r<=1000->Bx b M M'->Q (.int r) M')->phi T n f [.ref b] M Q
theorem bV {lo:Int} {n:Nat}:(bP lo n).length=n:=by simp [bP]
theorem aZ {α:Type} {xs l r:List α} {x : α} (e:xs=l++x::r):l.length < xs.length:=by rw [e];simp
theorem t9 {α:Type} {xs l r:List α} {x : α} (e:xs=l++x::r):xs[l.length]? = some x:=by rw [e];simp
theorem jv {k:Nat} {M:Mem}:∀ ns:List Int,aw (rb k M) (ns.map D.int)=some (ns.map PyData.int)
 | [] => rfl
 | x::r=>by
   have e:rb k M (.int x)=some (.int x):=by cases k <;> rfl
   simp [aw,e,jv r]
theorem dL {k:Nat} {M:Mem} {a:Addr} {ds:List D} (h:M a=some (.lst ds)):rb (k+1) M (.ref a)=(aw (rb k M) ds).map Ln:=by
 simp only [rb,h]
theorem cB {Φ:Phi} {s:MS} {r:MSs} {E:bJ} {ρ:aq} {M:Mem} (I:aq->Mem->Prop) (h1:∀ R:aq->Mem->Prop,(∀ ρ M,I ρ M->R ρ M)->wS Φ s { E with nx:=R } ρ M) (h2:∀ ρ M,I ρ M->wSs Φ r E ρ M):wSs Φ (.cons s r) E ρ M:=by
 rw [i7];exact h1 _ h2
theorem Bx.upd {b q:Addr} {M M':Mem} {o:O} (h:Bx b M M') (B:M q=none) (j:q≠b):Bx b M (ah M' q o) :=
 ⟨by obtain ⟨x,y,z,e⟩:=h.box;exact ⟨x,y,z,by rw [ag j.symm];exact e⟩,fun u o' nu eu=>by
   rw [ag (fun z=>by rw [z,B] at eu;cases eu)];exact h.keep u o' nu eu⟩
theorem Bx.none {b q:Addr} {M M':Mem} (h:Bx b M M') (z:M' q=none) (j:q≠b):M q=none:=by
 cases e:M q with
 | none=>rfl
 | some o=>rw [h.keep q o j e] at z;cases z
theorem Bs {k:Nat}:(DN k [D.int 0]).flatten=(DN k (0:Int)).map D.int:=by
 induction k with
 | zero=>rfl
 | succ k ih=>rw [Ez,Fx,ih];rfl
end
section
theorem bj {α:Type} {f : α -> D} {b:BT} {tb:TCd} {chk:Mem->Prop} {N:NC} (I:List α -> aq->Mem->List D->Prop) {ys:List α} {xs:List D} (hx:xs=ys.map f) {ρ:aq} {M:Mem} {acc:List D}
 (h0:I [] ρ M acc)
 (q:∀ l ρ M acc,I l ρ M acc->chk M)
 (hs:∀ l x r ρ M acc,ys=l++x::r->I l ρ M acc -> ∃ ρ',b (f x) ρ = some ρ' /\ ∀ N':NC,(∀ ρ2 M2 j,I (l++[x]) ρ2 M2 j->N' ρ2 M2 j)->tb ρ' M acc N')
 (z:∀ ρ M acc,I ys ρ M acc->N ρ M acc):bK b tb chk N xs ρ M acc:=by
 subst hx;have g:∀ (r l:List α) (ρ:aq) (M:Mem) (acc:List D),ys=l++r->I l ρ M acc->bK b tb chk N (r.map f) ρ M acc:=by
  intro r
  induction r with
  | nil=>intro l ρ M acc e i;rw [Fb] at e;subst e;exact ⟨q _ _ _ _ i,z _ _ _ i⟩
  | cons x r ih =>
    intro l ρ M acc e i;obtain ⟨ρ',B,h⟩:=hs l x r ρ M acc e i;exact ⟨q _ _ _ _ i, ρ',B,h _ fun ρ2 M2 j F=>ih (l++[x]) ρ2 M2 j (by rw [e];simp) F⟩
 exact g ys [] ρ M acc rfl h0
theorem fu {α:Type} {f : α -> D} {b:BT} {tb:TSd} {chk:Mem->Prop} {E:bJ} (I:List α -> aq->Mem->Prop) {ys:List α} {xs:List D} (hx:xs=ys.map f) {ρ:aq} {M:Mem}
 (h0:I [] ρ M)
 (j:∀ l ρ M,I l ρ M->chk M)
 (hs:∀ l x r ρ M,ys=l++x::r->I l ρ M -> ∃ ρ',b (f x) ρ = some ρ' /\ ∀ F:aq->Mem->Prop,(∀ ρ2 M2,I (l++[x]) ρ2 M2->F ρ2 M2)->tb { E with nx:=F,ct:=F,bk:=E.nx } ρ' M)
 (q:∀ ρ M,I ys ρ M->E.nx ρ M):bE b tb chk E xs ρ M:=by
 subst hx;have g:∀ (r l:List α) (ρ:aq) (M:Mem),ys=l++r->I l ρ M->bE b tb chk E (r.map f) ρ M:=by
  intro r
  induction r with
  | nil=>intro l ρ M e i;rw [Fb] at e;subst e;exact ⟨j _ _ _ i,q _ _ i⟩
  | cons x r ih =>
    intro l ρ M e i;obtain ⟨ρ',z,h⟩:=hs l x r ρ M e i;exact ⟨j _ _ _ i, ρ',z,h _ fun ρ2 M2 B=>ih (l++[x]) ρ2 M2 (by rw [e];simp) B⟩
 exact g ys [] ρ M rfl h0
theorem oG {M M':Mem} {x:D} {ds:List D} (h:aD M x=some ds) (g:Ge M M'):aD M' x=some ds:=by
 cases x with
 | ref a =>
   simp only [aD] at h ⊢
   split at h
   ·next e=>rw [g _ _ e];exact h
   ·cases h
 | _=>exact h
theorem ii {M:Mem} {x:D} {ds:List D} (h:aD M x=some ds):fG M x=some ds.length:=by
 cases x with
 | ref a =>
   simp only [aD] at h
   split at h
   ·next e=>cases h;simp only [fG,e]
   ·cases h
 | tup es=>cases h;rfl
 | con es=>cases h;rfl
 | _=>cases h
theorem oH {M:Mem} {x:D} {ds:List D} {Q:QD} (h:aD M x=some ds) (q:Q (.int ds.length) M):el [x] M Q:=⟨_,_,rfl,ii h,q⟩
theorem oI {M:Mem} {x:D} {ns:List Int} {Q:QD} (h:aD M x=some (ns.map .int)) (q:Q (.int ns.sum) M):pJ [x] M Q:=⟨_,_,rfl,h,q⟩
theorem fw {n:Nat}:bP 0 n=(EZ n).map fun i=>D.int (i:Nat):=by simp [bP]
end
section
variable {T:List FD}
def Big (ns:List Int):Prop := ∀ x∈ns, -1000000000000<=x/\x<=1000000000000
noncomputable def qo (s:Stmt) (ft:Nat):FD:=⟨"_law_row",s,["_law_box_here", "_law_length", "_law_most"],2,
 (.cons (.asg (.name 2) (.ix (.lst (.cons (.int 9) (.cons (.int 9) (.cons (.int 9) (.cons (.bin .pow (.int 10) (.int 12)) .nil))))) (.call ft (.cons (.var 0) (.cons (.int 4) .nil)))))
 (.cons (.ret (.comp [none,(some 0),(some 2)] ["_law_k", "_law_box_here", "_law_most"] (.last (.rng1 (.var 1)) (.name 0) .nil (.bin .sub (.call ft (.cons (.var 1) (.cons (.bin .add (.bin .mul (.int 2) (.var 2)) (.int 1)) .nil))) (.var 2)))))
 .nil))⟩
def wt (T:List FD) (n f:Nat):Prop := ∀ {b:Addr} {L:Nat} {M:Mem} {Q:QD},L<=1000->Box b M ->
 (∀ (ns:List Int) p M',ns.length=L->Big ns->Bx b M M'->M p=none->M' p=some (.lst (ns.map .int))->Q (.ref p) M')->phi T n f [.ref b, .int L] M Q
theorem A6 {f ft:Nat} {s:Stmt} (hf:T[f]? = some (qo s ft)) {n:Nat} (F:cv T (n - 1) ft) (hn : 1<=n):wt T n f:=by
 intro b L M Q hL Z q;refine ax (by lia) hf rfl (ρ := [some _,some _,none]) rfl ?_
 unfold qo;walk_at "st";refine ⟨by decide,by decide,by decide,by rw [q7];lia,fun p hp => ?_⟩
 have g0:=Ge.new (o := .lst [.int 9, .int 9, .int 9, .int (10 ^ (12:Int).toNat)]) hp;have O:p≠b:=fun z=>by obtain ⟨x,y,w,e⟩:=Z;rw [<- z,hp] at e;cases e
 have x0:=Bx.of Z g0;refine F x0.box (by decide) (by decide) fun w M1 w0 w1 j => ?_
 have U:=j.keep p _ O aa;have hw:∃ m:Int,0<=m/\m<=1000000000000/\atI [D.int 9, .int 9, .int 9, .int (10 ^ (12:Int).toNat)] w=some (.int m):=by
  have:w=0∨w=1∨w=2∨w=3:=by lia
  rcases this with rfl | rfl | rfl | rfl
  ·exact ⟨9,by decide,by decide,rfl⟩
  ·exact ⟨9,by decide,by decide,rfl⟩
  ·exact ⟨9,by decide,by decide,rfl⟩
  ·exact ⟨_,by decide,by decide,rfl⟩
 obtain ⟨m,m0,m1,em⟩:=hw;refine az U em ?_;have Y:=x0.trans j;walk_at "st";refine ⟨by lia,by lia, ?_⟩
 refine kg (I:=fun l ρ M' acc => ∃ (ns:List Int) (x:Option D),acc=ns.map .int/\ns.length=l.length/\Big ns/\Bx b M M' /\ ρ = [x,some (.ref b),some (.int m)]) ⟨[],none,rfl,rfl,fun _ h=>by simp at h,Y,rfl⟩ (fun _ _ _ _ _=>trivial) ?_ ?_
 ·rintro l x r ρ M1 acc e ⟨ns,o,rfl,J,hs,j,rfl⟩;refine ⟨_,rfl,fun N' hN => ?_⟩;walk_at "wp";refine ⟨ql (by decide), ?_⟩
  refine F j.box (by lia) (by lia) fun v M2 h1 h2 x2 => ?_
  walk_at "wp";have:=aZ e;rw [bV] at this;refine ⟨by rw [i5,J,q7];lia,hN _ _ _ ⟨ns++[v - m],_,by simp,by simp [J], ?_,j.trans x2,rfl⟩⟩
  intro y hy
  rcases E5.mp hy with h | h
  ·exact hs y h
  ·simp at h;subst h;lia
 ·rintro ρ M1 acc ⟨ns,o,rfl,J,hs,j,rfl⟩ p2 B;rw [bV] at J;have G:p2≠b:=fun z=>by obtain ⟨x,y,w,e⟩:=j.box;rw [<- z,B] at e;cases e
  exact q ns p2 _ (by lia) hs (j.ge (Ge.new B)) (j.none B G) aa
theorem kh {B:Int}:∀ {l:List Int},(∀ x∈l, -B<=x/\x<=B) -> -(l.length*B)<=l.sum/\l.sum<=l.length*B
 | [],_=>by simp
 | x::r,h=>by
   obtain ⟨h1,h2⟩:=h x (by simp)
   obtain ⟨q,z⟩:=kh (l:=r) fun y j=>h y (by simp [j])
   rw [List.sum_cons,Fl,Int.natCast_add,Int.add_mul];lia
end
section
inductive W where | l | r | t | p | a | e | k
deriving DecidableEq
noncomputable def ws:W->Str
 | .l=>h6 "left"
 | .r=>h6 "right"
 | .t=>h6 "times"
 | .p=>h6 "put"
 | .a=>h6 "add"
 | .e=>h6 "empty"
 | .k=>h6 "tell"
theorem au:ws .l=h6 "left" := rfl
theorem av:ws .r=h6 "right" := rfl
theorem aG:ws .t=h6 "times" := rfl
theorem aK:ws .p=h6 "put" := rfl
theorem aM:ws .a=h6 "add" := rfl
theorem aN:ws .e=h6 "empty" := rfl
theorem aO:ws .k=h6 "tell" := rfl
theorem j8 (a:W):Jg (ws a)=true:=by cases a <;> decide +kernel
theorem tf:∀ a b:W,(ws a==ws b)=decide (a=b):=by
 intro a b
 cases a <;> cases b <;> decide +kernel
theorem A7 {n:Nat} {M:Mem} {a:W}:rb n M (.str (ws a))=some (.str (ws a)):=by
 cases n <;> simp only [rb,j8,if_true]
theorem ar {a b:W} {M:Mem} {Q:QD}:wEq (.str (ws a)) (.str (ws b)) M Q=Q (.bl (decide (a=b))) M:=by
 simp [wEq,A7,Ej,tf]
theorem AX {a b:W} {M:Mem} {Q:QD}:wNe (.str (ws a)) (.str (ws b)) M Q=Q (.bl (!decide (a=b))) M:=by
 simp [wNe,A7,Ej,tf]
theorem bI {a:W} {M:Mem} {Q:QD} (q:Q (.bl (decide (a = .l∨a = .r))) M):pZ (.str (ws a)) (.tup [.str (ws .l), .str (ws .r)]) M Q:=by
 refine ⟨[ws .l,ws .r],rfl, ?_⟩;have e:decide (ws a∈[ws .l,ws .r])=decide (a = .l∨a = .r):=by cases a <;> decide +kernel
 rw [e];exact q
end
section
section
variable {α:Type}
noncomputable def ig (h:List (Int × α)) (k:Int):Option α := (h.find? fun p=>decide (p.1=k)).map (·.2)
noncomputable def ip (h:List (Int × α)) (k:Int) (v : α):List (Int × α):=if (h.any fun p=>decide (p.1=k))=true then h.map (fun p=>if p.1=k then (p.1,v) else p) else h++[(k,v)]
noncomputable def idr (h:List (Int × α)) (k:Int):List (Int × α):=h.filter fun p=>decide (p.1≠k)
noncomputable def hD (g : α -> D) (p:Int × α):D×D:=(.int p.1,g p.2)
theorem j9 {g : α -> D} {p:Int × α} {k:Int}:decide ((hD g p).1 = .int k)=decide (p.1=k):=by
 simp [hD]
theorem eP {g : α -> D} {h:List (Int × α)} {k:Int}:dget (h.map (hD g)) (.int k)=(ig h k).map g:=by
 unfold dget ig;rw [List.find?_map];have e:((fun p:D×D=>decide (p.1 = .int k)) ∘ hD g)=fun p:Int × α => decide (p.1=k):=funext fun p=>j9;rw [e]
 cases h.find? fun p=>decide (p.1=k) <;> rfl
theorem gu {g : α -> D} {h:List (Int × α)} {k:Int} {v : α}:fE (h.map (hD g)) (.int k) (g v)=(ip h k v).map (hD g):=by
 unfold fE ip;have e:((h.map (hD g)).any fun p=>decide (p.1 = .int k))=h.any fun p=>decide (p.1=k):=by
  rw [List.any_map];congr 1;exact funext fun p=>j9
 rw [e]
 split
 ·rw [Gf,Gf];refine K0 fun p j => ?_;show (if (hD g p).1 = .int k then ((hD g p).1,g v) else hD g p)=hD g (if p.1=k then (p.1,v) else p)
  have:=j9 (g:=g) (p:=p) (k:=k)
  by_cases z:p.1=k
  ·rw [if_pos z,if_pos (by simpa [z] using this)];rfl
  ·rw [if_neg z,if_neg (by simpa [z] using this)]
 ·rw [El];rfl
theorem cC {g : α -> D} {h:List (Int × α)} {k:Int}:dQ (h.map (hD g)) (.int k)=(idr h k).map (hD g):=by
 unfold dQ idr;rw [HW];congr 1;refine List.filter_congr fun p j => ?_;have:=j9 (g:=g) (p:=p) (k:=k);simpa using this
noncomputable def kp (ks:List Int) (k:Int):List Int:=if k∈ks then ks else ks++[k]
noncomputable def kd (ks:List Int) (k:Int):List Int:=ks.filter fun x=>decide (x≠k)
theorem mY {h:List (Int × α)} {k:Int}:(h.any fun p=>decide (p.1=k))=decide (k∈h.map (·.1)):=by
 induction h with
 | nil=>rfl
 | cons p h ih =>
   rw [Fo,ih]
   by_cases z:p.1=k
   ·simp [z]
   ·simp [z,Ne.symm z]
theorem jw {h:List (Int × α)} {k:Int} {v : α}:(ip h k v).map (·.1)=kp (h.map (·.1)) k:=by
 unfold ip kp;rw [mY]
 by_cases z:k∈h.map (·.1)
 ·rw [if_pos (by simpa using z),if_pos z,Gf]
  refine K0 fun p j => ?_;show (if p.1=k then (p.1,v) else p).1=p.1
  split <;> rfl
 ·rw [if_neg (by simpa using z),if_neg z,El];rfl
theorem mZ {h:List (Int × α)} {k:Int}:(idr h k).map (·.1)=kd (h.map (·.1)) k:=by
 unfold idr kd;rw [HW];rfl
theorem eQ {h:List (Int × α)} {k:Int} (j:k∈h.map (·.1)):∃ v,ig h k=some v/\(k,v)∈h:=by
 induction h with
 | nil=>simp at j
 | cons p h ih =>
   by_cases z:p.1=k
   ·exact ⟨p.2,by simp [ig,z],by subst z;exact Ex⟩
   ·obtain ⟨v,e,m⟩:=ih (by simpa [z,Ne.symm z] using j)
    exact ⟨v,by rw [<- e];simp [ig,z],E2 _ m⟩
theorem oJ {h:List (Int × α)} {k:Int} (j:k∉h.map (·.1)):ig h k=none:=by
 induction h with
 | nil=>rfl
 | cons p h ih =>
   simp only [E6,DT,not_or] at j;rw [<- ih j.2];simp [ig,Ne.symm j.1]
theorem ki {h:List (Int × α)} {k:Int}:(ig h k).isSome=decide (k∈h.map (·.1)):=by
 by_cases z:k∈h.map (·.1)
 ·obtain ⟨v,e,_⟩:=eQ z;rw [e,decide_eq_true z];rfl
 ·rw [oJ z,decide_eq_false z];rfl
theorem dM {h:List (Int × α)} {k:Int} {v : α} {p:Int × α} (m:p∈ip h k v):p=(k,v)∨p∈h:=by
 unfold ip at m
 split at m
 ·obtain ⟨q,j,e⟩:=EO.mp m
  split at e
  ·next z=>exact .inl (by rw [<- e,z])
  ·exact .inr (by rw [<- e];exact j)
 ·rcases E5.mp m with z | z
  ·exact .inr z
  ·exact .inl (by simpa using z)
theorem gx {h:List (Int × α)} {k:Int} {p:Int × α} (m:p∈idr h k):p∈h:=(HL.mp m).1
theorem du {p:Int × α} {l:List (Int × α)} {j:Int}:ig (p::l) j=if p.1=j then some p.2 else ig l j:=by
 unfold ig;rw [Fd]
 by_cases z:p.1=j
 ·simp [z]
 ·simp [z]
theorem AY {l:List (Int × α)} {k j:Int} {v : α} (ej:j≠k):ig (l.map fun p=>if p.1=k then (p.1,v) else p) j=ig l j:=by
 induction l with
 | nil=>rfl
 | cons q l ih =>
   rw [E6,du,du,ih]
   by_cases q1:q.1=k
   ·have : ¬ q.1=j:=fun w=>ej (w.symm.trans q1);rw [if_pos q1,if_neg this,if_neg this]
   ·rw [if_neg q1]
theorem A8 {l:List (Int × α)} {k j:Int} {v : α}:ig (l++[(k,v)]) j=(ig l j).or (if k=j then some v else none):=by
 induction l with
 | nil=>rw [HN,du];rfl
 | cons q l ih =>
   rw [La,du,du,ih]
   by_cases q1:q.1=j
   ·simp [q1]
   ·simp [q1]
theorem wu {h:List (Int × α)} {k j:Int} {v : α}:ig (ip h k v) j=if j=k then some v else ig h j:=by
 unfold ip;rw [mY]
 by_cases z:k∈h.map (·.1)
 ·rw [if_pos (by simpa using z)]
  by_cases ej:j=k
  ·subst ej;rw [if_pos rfl]
   induction h with
   | nil=>simp at z
   | cons p h ih =>
     rw [E6,du]
     by_cases e:p.1=j
     ·rw [if_pos e,if_pos e]
     ·rw [if_neg e,if_neg e];exact ih (by simpa [e,Ne.symm e] using z)
  ·rw [if_neg ej,AY ej]
 ·rw [if_neg (by simpa using z),A8]
  by_cases ej:j=k
  ·subst ej;rw [oJ z];simp
  ·rw [if_neg ej,if_neg (Ne.symm ej)];simp
theorem n0 {h:List (Int × α)} {k:Int} {v : α}:(ip h k v).length<=h.length+1:=by
 unfold ip
 split
 ·simp
 ·simp
theorem oK {h:List (Int × α)} {k:Int}:(idr h k).length<=h.length:=Gm ..
end
inductive Sp where
 | lin (l:Bool) (r:Int) (ps:List (Int×Int))
 | tim (r a b:Int)
 | put (r c b:Int)
 | add (a c b:Int)
 | emp (a:Int)
 | tel (k b:Int)
noncomputable def nk (ks:List Int):Sp->List Int
 | .lin _ r _=>kp ks r | .tim r _ _=>kp ks r | .put r _ _=>kp ks r | .add a _ _=>kp ks a | .emp a=>kd ks a | .tel _ b=>kd ks b
noncomputable def nt (td:List Int):Sp->List Int
 | .tel k _=>td++[k]
 | _=>td
def fT (c:Int):Prop := -(10 ^ 30)<=c/\c<=10 ^ 30
noncomputable def fA (L0 L1 L2:Nat) (ks td:List Int):Sp->Prop
 | .lin l _ ps=>ps.length<=20 /\ ∀ p∈ps,fT p.1/\0<=p.2/\p.2 < (if l then L0 else L1:Nat)
 | .tim _ a b=>a∈ks/\b∈ks
 | .put _ c b=>fT c/\b∈ks
 | .add a c b=>a∈ks/\fT c/\b∈ks
 | .emp a=>a∈ks
 | .tel k b=>(0<=k/\k < L2/\k∉td)/\b∈ks
inductive Prog (L0 L1 L2:Nat):List Sp->List Int->List Int->Prop
 | nil:Prog L0 L1 L2 [] [] []
 | snoc {ss ks td s}:Prog L0 L1 L2 ss ks td->fA L0 L1 L2 ks td s->Prog L0 L1 L2 (ss++[s]) (nk ks s) (nt td s)
theorem Prog.split {j q L2:Nat} {ss:List Sp} {ks td:List Int} (h:Prog j q L2 ss ks td):∀ {l r:List Sp} {x:Sp},ss=l++x::r -> ∃ ks' td',Prog j q L2 l ks' td'/\fA j q L2 ks' td' x:=by
 induction h with
 | nil=>intro l r x e;cases l <;> cases e
 | @snoc ss ks td s h hs ih =>
  intro l r x e
  rcases List.eq_nil_or_concat r with rfl | ⟨r',y,rfl⟩
  ·have z:=Li e rfl;obtain ⟨rfl,B⟩:=z
   cases B
   exact ⟨ks,td,h,hs⟩
  ·have z:ss++[s]=(l++x::r')++[y]:=by rw [e];simp
   exact ih (Li z rfl).1
noncomputable def bN (row:List Int) (i:Int):Int:=row.getD i.toNat 0
noncomputable def ef (ps:List (Int×Int)) (row:List Int):Int:=(ps.map fun p=>p.1*bN row p.2).sum
noncomputable def gv (h:List (Int×Int)) (k:Int):Int:=(ig h k).getD 0
noncomputable def ex1 (one other:List Int) (h:List (Int×Int)):Sp->List (Int×Int)
 | .lin l r ps=>ip h r (ef ps (if l then one else other))
 | .tim r a b=>ip h r (gv h a*gv h b)
 | .put r c b=>ip h r (c*gv h b)
 | .add a c b=>ip h a (gv h a+c*gv h b)
 | .emp a=>idr h a
 | .tel _ b=>idr h b
noncomputable def ex2 (h t:List (Int×Int)):Sp->List (Int×Int)
 | .tel k b=>ip t k (gv h b)
 | _=>t
structure Rs where
 h:List (Int×Int)
 t:List (Int×Int)
 m:Int
noncomputable def exs (one other:List Int) (s:Rs) (x:Sp):Rs:=⟨ex1 one other s.h x,ex2 s.h s.t x,if ((ex1 one other s.h x).length:Int) > s.m then (ex1 one other s.h x).length else s.m⟩
noncomputable def ex (one other:List Int) (l:List Sp):Rs:=l.foldl (exs one other) ⟨[],[],0⟩
theorem bB {one other:List Int} {l:List Sp} {x:Sp}:ex one other (l++[x])=exs one other (ex one other l) x:=by
 unfold ex;rw [List.foldl_append];rfl
noncomputable def aJ:Sp->Bool
 | .tim _ _ _=>true
 | _=>false
noncomputable def tc (l:List Sp):Nat:=(l.filter aJ).length
theorem gy {l:List Sp} {x:Sp}:tc (l++[x])=tc l+if aJ x then 1 else 0:=by
 unfold tc;rw [Fm,DO]
 cases h:aJ x <;> simp [h]
noncomputable def Eb (n t:Nat):Nat := 102*(n+2)*2 ^ t
theorem Bt {n t:Nat}:Eb n t+102<=Eb (n+1) t:=by
 unfold Eb;have : 1<=2 ^ t:=Km
 calc 102*(n+2)*2 ^ t+102<=102*(n+2)*2 ^ t+102*2 ^ t:=by lia
  _=102*(n+1+2)*2 ^ t:=by rw [<- Nat.add_mul,show 102*(n+1+2)=102*(n+2)+102 by lia]
theorem Bu {n t:Nat}:Eb n t+Eb n t=Eb n (t+1):=by
 unfold Eb;rw [Nat.pow_succ];lia
theorem A9 {n t:Nat} : 204<=Eb n t:=by
 unfold Eb;have : 1<=2 ^ t:=Km;have h2 : 102*(n+2)*1<=102*(n+2)*2 ^ t:=Nat.mul_le_mul_left _ this;lia
theorem eR {n m t u:Nat} (h1:n<=m) (h2:t<=u):Eb n t<=Eb m u:=by
 unfold Eb;exact Nat.mul_le_mul (by lia) (Nat.pow_le_pow_right (by decide) h2)
noncomputable abbrev dN:=HY
theorem dv {c:Int} (h:fT c):dN c<=100:=by
 obtain ⟨h1,h2⟩:=h;exact IZ (by lia)
theorem vC {ps:List (Int×Int)} {row:List Int} (O:ps.length<=20) (F:∀ p∈ps,fT p.1) (G:Big row):dN (ef ps row)<=204:=by
 have J:∀ i, -1000000000000<=bN row i/\bN row i<=1000000000000:=fun i=>by
  unfold bN;rw [EW]
  cases e:row[i.toNat]? with
  | none=>exact ⟨by decide,by decide⟩
  | some v=>exact G v (Ef e)
 have h1:=kh (B := 10 ^ 42) (l:=ps.map fun p=>p.1*bN row p.2) fun x hx=>by
  obtain ⟨p,j,rfl⟩:=EO.mp hx;obtain ⟨U,Y⟩:=F p j;obtain ⟨r1,r2⟩:=J p.2;have e1:(p.1*bN row p.2).natAbs<=10 ^ 30*1000000000000:=by
   rw [Int.natAbs_mul];exact Nat.mul_le_mul (by lia) (by lia)
  lia
 rw [i5] at h1;refine IZ ?_;unfold ef;have L:(ps.length:Int)*10 ^ 42<=20*10 ^ 42:=Int.mul_le_mul_of_nonneg_right (by lia) (by decide)
 have q:=h1.1;have z:=h1.2;generalize (ps.map fun p=>p.1*bN row p.2).sum=S at q z;generalize (ps.length:Int)*10 ^ 42=Z at L q z;lia
structure ExI (one other:List Int) (l:List Sp) (ks td:List Int):Prop where
 ks:(ex one other l).h.map (·.1)=ks
 td:(ex one other l).t.map (·.1)=td
 bd:∀ p∈(ex one other l).h,dN p.2<=Eb l.length (tc l)
 ln:(ex one other l).h.length<=l.length
 tl:(ex one other l).t.length<=l.length
theorem bm {h:List (Int×Int)} {k:Int} {B:Nat} (j:∀ p∈h,dN p.2<=B) (q:k∈h.map (·.1)):dN (gv h k)<=B:=by
 obtain ⟨v,e,m⟩:=eQ q;unfold gv;rw [e];exact j _ m
theorem Aa {ks:List Int} {a:Int} (h:a∈ks):kp ks a=ks:=if_pos h
theorem tj {J L L2:Nat} {one other:List Int} (h1:Big one) (h2:Big other) {l:List Sp} {ks td:List Int} (h:Prog J L L2 l ks td):ExI one other l ks td:=by
 induction h with
 | nil=>exact ⟨rfl,rfl,fun _ h=>by simp [ex] at h,by simp [ex],by simp [ex]⟩
 | @snoc l ks td s h hs ih =>
  obtain ⟨q,G,z,O,U⟩:=ih;have Y := @Bt l.length (tc l);refine ⟨?_, ?_, ?_, ?_, ?_⟩
  ·rw [bB]
   cases s <;> simp only [exs,ex1,nk,jw,mZ,q]
  ·rw [bB]
   cases s <;> simp only [exs,ex2,nt,G]
   case tel k b=>rw [jw,G,kp,if_neg hs.1.2.2]
  ·rw [bB,gy,DO];intro p j;have old:∀ p∈(ex one other l).h,dN p.2<=Eb (l.length+[s].length) (tc l+if aJ s then 1 else 0):=fun p j=>Ed (z p j) (eR (by simp) (by lia))
   cases s with
   | lin lf r ps =>
     rcases dM j with rfl | j
     ·refine Ed (vC hs.1 (fun p j=>(hs.2 p j).1) ?_) A9
      cases lf
      ·exact h2
      ·exact h1
     ·exact old p j
   | tim r a b =>
     rcases dM j with rfl | j
     ·have F:=bm z (k:=a) (by rw [q];exact hs.1)
      have B:=bm z (k:=b) (by rw [q];exact hs.2)
      refine Ed (JU F B) ?_;rw [Bu];exact eR (by simp) (by simp [aJ])
     ·exact old p j
   | put r c b =>
     rcases dM j with rfl | j
     ·have B:=bm z (k:=b) (by rw [q];exact hs.2)
      refine Ed (JU (dv hs.1) B) ?_;simp only [aJ,EK,if_false,Fl,FU,KN,Nat.zero_add];lia
     ·exact old p j
   | add a c b =>
     rcases dM j with rfl | j
     ·have F:=bm z (k:=a) (by rw [q];exact hs.1)
      have B:=bm z (k:=b) (by rw [q];exact hs.2.2)
      refine Ed (intBits_add_le F (JU (dv hs.2.1) B)) ?_;simp only [aJ,EK,if_false,Fl,FU,KN,Nat.zero_add];lia
     ·exact old p j
   | emp a=>exact old p (gx j)
   | tel k b=>exact old p (gx j)
  ·rw [bB,DO]
   cases s <;> simp only [exs,ex1] <;> first
    | exact Ed n0 (by simpa using O)
    | exact Ed oK (by simp;lia)
  ·rw [bB,DO]
   cases s <;> simp only [exs,ex2] <;> first
    | exact Ed n0 (by simpa using U)
    | (simp;lia)
end
section
variable {T:List FD}
noncomputable def ptD (p:Int×Int):D := .tup [.int p.1, .int p.2]
noncomputable def lr:Bool->W
 | true => .l
 | false => .r
noncomputable def spD (q:Addr):Sp->D
 | .lin l r _ => .tup [.str (ws (lr l)), .int r, .ref q]
 | .tim r a b => .tup [.str (ws .t), .int r, .int a, .int b]
 | .put r c b => .tup [.str (ws .p), .int r, .int c, .int b]
 | .add a c b => .tup [.str (ws .a), .int a, .int c, .int b]
 | .emp a => .tup [.str (ws .e), .int a]
 | .tel k b => .tup [.str (ws .k), .int k, .int b]
noncomputable def spM (M:Mem) (q:Addr):Sp->Prop
 | .lin _ _ ps=>M q=some (.lst (ps.map ptD))
 | _=>True
theorem dO {M M':Mem} {q:Addr} {s:Sp} (h:spM M q s) (g:Ge M M'):spM M' q s:=by
 cases s <;> first | exact g _ _ h | trivial
noncomputable def wd:Sp->W
 | .lin l _ _=>lr l
 | .tim _ _ _ => .t
 | .put _ _ _ => .p
 | .add _ _ _ => .a
 | .emp _ => .e
 | .tel _ _ => .k
theorem ja (q:Addr) (x:Sp):∃ ds,spD q x = .tup (.str (ws (wd x))::ds):=by cases x <;> exact ⟨_,rfl⟩
noncomputable def rr:Sp->List Int
 | .lin _ _ _ => []
 | .tim _ a b => [a,b]
 | .put _ _ b => [b]
 | .add a _ b => [a,b]
 | .emp a => [a]
 | .tel _ b => [b]
noncomputable def eS (s:Stmt):FD:=⟨"rooms_read",s,["step", "word"],1,
 (.cons (.asg (.name 1) (.ix (.var 0) (.int 0)))
 (.cons (.ite (.cmp .eq (.var 1) (.str (h6 "times"))) (.cons (.ret (.lst (.cons (.ix (.var 0) (.int 2)) (.cons (.ix (.var 0) (.int 3)) .nil))))
 .nil) .nil)
 (.cons (.ite (.cmp .eq (.var 1) (.str (h6 "put"))) (.cons (.ret (.lst (.cons (.ix (.var 0) (.int 3)) .nil)))
 .nil) .nil)
 (.cons (.ite (.cmp .eq (.var 1) (.str (h6 "add"))) (.cons (.ret (.lst (.cons (.ix (.var 0) (.int 1)) (.cons (.ix (.var 0) (.int 3)) .nil))))
 .nil) .nil)
 (.cons (.ite (.cmp .eq (.var 1) (.str (h6 "empty"))) (.cons (.ret (.lst (.cons (.ix (.var 0) (.int 1)) .nil)))
 .nil) .nil)
 (.cons (.ite (.cmp .eq (.var 1) (.str (h6 "tell"))) (.cons (.ret (.lst (.cons (.ix (.var 0) (.int 2)) .nil)))
 .nil) .nil)
 (.cons (.ret (.lst .nil))
 .nil)))))))⟩
noncomputable def kG (s:Stmt) (fr:Nat):FD:=⟨"can_be_done",s,["step", "held", "told", "lengths", "left", "right", "many", "word"],4,
 (.cons (.asg (.tup (.cons (.name 4) (.cons (.name 5) (.cons (.name 6) .nil)))) (.var 3))
 (.cons (.asg (.name 7) (.ix (.var 0) (.int 0)))
 (.cons (.ite (.not (.tru (.blt .all (.cons (.comp [none,(some 1)] ["room", "held"] (.last (.seq (.call fr (.cons (.var 0) .nil))) (.name 0) .nil (.cmp .inD (.var 0) (.var 1)))) .nil)))) (.cons (.ret (.bl false))
 .nil) .nil)
 (.cons (.ite (.cmp .eq (.var 7) (.str (h6 "left"))) (.cons (.ret (.blt .all (.cons (.comp [none,none,(some 4)] ["number", "i", "left"] (.last (.seq (.ix (.var 0) (.int 2))) (.tup (.cons (.name 0) (.cons (.name 1) .nil))) .nil (.chain .le .lt (.int 0) (.var 1) (.var 2)))) .nil)))
 .nil) .nil)
 (.cons (.ite (.cmp .eq (.var 7) (.str (h6 "right"))) (.cons (.ret (.blt .all (.cons (.comp [none,none,(some 5)] ["number", "j", "right"] (.last (.seq (.ix (.var 0) (.int 2))) (.tup (.cons (.name 0) (.cons (.name 1) .nil))) .nil (.chain .le .lt (.int 0) (.var 1) (.var 2)))) .nil)))
 .nil) .nil)
 (.cons (.ite (.cmp .eq (.var 7) (.str (h6 "tell"))) (.cons (.ret (.and (.cons (.chain .le .lt (.int 0) (.ix (.var 0) (.int 1)) (.var 6)) (.cons (.cmp .ninD (.ix (.var 0) (.int 1)) (.var 2)) .nil))))
 .nil) .nil)
 (.cons (.ret (.bl true))
 .nil)))))))⟩
noncomputable def eT (s:Stmt):FD:=⟨"sum_of",s,["parts", "row"],2,
 (.cons (.ret (.blt .sum (.cons (.comp [none,none,(some 1)] ["number", "i", "row"] (.last (.seq (.var 0)) (.tup (.cons (.name 0) (.cons (.name 1) .nil))) .nil (.bin .mul (.var 0) (.ix (.var 2) (.var 1))))) .nil)))
 .nil)⟩
noncomputable def qp (s:Stmt) (fs:Nat):FD:=⟨"do_step",s,["step", "held", "told", "one", "other", "word", "room"],5,
 (.cons (.par 5 6 (.ix (.var 0) (.int 0)) (.ix (.var 0) (.int 1)))
 (.cons (.ite (.cmp .eq (.var 5) (.str (h6 "left"))) (.cons (.put (.var 1) (.var 6) (.call fs (.cons (.ix (.var 0) (.int 2)) (.cons (.var 3) .nil))))
 .nil) (.cons (.ite (.cmp .eq (.var 5) (.str (h6 "right"))) (.cons (.put (.var 1) (.var 6) (.call fs (.cons (.ix (.var 0) (.int 2)) (.cons (.var 4) .nil))))
 .nil) (.cons (.ite (.cmp .eq (.var 5) (.str (h6 "times"))) (.cons (.put (.var 1) (.var 6) (.bin .mul (.ix (.var 1) (.ix (.var 0) (.int 2))) (.ix (.var 1) (.ix (.var 0) (.int 3)))))
 .nil) (.cons (.ite (.cmp .eq (.var 5) (.str (h6 "put"))) (.cons (.put (.var 1) (.var 6) (.bin .mul (.ix (.var 0) (.int 2)) (.ix (.var 1) (.ix (.var 0) (.int 3)))))
 .nil) (.cons (.ite (.cmp .eq (.var 5) (.str (h6 "add"))) (.cons (.put (.var 1) (.var 6) (.bin .add (.ix (.var 1) (.var 6)) (.bin .mul (.ix (.var 0) (.int 2)) (.ix (.var 1) (.ix (.var 0) (.int 3))))))
 .nil) (.cons (.ite (.cmp .eq (.var 5) (.str (h6 "empty"))) (.cons (.delk (.var 1) (.var 6))
 .nil) (.cons (.ite (.cmp .eq (.var 5) (.str (h6 "tell"))) (.cons (.put (.var 2) (.ix (.var 0) (.int 1)) (.popk (.var 1) (.ix (.var 0) (.int 2))))
 .nil) .nil)
 .nil))
 .nil))
 .nil))
 .nil))
 .nil))
 .nil))
 .nil))⟩
noncomputable def jb (s:Stmt):FD:=⟨"sums_of",s,["step"],1,
 (.cons (.ite (.or (.cons (.cmp .eq (.ix (.var 0) (.int 0)) (.str (h6 "left"))) (.cons (.cmp .eq (.ix (.var 0) (.int 0)) (.str (h6 "right"))) .nil))) (.cons (.ret (.bin .sub (.blt .len (.cons (.ix (.var 0) (.int 2)) .nil)) (.int 1)))
 .nil) .nil)
 (.cons (.ret (.ite (.cmp .eq (.ix (.var 0) (.int 0)) (.str (h6 "add"))) (.int 1) (.int 0)))
 .nil))⟩
noncomputable def qq (s:Stmt) (fc fd fs:Nat):FD:=⟨"run_program",s,["program", "one", "other", "many", "lengths", "held", "told", "most", "at", "step", "times"],4,
 (.cons (.asg (.name 4) (.tup (.cons (.blt .len (.cons (.var 1) .nil)) (.cons (.blt .len (.cons (.var 2) .nil)) (.cons (.var 3) .nil)))))
 (.cons (.asg (.tup (.cons (.name 5) (.cons (.name 6) (.cons (.name 7) .nil)))) (.tup (.cons (.dnew false) (.cons (.dnew false) (.cons (.int 0) .nil)))))
 (.cons (.for (.tup (.cons (.name 8) (.cons (.name 9) .nil))) (.enum (.var 0)) (.cons (.ite (.not (.tru (.call fc (.cons (.var 9) (.cons (.var 5) (.cons (.var 6) (.cons (.var 4) .nil))))))) (.cons .bot
 .nil) .nil)
 (.cons (.drop (.call fd (.cons (.var 9) (.cons (.var 5) (.cons (.var 6) (.cons (.var 1) (.cons (.var 2) .nil)))))))
 (.cons (.asg (.name 7) (.blt .max2 (.cons (.var 7) (.cons (.blt .lenK (.cons (.var 5) .nil)) .nil))))
 .nil))))
 (.cons (.asg (.name 10) (.blt .len (.cons (.comp [none] ["step"] (.last (.seq (.var 0)) (.name 0) (.cons (.cmp .eq (.ix (.var 0) (.int 0)) (.str (h6 "times"))) .nil) (.var 0))) .nil)))
 (.cons (.ret (.tup (.cons (.comp [none,(some 6)] ["k", "told"] (.last (.rng1 (.var 3)) (.name 0) .nil (.dget (.var 1) (.var 0) (.int 0)))) (.cons (.var 10) (.cons (.blt .sum (.cons (.comp [none] ["step"] (.last (.seq (.var 0)) (.name 0) .nil (.call fs (.cons (.var 0) .nil)))) .nil)) (.cons (.var 7) .nil))))))
 .nil)))))⟩
noncomputable def sms:Sp->Int
 | .lin _ _ ps=>ps.length - 1
 | .add _ _ _ => 1
 | _ => 0
theorem vD {f:Nat} {s:Stmt} (hf:T[f]? = some (eS s)) {n:Nat} (hn : 1<=n) {q:Addr} {x:Sp} {M:Mem} {Q:QD}
 (h:∀ p,M p=none->Q (.ref p) (ah M p (.lst ((rr x).map .int)))):phi T n f [spD q x] M Q:=by
 refine ax hn hf rfl (ρ := [some _,none]) rfl ?_;unfold eS
 cases x with
 | lin l r ps =>
   cases l <;>
   ·unfold spD;walk_at "st";refine ⟨_,rfl, ?_⟩
    iterate 5
     walk_at "st";simp only [<- au, <- av, <- aG, <- aK, <- aM, <- aN, <- aO,lr,ar,reduceCtorEq,decide_false,decide_true];walk_at "wp"
     try rw [al]
    walk_at "st";exact ⟨by rw [q7];lia,fun p j=>h p j⟩
 | tim r a b =>
   unfold spD;walk_at "st";refine ⟨_,rfl, ?_⟩
   iterate 1
    walk_at "st";simp only [<- au, <- av, <- aG, <- aK, <- aM, <- aN, <- aO,lr,ar,reduceCtorEq,decide_false,decide_true];walk_at "wp"
    try rw [al]
   walk_at "st";exact ⟨_,rfl,_,rfl,by rw [q7];lia,fun p j=>h p j⟩
 | put r c b =>
   unfold spD;walk_at "st";refine ⟨_,rfl, ?_⟩
   iterate 2
    walk_at "st";simp only [<- au, <- av, <- aG, <- aK, <- aM, <- aN, <- aO,lr,ar,reduceCtorEq,decide_false,decide_true];walk_at "wp"
    try rw [al]
   walk_at "st";exact ⟨_,rfl,by rw [q7];lia,fun p j=>h p j⟩
 | add a c b =>
   unfold spD;walk_at "st";refine ⟨_,rfl, ?_⟩
   iterate 3
    walk_at "st";simp only [<- au, <- av, <- aG, <- aK, <- aM, <- aN, <- aO,lr,ar,reduceCtorEq,decide_false,decide_true];walk_at "wp"
    try rw [al]
   walk_at "st";exact ⟨_,rfl,_,rfl,by rw [q7];lia,fun p j=>h p j⟩
 | emp a =>
   unfold spD;walk_at "st";refine ⟨_,rfl, ?_⟩
   iterate 4
    walk_at "st";simp only [<- au, <- av, <- aG, <- aK, <- aM, <- aN, <- aO,lr,ar,reduceCtorEq,decide_false,decide_true];walk_at "wp"
    try rw [al]
   walk_at "st";exact ⟨_,rfl,by rw [q7];lia,fun p j=>h p j⟩
 | tel k b =>
   unfold spD;walk_at "st";refine ⟨_,rfl, ?_⟩
   iterate 5
    walk_at "st";simp only [<- au, <- av, <- aG, <- aK, <- aM, <- aN, <- aO,lr,ar,reduceCtorEq,decide_false,decide_true];walk_at "wp"
    try rw [al]
   walk_at "st";exact ⟨_,rfl,by rw [q7];lia,fun p j=>h p j⟩
theorem AZ {q z L2:Nat} {ks td:List Int} {x:Sp} (h:fA q z L2 ks td x):∀ r∈rr x,r∈ks:=by
 intro r j
 cases x <;> simp [rr] at j
 ·rcases j with rfl | rfl
  ·exact h.1
  ·exact h.2
 ·subst j;exact h.2
 ·rcases j with rfl | rfl
  ·exact h.1
  ·exact h.2.2
 ·subst j;exact h
 ·subst j;exact h.2
theorem tm:∀ n:Nat,aw lU (DN n (D.bl true))=some (DN n true)
 | 0=>rfl
 | n+1=>by
   rw [Ez,Ez];simp [aw,lU,tm n]
theorem gz {M:Mem} {p:Addr} {n:Nat} {Q:QD} (h:M p=some (.lst (DN n (D.bl true)))) (q:Q (.bl true) M):pR [.ref p] M Q:=by
 refine ⟨_,_,_,rfl,ak h,tm n, ?_⟩;have:(DN n true).all id=true:=by simp
 rw [this];exact q
theorem fB {α:Type} {n:Nat} {d : α}:DN n d++[d]=DN (n+1) d:=by
 rw [List.replicate_succ']
theorem jc {d:D} {ds:List D}:atI (d::ds) 0=some d:=by
 unfold atI ixN;rw [if_pos (by decide),if_pos (by simp)];rfl
theorem Ab {f fr:Nat} {s sr:Stmt} (hf:T[f]? = some (kG s fr)) (L:T[fr]? = some (eS sr)) {n:Nat} (hn : 2<=n) {q:Addr} {x:Sp} {M:Mem} {Q:QD} {F tA:Addr} {G J L2:Nat} {kvs tvs:List (D×D)} {ks td:List Int}
 (mh:M F=some (.dct false kvs)) (mt:M tA=some (.dct false tvs)) (Z:∀ r:Int,(dget kvs (.int r)).isSome=decide (r∈ks)) (ht:∀ r:Int,(dget tvs (.int r)).isSome=decide (r∈td))
 (ok:fA G J L2 ks td x) (sm:spM M q x) (h:∀ M',Ge M M'->Q (.bl true) M'):phi T n f [spD q x, .ref F, .ref tA, .tup [.int G, .int J, .int L2]] M Q:=by
 refine ax (by lia) hf rfl (ρ := [some _,some _,some _,some _,none,none,none,none]) rfl ?_
 unfold kG;walk_at "st";have hr:=AZ ok;obtain ⟨ds,e⟩:=ja q x;walk_at "st";rw [e];walk_at "wp";refine ⟨_,jc, ?_⟩;walk_at "st";rw [<- e];refine vD L (by lia) fun p hp => ?_
 have g1:=Ge.new (o := .lst ((rr x).map .int)) hp;refine ⟨_,ak aa, ?_⟩;refine bj (I:=fun l ρ M' acc => ∃ o:Option D, ρ = [o,some (.ref F)]/\M'=ah M p (.lst ((rr x).map .int))/\acc=DN l.length (.bl true)) (ys:=rr x) rfl ⟨none,rfl,rfl,rfl⟩ ?_ ?_ ?_
 ·rintro l ρ M' acc ⟨o,rfl,rfl,rfl⟩;exact ak aa
 ·rintro l y r ρ M' acc ey ⟨o,rfl,rfl,rfl⟩;refine ⟨_,rfl,fun N' B => ?_⟩;walk_at "wp";refine ⟨F,false,kvs,rfl, .inl (g1 _ _ mh),rfl, ?_⟩;rw [if_neg y2,Z,decide_eq_true (hr y (by rw [ey];simp))]
  refine ⟨?_,B _ _ _ ⟨_,rfl,rfl, ?_⟩⟩
  ·have:=aZ ey;have h2:(rr x).length<=2:=by cases x <;> simp [rr]
   rw [FO,q7];lia
  ·rw [fB,DO];rfl
 ·rintro ρ M' acc ⟨o,rfl,rfl,rfl⟩ p2 hp2;have g2:=g1.trans (Ge.new (o := .lst (DN (rr x).length (.bl true))) hp2);refine gz aa ?_;generalize ah (ah M p (.lst ((rr x).map .int))) p2 (.lst (DN (rr x).length (.bl true)))=M2 at g2;refine ⟨true,rfl, ?_⟩;rw [if_neg (by decide)]
  have O:=dO sm g2
  cases x with
  | lin l r ps =>
    have pr:=ok.2;have pl:=ok.1;have mq:M2 q=some (.lst (ps.map ptD)):=O
    cases l
    ·iterate 2
      walk_at "st";simp only [<- au, <- av, <- aG, <- aK, <- aM, <- aN, <- aO,wd,lr,ar,reduceCtorEq,decide_false,decide_true];walk_at "wp"
      try rw [al]
     unfold spD;walk_at "st";refine ⟨_,rfl,_,ak mq, ?_⟩;refine bj (I:=fun l ρ M' acc => ∃ o j:Option D, ρ = [o,j,some (.int J)]/\M'=M2/\acc=DN l.length (.bl true)) (ys:=ps) rfl ⟨none,none,rfl,rfl,rfl⟩ ?_ ?_ ?_
     ·rintro l ρ M' acc ⟨o,j,rfl,rfl,rfl⟩;exact ak mq
     ·rintro l y r ρ M' acc ey ⟨o,j,rfl,rfl,rfl⟩;refine ⟨_,rfl,fun N' B => ?_⟩;obtain ⟨_,U,Y⟩:=pr y (by rw [ey];simp)
      have z:y.2 < J:=Y;walk_at "wp";have:=aZ ey;rw [if_pos U,decide_eq_true z];exact ⟨by rw [FO,q7];lia,B _ _ _ ⟨_,_,rfl,rfl,by rw [fB,DO];rfl⟩⟩
     ·rintro ρ M' acc ⟨o,j,rfl,rfl,rfl⟩ p3 hp3;exact gz aa (h _ (g2.trans (Ge.new hp3)))
    ·iterate 1
      walk_at "st";simp only [<- au, <- av, <- aG, <- aK, <- aM, <- aN, <- aO,wd,lr,ar,reduceCtorEq,decide_false,decide_true];walk_at "wp"
      try rw [al]
     unfold spD;walk_at "st";refine ⟨_,rfl,_,ak mq, ?_⟩;refine bj (I:=fun l ρ M' acc => ∃ o j:Option D, ρ = [o,j,some (.int G)]/\M'=M2/\acc=DN l.length (.bl true)) (ys:=ps) rfl ⟨none,none,rfl,rfl,rfl⟩ ?_ ?_ ?_
     ·rintro l ρ M' acc ⟨o,j,rfl,rfl,rfl⟩;exact ak mq
     ·rintro l y r ρ M' acc ey ⟨o,j,rfl,rfl,rfl⟩;refine ⟨_,rfl,fun N' B => ?_⟩;obtain ⟨_,U,Y⟩:=pr y (by rw [ey];simp)
      have z:y.2 < G:=Y;walk_at "wp";have:=aZ ey;rw [if_pos U,decide_eq_true z];exact ⟨by rw [FO,q7];lia,B _ _ _ ⟨_,_,rfl,rfl,by rw [fB,DO];rfl⟩⟩
     ·rintro ρ M' acc ⟨o,j,rfl,rfl,rfl⟩ p3 hp3;exact gz aa (h _ (g2.trans (Ge.new hp3)))
  | tel k b =>
    iterate 3
     walk_at "st";simp only [<- au, <- av, <- aG, <- aK, <- aM, <- aN, <- aO,wd,lr,ar,reduceCtorEq,decide_false,decide_true];walk_at "wp"
     try rw [al]
    unfold spD;walk_at "st";refine ⟨_,rfl, ?_⟩;obtain ⟨⟨k0,k1,k2⟩,_⟩:=ok;walk_at "wp";rw [if_pos k0,if_pos k1];refine ⟨_,rfl,tA,false,tvs,rfl, .inl (g2 _ _ mt),rfl, ?_⟩;rw [if_pos rfl,ht,decide_eq_false k2];exact h _ g2
  | tim r a b =>
    iterate 3
     walk_at "st";simp only [<- au, <- av, <- aG, <- aK, <- aM, <- aN, <- aO,wd,lr,ar,reduceCtorEq,decide_false,decide_true];walk_at "wp"
     try rw [al]
    walk_at "st";exact h _ g2
  | put r c b =>
    iterate 3
     walk_at "st";simp only [<- au, <- av, <- aG, <- aK, <- aM, <- aN, <- aO,wd,lr,ar,reduceCtorEq,decide_false,decide_true];walk_at "wp"
     try rw [al]
    walk_at "st";exact h _ g2
  | add a c b =>
    iterate 3
     walk_at "st";simp only [<- au, <- av, <- aG, <- aK, <- aM, <- aN, <- aO,wd,lr,ar,reduceCtorEq,decide_false,decide_true];walk_at "wp"
     try rw [al]
    walk_at "st";exact h _ g2
  | emp a =>
    iterate 3
     walk_at "st";simp only [<- au, <- av, <- aG, <- aK, <- aM, <- aN, <- aO,wd,lr,ar,reduceCtorEq,decide_false,decide_true];walk_at "wp"
     try rw [al]
    walk_at "st";exact h _ g2
theorem kj {row:List Int} {i:Int} (h0 : 0<=i) (h1:i < row.length):atI (row.map D.int) i=some (.int (bN row i)):=by
 obtain ⟨x,q,j⟩:=i9 (xs:=row.map D.int) h0 (by rw [i5];exact h1)
 rw [q];rw [Ei] at j;unfold bN;rw [EW]
 cases e3:row[i.toNat]? with
 | none=>rw [e3] at j;cases j
 | some v=>rw [e3] at j;cases j;rfl
theorem kl {row:List Int} (j:Big row) (i:Int) : -(2 ^ 64) < bN row i/\bN row i < 2 ^ 64:=by
 unfold bN;rw [EW]
 cases e:row[i.toNat]? with
 | none=>exact ⟨by decide,by decide⟩
 | some v=>have:=j v (Ef e);simp only [Lj];lia
theorem n6 {f:Nat} {s:Stmt} (hf:T[f]? = some (eT s)) {n:Nat} (hn : 1<=n) {qa ra:Addr} {ps:List (Int×Int)} {row:List Int} {M:Mem} {Q:QD} (mq:M qa=some (.lst (ps.map ptD))) (mr:M ra=some (.lst (row.map .int)))
 (J:ps.length<=20) (q:Big row) (z:∀ p∈ps,0<=p.2/\p.2 < row.length) (h:∀ M',Ge M M'->Q (.int (ef ps row)) M'):phi T n f [.ref qa, .ref ra] M Q:=by
 refine ax hn hf rfl (ρ := [some _,some _]) rfl ?_;unfold eT;walk_at "st";refine ⟨_,ak mq, ?_⟩;refine bj (I:=fun l ρ M' acc => ∃ o j:Option D, ρ = [o,j,some (.ref ra)]/\M'=M/\acc=(l.map fun p=>p.1*bN row p.2).map .int) (ys:=ps) rfl ⟨none,none,rfl,rfl,rfl⟩ ?_ ?_ ?_
 ·rintro l ρ M' acc ⟨o,j,rfl,rfl,rfl⟩;exact ak mq
 ·rintro l y r ρ M' acc ey ⟨o,j,rfl,rfl,rfl⟩;refine ⟨_,rfl,fun N' B => ?_⟩;obtain ⟨F,G⟩:=z y (by rw [ey];simp)
  have:=aZ ey;walk_at "wp";refine az mr (kj F G) ?_;walk_at "wp";exact ⟨ic (kl q _),by rw [i5,i5,q7];lia,B _ _ _ ⟨_,_,rfl,rfl,by simp⟩⟩
 ·rintro ρ M' acc ⟨o,j,rfl,rfl,rfl⟩ p3 hp3;exact oI (ak aa) (h _ (Ge.new hp3))
theorem yf {f:Nat} {s:Stmt} (hf:T[f]? = some (jb s)) {n:Nat} (hn : 1<=n) {q:Addr} {x:Sp} {M:Mem} {Q:QD} (sm:spM M q x) (h:Q (.int (sms x)) M):phi T n f [spD q x] M Q:=by
 refine ax hn hf rfl (ρ := [some _]) rfl ?_;unfold jb
 cases x with
 | lin l r ps =>
   cases l
   ·unfold spD;walk_at "st";refine ⟨_,rfl, ?_⟩;simp only [<- au, <- av, <- aG, <- aK, <- aM, <- aN, <- aO,lr,ar,reduceCtorEq,decide_false,decide_true];walk_at "wp";refine ⟨_,rfl, ?_⟩;simp only [<- au, <- av, <- aG, <- aK, <- aM, <- aN, <- aO,lr,ar,reduceCtorEq,decide_false,decide_true];walk_at "wp";walk_at "st";refine ⟨_,rfl,cg sm ?_⟩;walk_at "wp";rw [i5];exact h
   ·unfold spD;walk_at "st";refine ⟨_,rfl, ?_⟩;simp only [<- au, <- av, <- aG, <- aK, <- aM, <- aN, <- aO,lr,ar,reduceCtorEq,decide_false,decide_true];walk_at "wp";walk_at "st";refine ⟨_,rfl,cg sm ?_⟩;walk_at "wp";rw [i5];exact h
 | _ =>
   unfold spD;walk_at "st";refine ⟨_,rfl, ?_⟩;simp only [<- au, <- av, <- aG, <- aK, <- aM, <- aN, <- aO,lr,ar,reduceCtorEq,decide_false,decide_true];walk_at "wp";refine ⟨_,rfl, ?_⟩;simp only [<- au, <- av, <- aG, <- aK, <- aM, <- aN, <- aO,lr,ar,reduceCtorEq,decide_false,decide_true];walk_at "wp";walk_at "st";refine ⟨_,rfl, ?_⟩;simp only [<- au, <- av, <- aG, <- aK, <- aM, <- aN, <- aO,lr,ar,reduceCtorEq,decide_false,decide_true];walk_at "wp";exact h
end
section
variable {T:List FD}
theorem b8 {h:List (Int×Int)} {k:Int} (j:k∈h.map (·.1)):dget (h.map (hD .int)) (.int k)=some (.int (gv h k)):=by
 obtain ⟨v,e,_⟩:=eQ j;rw [eP];unfold gv;rw [e];rfl
theorem cD {i j:Int} {B C:Nat} (hi:dN i<=B) (q:dN j<=C) (z:B<=2 ^ 20) (F:C<=2 ^ 20):MulOk i j := .inr (.inr ⟨Ed hi z,Ed q F⟩)
theorem B0 {f fs:Nat} {s ss:Stmt} (hf:T[f]? = some (qp s fs)) (O:T[fs]? = some (eT ss)) {n:Nat} (hn : 2<=n) {q:Addr} {x:Sp} {M:Mem} {Q:QD} {G tA oA pA:Addr} {one other:List Int} {L2:Nat} {J tt:List (Int×Int)} {ks td:List Int}
 (mh:M G=some (.dct false (J.map (hD .int)))) (mt:M tA=some (.dct false (tt.map (hD .int)))) (mo:M oA=some (.lst (one.map .int))) (mp:M pA=some (.lst (other.map .int))) (j:G≠tA)
 (Z:J.map (·.1)=ks) (ok:fA one.length other.length L2 ks td x) (sm:spM M q x) (b1:Big one) (b2:Big other) (L:∀ p∈J,dN p.2<=2 ^ 20) (hl:J.length < 1000) (tl:tt.length < 1000)
 (h:∀ M',M' G=some (.dct false ((ex1 one other J x).map (hD .int)))->M' tA=some (.dct false ((ex2 J tt x).map (hD .int)))->(∀ a o,a≠G->a≠tA->M a=some o->M' a=some o)->Q .non M') :
 phi T n f [spD q x, .ref G, .ref tA, .ref oA, .ref pA] M Q:=by
 refine ax (by lia) hf rfl (ρ := [some _,some _,some _,some _,some _,none,none]) rfl ?_
 unfold qp;subst Z;have hz:(J.map (hD D.int)).length < DL:=by rw [i5,q7];lia
 have tz:(tt.map (hD D.int)).length < DL:=by rw [i5,q7];lia
 have put:∀ (M1:Mem) (r v:Int) (R:Mem->Prop),Ge M M1->(∀ M',M' G=some (.dct false ((ip J r v).map (hD .int)))->M' tA=some (.dct false (tt.map (hD .int)))->(∀ a o,a≠G->a≠tA->M a=some o->M' a=some o)->R M')->cZ (.ref G) (.int r) (.int v) M1 R:=by
  intro M1 r v R g hR;refine fq (g _ _ mh) rfl hz ?_;rw [gu (g:=D.int)];exact hR _ aa (by rw [ag (Ne.symm j)];exact g _ _ mt) fun a o U _ e=>by rw [ag U];exact g _ _ e
 cases x with
 | lin l r ps =>
   have pr:=ok.2;have pl:=ok.1;have mq:M q=some (.lst (ps.map ptD)):=sm
   cases l
   ·unfold spD;walk_at "st";refine ⟨_,rfl,_,rfl, ?_⟩
    iterate 2
     walk_at "st";simp only [<- au, <- av, <- aG, <- aK, <- aM, <- aN, <- aO,lr,ar,reduceCtorEq,decide_false,decide_true];walk_at "wp"
     try rw [al]
    walk_at "st";refine ⟨_,rfl, ?_⟩;refine n6 O (by lia) mq mp pl b2 (fun p Y=>(pr p Y).2) fun M1 g1 => ?_
    refine put M1 r _ _ g1 fun M' z B F => ?_
    repeat (first | (rw [al];done) | rw [al])
    exact h M' z B F
   ·unfold spD;walk_at "st";refine ⟨_,rfl,_,rfl, ?_⟩
    iterate 1
     walk_at "st";simp only [<- au, <- av, <- aG, <- aK, <- aM, <- aN, <- aO,lr,ar,reduceCtorEq,decide_false,decide_true];walk_at "wp"
     try rw [al]
    walk_at "st";refine ⟨_,rfl, ?_⟩;refine n6 O (by lia) mq mo pl b1 (fun p Y=>(pr p Y).2) fun M1 g1 => ?_
    refine put M1 r _ _ g1 fun M' z B F => ?_
    repeat (first | (rw [al];done) | rw [al])
    exact h M' z B F
 | tim r a b =>
   unfold spD;walk_at "st";refine ⟨_,rfl,_,rfl, ?_⟩
   iterate 3
    walk_at "st";simp only [<- au, <- av, <- aG, <- aK, <- aM, <- aN, <- aO,lr,ar,reduceCtorEq,decide_false,decide_true];walk_at "wp"
    try rw [al]
   walk_at "st";refine ⟨_,rfl, ?_⟩;refine bH mh rfl (b8 ok.1) ?_;refine ⟨_,rfl, ?_⟩;refine bH mh rfl (b8 ok.2) ?_;walk_at "wp";refine ⟨cD (bm L ok.1) (bm L ok.2) (DP _) (DP _), ?_⟩;refine put M r _ _ Ge.refl fun M' z B F => ?_
   repeat (first | (rw [al];done) | rw [al])
   exact h M' z B F
 | put r c b =>
   unfold spD;walk_at "st";refine ⟨_,rfl,_,rfl, ?_⟩
   iterate 4
    walk_at "st";simp only [<- au, <- av, <- aG, <- aK, <- aM, <- aN, <- aO,lr,ar,reduceCtorEq,decide_false,decide_true];walk_at "wp"
    try rw [al]
   walk_at "st";refine ⟨_,rfl,_,rfl, ?_⟩;refine bH mh rfl (b8 ok.2) ?_;walk_at "wp";refine ⟨cD (dv ok.1) (bm L ok.2) (by decide) (DP _), ?_⟩
   refine put M r _ _ Ge.refl fun M' z B F => ?_
   repeat (first | (rw [al];done) | rw [al])
   exact h M' z B F
 | add a c b =>
   unfold spD;walk_at "st";refine ⟨_,rfl,_,rfl, ?_⟩
   iterate 5
    walk_at "st";simp only [<- au, <- av, <- aG, <- aK, <- aM, <- aN, <- aO,lr,ar,reduceCtorEq,decide_false,decide_true];walk_at "wp"
    try rw [al]
   walk_at "st";refine bH mh rfl (b8 ok.1) ?_;refine ⟨_,rfl,_,rfl, ?_⟩;refine bH mh rfl (b8 ok.2.2) ?_;walk_at "wp";refine ⟨cD (dv ok.2.1) (bm L ok.2.2) (by decide) (DP _), ?_⟩
   refine put M a _ _ Ge.refl fun M' z B F => ?_
   repeat (first | (rw [al];done) | rw [al])
   exact h M' z B F
 | emp a =>
   unfold spD;walk_at "st";refine ⟨_,rfl,_,rfl, ?_⟩
   iterate 6
    walk_at "st";simp only [<- au, <- av, <- aG, <- aK, <- aM, <- aN, <- aO,lr,ar,reduceCtorEq,decide_false,decide_true];walk_at "wp"
    try rw [al]
   walk_at "st";refine ⟨_,mh,rfl, ?_, ?_⟩
   ·rw [b8 ok];rfl
   ·rw [cC];exact h _ aa (by rw [ag (Ne.symm j)];exact mt) fun a o U _ e=>by rw [ag U];exact e
 | tel k b =>
   unfold spD;walk_at "st";refine ⟨_,rfl,_,rfl, ?_⟩
   iterate 7
    walk_at "st";simp only [<- au, <- av, <- aG, <- aK, <- aM, <- aN, <- aO,lr,ar,reduceCtorEq,decide_false,decide_true];walk_at "wp"
    try rw [al]
   walk_at "st";refine ⟨⟨_,mh⟩,_,rfl,_,mh,rfl,_,b8 ok.2,_,rfl, ?_⟩;refine fq (by rw [ag (Ne.symm j)];exact mt) rfl tz ?_
   rw [cC,gu (g:=D.int)];exact h _ (by rw [ag j];exact aa) aa fun a o U L e=>by rw [ag L,ag U];exact e
end
section
variable {T:List FD}
theorem vE {α:Type} {f : α -> D} (xs:List α):eZ (xs.map f)=xs.zipIdx.map fun p => .tup [.int (p.2:Nat),f p.1]:=by
 unfold eZ;apply FW;intro i;simp [JM,List.getElem?_zipIdx]
 cases xs[i]? <;> simp
theorem tq {α:Type} {xs:List α} {l r:List (α × Nat)} {x : α × Nat} (e:xs.zipIdx=l++x::r):xs=l.map (·.1)++x.1::r.map (·.1):=by
 have:=congrArg (List.map Prod.fst) e;rw [I0] at this;simpa using this
noncomputable abbrev Sq:=Sp×Addr
noncomputable def sqD (x:Sq):D:=spD x.2 x.1
noncomputable def bo (t:List (Int×Int)) (L:Nat):List Int:=(EZ L).map fun k=>gv t (k:Nat)
noncomputable def bZ (l:List Sp):Int:=(l.map sms).sum
structure PgI (M:Mem) (pg:Addr) (xs:List Sq):Prop where
 l:M pg=some (.lst (xs.map sqD))
 s:∀ x∈xs,spM M x.2 x.1
theorem PgI.ge {M M':Mem} {pg:Addr} {xs:List Sq} (h:PgI M pg xs) (g:Ge M M'):PgI M' pg xs:=⟨g _ _ h.l,fun x hx=>dO (h.s x hx) g⟩
theorem nc {x:Sp} (hw:wd x = .t):aJ x=true:=by
 cases x <;> simp [wd,aJ] at hw ⊢
 case lin l _ _=>cases l <;> cases hw
theorem km {x:Sp} (hw : ¬ wd x = .t):aJ x=false:=by
 cases x <;> simp [wd,aJ] at hw ⊢
theorem Ac {f fc fd fs fr fo:Nat} {s sc sd ss sr so:Stmt} (hf:T[f]? = some (qq s fc fd fs)) (By:T[fc]? = some (kG sc fr)) (Bz:T[fr]? = some (eS sr)) (BA:T[fd]? = some (qp sd fo)) (BB:T[fo]? = some (eT so)) (BC:T[fs]? = some (jb ss))
 {n:Nat} (hn : 3<=n) {M:Mem} {Q:QD} {pg oA pA:Addr} {one other:List Int} {L2:Nat} {xs:List Sq} {ks td:List Int} (pi:PgI M pg xs) (mo:M oA=some (.lst (one.map .int))) (mp:M pA=some (.lst (other.map .int)))
 (b1:Big one) (b2:Big other) (pr:Prog one.length other.length L2 (xs.map (·.1)) ks td) (hx:xs.length<=500) (hE:Eb xs.length (tc (xs.map (·.1)))<=2 ^ 20) (hL:L2<=1000)
 (h:∀ r M',Ge M M'->M r=none->M' r=some (.lst ((bo (ex one other (xs.map (·.1))).t L2).map .int))->Q (.tup [.ref r, .int (tc (xs.map (·.1)):Nat), .int (bZ (xs.map (·.1))), .int (ex one other (xs.map (·.1))).m]) M') :
 phi T n f [.ref pg, .ref oA, .ref pA, .int L2] M Q:=by
 refine ax (by lia) hf rfl (ρ := [some _,some _,some _,some _,none,none,none,none,none,none,none]) rfl ?_
 unfold qq;walk_at "st";refine cg mo ?_;walk_at "wp";refine cg mp ?_;walk_at "wp";refine ⟨by rw [q7];lia, ?_⟩
 walk_at "st";intro G L tA j;refine ⟨by rw [q7];lia, ?_⟩
 have q:G≠tA:=fun z=>by rw [<- z,aa] at j;cases j
 have g0:Ge M (ah (ah M G (.dct false [])) tA (.dct false [])):=(Ge.new L).trans (Ge.new j);have O:M tA=none:=by rw [ag (Ne.symm q)] at j;exact j
 rw [i5,i5];walk_at "st";refine ⟨_,ak (g0 _ _ pi.l), ?_⟩;rw [vE];refine fu (I:=fun l ρ M' => ∃ o8 o9:Option D, ρ = [some (.ref pg),some (.ref oA),some (.ref pA),some (.int L2),some (.tup [.int one.length, .int other.length, .int L2]),some (.ref G),some (.ref tA),some (.int (ex one other (l.map (·.1.1))).m),o8,o9,none]/\Ge M M' /\
  M' G=some (.dct false ((ex one other (l.map (·.1.1))).h.map (hD .int)))/\M' tA=some (.dct false ((ex one other (l.map (·.1.1))).t.map (hD .int)))) (ys:=xs.zipIdx) rfl
  ⟨none,none,rfl,g0,by rw [ag q];exact aa,aa⟩ ?_ ?_ ?_
 ·rintro l ρ M' ⟨o8,o9,rfl,g,_,_⟩;exact ak (g _ _ pi.l)
 ·rintro l x r ρ M' e ⟨o8,o9,rfl,g,m1,U⟩;have Y:=tq e;have Z:xs.map (·.1)=l.map (·.1.1)++x.1.1::r.map (·.1.1):=by
   rw [Y];simp;rfl
  obtain ⟨ks',td',p1,ok⟩:=pr.split Z;have i:=tj b1 b2 p1;have BD:(l.map (·.1.1)).length<=xs.length:=by
   have:=congrArg Gx Y;simp at this ⊢;lia
  have BE:tc (l.map (·.1.1))<=tc (xs.map (·.1)):=by
   rw [Z];unfold tc;rw [Fm,DO];lia
  have hB:∀ p∈(ex one other (l.map (·.1.1))).h,dN p.2<=2 ^ 20:=fun p hp=>Ed (i.bd p hp) (Ed (eR BD BE) hE);have BG:(ex one other (l.map (·.1.1))).t.length < 1000:=by have:=i.tl;lia
  refine ⟨_,rfl,fun F hF => ?_⟩;walk_at "st";have sm:spM M' x.1.2 x.1.1:=dO (pi.s x.1 (by rw [Y];simp)) g
  refine Ab By Bz (by lia) m1 U (fun r => ?_) (fun r => ?_) ok sm fun M1 g1 => ?_
  ·rw [eP,Gr,ki,i.ks]
  ·rw [eP,Gr,ki,i.td]
  refine ⟨true,rfl, ?_⟩;rw [if_neg (by decide)]
  walk_at "st";refine B0 BA BB (by lia) (g1 _ _ m1) (g1 _ _ U) (g1 _ _ (g _ _ mo)) (g1 _ _ (g _ _ mp)) q i.ks ok (dO sm g1) b1 b2 hB (by have:=i.ln;lia) BG fun M2 n1 n2 n3 => ?_
  walk_at "st";refine ⟨G,_,rfl,n1, ?_⟩;walk_at "wp";refine hF _ _ ⟨some (.int (x.2:Nat)),some (sqD x.1), ?_,fun a o ea => ?_, ?_, ?_⟩
  ·rw [El,E6,Fc,bB,i5];rfl
  ·have a1:a≠G:=fun z=>by rw [z,L] at ea;cases ea
   have a2:a≠tA:=fun z=>by rw [z,O] at ea;cases ea
   exact n3 a o a1 a2 (g1 _ _ (g _ _ ea))
  ·rw [El,E6,Fc,bB];exact n1
  ·rw [El,E6,Fc,bB];exact n2
 ·rintro ρ M' ⟨o8,o9,rfl,g,m1,U⟩;have ez:xs.zipIdx.map (·.1.1)=xs.map (·.1):=by
   have:xs.zipIdx.map (·.1.1)=(xs.zipIdx.map (·.1)).map (·.1):=by rw [Gf];rfl
   rw [this];congr 1;exact I0 0 xs
  rw [ez] at m1 U ⊢;walk_at "wp";walk_at "st";refine ⟨_,ak (g _ _ pi.l), ?_⟩;refine bj (I:=fun l ρ M2 acc => ∃ o:Option D, ρ = [o]/\M2=M'/\acc=(l.filter fun x:Sq=>aJ x.1).map sqD) (ys:=xs) rfl ⟨none,rfl,rfl,rfl⟩ ?_ ?_ ?_
  ·rintro l ρ M2 acc ⟨o,rfl,rfl,rfl⟩;exact ak (g _ _ pi.l)
  ·rintro l x r ρ M2 acc e ⟨o,rfl,rfl,rfl⟩;refine ⟨_,rfl,fun N' J => ?_⟩;walk_at "wp";have hz:=aZ e;have BH:(l.filter fun x:Sq=>aJ x.1).length<=l.length:=Gm ..;obtain ⟨ds,Y⟩:=ja x.2 x.1;have Z:sqD x = .tup (.str (ws (wd x.1))::ds):=Y;rw [Z];walk_at "wp";refine ⟨_,jc, ?_⟩;simp only [<- aG,ar];walk_at "wp";rw [<- Z]
   split
   ·next hw =>
    have ht:aJ x.1=true:=by
     cases hx1:x.1 <;> rw [hx1] at hw <;> simp [wd,aJ] at hw ⊢
     case lin l _ _=>cases l <;> cases hw
    exact ⟨by rw [i5,q7];lia,J _ _ _ ⟨_,rfl,rfl,by rw [Fm];simp [ht]⟩⟩
   ·next hw =>
    have ht:aJ x.1=false:=by
     cases hx1:x.1 <;> rw [hx1] at hw <;> simp [wd,aJ] at hw ⊢
    exact J _ _ _ ⟨_,rfl,rfl,by rw [Fm];simp [ht]⟩
  ·rintro ρ M2 acc ⟨o,rfl,rfl,rfl⟩ p1 hp1;refine cg aa ?_;walk_at "wp";have g1:=g.trans (Ge.new (o := .lst ((xs.filter fun x:Sq=>aJ x.1).map sqD)) hp1);have B:ah M2 p1 (.lst ((xs.filter fun x:Sq=>aJ x.1).map sqD)) tA=_:=Ge.new hp1 _ _ U;have etc:(List.map sqD (xs.filter fun x:Sq=>aJ x.1)).length=tc (xs.map (·.1)):=by
    unfold tc;rw [i5,HW,i5];rfl
   rw [etc];generalize ah M2 p1 (.lst ((xs.filter fun x:Sq=>aJ x.1).map sqD))=M3 at g1 B;walk_at "st";refine ⟨by lia,by lia, ?_⟩
   rw [F4];refine bj (I:=fun l ρ M4 acc => ∃ o:Option D, ρ = [o,some (.ref tA)]/\M4=M3/\acc=(l.map fun k:Nat=>gv (ex one other (xs.map (·.1))).t (k:Nat)).map .int) (ys:=EZ L2) fw ⟨none,rfl,rfl,rfl⟩ (fun _ _ _ _ _=>trivial) ?_ ?_
   ·rintro l x r ρ M4 acc e ⟨o,rfl,rfl,rfl⟩;refine ⟨_,rfl,fun N' J => ?_⟩;walk_at "wp";have hz:=aZ e;rw [Hq] at hz;refine ⟨⟨_,_,B⟩,_,_,B,rfl,by rw [i5,i5,q7];lia,J _ _ _ ⟨_,rfl,rfl, ?_⟩⟩
    rw [eP,El,El];unfold gv;congr 1;show _=[D.int ((ig (ex one other (xs.map (·.1))).t (x:Nat)).getD 0)]
    cases ig (ex one other (xs.map (·.1))).t (x:Nat) <;> rfl
   ·rintro ρ M4 acc ⟨o,rfl,rfl,rfl⟩ p2 hp2;walk_at "wp";have g2:=g1.trans (Ge.new (o := .lst (((EZ L2).map fun k:Nat=>gv (ex one other (xs.map (·.1))).t (k:Nat)).map .int)) hp2);have mr:M p2=none:=by
     cases z:M p2 with
     | none=>rfl
     | some o=>have:=g1 _ _ z;rw [hp2] at this;cases this
    have m5:=aa (M:=M4) (a:=p2) (o := .lst (((EZ L2).map fun k:Nat=>gv (ex one other (xs.map (·.1))).t (k:Nat)).map .int));generalize ah M4 p2 (.lst (((EZ L2).map fun k:Nat=>gv (ex one other (xs.map (·.1))).t (k:Nat)).map .int))=M5 at g2 m5;refine ⟨_,ak (g2 _ _ pi.l), ?_⟩;refine bj (I:=fun l ρ M6 acc => ∃ o:Option D, ρ = [o]/\M6=M5/\acc=(l.map fun x:Sq=>sms x.1).map .int) (ys:=xs) rfl ⟨none,rfl,rfl,rfl⟩ ?_ ?_ ?_
    ·rintro l ρ M2 acc ⟨o,rfl,rfl,rfl⟩;exact ak (g2 _ _ pi.l)
    ·rintro l x r ρ M2 acc e ⟨o,rfl,rfl,rfl⟩;refine ⟨_,rfl,fun N' J => ?_⟩;have hz:=aZ e;walk_at "wp";refine yf BC (by lia) (dO (pi.s x (by rw [e];simp)) g2) ?_
     exact ⟨by rw [i5,i5,q7];lia,J _ _ _ ⟨_,rfl,rfl,by simp⟩⟩
    ·rintro ρ M6 acc ⟨o,rfl,rfl,rfl⟩ p3 hp3;refine oI (ak aa) ?_;walk_at "wp";refine ⟨by rw [q7];lia, ?_⟩
     have es:(xs.map fun x:Sq=>sms x.1).sum=bZ (xs.map (·.1)):=by
      unfold bZ;rw [Gf];rfl
     rw [es];exact h p2 _ (g2.trans (Ge.new hp3)) mr (Ge.new hp3 _ _ m5)
end
section
variable {T:List FD}
noncomputable def ng (s:Stmt) (ft:Nat):FD:=⟨"_law_lengths",s,["_law_box_here", "_law_most"],2,
 (.cons (.ret (.comp [none,(some 0),(some 1)] ["_law_side", "_law_box_here", "_law_most"] (.last (.rng1 (.int 3)) (.name 0) .nil (.bin .add (.int 1) (.call ft (.cons (.var 1) (.cons (.var 2) .nil)))))))
 .nil)⟩
noncomputable def ni (s:Stmt) (h:Str):FD:=⟨"_law_kept",s,["_law_step_here",h, "_law_told"],3,
 (.cons (.ite (.cmp .inT (.ix (.var 0) (.int 0)) (.tup (.cons (.str (h6 "left")) (.cons (.str (h6 "right")) .nil)))) (.cons (.put (.var 1) (.ix (.var 0) (.int 1)) (.ix (.var 0) (.int 0)))
 .nil) (.cons (.ite (.cmp .eq (.ix (.var 0) (.int 0)) (.str (h6 "times"))) (.cons (.put (.var 1) (.ix (.var 0) (.int 1)) (.str (h6 "products")))
 .nil) (.cons (.ite (.cmp .eq (.ix (.var 0) (.int 0)) (.str (h6 "put"))) (.cons (.put (.var 1) (.ix (.var 0) (.int 1)) (.ix (.var 1) (.ix (.var 0) (.int 3))))
 .nil) (.cons (.ite (.cmp .eq (.ix (.var 0) (.int 0)) (.str (h6 "empty"))) (.cons (.drop (.popk (.var 1) (.ix (.var 0) (.int 1))))
 .nil) (.cons (.ite (.cmp .eq (.ix (.var 0) (.int 0)) (.str (h6 "tell"))) (.cons (.drop (.meth .append (.var 2) (.ix (.var 0) (.int 1))))
 (.cons (.drop (.popk (.var 1) (.ix (.var 0) (.int 2))))
 .nil)) .nil)
 .nil))
 .nil))
 .nil))
 .nil))
 .nil)⟩
noncomputable def nj (s:Stmt) (ft:Nat):FD:=⟨"_law_room",s,["_law_box_here", "_law_way"],1,
 (.cons (.asg (.name 1) (.call ft (.cons (.var 0) (.cons (.int 6) .nil))))
 (.cons (.ite (.cmp .lt (.var 1) (.int 3)) (.cons (.ret (.call ft (.cons (.var 0) (.cons (.int 4) .nil))))
 .nil) .nil)
 (.cons (.ret (.ite (.cmp .lt (.var 1) (.int 5)) (.call ft (.cons (.var 0) (.cons (.int 9) .nil))) (.bin .sub (.int 999) (.call ft (.cons (.var 0) (.cons (.int 3) .nil))))))
 .nil)))⟩
noncomputable def jx (s:Stmt) (ft fv:Nat):FD:=⟨"_law_parts",s,["_law_box_here", "_law_length", "_law_some", "_law_k"],2,
 (.cons (.asg (.name 2) (.lst .nil))
 (.cons (.for (.name 3) (.rng1 (.bin .add (.int 1) (.call ft (.cons (.var 0) (.cons (.ix (.lst (.cons (.int 3) (.cons (.int 3) (.cons (.int 3) (.cons (.int 9) .nil))))) (.call ft (.cons (.var 0) (.cons (.int 4) .nil)))) .nil))))) (.cons (.drop (.meth .append (.var 2) (.tup (.cons (.call fv (.cons (.var 0) .nil)) (.cons (.call ft (.cons (.var 0) (.cons (.var 1) .nil))) .nil)))))
 .nil))
 (.cons (.ret (.var 2))
 .nil)))⟩
noncomputable def jy (s:Stmt) (ft fn:Nat):FD:=⟨"_law_value",s,["_law_box_here", "_law_way"],1,
 (.cons (.asg (.name 1) (.call ft (.cons (.var 0) (.cons (.int 5) .nil))))
 (.cons (.ite (.cmp .eq (.var 1) (.int 4)) (.cons (.ret (.bin .sub (.call ft (.cons (.var 0) (.cons (.bin .mul (.int 2) (.bin .pow (.int 10) (.int 30))) .nil))) (.bin .pow (.int 10) (.int 30))))
 .nil) .nil)
 (.cons (.ret (.ite (.cmp .eq (.var 1) (.int 3)) (.call fn (.cons (.var 0) .nil)) (.bin .sub (.call ft (.cons (.var 0) (.cons (.int 5) .nil))) (.int 2))))
 .nil)))⟩
noncomputable def nn (s:Stmt) (h:Str):FD:=⟨"_law_of_sort",s,[h, "_law_sort", "_law_sorts"],3,
 (.cons (.ret (.comp [none,(some 2),(some 0),(some 1)] ["_law_room_here", "_law_sorts",h, "_law_sort"] (.last (.seq (.blt .sorts (.cons (.var 0) .nil))) (.name 0) (.cons (.or (.cons (.not (.tru (.var 1))) (.cons (.cmp .eq (.ix (.var 2) (.var 0)) (.var 3)) .nil))) .nil) (.var 0))))
 .nil)⟩
noncomputable def no (s:Stmt) (h:Str) (ft fr fp fv fo:Nat):FD:=⟨"_law_step",s,["_law_box_here", "_law_lengths_here",h, "_law_told", "_law_sorts", "_law_way", "_law_room_here", "_law_lefts", "_law_rights", "_law_products", "_law_one", "_law_free", "_law_k", "_law_side"],5,
 (.cons (.asg (.name 5) (.call ft (.cons (.var 0) (.cons (.int 9) .nil))))
 (.cons (.asg (.name 6) (.call fr (.cons (.var 0) .nil)))
 (.cons (.asg (.name 7) (.call fo (.cons (.var 2) (.cons (.str (h6 "left")) (.cons (.var 4) .nil)))))
 (.cons (.asg (.name 8) (.call fo (.cons (.var 2) (.cons (.str (h6 "right")) (.cons (.var 4) .nil)))))
 (.cons (.asg (.name 9) (.call fo (.cons (.var 2) (.cons (.str (h6 "products")) (.cons (.var 4) .nil)))))
 (.cons (.ite (.and (.cons (.cmp .eq (.var 5) (.int 2)) (.cons (.cmp .ne (.var 7) (.lst .nil)) (.cons (.cmp .ne (.var 8) (.lst .nil)) .nil)))) (.cons (.asg (.name 10) (.ix (.var 7) (.call ft (.cons (.var 0) (.cons (.blt .len (.cons (.var 7) .nil)) .nil)))))
 (.cons (.ret (.tup (.cons (.str (h6 "times")) (.cons (.var 6) (.cons (.var 10) (.cons (.ix (.var 8) (.call ft (.cons (.var 0) (.cons (.blt .len (.cons (.var 8) .nil)) .nil)))) .nil))))))
 .nil)) .nil)
 (.cons (.ite (.and (.cons (.cmp .eq (.var 5) (.int 3)) (.cons (.cmp .ne (.var 9) (.lst .nil)) .nil))) (.cons (.ret (.tup (.cons (.str (h6 "put")) (.cons (.var 6) (.cons (.call fv (.cons (.var 0) .nil)) (.cons (.ix (.var 9) (.call ft (.cons (.var 0) (.cons (.blt .len (.cons (.var 9) .nil)) .nil)))) .nil))))))
 .nil) .nil)
 (.cons (.ite (.and (.cons (.or (.cons (.cmp .eq (.var 5) (.int 4)) (.cons (.cmp .eq (.var 5) (.int 5)) .nil))) (.cons (.cmp .ne (.var 9) (.lst .nil)) .nil))) (.cons (.asg (.name 10) (.ix (.var 9) (.call ft (.cons (.var 0) (.cons (.blt .len (.cons (.var 9) .nil)) .nil)))))
 (.cons (.ret (.tup (.cons (.str (h6 "add")) (.cons (.var 10) (.cons (.call fv (.cons (.var 0) .nil)) (.cons (.ix (.var 9) (.call ft (.cons (.var 0) (.cons (.blt .len (.cons (.var 9) .nil)) .nil)))) .nil))))))
 .nil)) .nil)
 (.cons (.ite (.and (.cons (.cmp .eq (.var 5) (.int 6)) (.cons (.cmp .neE (.var 2) (.dnew false)) .nil))) (.cons (.ret (.tup (.cons (.str (h6 "empty")) (.cons (.ix (.blt .sorts (.cons (.var 2) .nil)) (.call ft (.cons (.var 0) (.cons (.blt .lenK (.cons (.var 2) .nil)) .nil)))) .nil))))
 .nil) .nil)
 (.cons (.asg (.name 11) (.comp [none,(some 3)] ["_law_k", "_law_told"] (.last (.rng1 (.ix (.var 1) (.int 2))) (.name 0) (.cons (.cmp .ninS (.var 0) (.var 1)) .nil) (.var 0))))
 (.cons (.ite (.and (.cons (.cmp .gt (.var 5) (.int 6)) (.cons (.cmp .ne (.var 9) (.lst .nil)) (.cons (.cmp .ne (.var 11) (.lst .nil)) .nil)))) (.cons (.asg (.name 12) (.ix (.var 11) (.call ft (.cons (.var 0) (.cons (.blt .len (.cons (.var 11) .nil)) .nil)))))
 (.cons (.ret (.tup (.cons (.str (h6 "tell")) (.cons (.var 12) (.cons (.ix (.var 9) (.call ft (.cons (.var 0) (.cons (.blt .len (.cons (.var 9) .nil)) .nil)))) .nil)))))
 .nil)) .nil)
 (.cons (.asg (.name 13) (.call ft (.cons (.var 0) (.cons (.int 2) .nil))))
 (.cons (.ret (.tup (.cons (.ix (.lst (.cons (.str (h6 "left")) (.cons (.str (h6 "right")) .nil))) (.var 13)) (.cons (.var 6) (.cons (.call fp (.cons (.var 0) (.cons (.ix (.var 1) (.var 13)) .nil))) .nil)))))
 .nil)))))))))))))⟩
noncomputable def nr (s:Stmt) (h:Str) (fs fk:Nat):FD:=⟨"_law_program",s,["_law_box_here", "_law_lengths_here", "_law_size", "_law_sorts",h, "_law_told", "_law_steps", "_law_turn", "_law_step_here", "_law_many"],4,
 (.cons (.asg (.name 4) (.dnew false))
 (.cons (.asg (.name 5) (.lst .nil))
 (.cons (.asg (.name 6) (.lst .nil))
 (.cons (.for (.name 7) (.rng1 (.var 2)) (.cons (.asg (.name 8) (.call fs (.cons (.var 0) (.cons (.var 1) (.cons (.var 4) (.cons (.var 5) (.cons (.var 3) .nil)))))))
 (.cons (.asg (.name 9) (.blt .len (.cons (.comp [none] ["_law_one"] (.last (.seq (.var 6)) (.name 0) (.cons (.cmp .eq (.ix (.var 0) (.int 0)) (.str (h6 "times"))) .nil) (.var 0))) .nil)))
 (.cons (.ite (.or (.cons (.cmp .ne (.ix (.var 8) (.int 0)) (.str (h6 "times"))) (.cons (.tru (.var 3)) (.cons (.cmp .lt (.var 9) (.int 4)) .nil)))) (.cons (.drop (.meth .append (.var 6) (.var 8)))
 (.cons (.drop (.call fk (.cons (.var 8) (.cons (.var 4) (.cons (.var 5) .nil)))))
 .nil)) .nil)
 .nil))))
 (.cons (.ret (.var 6))
 .nil)))))⟩
def gA (T:List FD) (n f:Nat):Prop := ∀ {b:Addr} {M:Mem} {Q:QD},Box b M->(∀ r M',fT r->Bx b M M'->Q (.int r) M')->phi T n f [.ref b] M Q
theorem vF {f ft fn:Nat} {s:Stmt} (hf:T[f]? = some (jy s ft fn)) {n:Nat} (j:cv T (n - 1) ft) (F:mX T (n - 1) fn) (hn : 1<=n):gA T n f:=by
 intro b M Q G q;refine ax hn hf rfl (ρ := [some _,none]) rfl ?_;unfold jy;walk_at "st";refine j G (by decide) (by decide) fun w M1 L O z => ?_
 walk_at "st"
 split
 ·walk_at "st";refine ⟨by decide,by decide,by decide,ql (by decide), ?_⟩
  refine j z.box (by decide) (by decide) fun v M2 v0 v1 B => ?_
  walk_at "wp";refine ⟨by decide,by decide,by decide, ?_⟩
  refine q _ _ ?_ (z.trans B);have e:(2*10 ^ (30:Int).toNat:Int)=2*10 ^ 30:=rfl;rw [e] at v1;have J:(10 ^ (30:Int).toNat:Int)=10 ^ 30:=rfl;rw [J];exact ⟨by lia,by lia⟩
 ·walk_at "st"
  split
  ·refine F z.box fun v M2 v0 v1 B => ?_;exact q _ _ ⟨by lia,by lia⟩ (z.trans B)
  ·refine j z.box (by decide) (by decide) fun v M2 v0 v1 B => ?_
   walk_at "wp";exact q _ _ ⟨by lia,by lia⟩ (z.trans B)
def tw (T:List FD) (n f:Nat):Prop := ∀ {b:Addr} {M:Mem} {Q:QD},Box b M->(∀ (r:Int) M',(0<=r/\r < 9∨996 < r/\r < 1000)->Bx b M M'->Q (.int r) M')->phi T n f [.ref b] M Q
theorem yg {f ft:Nat} {s:Stmt} (hf:T[f]? = some (nj s ft)) {n:Nat} (j:cv T (n - 1) ft) (hn : 1<=n):tw T n f:=by
 intro b M Q F q;refine ax hn hf rfl (ρ := [some _,none]) rfl ?_;unfold nj;walk_at "st";refine j F (by decide) (by decide) fun w M1 G J z => ?_
 walk_at "st"
 split
 ·walk_at "st";refine j z.box (by decide) (by decide) fun v M2 v0 v1 B => ?_
  exact q _ _ (.inl ⟨by lia,by lia⟩) (z.trans B)
 ·walk_at "st"
  split
  ·refine j z.box (by decide) (by decide) fun v M2 v0 v1 B => ?_
   exact q _ _ (.inl ⟨by lia,by lia⟩) (z.trans B)
  ·refine j z.box (by decide) (by decide) fun v M2 v0 v1 B => ?_
   walk_at "wp";exact q _ _ (.inr ⟨by lia,by lia⟩) (z.trans B)
def oM (T:List FD) (n f:Nat):Prop := ∀ {b:Addr} {L:Nat} {M:Mem} {Q:QD},0 < L->L<=1000->Box b M->(∀ (ps:List (Int×Int)) p M',ps.length<=20->(∀ y∈ps,fT y.1/\0<=y.2/\y.2 < L)->Bx b M M'->M p=none->M' p=some (.lst (ps.map ptD))->Q (.ref p) M')->phi T n f [.ref b, .int L] M Q
theorem aX {b p:Addr} {M:Mem} (h:Box b M) (j:M p=none):p≠b:=fun z=>by obtain ⟨x,y,w,e⟩:=h;rw [<- z,j] at e;cases e
theorem vG {f ft fv:Nat} {s:Stmt} (hf:T[f]? = some (jx s ft fv)) {n:Nat} (G:cv T (n - 1) ft) (By:gA T (n - 1) fv) (hn : 1<=n):oM T n f:=by
 intro b L M Q hL BC hb q;refine ax hn hf rfl (ρ := [some _,some _,none,none]) rfl ?_;unfold jx;walk_at "st";refine ⟨by rw [q7];lia,fun p Z => ?_⟩
 have j:=aX hb Z;have x0:=Bx.of hb (Ge.new (o := .lst []) Z);walk_at "st";refine ⟨by rw [q7];lia,fun p1 B => ?_⟩
 have O:=aX x0.box B;have U:p≠p1:=fun z=>by rw [<- z,aa] at B;cases B
 have x1:=x0.ge (Ge.new (o := .lst [.int 3, .int 3, .int 3, .int 9]) B);refine G x1.box (by decide) (by decide) fun w M2 w0 w1 x2 => ?_
 have m2:=x2.keep p1 _ O aa;have mp:=x2.keep p (.lst []) j (by rw [ag U];exact aa)
 obtain ⟨m,em,m0,m1⟩:∃ m:Int,atI [D.int 3, .int 3, .int 3, .int 9] w=some (.int m)/\0 < m/\m<=9:=by
  have:w=0∨w=1∨w=2∨w=3:=by lia
  rcases this with rfl | rfl | rfl | rfl
  ·exact ⟨3,rfl,by decide,by decide⟩
  ·exact ⟨3,rfl,by decide,by decide⟩
  ·exact ⟨3,rfl,by decide,by decide⟩
  ·exact ⟨9,rfl,by decide,by decide⟩
 refine az m2 em ?_;have Y:=x1.trans x2;refine G Y.box m0 (by lia) fun v M3 v0 v1 x3 => ?_
 have Bz:=x3.keep p _ j mp;have BA:=Y.trans x3;walk_at "wp";refine ⟨by lia,by lia, ?_⟩
 refine mV (I:=fun l ρ M' => ∃ (ps:List (Int×Int)) (o:Option D), ρ = [some (.ref b),some (.int L),some (.ref p),o]/\ps.length=l.length/\(∀ y∈ps,fT y.1/\0<=y.2/\y.2 < L)/\Bx b M M'/\M' p=some (.lst (ps.map ptD)))
  ⟨[],none,rfl,rfl,fun _ h=>by simp at h,BA,Bz⟩ (fun _ _ _ _=>trivial) ?_ ?_
 ·rintro l x r ρ M4 e ⟨ps,o,rfl,hl,J,x4,m4⟩;have BB:=aZ e;rw [bV] at BB;refine ⟨_,rfl,fun F hF => ?_⟩;walk_at "st";refine ⟨⟨_,m4⟩, ?_⟩;refine By x4.box fun c M5 hc x5 => ?_;refine G x5.box (by lia) (by lia) fun i M6 i0 i1 x6 => ?_
  walk_at "wp";refine ⟨by rw [q7];lia, ?_⟩
  have m6:=x6.keep p _ j (x5.keep p _ j m4);refine ⟨p,_,_,rfl,rfl,m6,by rw [i5,q7];lia, ?_⟩
  refine hF _ _ ⟨ps++[(c,i)],_,rfl,by simp [hl], ?_,((x4.trans x5).trans x6).upd Z j, ?_⟩
  ·intro y hy
   rcases E5.mp hy with h | h
   ·exact J y h
   ·simp at h;subst h;exact ⟨hc,i0,i1⟩
  ·rw [aa,El];rfl
 ·rintro ρ M4 ⟨ps,o,rfl,hl,J,x4,m4⟩;rw [bV] at hl;walk_at "st";exact q ps p _ (by lia) J x4 Z m4
def tD (T:List FD) (n f:Nat):Prop := ∀ {b:Addr} {m:Int} {M:Mem} {Q:QD},0 < m->m<=100->Box b M->(∀ (L0 L1 L2:Nat) p M',(1<=L0/\L0<=m.toNat)->(1<=L1/\L1<=m.toNat)->(1<=L2/\L2<=m.toNat)->Bx b M M'->M p=none->M' p=some (.lst [.int L0, .int L1, .int L2])->Q (.ref p) M')->phi T n f [.ref b, .int m] M Q
theorem yh {f ft:Nat} {s:Stmt} (hf:T[f]? = some (ng s ft)) {n:Nat} (z:cv T (n - 1) ft) (hn : 1<=n):tD T n f:=by
 intro b m M Q h0 h1 O q;refine ax hn hf rfl (ρ := [some _,some _]) rfl ?_;unfold ng;walk_at "st";refine ⟨by decide,by decide, ?_⟩
 have er:bP 0 (3:Int).toNat=[.int 0, .int 1, .int 2]:=rfl;rw [er];simp only [bK];refine ⟨trivial,_,rfl, ?_⟩;walk_at "wp";refine z O (by lia) (by lia) fun i M1 Y Z J => ?_
 walk_at "wp";refine ⟨by simp [q7], ?_⟩
 refine z J.box (by lia) (by lia) fun j M2 j0 j1 L => ?_
 walk_at "wp";refine ⟨by simp [q7], ?_⟩
 refine z L.box (by lia) (by lia) fun k M3 k0 k1 U => ?_
 walk_at "wp";refine ⟨by simp [q7],fun p B => ?_⟩
 have F:=(J.trans L).trans U;have G:=aX F.box B;refine q (1+i).toNat (1+j).toNat (1+k).toNat p _ (by lia) (by lia) (by lia) (F.ge (Ge.new B)) (F.none B G) ?_
 rw [aa,Fh (by lia),Fh (by lia),Fh (by lia)];rfl
end
section
variable {T:List FD}
theorem tE {ns:List Int} {ys:List D} (h:ys.Perm (ns.map D.int)):∃ ms:List Int,ys=ms.map D.int/\ms.Perm ns:=by
 have j:∀ y∈ys, ∃ i,y=D.int i:=fun y q=>by
  obtain ⟨i,_,e⟩:=EO.mp (h.mem_iff.mp q);exact ⟨i,e.symm⟩
 have:∃ ms:List Int,ys=ms.map D.int:=by
  clear h
  induction ys with
  | nil=>exact ⟨[],rfl⟩
  | cons y ys ih =>
    obtain ⟨i,rfl⟩:=j y Ex;obtain ⟨ms,rfl⟩:=ih fun z B=>j z (E2 _ B);exact ⟨i::ms,rfl⟩
 obtain ⟨ms,rfl⟩:=this;refine ⟨ms,rfl, ?_⟩
 let g:D->Int:=fun d=>match d with | .int i=>i | _ => 0
 have e:∀ l:List Int,(l.map D.int).map g=l:=fun l=>by rw [Gf];exact List.map_id' l
 have:=h.map g
 rwa [e,e] at this
theorem nv {j:Addr} {z:List (Int×Str)} {M:Mem} {Q:QD} (mh:M j=some (.dct false (z.map (hD .str)))) (G:z.length<=63)
 (q:∀ p (ms:List Int),M p=none->ms.Perm (z.map (·.1))->Q (.ref p) (ah M p (.lst (ms.map .int)))):iX [.ref j] M Q:=by
 refine ⟨j,false,_, .int,rfl,mh,rfl,fun kv B => ?_,by rw [i5];exact G,fun p ys J F _ => ?_⟩
 ·obtain ⟨x,_,rfl⟩:=EO.mp B;rfl
 ·rw [Gf] at F;have e:((·.1) ∘ hD .str:Int×Str->D)=D.int ∘ (·.1):=rfl;rw [e, <- Gf] at F;obtain ⟨ms,rfl,h2⟩:=tE F;exact q p ms J h2
theorem eg {j:List (Int×Str)} {k:Int} (q:k∈j.map (·.1)):∃ v,ig j k=some v/\dget (j.map (hD .str)) (.int k)=some (.str v):=by
 obtain ⟨v,e,_⟩:=eQ q;exact ⟨v,e,by rw [eP,e];rfl⟩
noncomputable def wpr:Str:=h6 "products"
def cJ (v:Str):Prop:=v=ws .l∨v=ws .r∨v=wpr
theorem tF {v u:Str} {M:Mem} {Q:QD} (j:cJ v) (B:cJ u) (q:Q (.bl (decide (v=u))) M):wEq (.str v) (.str u) M Q:=by
 have ok:∀ z,cJ z->Jg z=true:=by
  rintro z (rfl | rfl | rfl)
  ·exact j8 .l
  ·exact j8 .r
  ·decide +kernel
 have e:(v==u)=decide (v=u):=Jw v u;have r:∀ z,cJ z->rb 16 M (.str z)=some (.str z):=fun z F=>by simp only [rb,ok z F,if_true]
 refine ⟨_,_,r v j,r u B, ?_⟩;simp only [Ej];rw [e];exact q
def tG (T:List FD) (n f:Nat):Prop := ∀ {so:Bool} {u:Str} {hA:Addr} {hh:List (Int×Str)} {M:Mem} {Q:QD},M hA=some (.dct false (hh.map (hD .str)))->(∀ p∈hh,cJ p.2)->cJ u->hh.length<=63 ->
 (∀ p (ms:List Int) M',Ge M M'->M p=none->M' p=some (.lst (ms.map .int))->ms.length<=63->(∀ r∈ms,r∈hh.map (·.1)/\(so=true->ig hh r=some u))->Q (.ref p) M')->phi T n f [.ref hA, .str u, .bl so] M Q
theorem vH {f:Nat} {s:Stmt} {hn:Str} (hf:T[f]? = some (nn s hn)) {n:Nat} (h1 : 1<=n):tG T n f:=by
 intro so u L j M Q mh hv hu hl q;refine ax h1 hf rfl (ρ := [some _,some _,some _]) rfl ?_;unfold nn;walk_at "st";refine nv mh hl fun p ms hp hm => ?_;have g1:=Ge.new (o := .lst (ms.map .int)) hp;have By:ms.length=j.length:=by rw [hm.length_eq,i5]
 refine ⟨_,ak aa, ?_⟩;refine bj (I:=fun l ρ M' acc => ∃ (o:Option D) (rs:List Int), ρ = [o,some (.bl so),some (.ref L),some (.str u)]/\M'=ah M p (.lst (ms.map .int))/\acc=rs.map .int/\rs.length<=l.length /\ ∀ r∈rs,r∈j.map (·.1)/\(so=true->ig j r=some u)) (ys:=ms) rfl ⟨none,[],rfl,rfl,rfl,DP _,fun _ h=>by simp at h⟩ ?_ ?_ ?_
 ·rintro l ρ M' acc ⟨o,rs,rfl,rfl,rfl,_⟩;exact ak aa
 ·rintro l y r ρ M' acc ey ⟨o,rs,rfl,rfl,rfl,B,F⟩;refine ⟨_,rfl,fun N' O => ?_⟩;have G:y∈j.map (·.1):=hm.mem_iff.mp (by rw [ey];simp)
  obtain ⟨v,U,e2⟩:=eg G;have Y:=aZ ey;have sv:cJ v:=by
   obtain ⟨v',Z,e4⟩:=eQ G;rw [U] at Z;cases Z;exact hv _ e4
  have add:(so=true->ig j y=some u)->(rs.map D.int).length < DL/\N' [some (.int y),some (.bl so),some (.ref L),some (.str u)] (ah M p (.lst (ms.map .int))) (rs.map .int++[.int y]):=fun J =>
   ⟨by rw [i5,q7];lia,O _ _ _ ⟨_,rs++[y],rfl,rfl,by simp,by simp;exact B,fun z Y=>by
     rcases E5.mp Y with h | h
     ·exact F z h
     ·simp at h;subst h;exact ⟨G,J⟩⟩⟩
  walk_at "wp";refine ⟨so,rfl, ?_⟩
  cases so with
  | false =>
    rw [if_pos (by rfl)]
    exact add fun z=>by cases z
  | true =>
    rw [if_neg (by decide)]
    refine bH (g1 _ _ mh) rfl e2 ?_;refine tF sv hu ?_;refine ⟨_,rfl, ?_⟩
    by_cases z:v=u
    ·rw [decide_eq_true z,if_pos rfl];exact add fun _=>by rw [U,z]
    ·rw [decide_eq_false z,if_neg (by decide)]
     exact O _ _ _ ⟨_,rs,rfl,rfl,rfl,by simp;lia,F⟩
 ·rintro ρ M' acc ⟨o,rs,rfl,rfl,rfl,B,F⟩ p2 hp2;refine q p2 rs _ (g1.trans (Ge.new hp2)) ?_ aa (by lia) F
  cases z:M p2 with
  | none=>rfl
  | some o=>have:=g1 _ _ z;rw [hp2] at this;cases this
noncomputable def Ad (hh:List (Int×Str)):Sp->Prop
 | .lin _ _ _=>True
 | .tim _ a b=>ig hh a=some (ws .l)/\ig hh b=some (ws .r)
 | .put _ _ b=>ig hh b=some wpr
 | .add a _ b=>ig hh a=some wpr/\ig hh b=some wpr
 | .emp _=>True
 | .tel _ b=>ig hh b=some wpr
noncomputable def kn (hh:List (Int×Str)):Sp->List (Int×Str)
 | .lin l r _=>ip hh r (ws (lr l))
 | .tim r _ _=>ip hh r wpr
 | .put r _ b=>ip hh r ((ig hh b).getD wpr)
 | .add _ _ _=>hh
 | .emp a=>idr hh a
 | .tel _ b=>idr hh b
def tH (T:List FD) (n f:Nat):Prop := ∀ {q hA tA:Addr} {x:Sp} {hh:List (Int×Str)} {td:List Int} {L0 L1 L2:Nat} {M:Mem} {Q:QD},M hA=some (.dct false (hh.map (hD .str)))->M tA=some (.lst (td.map .int))->hA≠tA->fA L0 L1 L2 (hh.map (·.1)) td x->hh.length < 100->td.length < 100 ->
 (∀ M',M' hA=some (.dct false ((kn hh x).map (hD .str)))->M' tA=some (.lst ((nt td x).map .int))->(∀ a o,a≠hA->a≠tA->M a=some o->M' a=some o)->(∀ a,M a≠none->M' a≠none)->Q .non M')->phi T n f [spD q x, .ref hA, .ref tA] M Q
theorem yi {f:Nat} {s:Stmt} {hn:Str} (hf:T[f]? = some (ni s hn)) {n:Nat} (h1 : 1<=n):tH T n f:=by
 intro q F tA x Z td L0 L1 L2 M Q mh mt j ok hl tl h;refine ax h1 hf rfl (ρ := [some _,some _,some _]) rfl ?_;unfold ni;have hz:(Z.map (hD D.str)).length < DL:=by rw [i5,q7];lia
 have up:∀ (M1:Mem) (b:Addr) (o:O) (a:Addr),M1 a≠none->ah M1 b o a≠none:=fun M1 b o a B=>by
  unfold ah;split
  ·intro z;cases z
  ·exact B
 have put:∀ (r:Int) (v:Str) (R:Mem->Prop),(∀ M',M' F=some (.dct false ((ip Z r v).map (hD .str)))->M' tA=some (.lst (td.map .int))->(∀ a o,a≠F->a≠tA->M a=some o->M' a=some o)->(∀ a,M a≠none->M' a≠none)->R M')->cZ (.ref F) (.int r) (.str v) M R:=by
  intro r v R hR;refine fq mh rfl hz ?_;rw [gu (g:=D.str)];exact hR _ aa (by rw [ag (Ne.symm j)];exact mt) (fun a o B _ e=>by rw [ag B];exact e) (up M F _)
 cases x with
 | lin l r ps =>
   unfold spD;walk_at "st";refine ⟨_,rfl, ?_⟩;simp only [<- au, <- av];refine ⟨by rw [q7];lia,bI ?_⟩
   refine ⟨_,rfl, ?_⟩;rw [if_pos (by cases l <;> decide)]
   walk_at "st";refine ⟨_,rfl,_,rfl,put r _ _ fun M' G J L U => ?_⟩;exact h M' G J L U
 | tim r a b =>
   unfold spD;walk_at "st";refine ⟨_,rfl, ?_⟩;simp only [<- au, <- av];refine ⟨by rw [q7];lia,bI ?_⟩
   refine ⟨_,rfl, ?_⟩;rw [if_neg (by decide)]
   iterate 1
    walk_at "st";refine ⟨_,rfl, ?_⟩;simp only [<- au, <- av, <- aG, <- aK, <- aM, <- aN, <- aO,ar,reduceCtorEq,decide_false,decide_true];walk_at "wp"
   walk_at "st";exact ⟨_,rfl,put r wpr _ fun M' G J L U=>h M' G J L U⟩
 | put r c b =>
   unfold spD;walk_at "st";refine ⟨_,rfl, ?_⟩;simp only [<- au, <- av];refine ⟨by rw [q7];lia,bI ?_⟩
   refine ⟨_,rfl, ?_⟩;rw [if_neg (by decide)]
   iterate 2
    walk_at "st";refine ⟨_,rfl, ?_⟩;simp only [<- au, <- av, <- aG, <- aK, <- aM, <- aN, <- aO,ar,reduceCtorEq,decide_false,decide_true];walk_at "wp"
   walk_at "st";obtain ⟨v,e1,Y⟩:=eg ok.2;refine ⟨_,rfl,bH mh rfl Y ⟨_,rfl,put r v _ fun M' G J L U=>h M' ?_ J L U⟩⟩;rw [G];simp only [kn,e1,Lj]
 | add a c b =>
   unfold spD;walk_at "st";refine ⟨_,rfl, ?_⟩;simp only [<- au, <- av];refine ⟨by rw [q7];lia,bI ?_⟩
   refine ⟨_,rfl, ?_⟩;rw [if_neg (by decide)]
   iterate 4
    walk_at "st";refine ⟨_,rfl, ?_⟩;simp only [<- au, <- av, <- aG, <- aK, <- aM, <- aN, <- aO,ar,reduceCtorEq,decide_false,decide_true];walk_at "wp"
   exact h M mh mt (fun _ _ _ _ e=>e) fun _ e=>e
 | emp a =>
   unfold spD;walk_at "st";refine ⟨_,rfl, ?_⟩;simp only [<- au, <- av];refine ⟨by rw [q7];lia,bI ?_⟩
   refine ⟨_,rfl, ?_⟩;rw [if_neg (by decide)]
   iterate 3
    walk_at "st";refine ⟨_,rfl, ?_⟩;simp only [<- au, <- av, <- aG, <- aK, <- aM, <- aN, <- aO,ar,reduceCtorEq,decide_false,decide_true];walk_at "wp"
   walk_at "st";obtain ⟨v,e1,Y⟩:=eg ok;refine ⟨⟨_,mh⟩,_,rfl,_,mh,rfl,⟨_,Y⟩, ?_⟩;rw [cC];exact h _ aa (by rw [ag (Ne.symm j)];exact mt) (fun a o B _ e=>by rw [ag B];exact e) (up M F _)
 | tel k b =>
   unfold spD;walk_at "st";refine ⟨_,rfl, ?_⟩;simp only [<- au, <- av];refine ⟨by rw [q7];lia,bI ?_⟩
   refine ⟨_,rfl, ?_⟩;rw [if_neg (by decide)]
   iterate 4
    walk_at "st";refine ⟨_,rfl, ?_⟩;simp only [<- au, <- av, <- aG, <- aK, <- aM, <- aN, <- aO,ar,reduceCtorEq,decide_false,decide_true];walk_at "wp"
   walk_at "st";refine ⟨⟨_,mt⟩,_,rfl, ?_⟩;refine ⟨tA,_,_,rfl,rfl,mt,by rw [i5,q7];lia, ?_⟩
   obtain ⟨v,e1,Y⟩:=eg ok.2;have mh':ah M tA (.lst (td.map .int++[.int k])) F=some (.dct false (Z.map (hD .str))):=by rw [ag j];exact mh
   walk_at "st";refine ⟨⟨_,mh'⟩,_,rfl,_,mh',rfl,⟨_,Y⟩, ?_⟩;rw [cC];refine h _ aa ?_ (fun a o B hb e=>by rw [ag B,ag hb];exact e) fun a B=>up _ _ _ _ (up _ _ _ _ B)
   rw [ag (Ne.symm j),aa];unfold nt;rw [El];rfl
end
section
variable {T:List FD}
theorem cE {M:Mem} {p e:Addr} {ms:List Int} {Q:QD} (j:M p=some (.lst (ms.map .int))) (he:M e=some (.lst [])) (q:Q (.bl (decide (ms≠[]))) M):wNe (.ref p) (.ref e) M Q:=by
 refine ⟨_,_,(dL j).trans (by rw [jv];rfl),dL he, ?_⟩
 have z:(!PyData.eqv (.list (ms.map .int)) (.list []))=decide (ms≠[]):=by
  cases ms <;> simp [Ej,GN]
 show Q (.bl (!PyData.eqv (.list (ms.map .int)) (.list []))) M;rw [z];exact q
structure SI (b p7 p8 p9:Addr) (m7 m8 m9:List Int) (M M':Mem):Prop where
 x:Bx b M M'
 a:M' p7=some (.lst (m7.map .int))
 c:M' p8=some (.lst (m8.map .int))
 d:M' p9=some (.lst (m9.map .int))
theorem SI.ge {b j q z:Addr} {B F G:List Int} {M M' M'':Mem} (h:SI b j q z B F G M M') (g:Ge M' M''):SI b j q z B F G M M'':=⟨h.x.ge g,g _ _ h.a,g _ _ h.c,g _ _ h.d⟩
theorem SI.bx {b j q z:Addr} {B F G:List Int} {M M' M'':Mem} (h:SI b j q z B F G M M') (J:j≠b) (L:q≠b) (O:z≠b) (g:Bx b M' M''):SI b j q z B F G M M'':=⟨h.x.trans g,g.keep _ _ J h.a,g.keep _ _ L h.c,g.keep _ _ O h.d⟩
theorem ci {n ft:Nat} (z:cv T n ft) {b p:Addr} {ms:List Int} {M:Mem} {Q:QD} (J:Box b M) (B:M p=some (.lst (ms.map .int))) (npb:p≠b) (h0:ms≠[]) (Z:ms.length<=1000)
 (q:∀ r M',r∈ms->Bx b M M'->Q (.int r) M'):el [.ref p] M fun y M1=>phi T n ft [.ref b,y] M1 fun L M2=>wIx (.ref p) L M2 Q:=by
 have F : 0 < ms.length:=G1.mpr h0;refine cg B ?_;rw [i5];refine z J (by lia) (by lia) fun r M1 O U G => ?_
 obtain ⟨d,Y,j⟩:=i9 (xs:=ms.map D.int) O (by rw [i5];exact U)
 rw [Ei] at j
 cases e3:ms[r.toNat]? with
 | none=>rw [e3] at j;cases j
 | some v =>
   rw [e3] at j;cases j;exact az (G.keep _ _ npb B) Y (q v M1 (Ef e3) G)
def ny (T:List FD) (n f:Nat):Prop := ∀ {b lA hA tA:Addr} {so:Bool} {hh:List (Int×Str)} {td:List Int} {L0 L1 L2:Nat} {M:Mem} {Q:QD},Box b M->M lA=some (.lst [.int L0, .int L1, .int L2])->M hA=some (.dct false (hh.map (hD .str)))->M tA=some (.lst (td.map .int)) ->
 lA≠b->hA≠b->tA≠b->(∀ p∈hh,cJ p.2)->hh.length<=63->(0 < L0/\L0<=1000)->(0 < L1/\L1<=1000)->L2<=1000 ->
 (∀ x q M',fA L0 L1 L2 (hh.map (·.1)) td x->(so=true->Ad hh x)->Bx b M M'->spM M' q x->(∀ l r ps,x = .lin l r ps->M q=none)->Q (spD q x) M')->phi T n f [.ref b, .ref lA, .ref hA, .ref tA, .bl so] M Q
theorem yj {f ft fr fp fv fo:Nat} {s:Stmt} {hn:Str} (hf:T[f]? = some (no s hn ft fr fp fv fo)) {n:Nat} (B:cv T (n - 1) ft) (BV:tw T (n - 1) fr) (BN:oM T (n - 1) fp) (BO:gA T (n - 1) fv) (BE:tG T (n - 1) fo) (h1 : 1<=n):ny T n f:=by
 intro b lA hA tA so hh td L0 L1 L2 M Q hb ml mh mt nl nh nt' hv hl z0 z1 z2 h;refine ax h1 hf rfl (ρ := [some _,some _,some _,some _,some _,none,none,none,none,none,none,none,none,none]) rfl ?_;unfold no;walk_at "st";refine B hb (by decide) (by decide) fun way M1 w0 w1 x1 => ?_
 walk_at "st";refine BV x1.box fun room M2 _ x2 => ?_;have F:=x1.trans x2;walk_at "st";refine BE (F.keep _ _ nh mh) hv (.inl rfl) hl fun p7 m7 M3 g3 f7 e7 l7 r7 => ?_;walk_at "st";refine BE (g3 _ _ (F.keep _ _ nh mh)) hv (.inr (.inl rfl)) hl fun p8 m8 M4 g4 f8 e8 l8 r8 => ?_;walk_at "st";refine BE (g4 _ _ (g3 _ _ (F.keep _ _ nh mh))) hv (.inr (.inr rfl)) hl fun p9 m9 M5 g5 f9 e9 l9 r9 => ?_;have n7:=aX F.box f7;have n8:=aX (F.ge g3).box f8;have n9:=aX ((F.ge g3).ge g4).box f9;have I5:SI b p7 p8 p9 m7 m8 m9 M M5:=⟨((F.ge g3).ge g4).ge g5,g5 _ _ (g4 _ _ e7),g5 _ _ e8,e9⟩;clear e7 e8 e9 x1 x2 f7 f8 f9 F g3 g4 g5;refine cB (I:=fun ρ' M' => ρ'=[some (.ref b),some (.ref lA),some (.ref hA),some (.ref tA),some (.bl so),some (.int way),some (.int room),some (.ref p7),some (.ref p8),some (.ref p9),none,none,none,none]/\SI b p7 p8 p9 m7 m8 m9 M M') (fun R L => ?_) ?_
 ·walk_at "wp"
  split
  ·refine ⟨by rw [q7];lia,fun pe G => ?_⟩
   have I6:=I5.ge (Ge.new (o := .lst []) G);refine cE I6.a aa ⟨_,rfl, ?_⟩
   by_cases c1:m7≠[]
   ·rw [decide_eq_true c1,if_pos rfl];refine ⟨by rw [q7];lia,fun BW U => ?_⟩
    have Y:=I6.ge (Ge.new (o := .lst []) U);refine cE Y.c aa ?_;walk_at "wp"
    split
    ·next c2 =>
     walk_at "st";refine ci B Y.x.box Y.a n7 c1 (by lia) fun r M8 hr x8 => ?_
     have J:=Y.bx n7 n8 n9 x8;walk_at "st";refine ci B J.x.box J.c n8 c2 (by lia) fun O M9 q x9 => ?_
     refine ⟨by rw [q7];lia, ?_⟩
     exact h (.tim room r O) lA M9 ⟨(r7 r hr).1,(r8 O q).1⟩ (fun z=>⟨(r7 r hr).2 z,(r8 O q).2 z⟩) (J.x.trans x9) trivial fun _ _ _ z=>by cases z
    ·exact L _ _ ⟨rfl,Y⟩
   ·rw [decide_eq_false c1,if_neg (by decide)]
    exact L _ _ ⟨rfl,I6⟩
  ·exact L _ _ ⟨rfl,I5⟩
 rintro ρ M6 ⟨rfl,I6⟩;clear I5;refine cB (I:=fun ρ' M' => ρ'=[some (.ref b),some (.ref lA),some (.ref hA),some (.ref tA),some (.bl so),some (.int way),some (.int room),some (.ref p7),some (.ref p8),some (.ref p9),none,none,none,none]/\SI b p7 p8 p9 m7 m8 m9 M M') (fun R L => ?_) ?_
 ·walk_at "wp"
  split
  ·refine ⟨by rw [q7];lia,fun pe G => ?_⟩
   have Y:=I6.ge (Ge.new (o := .lst []) G);refine cE Y.d aa ?_;walk_at "wp"
   split
   ·next c2 =>
    walk_at "st";refine BO Y.x.box fun c M8 hc x8 => ?_;have J:=Y.bx n7 n8 n9 x8;refine ci B J.x.box J.d n9 c2 (by lia) fun O M9 q x9 => ?_
    refine ⟨by rw [q7];lia, ?_⟩
    exact h (.put room c O) lA M9 ⟨hc,(r9 O q).1⟩ (fun z=>(r9 O q).2 z) (J.x.trans x9) trivial fun _ _ _ z=>by cases z
   ·exact L _ _ ⟨rfl,Y⟩
  ·exact L _ _ ⟨rfl,I6⟩
 rintro ρ M7 ⟨rfl,Y⟩;clear I6;refine cB (I:=fun ρ' M' => ρ'=[some (.ref b),some (.ref lA),some (.ref hA),some (.ref tA),some (.bl so),some (.int way),some (.int room),some (.ref p7),some (.ref p8),some (.ref p9),none,none,none,none]/\SI b p7 p8 p9 m7 m8 m9 M M') (fun R L => ?_) ?_
 ·walk_at "wp"
  split
  rotate_left
  split
  rotate_left
  ·exact L _ _ ⟨rfl,Y⟩
  all_goals
   refine ⟨by rw [q7];lia,fun pe G => ?_⟩
   have J:=Y.ge (Ge.new (o := .lst []) G);refine cE J.d aa ?_;walk_at "wp"
   split
   ·next c2 =>
    walk_at "st";refine ci B J.x.box J.d n9 c2 (by lia) fun r M9 hr x9 => ?_
    have Z:=J.bx n7 n8 n9 x9;walk_at "st";refine BO Z.x.box fun c BX hc BY => ?_;have j:=Z.bx n7 n8 n9 BY;refine ci B j.x.box j.d n9 c2 (by lia) fun O BA q BG => ?_
    refine ⟨by rw [q7];lia, ?_⟩
    exact h (.add r c O) lA BA ⟨(r9 r hr).1,hc,(r9 O q).1⟩ (fun z=>⟨(r9 r hr).2 z,(r9 O q).2 z⟩) (j.x.trans BG) trivial fun _ _ _ z=>by cases z
   ·exact L _ _ ⟨rfl,J⟩
 rintro ρ M8 ⟨rfl,J⟩;clear Y;refine cB (I:=fun ρ' M' => ρ'=[some (.ref b),some (.ref lA),some (.ref hA),some (.ref tA),some (.bl so),some (.int way),some (.int room),some (.ref p7),some (.ref p8),some (.ref p9),none,none,none,none]/\SI b p7 p8 p9 m7 m8 m9 M M') (fun R L => ?_) ?_
 ·walk_at "wp"
  split
  ·intro pe G;have Z:=J.ge (Ge.new (o := .dct false []) G);refine ⟨hA,pe,_,rfl,rfl,Z.x.keep _ _ nh mh,aa, ?_⟩;refine ⟨_,rfl, ?_⟩;rw [i5]
   cases hh with
   | nil=>exact L _ _ ⟨rfl,Z⟩
   | cons y hh =>
     rw [if_pos (by simp)]
     walk_at "st";refine nv (Z.x.keep _ _ nh mh) hl fun p ms hp hm => ?_;have j:=Z.ge (Ge.new (o := .lst (ms.map .int)) hp);have np:=aX Z.x.box hp;refine ⟨hA,_,rfl,j.x.keep _ _ nh mh, ?_⟩;have BZ:ms≠[]:=fun z=>by rw [z] at hm;simpa using hm.length_eq
     have hlen:((y::hh).map (hD D.str)).length=(ms.map D.int).length:=by rw [i5,i5,hm.length_eq,i5]
     rw [hlen];have C0:ms.length<=1000:=by rw [hm.length_eq,i5];lia
     have key:=ci (Q:=fun d M'=>ji [.str (h6 "empty"),d] M' Q) B j.x.box aa np BZ C0 fun r BA hr BG => ?_
     ·obtain ⟨a,n',e1,e2,e3⟩:=key
      cases e1
      have e4:=ii (ak (j.ge Ge.refl).d);have e5:fG (ah (ah M8 pe (.dct false [])) p (.lst (ms.map .int))) (.ref p)=some (ms.map D.int).length:=ii (ak aa);rw [e5] at e2
      cases e2
      exact e3
     ·refine ⟨by rw [q7];simp, ?_⟩
      exact h (.emp r) lA BA (hm.mem_iff.mp hr) (fun _=>trivial) (j.x.trans BG) trivial fun _ _ _ z=>by cases z
  ·exact L _ _ ⟨rfl,J⟩
 rintro ρ M9 ⟨rfl,Z⟩;clear J;walk_at "st";have BP:=Z.x.keep _ _ nl ml;have BQ:=Z.x.keep _ _ nt' mt;refine az BP (d := .int L2) rfl ?_;refine ⟨_,rfl,by lia,by lia, ?_⟩
 rw [F4];refine bj (I:=fun l ρ M' acc => ∃ (o:Option D) (fs:List Int), ρ = [o,some (.ref tA)]/\M'=M9/\acc=fs.map .int/\fs.length<=l.length /\ ∀ k∈fs,0<=k/\k < L2/\k∉td) (ys:=EZ L2) fw ⟨none,[],rfl,rfl,rfl,DP _,fun _ h=>by simp at h⟩ (fun _ _ _ _ _=>trivial) ?_ ?_
 ·rintro l y r ρ M' acc ey ⟨o,fs,rfl,rfl,rfl,BR,BB⟩;refine ⟨_,rfl,fun N' hN => ?_⟩;have hz:=aZ ey;have hy:y < L2:=by have:y∈EZ L2:=(by rw [ey];simp);simpa using this
  rw [Hq] at hz;walk_at "wp";refine ⟨td,ak BQ, ?_⟩;refine ⟨_,rfl, ?_⟩
  by_cases c:(y:Int)∈td
  ·rw [decide_eq_true c,if_neg (by decide)]
   exact hN _ _ _ ⟨_,fs,rfl,rfl,rfl,by simp;lia,BB⟩
  ·rw [decide_eq_false c,if_pos (by rfl)]
   refine ⟨by rw [i5,q7];lia,hN _ _ _ ⟨_,fs++[(y:Int)],rfl,rfl,by simp,by simp;lia,fun k hk => ?_⟩⟩
   rcases E5.mp hk with z | z
   ·exact BB k z
   ·simp at z;subst z;exact ⟨by lia,by lia,c⟩
 rintro ρ M' acc ⟨o,fs,rfl,rfl,rfl,BR,BB⟩ BC hp11;rw [Hq] at BR;have j:=Z.ge (Ge.new (o := .lst (fs.map .int)) hp11);have C1:=aX Z.x.box hp11;have BH:ah M' BC (.lst (fs.map .int)) BC=some (.lst (fs.map .int)):=aa;generalize ah M' BC (.lst (fs.map .int))=BX at j BH;clear Z BP BQ hp11;walk_at "wp";refine cB (I:=fun ρ' M' => ρ'=[some (.ref b),some (.ref lA),some (.ref hA),some (.ref tA),some (.bl so),some (.int way),some (.int room),some (.ref p7),some (.ref p8),some (.ref p9),none,some (.ref BC),none,none]/\SI b p7 p8 p9 m7 m8 m9 M M') (fun R L => ?_) ?_
 ·walk_at "wp"
  split
  ·refine ⟨by rw [q7];lia,fun pe G => ?_⟩
   have By:=j.ge (Ge.new (o := .lst []) G);have C2:=Ge.new (o := .lst []) G _ _ BH;refine cE By.d aa ⟨_,rfl, ?_⟩
   by_cases c1:m9≠[]
   ·rw [decide_eq_true c1,if_pos rfl];refine ⟨by rw [q7];lia,fun BW U => ?_⟩
    have BI:=By.ge (Ge.new (o := .lst []) U);have BS:=Ge.new (o := .lst []) U _ _ C2;refine cE BS aa ?_;walk_at "wp"
    split
    ·next c2 =>
     walk_at "st";refine ci B BI.x.box BS C1 c2 (by lia) fun r BD hr C3 => ?_
     have BJ:=BI.bx n7 n8 n9 C3;walk_at "st";refine ci B BJ.x.box BJ.d n9 c1 (by lia) fun O C4 q C5 => ?_
     refine ⟨by rw [q7];lia, ?_⟩
     exact h (.tel r O) lA C4 ⟨BB r hr,(r9 O q).1⟩ (fun z=>(r9 O q).2 z) (BJ.x.trans C5) trivial fun _ _ _ z=>by cases z
    ·exact L _ _ ⟨rfl,BI⟩
   ·rw [decide_eq_false c1,if_neg (by decide)]
    exact L _ _ ⟨rfl,By⟩
  ·exact L _ _ ⟨rfl,j⟩
 rintro ρ BA ⟨rfl,By⟩;clear j BH;walk_at "st";refine B By.x.box (by decide) (by decide) fun side C7 s0 s1 F => ?_
 have x1:=By.x.trans F;walk_at "st";refine ⟨by rw [q7];lia,fun pl C6 => ?_⟩
 have x2:=x1.ge (Ge.new (o := .lst [.str (h6 "left"), .str (h6 "right")]) C6);have BU:=x2.keep _ _ nl ml;have hs:side=0∨side=1:=by lia
 rcases hs with rfl | rfl
 ·refine az aa (d := .str (ws .l)) rfl ?_;refine az BU (d := .int L0) rfl ?_;refine BN z0.1 z0.2 x2.box fun ps p BD BK BL x3 Bz BM => ?_;refine ⟨by rw [q7];lia, ?_⟩
  refine h (.lin true room ps) p BD ⟨BK,BL⟩ (fun _=>trivial) (x2.trans x3) BM fun _ _ _ _ => ?_;exact x2.none Bz (aX x2.box Bz)
 ·refine az aa (d := .str (ws .r)) rfl ?_;refine az BU (d := .int L1) rfl ?_;refine BN z1.1 z1.2 x2.box fun ps p BD BK BL x3 Bz BM => ?_;refine ⟨by rw [q7];lia, ?_⟩
  refine h (.lin false room ps) p BD ⟨BK,BL⟩ (fun _=>trivial) (x2.trans x3) BM fun _ _ _ _ => ?_;exact x2.none Bz (aX x2.box Bz)
end
section
variable {T:List FD}
inductive LP (so:Bool) (L0 L1 L2:Nat):List Sp->List (Int×Str)->List Int->Prop
 | nil:LP so L0 L1 L2 [] [] []
 | snoc {ss hh td x}:LP so L0 L1 L2 ss hh td->fA L0 L1 L2 (hh.map (·.1)) td x->(so=true->Ad hh x)->LP so L0 L1 L2 (ss++[x]) (kn hh x) (nt td x)
theorem yk {j:List (Int×Str)} {td:List Int} {q z L2:Nat} {x:Sp} (ok:fA q z L2 (j.map (·.1)) td x):(kn j x).map (·.1)=nk (j.map (·.1)) x:=by
 cases x <;> simp only [kn,nk,jw,mZ]
 case add a c b=>rw [Aa ok.1]
theorem LP.prog {so:Bool} {j q L2:Nat} {ss:List Sp} {z:List (Int×Str)} {td:List Int} (h:LP so j q L2 ss z td):Prog j q L2 ss (z.map (·.1)) td:=by
 induction h with
 | nil=>exact .nil
 | snoc h ok _ ih=>rw [yk ok];exact .snoc ih ok
theorem LP.sorts {so:Bool} {B F L2:Nat} {ss:List Sp} {z:List (Int×Str)} {td:List Int} (h:LP so B F L2 ss z td):(∀ p∈z,cJ p.2)/\z.length<=ss.length/\td.length<=ss.length:=by
 induction h with
 | nil=>exact ⟨fun _ h=>by simp at h,DP _,DP _⟩
 | @snoc ss z td x h ok _ ih =>
  obtain ⟨q,G,J⟩:=ih;refine ⟨fun p j => ?_, ?_, ?_⟩
  ·cases x with
   | lin l r ps =>
     rcases dM j with rfl | j
     ·cases l
      ·exact .inr (.inl rfl)
      ·exact .inl rfl
     ·exact q p j
   | tim r a b =>
     rcases dM j with rfl | j
     ·exact .inr (.inr rfl)
     ·exact q p j
   | put r c b =>
     rcases dM j with rfl | j
     ·obtain ⟨v,e,m⟩:=eQ ok.2;show cJ ((ig z b).getD wpr);rw [e];exact q _ m
     ·exact q p j
   | add a c b=>exact q p j
   | emp a=>exact q p (gx j)
   | tel k b=>exact q p (gx j)
  ·rw [DO]
   cases x <;> simp only [kn] <;> first
    | exact Ed n0 (by simpa using G)
    | exact Ed oK (by simp;lia)
    | (simp;lia)
  ·rw [DO]
   cases x <;> simp [nt] <;> lia
def tI (T:List FD) (n f:Nat):Prop := ∀ {b lA:Addr} {so:Bool} {L0 L1 L2 size:Nat} {M:Mem} {Q:QD},Box b M->M lA=some (.lst [.int L0, .int L1, .int L2])->lA≠b->(0 < L0/\L0<=1000)->(0 < L1/\L1<=1000)->L2<=1000->size<=50 ->
 (∀ (xs:List Sq) hh td sA M',LP so L0 L1 L2 (xs.map (·.1)) hh td->xs.length<=size->(so=false->tc (xs.map (·.1))<=4)->Bx b M M'->M sA=none->PgI M' sA xs->(∀ x∈xs, ∀ l r ps,x.1 = .lin l r ps->M x.2=none)->Q (.ref sA) M')->phi T n f [.ref b, .ref lA, .int size, .bl so] M Q
theorem ym {f fs fk:Nat} {s:Stmt} {hn:Str} (hf:T[f]? = some (nr s hn fs fk)) {n:Nat} (BB:ny T (n - 1) fs) (BC:tH T (n - 1) fk) (h1 : 1<=n):tI T n f:=by
 intro b lA so L0 L1 L2 size M Q hb ml nl z0 z1 z2 hsz h;refine ax h1 hf rfl (ρ := [some _,some _,some _,some _,none,none,none,none,none,none]) rfl ?_;unfold nr;walk_at "st";intro B BA;walk_at "st";refine ⟨by rw [q7];lia,fun tA G => ?_⟩
 walk_at "st";refine ⟨by rw [q7];lia,fun sA J => ?_⟩
 have e1:B≠tA:=fun z=>by rw [<- z,aa] at G;cases G
 have Bz:M tA=none:=by rw [ag (Ne.symm e1)] at G;exact G
 have e2:tA≠sA:=fun z=>by rw [<- z,aa] at J;cases J
 have j:ah M B (.dct false []) sA=none:=by rw [ag (Ne.symm e2)] at J;exact J
 have e3:B≠sA:=fun z=>by rw [<- z,aa] at j;cases j
 have L:M sA=none:=by rw [ag (Ne.symm e3)] at j;exact j
 have nh:=aX hb BA;have nt':=aX hb Bz;have ns:=aX hb L;have g0:=((Ge.new (o := .dct false []) BA).trans (Ge.new (o := .lst []) G)).trans (Ge.new (o := .lst []) J);walk_at "st";refine ⟨by lia,by lia, ?_⟩
 refine mV (I:=fun l ρ M' => ∃ (xs:List Sq) (hh:List (Int×Str)) (td:List Int) (o7 o8 o9:Option D), ρ = [some (.ref b),some (.ref lA),some (.int size),some (.bl so),some (.ref B),some (.ref tA),some (.ref sA),o7,o8,o9]/\Bx b M M'/\M' B=some (.dct false (hh.map (hD .str)))/\M' tA=some (.lst (td.map .int))/\PgI M' sA xs /\
  LP so L0 L1 L2 (xs.map (·.1)) hh td/\xs.length<=l.length/\(so=false->tc (xs.map (·.1))<=4) /\ ∀ x∈xs, ∀ l r ps,x.1 = .lin l r ps->M x.2=none/\x.2≠B/\x.2≠tA/\x.2≠sA)
  ⟨[],[],[],none,none,none,rfl,Bx.of hb g0,by rw [ag e3,ag e1];exact aa,by rw [ag e2];exact aa,⟨aa,fun _ h=>by simp at h⟩, .nil,DP _,fun _=>by simp [tc],fun _ h=>by simp at h⟩ (fun _ _ _ _=>trivial) ?_ ?_
 ·rintro l y r ρ M1 e ⟨xs,hh,td,o7,o8,o9,rfl,x1,m1,m2,m3,lp,hl,Y,O⟩;have BD:=aZ e;rw [bV,F4] at BD;obtain ⟨s1,s2,s3⟩:=lp.sorts;rw [i5] at s2 s3;refine ⟨_,rfl,fun F hF => ?_⟩;walk_at "st";refine BB x1.box (x1.keep _ _ nl ml) m1 m2 nl nh nt' s1 (by lia) z0 z1 z2 fun x q M2 ok ty x2 sm fr => ?_
  have k1:=x2.keep _ _ nh m1;have k2:=x2.keep _ _ nt' m2;have Z:PgI M2 sA xs:=⟨x2.keep _ _ ns m3.l,fun z hz=>by
   have:=m3.s z hz
   cases U:z.1 with
   | lin l r ps =>
     rw [U] at this;exact x2.keep _ _ (aX hb (O z hz l r ps U).1) this
   | _=>trivial⟩
  have BE:=x1.trans x2;walk_at "st";refine ⟨_,ak Z.l, ?_⟩;refine bj (I:=fun l ρ M' acc => ∃ o:Option D, ρ = [o]/\M'=M2/\acc=(l.filter fun x:Sq=>aJ x.1).map sqD) (ys:=xs) rfl ⟨none,rfl,rfl,rfl⟩ ?_ ?_ ?_
  ·rintro l ρ M2 acc ⟨o,rfl,rfl,rfl⟩;exact ak Z.l
  ·rintro l x r ρ M2 acc e ⟨o,rfl,rfl,rfl⟩;refine ⟨_,rfl,fun N' hN => ?_⟩;walk_at "wp";have hz:=aZ e;have BH:(l.filter fun x:Sq=>aJ x.1).length<=l.length:=Gm ..;obtain ⟨ds,e1⟩:=ja x.2 x.1;have e2:sqD x = .tup (.str (ws (wd x.1))::ds):=e1;rw [e2];walk_at "wp";refine ⟨_,jc, ?_⟩;simp only [<- aG,ar];walk_at "wp";rw [<- e2]
   split
   ·next hw=>exact ⟨by rw [i5,q7];lia,hN _ _ _ ⟨_,rfl,rfl,by rw [Fm];simp [nc hw]⟩⟩
   ·next hw=>exact hN _ _ _ ⟨_,rfl,rfl,by rw [Fm];simp [km hw]⟩
  ·rintro ρ M2 acc ⟨o,rfl,rfl,rfl⟩ p1 hp1;have g2:=Ge.new (o := .lst ((xs.filter fun x:Sq=>aJ x.1).map sqD)) hp1;refine cg aa ?_;have etc:(List.map sqD (xs.filter fun x:Sq=>aJ x.1)).length=tc (xs.map (·.1)):=by
    unfold tc;rw [i5,HW,i5];rfl
   rw [etc];have k1:=g2 _ _ k1;have k2:=g2 _ _ k2;have Z:=Z.ge g2;have sm:=dO sm g2;have By:=BE.ge g2;generalize ah M2 p1 (.lst ((xs.filter fun x:Sq=>aJ x.1).map sqD))=M3 at k1 k2 Z sm By;walk_at "wp";walk_at "st";obtain ⟨ds,ed⟩:=ja q x;have app:(so=false->tc (xs.map (·.1)++[x])<=4)->wSs (phi T (n - 1)) (MSs.cons (.drop (.meth .append (.var 6) (.var 8))) (MSs.cons (.drop (.call fk (.cons (.var 8) (.cons (.var 4) (.cons (.var 5) .nil))))) .nil)) { nx:=F,rt:=Q,ct:=F,bk:=wSs (phi T (n - 1)) (MSs.cons (MS.ret (ME.var 6)) MSs.nil) { nx:=fun x M'=>Q D.non M',rt:=Q } }
    [some (.ref b),some (.ref lA),some (.int size),some (.bl so),some (.ref B),some (.ref tA),some (.ref sA),some y,some (spD q x),some (.int (tc (xs.map (·.1)):Nat))] M3:=by
    intro BG;walk_at "st";refine ⟨⟨_,Z.l⟩, ?_⟩;refine ⟨sA,_,_,rfl,rfl,Z.l,by rw [i5,q7];lia, ?_⟩
    walk_at "st";have j1:ah M3 sA (.lst (xs.map sqD++[spD q x])) B=some (.dct false (hh.map (hD .str))):=by rw [ag e3];exact k1
    have j2:ah M3 sA (.lst (xs.map sqD++[spD q x])) tA=some (.lst (td.map .int)):=by rw [ag e2];exact k2
    have nq:∀ l r ps,x = .lin l r ps->M q=none/\q≠B/\q≠tA/\q≠sA:=fun l r ps hx=>by
     have f1:=fr l r ps hx;refine ⟨x1.none f1 (aX x1.box f1),fun z => ?_,fun z => ?_,fun z => ?_⟩
     ·rw [z,m1] at f1;cases f1
     ·rw [z,m2] at f1;cases f1
     ·rw [z,m3.l] at f1;cases f1
    have all:∀ z∈xs++[(x,q)],spM M3 z.2 z.1 /\ ∀ l r ps,z.1 = .lin l r ps->M z.2=none/\z.2≠B/\z.2≠tA/\z.2≠sA:=fun z hz=>by
     rcases E5.mp hz with w | w
     ·exact ⟨Z.s z w,O z w⟩
     ·simp at w;subst w;exact ⟨sm,nq⟩
    refine BC j1 j2 e1 ok (by lia) (by lia) fun M4 q1 q2 q3 _ => ?_
    have keep:∀ a o,a≠B->a≠tA->a≠sA->M3 a=some o->M4 a=some o:=fun a o a1 a2 a3 ea=>q3 a o a1 a2 (by rw [ag a3];exact ea)
    refine hF _ _ ⟨xs++[(x,q)],kn hh x,nt td x,_,_,_,rfl,⟨?_,fun a o ab ea => ?_⟩,q1,q2,⟨?_,fun z hz => ?_⟩, ?_,by simp;lia,fun z=>by rw [El];exact BG z,fun z hz=>(all z hz).2⟩
    ·obtain ⟨u,v,w,eb⟩:=By.box;exact ⟨u,v,w,keep b _ (Ne.symm nh) (Ne.symm nt') (Ne.symm ns) eb⟩
    ·exact keep a o (fun z=>by rw [z,BA] at ea;cases ea) (fun z=>by rw [z,Bz] at ea;cases ea) (fun z=>by rw [z,L] at ea;cases ea) (By.keep a o ab ea)
    ·rw [El];exact q3 sA _ (Ne.symm e3) (Ne.symm e2) aa
    ·obtain ⟨s4,s5⟩:=all z hz
     cases U:z.1 with
     | lin l r ps =>
       rw [U] at s4;obtain ⟨_,a1,a2,a3⟩:=s5 l r ps U;exact keep _ _ a1 a2 a3 s4
     | _=>trivial
    ·rw [El];exact .snoc lp ok ty
   rw [ed] at app ⊢;walk_at "wp";refine ⟨_,jc, ?_⟩;simp only [<- aG,AX];refine ⟨_,rfl, ?_⟩
   by_cases hw:wd x = .t
   ·rw [decide_eq_true hw,if_neg (by decide)]
    refine ⟨so,rfl, ?_⟩
    cases so with
    | true=>rw [if_pos rfl];exact app fun z=>by cases z
    | false =>
      rw [if_neg (by decide)]
      split
      ·refine app fun _ => ?_;rw [gy,nc hw];simp;lia
      ·rw [<- ed];exact hF _ _ ⟨xs,hh,td,_,_,_,rfl,By,k1,k2,Z,lp,by simp;lia,Y,O⟩
   ·rw [decide_eq_false hw,if_pos (by rfl)]
    refine app fun z => ?_;rw [gy,km hw];simpa using Y z
 ·rintro ρ M1 ⟨xs,hh,td,o7,o8,o9,rfl,x1,m1,m2,m3,lp,hl,Y,O⟩;rw [bV,F4] at hl;walk_at "st";exact h xs hh td sA M1 lp hl Y x1 L m3 fun x hx l r ps e=>(O x hx l r ps e).1
end
section
variable {T:List FD}
noncomputable def eU (s:Stmt) (f:Nat):FD:=⟨"_law_same",s,["_law_found", "_law_due"],2,
 (.cons (.ite (.tru (.isin2 (.var 1) "list" "tuple")) (.cons (.ite (.or (.cons (.not (.tru (.isin2 (.var 0) "list" "tuple"))) (.cons (.cmp .ne (.isin (.var 0) "list") (.isin (.var 1) "list")) .nil))) (.cons (.ret (.bl false))
 .nil) .nil)
 (.cons (.ret (.and (.cons (.cmp .eq (.blt .len (.cons (.var 0) .nil)) (.blt .len (.cons (.var 1) .nil))) (.cons (.blt .all (.cons (.comp [none,none] ["_law_one", "_law_other"] (.last (.zip (.var 0) (.var 1)) (.tup (.cons (.name 0) (.cons (.name 1) .nil))) .nil (.call f (.cons (.var 0) (.cons (.var 1) .nil))))) .nil)) .nil))))
 .nil)) .nil)
 (.cons (.ite (.or (.cons (.tru (.isin (.var 1) "str")) (.cons (.cmp .is (.var 1) .non) .nil))) (.cons (.ret (.cmp .eq (.var 0) (.var 1)))
 .nil) .nil)
 (.cons (.ite (.tru (.isin (.var 1) "bool")) (.cons (.ret (.and (.cons (.isin (.var 0) "bool") (.cons (.cmp .eq (.var 0) (.var 1)) .nil))))
 .nil) .nil)
 (.cons (.ret (.and (.cons (.isin (.var 0) "int") (.cons (.not (.isin (.var 0) "bool")) (.cons (.cmp .eq (.var 0) (.var 1)) .nil)))))
 .nil))))⟩
noncomputable def Sz (M:Mem):Nat->D->D->Prop
 | _, .int i, .int j=>i=j
 | _, .str x, .str y=>x=y/\Jg x=true
 | n+1, .tup ds, .tup es=>ds.length<=100000/\ds.length=es.length /\ ∀ (k:Nat) d e,ds[k]? = some d->es[k]? = some e->Sz M n d e
 | n+1, .ref a, .ref b => ∃ ds es,M a=some (.lst ds)/\M b=some (.lst es)/\ds.length<=100000/\ds.length=es.length /\ ∀ (k:Nat) d e,ds[k]? = some d->es[k]? = some e->Sz M n d e
 | _,_,_=>False
theorem Sz.ge {M M':Mem} (g:Ge M M'):∀ {n:Nat} {x y:D},Sz M n x y->Sz M' n x y:=by
 intro n
 induction n with
 | zero=>intro x y h;cases x <;> cases y <;> first | exact h.elim | exact h
 | succ n ih =>
   intro x y h
   cases x <;> cases y <;> first
    | exact h.elim
    | (obtain ⟨ds,es,j,B,z,l,q⟩:=h;exact ⟨ds,es,g _ _ j,g _ _ B,z,l,fun k d e h1 h2=>ih (q k d e h1 h2)⟩)
    | (obtain ⟨z,l,q⟩:=h;exact ⟨z,l,fun k d e h1 h2=>ih (q k d e h1 h2)⟩)
    | exact h
theorem Sz.int {M:Mem} {n:Nat} {i:Int}:Sz M n (.int i) (.int i):=by unfold Sz;cases n <;> rfl
theorem Sz.ints {M:Mem} {n:Nat} {a b:Addr} {ns:List Int} (j:M a=some (.lst (ns.map .int))) (q:M b=some (.lst (ns.map .int))) (B:ns.length<=100000):Sz M (n+1) (.ref a) (.ref b):=by
 refine ⟨_,_,j,q,by rw [i5];exact B,rfl,fun k d e h1 h2 => ?_⟩
 rw [h1] at h2;cases h2;rw [Ei] at h1
 cases z:ns[k]? with
 | none=>rw [z] at h1;cases h1
 | some i=>rw [z] at h1;cases h1;exact Sz.int
section
variable {f:Nat} {s:Stmt}
theorem ko (hf:T[f]? = some (eU s f)) {n m:Nat} (ih:∀ {x y:D} {M:Mem} {Q:QD},Sz M m x y->(∀ M',Ge M M'->Q (.bl true) M')->phi T n f [x,y] M Q) {u v:D} {ds es:List D} {M:Mem} {Q:QD} {t:String} (O:t = "list" ∨ t = "tuple") (tu:tyN M u=some t) (tv:tyN M v=some t)
 (F:aD M u=some ds) (G:aD M v=some es) (z:ds.length<=100000) (l:ds.length=es.length) (hs:∀ (k:Nat) d e,ds[k]? = some d->es[k]? = some e->Sz M m d e) (q:∀ M',Ge M M'->Q (.bl true) M'):phi T (n+1) f [u,v] M Q:=by
 refine ax (by lia) hf rfl (ρ := [some _,some _]) rfl ?_
 unfold eU;have L:(bY "list" t || bY "tuple" t)=true:=by rcases O with rfl | rfl <;> decide
 walk_at "st";refine ⟨t,tv, ?_⟩;rw [L];refine ⟨true,rfl, ?_⟩;rw [if_pos rfl];walk_at "st";refine ⟨t,tu, ?_⟩;rw [L];refine ⟨true,rfl, ?_⟩;rw [if_neg (by decide)]
 refine ⟨t,tu,t,tv, ?_⟩;refine ⟨_,_,rfl,rfl, ?_⟩;refine ⟨_,rfl, ?_⟩;have U:(!PyData.eqv (.bool (bY "list" t)) (.bool (bY "list" t)))=false:=by cases bY "list" t <;> rfl
 rw [U,if_neg (by decide)]
 walk_at "st";refine oH F ?_;refine oH G ?_;walk_at "wp";rw [if_pos (by rw [l];simp)]
 refine ⟨_,F,_,G, ?_⟩;refine kg (I:=fun l ρ M' acc => ∃ o B:Option D, ρ = [o,B]/\Ge M M'/\acc=DN l.length (.bl true)) ⟨none,none,rfl,Ge.refl,rfl⟩ ?_ ?_ ?_
 ·rintro l ρ M' acc ⟨o,B,rfl,g,rfl⟩;exact ⟨oG F g,oG G g⟩
 ·rintro l' x r ρ M' acc e ⟨o,B,rfl,g,rfl⟩;have J:=aZ e;have j:=t9 e;rw [JY] at J;rw [Jt] at j
  cases h1:ds[l'.length]? with
  | none=>rw [h1] at j;cases j
  | some d =>
    cases h2:es[l'.length]? with
    | none=>rw [h1,h2] at j;cases j
    | some d2 =>
      rw [h1,h2] at j
      cases j
      refine ⟨_,rfl,fun N' Y => ?_⟩;walk_at "wp";refine ih (Sz.ge g (hs _ d d2 h1 h2)) fun M2 g2 => ?_;exact ⟨by rw [FO,q7];lia,Y _ _ _ ⟨_,_,rfl,g.trans g2,by rw [fB,DO];rfl⟩⟩
 ·rintro ρ M' acc ⟨o,B,rfl,g,rfl⟩ p hp;exact gz aa (q _ (g.trans (Ge.new hp)))
theorem vI (hf:T[f]? = some (eU s f)):∀ (m:Nat) {n:Nat},m+1<=n -> ∀ {x y:D} {M:Mem} {Q:QD},Sz M m x y->(∀ M',Ge M M'->Q (.bl true) M')->phi T n f [x,y] M Q:=by
 intro m;have flat:∀ {n:Nat},1<=n -> ∀ {x y:D} {M:Mem} {Q:QD},Sz M 0 x y->(∀ M',Ge M M'->Q (.bl true) M')->phi T n f [x,y] M Q:=by
  intro n hn x y M Q h q;refine ax (by lia) hf rfl (ρ := [some _,some _]) rfl ?_
  unfold eU
  cases x <;> cases y <;> first
   | exact h.elim
   | skip
  case int.int i j =>
   cases (show i=j from h)
   walk_at "st";refine ⟨"int",rfl,false,rfl, ?_⟩;rw [if_neg (by decide)]
   walk_at "st";refine ⟨"int",rfl,false,rfl, ?_⟩;rw [if_neg (by decide)]
   refine ⟨false,rfl,false,rfl, ?_⟩;rw [if_neg (by decide)]
   walk_at "st";refine ⟨"int",rfl,false,rfl, ?_⟩;rw [if_neg (by decide)]
   walk_at "st";refine ⟨"int",rfl, ?_⟩;rw [if_pos (by decide)]
   refine ⟨"int",rfl, ?_⟩;rw [if_pos (by decide),beq_self_eq_true]
   exact q M Ge.refl
  case str.str i j =>
   obtain ⟨rfl,hok⟩:=(show i=j/\_ from h);walk_at "st";refine ⟨"str",rfl,false,rfl, ?_⟩;rw [if_neg (by decide)]
   walk_at "st";refine ⟨"str",rfl,true,rfl, ?_⟩;rw [if_pos rfl];walk_at "st";have e:rb 16 M (.str i)=some (.str i):=by simp only [rb,hok,if_true]
   refine ⟨_,_,e,e, ?_⟩;have B:Ej (.str i) (.str i)=true:=by simp [Ej]
   rw [B];exact q M Ge.refl
 induction m with
 | zero=>exact fun hn=>flat hn
 | succ m ih =>
   intro n hn x y M Q h q;obtain ⟨n,rfl⟩:∃ k,n=k+1:=⟨n - 1,by lia⟩
   cases x <;> cases y <;> first
    | exact h.elim
    | skip
   case int.int=>exact flat (by lia) h q
   case str.str=>exact flat (by lia) h q
   case tup.tup ds es =>
    obtain ⟨z,l,hs⟩:=h;exact ko hf (fun h q=>ih (by lia) h q) (.inr rfl) rfl rfl rfl rfl z l hs q
   case ref.ref a b =>
    obtain ⟨ds,es,h1,h2,z,l,hs⟩:=h;exact ko hf (fun h q=>ih (by lia) h q) (.inl rfl) (by simp only [tyN,h1]) (by simp only [tyN,h2]) (ak h1) (ak h2) z l hs q
end
end
section
namespace K25
noncomputable def aj (i:Nat):Stmt:=PySem.Challenge.pw_fewtimes_k25_programs_run.main.body.getD i (.Pass ⟨0,0,0,0⟩)
noncomputable def d0:FD:=eS (aj 4)
noncomputable def d1:FD:=kG (aj 5) 0
noncomputable def d2:FD:=eT (aj 6)
noncomputable def d3:FD:=qp (aj 7) 2
noncomputable def d4:FD:=jb (aj 8)
noncomputable def d5:FD:=qq (aj 9) 1 3 4
noncomputable def d6:FD:=j7 (aj 11)
noncomputable def d7:FD:=ju (aj 12)
noncomputable def d8:FD:=qm (aj 13) 6 7
noncomputable def d9:FD:=mW (aj 14) 7
noncomputable def d10:FD:=ie (aj 15) 9
noncomputable def d11:FD:=qo (aj 16) 9
noncomputable def d12:FD:=ng (aj 17) 9
noncomputable def d13:FD:=nr (aj 18) "_law_held" 19 14
noncomputable def d14:FD:=ni (aj 19) "_law_held"
noncomputable def d15:FD:=nj (aj 20) 9
noncomputable def d16:FD:=jx (aj 21) 9 17
noncomputable def d17:FD:=jy (aj 22) 9 10
noncomputable def d18:FD:=nn (aj 23) "_law_held"
noncomputable def d19:FD:=no (aj 24) "_law_held" 9 15 16 17 18
noncomputable def b20:MSs :=
 (.cons (.asg (.name 4) (.dnew false))
 (.cons (.asg (.name 5) (.bin .mul (.lst (.cons (.int 0) .nil)) (.var 3)))
 (.cons (.asg (.tup (.cons (.name 6) (.cons (.name 7) (.cons (.name 8) .nil)))) (.tup (.cons (.int 0) (.cons (.int 0) (.cons (.int 0) .nil)))))
 (.cons (.for (.name 9) (.seq (.var 0)) (.cons (.ite (.cmp .inT (.ix (.var 9) (.int 0)) (.tup (.cons (.str (h6 "left")) (.cons (.str (h6 "right")) .nil)))) (.cons (.asg (.name 10) (.ite (.cmp .eq (.ix (.var 9) (.int 0)) (.str (h6 "left"))) (.var 1) (.var 2)))
 (.cons (.asg (.name 11) (.int 0))
 (.cons (.for (.tup (.cons (.name 12) (.cons (.name 13) .nil))) (.seq (.ix (.var 9) (.int 2))) (.cons (.asg (.name 11) (.bin .add (.var 11) (.bin .mul (.var 12) (.ix (.var 10) (.var 13)))))
 .nil))
 (.cons (.put (.var 4) (.ix (.var 9) (.int 1)) (.var 11))
 (.cons (.asg (.name 7) (.bin .sub (.bin .add (.var 7) (.blt .len (.cons (.ix (.var 9) (.int 2)) .nil))) (.int 1)))
 .nil))))) (.cons (.ite (.cmp .eq (.ix (.var 9) (.int 0)) (.str (h6 "times"))) (.cons (.put (.var 4) (.ix (.var 9) (.int 1)) (.bin .mul (.ix (.var 4) (.ix (.var 9) (.int 2))) (.ix (.var 4) (.ix (.var 9) (.int 3)))))
 (.cons (.asg (.name 6) (.bin .add (.var 6) (.int 1)))
 .nil)) (.cons (.ite (.cmp .eq (.ix (.var 9) (.int 0)) (.str (h6 "put"))) (.cons (.put (.var 4) (.ix (.var 9) (.int 1)) (.bin .mul (.ix (.var 9) (.int 2)) (.ix (.var 4) (.ix (.var 9) (.int 3)))))
 .nil) (.cons (.ite (.cmp .eq (.ix (.var 9) (.int 0)) (.str (h6 "add"))) (.cons (.asg (.name 14) (.bin .mul (.ix (.var 9) (.int 2)) (.ix (.var 4) (.ix (.var 9) (.int 3)))))
 (.cons (.put (.var 4) (.ix (.var 9) (.int 1)) (.bin .add (.ix (.var 4) (.ix (.var 9) (.int 1))) (.var 14)))
 (.cons (.asg (.name 7) (.bin .add (.var 7) (.int 1)))
 .nil))) (.cons (.ite (.cmp .eq (.ix (.var 9) (.int 0)) (.str (h6 "tell"))) (.cons (.put (.var 5) (.ix (.var 9) (.int 1)) (.popk (.var 4) (.ix (.var 9) (.int 2))))
 .nil) (.cons (.drop (.popk (.var 4) (.ix (.var 9) (.int 1))))
 .nil))
 .nil))
 .nil))
 .nil))
 .nil))
 (.cons (.asg (.name 8) (.blt .max2 (.cons (.var 8) (.cons (.blt .lenK (.cons (.var 4) .nil)) .nil))))
 .nil)))
 (.cons (.ret (.tup (.cons (.var 5) (.cons (.var 6) (.cons (.var 7) (.cons (.var 8) .nil))))))
 .nil)))))
noncomputable def d20:FD:=⟨"_law_run",aj 25,["_law_program_here", "_law_one", "_law_other", "_law_many", "_law_held", "_law_row_here", "_law_times", "_law_sums", "_law_most", "_law_step_here", "_law_numbers", "_law_total", "_law_number_here", "_law_place", "_law_more"],4,b20⟩
noncomputable def d21:FD:=eU (aj 26) 21
noncomputable def b22:MSs :=
 (.cons (.ite (.cmp .eq (.call 9 (.cons (.var 0) (.cons (.int 8) .nil))) (.int 0)) (.cons (.ret (.comp [none,(some 0)] ["_law_side", "_law_box_here"] (.last (.rng1 (.int 3)) (.name 0) .nil (.bin .add (.int 9) (.call 9 (.cons (.var 1) (.cons (.int 4) .nil)))))))
 .nil) .nil)
 (.cons (.ret (.call 12 (.cons (.var 0) (.cons (.int 5) .nil))))
 .nil))
noncomputable def d22:FD:=⟨"_law_sizes",aj 27,["_law_box_here"],1,b22⟩
noncomputable def b23:MSs :=
 (.cons (.for (.name 1) (.rng1 (.blt .max2 (.cons (.int 1) (.cons (.blt .min2 (.cons (.blt .len (.cons (.var 0) .nil)) (.cons (.int 8) .nil))) .nil)))) (.cons (.asg (.name 2) (.call 8 (.cons (.var 0) (.cons (.var 1) .nil))))
 (.cons (.asg (.name 3) (.call 22 (.cons (.var 2) .nil)))
 (.cons (.asg (.name 4) (.call 13 (.cons (.var 2) (.cons (.var 3) (.cons (.call 9 (.cons (.var 2) (.cons (.int 31) .nil))) (.cons (.bl false) .nil))))))
 (.cons (.par 5 6 (.call 11 (.cons (.var 2) (.cons (.ix (.var 3) (.int 0)) .nil))) (.call 11 (.cons (.var 2) (.cons (.ix (.var 3) (.int 1)) .nil))))
 (.cons (.asg (.name 7) (.lst (.cons (.blt .list (.cons (.var 4) .nil)) (.cons (.blt .list (.cons (.var 5) .nil)) (.cons (.blt .list (.cons (.var 6) .nil)) .nil)))))
 (.cons (.asg (.name 8) (.call 20 (.cons (.var 4) (.cons (.var 5) (.cons (.var 6) (.cons (.ix (.var 3) (.int 2)) .nil))))))
 (.cons (.asg (.name 9) (.call 5 (.cons (.ix (.var 7) (.int 0)) (.cons (.ix (.var 7) (.int 1)) (.cons (.ix (.var 7) (.int 2)) (.cons (.ix (.var 3) (.int 2)) .nil))))))
 (.cons (.ite (.or (.cons (.not (.tru (.call 21 (.cons (.var 9) (.cons (.var 8) .nil))))) (.cons (.cmp .ne (.var 7) (.lst (.cons (.var 4) (.cons (.var 5) (.cons (.var 6) .nil))))) .nil))) (.cons (.ret (.bl false))
 .nil) .nil)
 (.cons (.drop (.meth .append (.ix (.var 9) (.int 0)) (.int 1)))
 (.cons (.ite (.not (.tru (.call 21 (.cons (.call 5 (.cons (.ix (.var 7) (.int 0)) (.cons (.ix (.var 7) (.int 1)) (.cons (.ix (.var 7) (.int 2)) (.cons (.ix (.var 3) (.int 2)) .nil))))) (.cons (.var 8) .nil))))) (.cons (.ret (.bl false))
 .nil) .nil)
 .nil)))))))))))
 (.cons (.ret (.bl true))
 .nil))
noncomputable def d23:FD:=⟨"law",aj 28,["_law_script", "_law_k", "_law_box_here", "_law_lengths_here", "_law_program_here", "_law_one", "_law_other", "_law_handed", "_law_due", "_law_found"],1,b23⟩
noncomputable def tab:List FD := [d0,d1,d2,d3,d4,d5,d6,d7,d8,d9,d10,d11,d12,d13,d14,d15,d16,d17,d18,d19,d20,d21,d22,d23]
noncomputable def nA:List (Str×D) := []
theorem wv (us:List gV) (h:us.length=5):∃ a b c d e,us=[a,b,c,d,e]:=by
 cases us with
 | nil=>cases h
 | cons a us=>obtain ⟨b,c,d,e,rfl⟩:=j6 us (LW.inj h);exact ⟨a,b,c,d,e,rfl⟩
end K25
end
section
namespace K25
theorem Ae:∀ d∈tab,qi (tab.map (·.name)) nA d=true:=by decide +kernel
noncomputable abbrev PA (K:Frag) (x:Str) (f:Addr):Prop:=Hh K EM x=some (some (.ref f))
noncomputable abbrev PL (K:Frag) (f:Addr) (x:Str) (s:Stmt) (oc:gV) (od:Option Addr) (kV dc pm:gV) (an:Option Addr) (cd ct:gV) (sl:Array (Option gV)):Prop:=K.lookup f=some ⟨oc,od, .func (Ga x x (dh s) (bR s) (aB s) .none kV dc pm an cd ct),sl⟩
noncomputable abbrev PC (K:Frag) (c:gV) (x:Str):Prop:=Ik K c x=true
noncomputable abbrev PK (K:Frag) (f:Addr):Prop:=Gw K (.ref f)=true
theorem all_mk {l:Jn} {w:Ep} {K:Frag} {h:Heap} {mg:Str->Option gV} {fa:Addr} (X:K.In h) (G:h.Ns EM mg) (hfa:mg "law" = some (.ref fa)) (z:∀ x∈bltNames,Hh K EM x=some none)
 (a0:PA K "rooms_read" f0) (l0:PL K f0 "rooms_read" (aj 4) oc0 od0 kV0 dc0 pm0 an0 cd0 ct0 sl0) (c0:PC K cd0 "rooms_read") (k0:PK K f0)
 (a1:PA K "can_be_done" f1) (l1:PL K f1 "can_be_done" (aj 5) oc1 od1 kV1 dc1 pm1 an1 cd1 ct1 sl1) (c1:PC K cd1 "can_be_done") (k1:PK K f1)
 (a2:PA K "sum_of" f2) (l2:PL K f2 "sum_of" (aj 6) oc2 od2 kV2 dc2 pm2 an2 cd2 ct2 sl2) (c2:PC K cd2 "sum_of") (k2:PK K f2)
 (a3:PA K "do_step" f3) (l3:PL K f3 "do_step" (aj 7) oc3 od3 kV3 dc3 pm3 an3 cd3 ct3 sl3) (c3:PC K cd3 "do_step") (k3:PK K f3)
 (a4:PA K "sums_of" f4) (l4:PL K f4 "sums_of" (aj 8) oc4 od4 kV4 dc4 pm4 an4 cd4 ct4 sl4) (c4:PC K cd4 "sums_of") (k4:PK K f4)
 (a5:PA K "run_program" f5) (l5:PL K f5 "run_program" (aj 9) oc5 od5 kV5 dc5 pm5 an5 cd5 ct5 sl5) (c5:PC K cd5 "run_program") (k5:PK K f5)
 (a6:PA K "_law_cell_at" f6) (l6:PL K f6 "_law_cell_at" (aj 11) oc6 od6 kV6 dc6 pm6 an6 cd6 ct6 sl6) (c6:PC K cd6 "_law_cell_at") (k6:PK K f6)
 (a7:PA K "_law_mixed" f7) (l7:PL K f7 "_law_mixed" (aj 12) oc7 od7 kV7 dc7 pm7 an7 cd7 ct7 sl7) (c7:PC K cd7 "_law_mixed") (k7:PK K f7)
 (a8:PA K "_law_box" f8) (l8:PL K f8 "_law_box" (aj 13) oc8 od8 kV8 dc8 pm8 an8 cd8 ct8 sl8) (c8:PC K cd8 "_law_box") (k8:PK K f8)
 (a9:PA K "_law_take" f9) (l9:PL K f9 "_law_take" (aj 14) oc9 od9 kV9 dc9 pm9 an9 cd9 ct9 sl9) (c9:PC K cd9 "_law_take") (k9:PK K f9)
 (a10:PA K "_law_number" f10) (l10:PL K f10 "_law_number" (aj 15) oc10 od10 kV10 dc10 pm10 an10 cd10 ct10 sl10) (c10:PC K cd10 "_law_number") (k10:PK K f10)
 (a11:PA K "_law_row" f11) (l11:PL K f11 "_law_row" (aj 16) oc11 od11 kV11 dc11 pm11 an11 cd11 ct11 sl11) (c11:PC K cd11 "_law_row") (k11:PK K f11)
 (a12:PA K "_law_lengths" f12) (l12:PL K f12 "_law_lengths" (aj 17) oc12 od12 kV12 dc12 pm12 an12 cd12 ct12 sl12) (c12:PC K cd12 "_law_lengths") (k12:PK K f12)
 (a13:PA K "_law_program" f13) (l13:PL K f13 "_law_program" (aj 18) oc13 od13 kV13 dc13 pm13 an13 cd13 ct13 sl13) (c13:PC K cd13 "_law_program") (k13:PK K f13)
 (a14:PA K "_law_kept" f14) (l14:PL K f14 "_law_kept" (aj 19) oc14 od14 kV14 dc14 pm14 an14 cd14 ct14 sl14) (c14:PC K cd14 "_law_kept") (k14:PK K f14)
 (a15:PA K "_law_room" f15) (l15:PL K f15 "_law_room" (aj 20) oc15 od15 kV15 dc15 pm15 an15 cd15 ct15 sl15) (c15:PC K cd15 "_law_room") (k15:PK K f15)
 (a16:PA K "_law_parts" f16) (l16:PL K f16 "_law_parts" (aj 21) oc16 od16 kV16 dc16 pm16 an16 cd16 ct16 sl16) (c16:PC K cd16 "_law_parts") (k16:PK K f16)
 (a17:PA K "_law_value" f17) (l17:PL K f17 "_law_value" (aj 22) oc17 od17 kV17 dc17 pm17 an17 cd17 ct17 sl17) (c17:PC K cd17 "_law_value") (k17:PK K f17)
 (a18:PA K "_law_of_sort" f18) (l18:PL K f18 "_law_of_sort" (aj 23) oc18 od18 kV18 dc18 pm18 an18 cd18 ct18 sl18) (c18:PC K cd18 "_law_of_sort") (k18:PK K f18)
 (a19:PA K "_law_step" f19) (l19:PL K f19 "_law_step" (aj 24) oc19 od19 kV19 dc19 pm19 an19 cd19 ct19 sl19) (c19:PC K cd19 "_law_step") (k19:PK K f19)
 (a20:PA K "_law_run" f20) (l20:PL K f20 "_law_run" (aj 25) oc20 od20 kV20 dc20 pm20 an20 cd20 ct20 sl20) (c20:PC K cd20 "_law_run") (k20:PK K f20)
 (a21:PA K "_law_same" f21) (l21:PL K f21 "_law_same" (aj 26) oc21 od21 kV21 dc21 pm21 an21 cd21 ct21 sl21) (c21:PC K cd21 "_law_same") (k21:PK K f21)
 (a22:PA K "_law_sizes" f22) (l22:PL K f22 "_law_sizes" (aj 27) oc22 od22 kV22 dc22 pm22 an22 cd22 ct22 sl22) (c22:PC K cd22 "_law_sizes") (k22:PK K f22)
 (a23:PA K "law" f23) (l23:PL K f23 "law" (aj 28) oc23 od23 kV23 dc23 pm23 an23 cd23 ct23 sl23) (c23:PC K cd23 "law") (k23:PK K f23)
 : ∃ fd:Gv,(∀ (s:h7) (v:gV),Ks s fd ⟨[v],[]⟩ [("_law_script",v)]) /\ ∀ base:Heap,K.In base->base.Ns EM mg->dy l.prog w K mg base CX0 40 fa fd ["_law_script"] (lSp K (phi tab 40 23)):=by
 have e:=hfa.symm.trans (E8 X G a23)
 cases e
 have O:wk K mg tab nA:=by
  refine ⟨fun x hx=>PySem.W.mg_none_of X G (z x hx), ?_,Ae, ?_⟩
  ·intro i d hd
   match i,hd with
   | 0,hd=>cases hd;exact ⟨_,_,ai l0 c0 k0,E8 X G a0,a0,(ai l0 c0 k0).binds fun _ _ _ _ _ _ us hl=>by obtain ⟨u0,rfl⟩:=ee us hl;rfl⟩
   | 1,hd=>cases hd;exact ⟨_,_,ai l1 c1 k1,E8 X G a1,a1,(ai l1 c1 k1).binds fun _ _ _ _ _ _ us hl=>by obtain ⟨u0,u1,u2,u3,rfl⟩:=j6 us hl;rfl⟩
   | 2,hd=>cases hd;exact ⟨_,_,ai l2 c2 k2,E8 X G a2,a2,(ai l2 c2 k2).binds fun _ _ _ _ _ _ us hl=>by obtain ⟨u0,u1,rfl⟩:=cI us hl;rfl⟩
   | 3,hd=>cases hd;exact ⟨_,_,ai l3 c3 k3,E8 X G a3,a3,(ai l3 c3 k3).binds fun _ _ _ _ _ _ us hl=>by obtain ⟨u0,u1,u2,u3,u4,rfl⟩:=wv us hl;rfl⟩
   | 4,hd=>cases hd;exact ⟨_,_,ai l4 c4 k4,E8 X G a4,a4,(ai l4 c4 k4).binds fun _ _ _ _ _ _ us hl=>by obtain ⟨u0,rfl⟩:=ee us hl;rfl⟩
   | 5,hd=>cases hd;exact ⟨_,_,ai l5 c5 k5,E8 X G a5,a5,(ai l5 c5 k5).binds fun _ _ _ _ _ _ us hl=>by obtain ⟨u0,u1,u2,u3,rfl⟩:=j6 us hl;rfl⟩
   | 6,hd=>cases hd;exact ⟨_,_,ai l6 c6 k6,E8 X G a6,a6,(ai l6 c6 k6).binds fun _ _ _ _ _ _ us hl=>by obtain ⟨u0,u1,rfl⟩:=cI us hl;rfl⟩
   | 7,hd=>cases hd;exact ⟨_,_,ai l7 c7 k7,E8 X G a7,a7,(ai l7 c7 k7).binds fun _ _ _ _ _ _ us hl=>by obtain ⟨u0,u1,rfl⟩:=cI us hl;rfl⟩
   | 8,hd=>cases hd;exact ⟨_,_,ai l8 c8 k8,E8 X G a8,a8,(ai l8 c8 k8).binds fun _ _ _ _ _ _ us hl=>by obtain ⟨u0,u1,rfl⟩:=cI us hl;rfl⟩
   | 9,hd=>cases hd;exact ⟨_,_,ai l9 c9 k9,E8 X G a9,a9,(ai l9 c9 k9).binds fun _ _ _ _ _ _ us hl=>by obtain ⟨u0,u1,rfl⟩:=cI us hl;rfl⟩
   | 10,hd=>cases hd;exact ⟨_,_,ai l10 c10 k10,E8 X G a10,a10,(ai l10 c10 k10).binds fun _ _ _ _ _ _ us hl=>by obtain ⟨u0,rfl⟩:=ee us hl;rfl⟩
   | 11,hd=>cases hd;exact ⟨_,_,ai l11 c11 k11,E8 X G a11,a11,(ai l11 c11 k11).binds fun _ _ _ _ _ _ us hl=>by obtain ⟨u0,u1,rfl⟩:=cI us hl;rfl⟩
   | 12,hd=>cases hd;exact ⟨_,_,ai l12 c12 k12,E8 X G a12,a12,(ai l12 c12 k12).binds fun _ _ _ _ _ _ us hl=>by obtain ⟨u0,u1,rfl⟩:=cI us hl;rfl⟩
   | 13,hd=>cases hd;exact ⟨_,_,ai l13 c13 k13,E8 X G a13,a13,(ai l13 c13 k13).binds fun _ _ _ _ _ _ us hl=>by obtain ⟨u0,u1,u2,u3,rfl⟩:=j6 us hl;rfl⟩
   | 14,hd=>cases hd;exact ⟨_,_,ai l14 c14 k14,E8 X G a14,a14,(ai l14 c14 k14).binds fun _ _ _ _ _ _ us hl=>by obtain ⟨u0,u1,u2,rfl⟩:=qj us hl;rfl⟩
   | 15,hd=>cases hd;exact ⟨_,_,ai l15 c15 k15,E8 X G a15,a15,(ai l15 c15 k15).binds fun _ _ _ _ _ _ us hl=>by obtain ⟨u0,rfl⟩:=ee us hl;rfl⟩
   | 16,hd=>cases hd;exact ⟨_,_,ai l16 c16 k16,E8 X G a16,a16,(ai l16 c16 k16).binds fun _ _ _ _ _ _ us hl=>by obtain ⟨u0,u1,rfl⟩:=cI us hl;rfl⟩
   | 17,hd=>cases hd;exact ⟨_,_,ai l17 c17 k17,E8 X G a17,a17,(ai l17 c17 k17).binds fun _ _ _ _ _ _ us hl=>by obtain ⟨u0,rfl⟩:=ee us hl;rfl⟩
   | 18,hd=>cases hd;exact ⟨_,_,ai l18 c18 k18,E8 X G a18,a18,(ai l18 c18 k18).binds fun _ _ _ _ _ _ us hl=>by obtain ⟨u0,u1,u2,rfl⟩:=qj us hl;rfl⟩
   | 19,hd=>cases hd;exact ⟨_,_,ai l19 c19 k19,E8 X G a19,a19,(ai l19 c19 k19).binds fun _ _ _ _ _ _ us hl=>by obtain ⟨u0,u1,u2,u3,u4,rfl⟩:=wv us hl;rfl⟩
   | 20,hd=>cases hd;exact ⟨_,_,ai l20 c20 k20,E8 X G a20,a20,(ai l20 c20 k20).binds fun _ _ _ _ _ _ us hl=>by obtain ⟨u0,u1,u2,u3,rfl⟩:=j6 us hl;rfl⟩
   | 21,hd=>cases hd;exact ⟨_,_,ai l21 c21 k21,E8 X G a21,a21,(ai l21 c21 k21).binds fun _ _ _ _ _ _ us hl=>by obtain ⟨u0,u1,rfl⟩:=cI us hl;rfl⟩
   | 22,hd=>cases hd;exact ⟨_,_,ai l22 c22 k22,E8 X G a22,a22,(ai l22 c22 k22).binds fun _ _ _ _ _ _ us hl=>by obtain ⟨u0,rfl⟩:=ee us hl;rfl⟩
   | 23,hd=>cases hd;exact ⟨_,_,ai l23 c23 k23,E8 X G a23,a23,(ai l23 c23 k23).binds fun _ _ _ _ _ _ us hl=>by obtain ⟨u0,rfl⟩:=ee us hl;rfl⟩
   | i+24,hd=>simp [tab] at hd
  ·intro x i hx;simp only [nA,DT,Es,or_false,Prod.mk.injEq] at hx
 refine ⟨Ga "law" "law" (dh (aj 28)) (bR (aj 28)) (aB (aj 28)) .none kV23 dc23 pm23 an23 cd23 ct23,fun s v => .of_eq rfl,fun base _ _ => ?_⟩;exact sP O 40 23 d23 _ _ rfl (ai l23 c23 k23)
theorem walk {l:Jn} {q:E3} {loose:List Str} {XP:(Str->Option gV)->Heap->Prop} {YP:Ep->Heap->Prop} {d:DefRec} {K:Params->Frag} (hn:l.most=some 63) (hdf:d.params.defaults=[])
 (hlaw:∀ ns:List Int,ns.length<=63->phi tab 40 23 [.con (ns.map D.int)] (fun _=>none) fun d _=>d = .bl true)
 (hY:∀ (w:Ep) (h:Heap),YP w h->(K w.params).In h)
 (F:∀ (w:Ep) (mg:Str->Option gV) (fa:Addr) (h:Heap),(K w.params).In h->h.Ns EM mg->mg d.name=some (.ref fa) ->
   ∃ fd:Gv,(∀ (s:h7) (u:gV),Ks s fd ⟨[u],[]⟩ [("_law_script",u)]) /\ ∀ base:Heap,(K w.params).In base->base.Ns EM mg->dy l.prog w (K w.params) mg base CX0 40 fa fd ["_law_script"] (lSp (K w.params) (phi tab 40 23))) :
 PySem.W.WalkO q loose XP YP l.row.toRowW d [] (fun f vs=>LN f vs) :=
 L2.walk_of (n := 63) (k := 40) (x := "_law_script") (CX:=fun _=>CX0) (sp:=fun w=>lSp (K w.params) (phi tab 40 23)) hn (by decide) hdf ⟨rfl,by decide,by decide⟩ hY F (fun w H a ns hl hO hS=>zY hO hS (hlaw ns hl)) fun _ _ _ _ _ z=>z
end K25
end
section
namespace K25
theorem vJ {L:Nat}:bo [] L=DN L 0:=by
 unfold bo;apply FW;intro i;rw [Ei,GZ]
 by_cases h:i < L
 ·rw [HZ h,if_pos h];rfl
 ·rw [if_neg h,Jx (by simp;lia)];rfl
theorem vK {t:List (Int×Int)} {L:Nat} {k v:Int} (h0 : 0<=k) (h1:k < L):bo (ip t k v) L=(bo t L).set k.toNat v:=by
 unfold bo;apply FW;intro i;rw [List.getElem?_set,Ei,i5,Hq,Ei]
 by_cases h:i < L
 ·rw [HZ h]
  by_cases e:k.toNat=i
  ·rw [if_pos e,if_pos (by lia)]
   simp only [ED,gv,wu];rw [if_pos (by lia)];rfl
  ·rw [if_neg e];simp only [ED,gv,wu];rw [if_neg (by lia)]
 ·rw [Jx (by simp;lia)]
  by_cases e:k.toNat=i
  ·rw [if_pos e,if_neg (by lia)];rfl
  ·rw [if_neg e];rfl
theorem ij {t:List (Int×Int)} {L:Nat}:(bo t L).length=L:=by simp [bo]
theorem tJ {l:List Sp} {x:Sp}:bZ (l++[x])=bZ l+sms x:=by simp [bZ]
theorem ww {l:List Sp} {x:Sp}:((tc (l++[x]):Nat):Int)=tc l+if aJ x then 1 else 0:=by
 rw [gy];cases aJ x <;> simp
theorem qr {l:List (Int×Int)} {y:Int×Int} {row:List Int}:ef (l++[y]) row=ef l row+y.1*bN row y.2:=by simp [ef]
theorem yn {n:Nat} (hn : 1<=n) {M:Mem} {Q:QD} {pg oA pA:Addr} {one other:List Int} {L2:Nat} {xs:List Sq} {ks td:List Int} (pi:PgI M pg xs) (mo:M oA=some (.lst (one.map .int))) (mp:M pA=some (.lst (other.map .int)))
 (b1:Big one) (b2:Big other) (pr:Prog one.length other.length L2 (xs.map (·.1)) ks td) (hx:xs.length<=500) (hE:Eb xs.length (tc (xs.map (·.1)))<=2 ^ 20) (hL:L2<=1000)
 (h:∀ r M',Ge M M'->M r=none->M' r=some (.lst ((bo (ex one other (xs.map (·.1))).t L2).map .int))->Q (.tup [.ref r, .int (tc (xs.map (·.1)):Nat), .int (bZ (xs.map (·.1))), .int (ex one other (xs.map (·.1))).m]) M') :
 phi tab n 20 [.ref pg, .ref oA, .ref pA, .int L2] M Q:=by
 refine ax hn (d:=d20) rfl rfl (ρ := [some _,some _,some _,some _,none,none,none,none,none,none,none,none,none,none,none]) rfl ?_;unfold d20 b20;walk_at "st";intro J BD;walk_at "st";refine ⟨by rw [q7];lia,fun p0 By => ?_⟩
 refine ⟨_,aa,by lia,by lia,by rw [q7];simp;lia,fun rA L => ?_⟩
 have g1:=Ge.new (o := .dct false []) BD;have g2:=g1.trans (Ge.new (o := .lst [.int 0]) By);have Bz:J≠rA:=fun z=>by rw [<- z] at L;rw [Ge.new (o := .lst [.int 0]) By _ _ aa] at L;cases L
 have mrA:M rA=none:=by
  cases z:M rA with
  | none=>rfl
  | some o=>have:=g2 _ _ z;rw [L] at this;cases this
 rw [F4,Bs, <- vJ];have g3:=g2.trans (Ge.new (o := .lst ((bo [] L2).map .int)) L);have BI:ah (ah (ah M J (.dct false [])) p0 (.lst [.int 0])) rA (.lst ((bo [] L2).map .int)) J=some (.dct false []):=Ge.new L _ _ (Ge.new By _ _ aa);have BJ:ah (ah (ah M J (.dct false [])) p0 (.lst [.int 0])) rA (.lst ((bo [] L2).map .int)) rA=some (.lst ((bo [] L2).map .int)):=aa;generalize ah (ah (ah M J (.dct false [])) p0 (.lst [.int 0])) rA (.lst ((bo [] L2).map .int))=M1 at g3 BI BJ;clear L By g1 g2;walk_at "st";refine ⟨by rw [q7];lia, ?_⟩
 walk_at "st";refine ⟨_,ak (g3 _ _ pi.l), ?_⟩;refine fu (I:=fun l ρ M' => ∃ o9 BA Y B G U:Option D, ρ = [some (.ref pg),some (.ref oA),some (.ref pA),some (.int L2),some (.ref J),some (.ref rA),some (.int (tc (l.map (·.1)):Nat)),some (.int (bZ (l.map (·.1)))),some (.int (ex one other (l.map (·.1))).m),o9,BA,Y,B,G,U]/\Ge M M' /\
  M' J=some (.dct false ((ex one other (l.map (·.1))).h.map (hD .int)))/\M' rA=some (.lst ((bo (ex one other (l.map (·.1))).t L2).map .int))) (ys:=xs) rfl
  ⟨none,none,none,none,none,none,rfl,g3,BI,BJ⟩ ?_ ?_ ?_
 ·rintro l ρ M' ⟨o9,BA,Y,B,G,U,rfl,g,_,_⟩;exact ak (g _ _ pi.l)
 ·rintro l x r ρ M' e ⟨o9,BA,Y,B,G,U,rfl,g,Z,m2⟩;have e2:xs.map (·.1)=l.map (·.1)++x.1::r.map (·.1):=by rw [e];simp
  obtain ⟨ks',td',p1,ok⟩:=pr.split e2;have i:=tj b1 b2 p1;have BL:(l.map (·.1)).length<=xs.length:=by
   have:=congrArg Gx e;simp at this ⊢;lia
  have BM:tc (l.map (·.1))<=tc (xs.map (·.1)):=by
   rw [e2];unfold tc;rw [Fm,DO];lia
  have hb:∀ p∈(ex one other (l.map (·.1))).h,dN p.2<=2 ^ 20:=fun p hp=>Ed (i.bd p hp) (Ed (eR BL BM) hE);have sm:spM M' x.2 x.1:=dO (pi.s x (by rw [e];simp)) g
  have hz:((ex one other (l.map (·.1))).h.map (hD D.int)).length < DL:=by have:=i.ln;rw [i5,q7];lia
  refine ⟨_,rfl,fun F hF => ?_⟩;have fin:∀ (a b c:Int) (w9 BE BG BB BC BH:Option D) (M2:Mem),a=(tc ((l++[x]).map (·.1)):Nat)->b=bZ ((l++[x]).map (·.1))->c=(ex one other (l.map (·.1))).m->M2 J=some (.dct false ((ex1 one other (ex one other (l.map (·.1))).h x.1).map (hD .int)))->M2 rA=some (.lst ((bo (ex2 (ex one other (l.map (·.1))).h (ex one other (l.map (·.1))).t x.1) L2).map .int)) ->
   (∀ a o,a≠J->a≠rA->M' a=some o->M2 a=some o)->wSs (phi tab (n - 1)) (MSs.cons (.asg (.name 8) (.blt .max2 (.cons (.var 8) (.cons (.blt .lenK (.cons (.var 4) .nil)) .nil)))) .nil) { nx:=F,rt:=Q,ct:=F,bk:=wSs (phi tab (n - 1)) (MSs.cons (MS.ret (ME.tup (MEs.cons (ME.var 5) (MEs.cons (ME.var 6) (MEs.cons (ME.var 7) (MEs.cons (ME.var 8) MEs.nil)))))) MSs.nil) { nx:=fun x M'=>Q D.non M',rt:=Q } }
    [some (.ref pg),some (.ref oA),some (.ref pA),some (.int L2),some (.ref J),some (.ref rA),some (.int a),some (.int b),some (.int c),w9,BE,BG,BB,BC,BH] M2:=by
   rintro a b c w9 BE BG BB BC BH M2 rfl rfl rfl n1 n2 n3;walk_at "st";refine ⟨J,_,rfl,n1, ?_⟩;walk_at "wp";rw [i5];refine hF _ _ ⟨w9,BE,BG,BB,BC,BH, ?_,fun a o ea=>n3 a o (fun z=>by rw [z,BD] at ea;cases ea) (fun z=>by rw [z,mrA] at ea;cases ea) (g _ _ ea), ?_, ?_⟩
   ·rw [El,E6,Fc,bB];rfl
   ·rw [El,E6,Fc,bB];exact n1
   ·rw [El,E6,Fc,bB];exact n2
  have put:∀ (M1:Mem) (r v:Int) (R:Mem->Prop),Ge M' M1->(∀ M2,M2 J=some (.dct false ((ip (ex one other (l.map (·.1))).h r v).map (hD .int)))->M2 rA=some (.lst ((bo (ex one other (l.map (·.1))).t L2).map .int))->(∀ a o,a≠J->a≠rA->M' a=some o->M2 a=some o)->R M2)->cZ (.ref J) (.int r) (.int v) M1 R:=by
   intro M1 r v R g hR;refine fq (g _ _ Z) rfl hz ?_;rw [gu (g:=D.int)];exact hR _ aa (by rw [ag (Ne.symm Bz)];exact g _ _ m2) fun a o ha _ e=>by rw [ag ha];exact g _ _ e
  have hk:=i.ks;have t0:aJ x.1=false->((tc (l.map (·.1)):Nat):Int)=(tc ((l++[x]).map (·.1)):Nat):=fun z=>by
   rw [El,E6,Fc,ww,z];simp
  have s0:∀ v,sms x.1=v->bZ ((l++[x]).map (·.1))=bZ (l.map (·.1))+v:=fun v z=>by
   rw [El,E6,Fc,tJ,z]
  subst hk
  cases q:x.1 with
  | lin lf r ps =>
    rw [q] at ok sm fin;have ed:sqD x=spD x.2 (.lin lf r ps):=by unfold sqD;rw [q]
    rw [ed];unfold spD;have mq:M' x.2=some (.lst (ps.map ptD)):=sm;have hok:=ok.2;have BO:=ok.1;obtain ⟨BK,na,mna,bna,ena,lna⟩:∃ (row:List Int) (na:Addr),M' na=some (.lst (row.map .int))/\Big row/\(if lf then one else other)=row/\na=(if lf then oA else pA):=by
     cases lf
     ·exact ⟨other,pA,g _ _ mp,b2,rfl,rfl⟩
     ·exact ⟨one,oA,g _ _ mo,b1,rfl,rfl⟩
    have hlen:(if lf then one.length else other.length:Nat)=BK.length:=by
     rw [<- ena];cases lf <;> rfl
    walk_at "st";refine ⟨_,rfl, ?_⟩;simp only [<- au, <- av];refine ⟨by rw [q7];lia,bI ?_⟩
    refine ⟨_,rfl, ?_⟩;rw [if_pos (by cases lf <;> decide)]
    refine cB (I:=fun ρ' M2 => ρ'=[some (.ref pg),some (.ref oA),some (.ref pA),some (.int L2),some (.ref J),some (.ref rA),some (.int (tc (l.map (·.1)):Nat)),some (.int (bZ (l.map (·.1)))),some (.int (ex one other (l.map (·.1))).m),some (.tup [.str (ws (lr lf)), .int r, .ref x.2]),some (.ref na),Y,B,G,U]/\M2=M') (fun R hR => ?_) ?_
    ·walk_at "wp";refine ⟨_,rfl, ?_⟩;rw [ar];refine ⟨_,rfl, ?_⟩;subst lna
     cases lf
     ·exact hR _ _ ⟨rfl,rfl⟩
     ·exact hR _ _ ⟨rfl,rfl⟩
    rintro ρ M2 ⟨rfl,rfl⟩;walk_at "st";walk_at "st";refine ⟨_,rfl,_,ak mq, ?_⟩;refine fu (I:=fun l2 ρ M3 => ∃ B G:Option D, ρ = [some (.ref pg),some (.ref oA),some (.ref pA),some (.int L2),some (.ref J),some (.ref rA),some (.int (tc (l.map (·.1)):Nat)),some (.int (bZ (l.map (·.1)))),some (.int (ex one other (l.map (·.1))).m),some (.tup [.str (ws (lr lf)), .int r, .ref x.2]),some (.ref na),some (.int (ef l2 BK)),B,G,U]/\M3=M2) (ys:=ps) rfl ⟨B,G,rfl,rfl⟩ ?_ ?_ ?_
    ·rintro l2 ρ M3 ⟨_,_,rfl,rfl⟩;exact ak mq
    ·rintro l2 y r2 ρ M3 ey ⟨_,_,rfl,rfl⟩;refine ⟨_,rfl,fun F2 BN => ?_⟩;obtain ⟨_,y0,y1⟩:=hok y (by rw [ey];simp)
     rw [hlen] at y1;walk_at "st";refine az mna (kj y0 y1) ?_;walk_at "wp";refine ⟨ic (kl bna _), ?_⟩;refine BN _ _ ⟨some (.int y.1),some (.int y.2), ?_,rfl⟩;rw [qr]
    rintro ρ M3 ⟨BB,BC,rfl,rfl⟩;walk_at "st";refine ⟨_,rfl, ?_⟩;refine put M3 r _ _ Ge.refl fun M2 n1 n2 n3 => ?_;walk_at "st";refine ⟨_,rfl, ?_⟩;have mx:M x.2=some (.lst (ps.map ptD)):=by
     have:=pi.s x (by rw [e];simp)
     rw [q] at this;exact this
    refine cg (n3 x.2 _ (fun z=>by rw [z,BD] at mx;cases mx) (fun z=>by rw [z,mrA] at mx;cases mx) mq) ?_
    walk_at "wp";rw [i5];refine fin _ _ _ _ _ _ _ _ _ M2 (t0 (by rw [q];rfl)) ?_ rfl ?_ n2 n3
    ·rw [s0 (ps.length - 1) (by rw [q];rfl)];lia
    ·rw [n1];simp only [ex1,ena]
  | tim r a b =>
    rw [q] at ok sm fin;have ed:sqD x=spD x.2 (.tim r a b):=by unfold sqD;rw [q]
    rw [ed];unfold spD;walk_at "st";refine ⟨_,rfl, ?_⟩;simp only [<- au, <- av];refine ⟨by rw [q7];lia,bI ?_⟩
    refine ⟨_,rfl, ?_⟩;rw [if_neg (by decide)]
    iterate 1
     walk_at "st";refine ⟨_,rfl, ?_⟩;simp only [<- au, <- av, <- aG, <- aK, <- aM, <- aN, <- aO,ar,reduceCtorEq,decide_false,decide_true];walk_at "wp"
    walk_at "st";refine ⟨_,rfl, ?_⟩;refine bH Z rfl (b8 ok.1) ?_;refine ⟨_,rfl, ?_⟩;refine bH Z rfl (b8 ok.2) ?_;walk_at "wp";refine ⟨cD (bm hb ok.1) (bm hb ok.2) (DP _) (DP _), ?_⟩;refine ⟨_,rfl, ?_⟩;refine put M' r _ _ Ge.refl fun M2 n1 n2 n3 => ?_;walk_at "st";refine fin _ _ _ _ _ _ _ _ _ M2 ?_ ?_ rfl n1 n2 n3
    ·rw [El,E6,Fc,ww,q];rfl
    ·rw [s0 0 (by rw [q];rfl)];simp
  | put r c b =>
    rw [q] at ok sm fin;have ed:sqD x=spD x.2 (.put r c b):=by unfold sqD;rw [q]
    rw [ed];unfold spD;walk_at "st";refine ⟨_,rfl, ?_⟩;simp only [<- au, <- av];refine ⟨by rw [q7];lia,bI ?_⟩
    refine ⟨_,rfl, ?_⟩;rw [if_neg (by decide)]
    iterate 2
     walk_at "st";refine ⟨_,rfl, ?_⟩;simp only [<- au, <- av, <- aG, <- aK, <- aM, <- aN, <- aO,ar,reduceCtorEq,decide_false,decide_true];walk_at "wp"
    walk_at "st";refine ⟨_,rfl,_,rfl, ?_⟩;refine bH Z rfl (b8 ok.2) ?_;walk_at "wp";refine ⟨cD (dv ok.1) (bm hb ok.2) (by decide) (DP _), ?_⟩
    refine ⟨_,rfl, ?_⟩;refine put M' r _ _ Ge.refl fun M2 n1 n2 n3 => ?_;exact fin _ _ _ _ _ _ _ _ _ M2 (t0 (by rw [q];rfl)) (by rw [s0 0 (by rw [q];rfl)];simp) rfl n1 n2 n3
  | add a c b =>
    rw [q] at ok sm fin;have ed:sqD x=spD x.2 (.add a c b):=by unfold sqD;rw [q]
    rw [ed];unfold spD;walk_at "st";refine ⟨_,rfl, ?_⟩;simp only [<- au, <- av];refine ⟨by rw [q7];lia,bI ?_⟩
    refine ⟨_,rfl, ?_⟩;rw [if_neg (by decide)]
    iterate 3
     walk_at "st";refine ⟨_,rfl, ?_⟩;simp only [<- au, <- av, <- aG, <- aK, <- aM, <- aN, <- aO,ar,reduceCtorEq,decide_false,decide_true];walk_at "wp"
    walk_at "st";refine ⟨_,rfl,_,rfl, ?_⟩;refine bH Z rfl (b8 ok.2.2) ?_;walk_at "wp";refine ⟨cD (dv ok.2.1) (bm hb ok.2.2) (by decide) (DP _), ?_⟩
    walk_at "st";refine ⟨_,rfl, ?_⟩;refine bH Z rfl (b8 ok.1) ?_;walk_at "wp";refine ⟨_,rfl, ?_⟩;refine put M' a _ _ Ge.refl fun M2 n1 n2 n3 => ?_;walk_at "st";exact fin _ _ _ _ _ _ _ _ _ M2 (t0 (by rw [q];rfl)) (by rw [s0 1 (by rw [q];rfl)]) rfl n1 n2 n3
  | emp a =>
    rw [q] at ok sm fin;have ed:sqD x=spD x.2 (.emp a):=by unfold sqD;rw [q]
    rw [ed];unfold spD;walk_at "st";refine ⟨_,rfl, ?_⟩;simp only [<- au, <- av];refine ⟨by rw [q7];lia,bI ?_⟩
    refine ⟨_,rfl, ?_⟩;rw [if_neg (by decide)]
    iterate 4
     walk_at "st";refine ⟨_,rfl, ?_⟩;simp only [<- au, <- av, <- aG, <- aK, <- aM, <- aN, <- aO,ar,reduceCtorEq,decide_false,decide_true];walk_at "wp"
    walk_at "st";refine ⟨⟨_,Z⟩,_,rfl,_,Z,rfl,⟨_,b8 ok⟩, ?_⟩;rw [cC];exact fin _ _ _ _ _ _ _ _ _ _ (t0 (by rw [q];rfl)) (by rw [s0 0 (by rw [q];rfl)];simp) rfl aa (by rw [ag (Ne.symm Bz)];exact m2) fun a o ha _ e=>by rw [ag ha];exact e
  | tel k b =>
    rw [q] at ok sm fin;have ed:sqD x=spD x.2 (.tel k b):=by unfold sqD;rw [q]
    rw [ed];unfold spD;walk_at "st";refine ⟨_,rfl, ?_⟩;simp only [<- au, <- av];refine ⟨by rw [q7];lia,bI ?_⟩
    refine ⟨_,rfl, ?_⟩;rw [if_neg (by decide)]
    iterate 4
     walk_at "st";refine ⟨_,rfl, ?_⟩;simp only [<- au, <- av, <- aG, <- aK, <- aM, <- aN, <- aO,ar,reduceCtorEq,decide_false,decide_true];walk_at "wp"
    walk_at "st";refine ⟨⟨_,Z⟩,_,rfl,_,Z,rfl,_,b8 ok.2,_,rfl, ?_⟩;obtain ⟨⟨k0,k1,k2⟩,_⟩:=ok;refine i8 (by rw [ag (Ne.symm Bz)];exact m2) (j:=k.toNat) ?_ ?_
    ·rw [i5,ij];unfold ixN;rw [if_pos k0,if_pos k1]
    rw [cC];refine fin _ _ _ _ _ _ _ _ _ _ (t0 (by rw [q];rfl)) (by rw [s0 0 (by rw [q];rfl)];simp) rfl (by rw [ag Bz];exact aa) ?_ fun a o ha hb e=>by rw [ag hb,ag ha];exact e
    rw [aa];show _=some (O.lst ((bo (ip _ k _) L2).map .int));rw [vK k0 k1,List.map_set]
 ·rintro ρ M' ⟨o9,BA,Y,B,G,U,rfl,g,Z,m2⟩;walk_at "st";exact ⟨by rw [q7];lia,h rA M' g mrA m2⟩
theorem oO {k:Nat} (j : 1<=k):wq tab k 7:=fun q=>vB (s:=aj 12) rfl j q
theorem bg {k:Nat} (j : 2<=k):cv tab k 9:=fun z h1 h2 q=>ye (s:=aj 14) (fm := 7) rfl (oO (by lia)) j z h1 h2 q
theorem yo {k:Nat} (z : 3<=k):mX tab k 10:=fun j q=>t8 (s:=aj 15) (ft := 9) rfl (bg (by lia)) (by lia) j q
theorem oP {k:Nat} (j : 3<=k):wt tab k 11:=A6 (s:=aj 16) (ft := 9) rfl (bg (by lia)) (by lia)
theorem vL {k:Nat} (j : 3<=k):tD tab k 12:=yh (s:=aj 17) (ft := 9) rfl (bg (by lia)) (by lia)
theorem kr {k:Nat} (j : 4<=k):gA tab k 17:=vF (s:=aj 22) (ft := 9) (fn := 10) rfl (bg (by lia)) (yo (by lia)) (by lia)
theorem vM {k:Nat} (j : 6<=k):ny tab k 19:=yj (s:=aj 24) (hn := "_law_held") (ft := 9) (fr := 15) (fp := 16) (fv := 17) (fo := 18) rfl (bg (by lia)) (yg (s:=aj 20) (ft := 9) rfl (bg (by lia)) (by lia))
 (vG (s:=aj 21) (ft := 9) (fv := 17) rfl (bg (by lia)) (kr (by lia)) (by lia)) (kr (by lia)) (vH (s:=aj 23) (hn := "_law_held") rfl (by lia)) (by lia)
theorem vN {k:Nat} (j : 7<=k):tI tab k 13:=ym (s:=aj 18) (hn := "_law_held") (fs := 19) (fk := 14) rfl (vM (by lia)) (yi (s:=aj 19) (hn := "_law_held") rfl (by lia)) (by lia)
theorem oQ {n:Nat} (hn : 3<=n) {M:Mem} {Q:QD} {pg oA pA:Addr} {one other:List Int} {L2:Nat} {xs:List Sq} {ks td:List Int} (pi:PgI M pg xs) (mo:M oA=some (.lst (one.map .int))) (mp:M pA=some (.lst (other.map .int)))
 (j:Big one) (q:Big other) (pr:Prog one.length other.length L2 (xs.map (·.1)) ks td) (hx:xs.length<=500) (z:Eb xs.length (tc (xs.map (·.1)))<=2 ^ 20) (B:L2<=1000)
 (h:∀ r M',Ge M M'->M r=none->M' r=some (.lst ((bo (ex one other (xs.map (·.1))).t L2).map .int))->Q (.tup [.ref r, .int (tc (xs.map (·.1)):Nat), .int (bZ (xs.map (·.1))), .int (ex one other (xs.map (·.1))).m]) M') :
 phi tab n 5 [.ref pg, .ref oA, .ref pA, .int L2] M Q:=Ac (s:=aj 9) (fc := 1) (fd := 3) (fs := 4) (fr := 0) (fo := 2) (sc:=aj 5) (sr:=aj 4) (sd:=aj 7) (so:=aj 6) (ss:=aj 8) rfl rfl rfl rfl rfl rfl hn pi mo mp j q pr hx z B h
theorem nB {x y:D} {n:Nat} (hn : 6<=n) {M:Mem} {Q:QD} (h:Sz M 4 x y) (q:∀ M',Ge M M'->Q (.bl true) M'):phi tab n 21 [x,y] M Q:=vI (s:=aj 26) rfl 4 (by lia) h q
def yp (T:List FD) (n f:Nat):Prop := ∀ {b:Addr} {M:Mem} {Q:QD},Box b M->(∀ (L0 L1 L2:Nat) p M',(1<=L0/\L0<=12)->(1<=L1/\L1<=12)->(1<=L2/\L2<=12)->Bx b M M'->M p=none->M' p=some (.lst [.int L0, .int L1, .int L2])->Q (.ref p) M')->phi T n f [.ref b] M Q
theorem tK {n:Nat} (hn : 4<=n):yp tab n 22:=by
 intro b M Q L q;refine ax (by lia) (d:=d22) rfl rfl (ρ := [some _]) rfl ?_
 unfold d22 b22;walk_at "st";refine bg (by lia) L (by decide) (by decide) fun w M0 w0 w1 x0 => ?_
 walk_at "wp"
 split
 ·walk_at "st";refine ⟨by decide,by decide, ?_⟩
  have er:bP 0 (3:Int).toNat=[.int 0, .int 1, .int 2]:=rfl;rw [er];simp only [bK];refine ⟨trivial,_,rfl, ?_⟩;walk_at "wp";refine bg (by lia) x0.box (by decide) (by decide) fun i M1 i0 i1 B => ?_
  walk_at "wp";refine ⟨by simp [q7], ?_⟩
  refine bg (by lia) B.box (by decide) (by decide) fun j M2 j0 j1 J => ?_
  walk_at "wp";refine ⟨by simp [q7], ?_⟩
  refine bg (by lia) J.box (by decide) (by decide) fun k M3 k0 k1 O => ?_
  walk_at "wp";refine ⟨by simp [q7],fun p z => ?_⟩
  have F:=((x0.trans B).trans J).trans O;have G:=aX F.box z;refine q (9+i).toNat (9+j).toNat (9+k).toNat p _ (by lia) (by lia) (by lia) (F.ge (Ge.new z)) (F.none z G) ?_
  rw [aa,Fh (by lia),Fh (by lia),Fh (by lia)];rfl
 ·walk_at "st";refine vL (by lia) (by decide) (by decide) x0.box fun U Y L2 p M1 h0 h1 h2 B z mp => ?_
  have Z:(5:Int).toNat=5:=rfl;rw [Z] at h0 h1 h2;exact q U Y L2 p M1 (by lia) (by lia) (by lia) (x0.trans B) (x0.none z (aX x0.box z)) mp
theorem eh {n:Nat} {M:Mem} (ih:∀ d p,rb n M d=some p->Ej p p=true):∀ {ds:List D} {ps:List EH},aw (rb n M) ds=some ps->GN ps ps=true
 | [],ps,h=>by simp [aw] at h;subst h;rfl
 | d::ds,ps,h=>by
   simp only [aw] at h
   cases j:rb n M d with
   | none=>rw [j] at h;cases h
   | some p =>
     cases q:aw (rb n M) ds with
     | none=>rw [j,q] at h;cases h
     | some r =>
       rw [j,q] at h;cases h;simp [GN,ih d p j,eh ih q]
theorem yq {M:Mem}:∀ (n:Nat) (d:D) (p:EH),rb n M d=some p->Ej p p=true:=by
 intro n
 induction n with
 | zero =>
   intro d p h
   cases d <;> simp [rb] at h <;> first
    | (subst h;simp [Ej])
    | (obtain ⟨_,rfl⟩:=h;simp [Ej])
 | succ n ih =>
   intro d p h
   cases d <;> simp only [rb] at h <;> first
    | (cases h;simp [Ej];done)
    | skip
   case fn=>cases h
   case str x=>split at h <;> cases h;simp [Ej]
   case tup ds =>
    cases e:aw (rb n M) ds with
    | none=>rw [e] at h;cases h
    | some r=>rw [e] at h;cases h;simp [Ej,eh ih e]
   case con ds =>
    cases e:aw (rb n M) ds with
    | none=>rw [e] at h;cases h
    | some r=>rw [e] at h;cases h;simp [Ej,eh ih e]
   case ref a =>
    split at h
    ·next ds _ =>
     cases e:aw (rb n M) ds with
     | none=>rw [e] at h;cases h
     | some r=>rw [e] at h;cases h;simp [Ej,eh ih e]
    ·cases h
theorem nC {k:Nat} {M:Mem}:∀ ps:List (Int×Int),aw (rb (k+1) M) (ps.map ptD)=some (ps.map fun p => .tuple [.int p.1, .int p.2])
 | [] => rfl
 | p::ps=>by
   have e:rb (k+1) M (ptD p)=some (.tuple [.int p.1, .int p.2]):=by simp [ptD,rb,aw]
   simp only [E6,aw,e,nC ps,EY,ED]
theorem B1 {k:Nat} {M:Mem} {x:Sq} (h:spM M x.2 x.1):∃ p,rb (k+3) M (sqD x)=some p:=by
 obtain ⟨x,q⟩:=x
 cases x with
 | lin l r ps =>
   have mq:M q=some (.lst (ps.map ptD)):=h;have e:rb (k+2) M (.ref q)=some (.list (ps.map fun p => .tuple [.int p.1, .int p.2])):=by rw [dL mq,nC];rfl
   exact ⟨_,by simp only [sqD,spD,rb,aw,j8,if_true,mq,nC,ED,EY,Option.map_none];rfl⟩
 | _=>exact ⟨_,by simp only [sqD,spD,rb,aw,j8,if_true,ED,EY];rfl⟩
theorem tL {k:Nat} {M:Mem}:∀ {xs:List Sq},(∀ x∈xs,spM M x.2 x.1) -> ∃ ps,aw (rb (k+3) M) (xs.map sqD)=some ps
 | [],_=>⟨[],rfl⟩
 | x::xs,h=>by
   obtain ⟨p,j⟩:=B1 (k:=k) (h x Ex);obtain ⟨ps,q⟩:=tL (k:=k) (xs:=xs) fun y z=>h y (E2 _ z);exact ⟨p::ps,by simp only [E6,aw,j,q,EY,ED]⟩
theorem tM {b:Addr} {q M M':Mem} {pg:Addr} {xs:List Sq} (z:Box b q) (h:PgI M pg xs) (np:pg≠b) (j:∀ x∈xs, ∀ l r ps,x.1 = .lin l r ps->q x.2=none) (g:Bx b M M'):PgI M' pg xs :=
 ⟨g.keep _ _ np h.l,fun x hx=>by
   have:=h.s x hx
   cases e:x.1 with
   | lin l r ps =>
     rw [e] at this;exact g.keep _ _ (aX z (j x hx l r ps e)) this
   | _=>trivial⟩
theorem law_holds (ns:List Int) (hl:ns.length<=63):phi tab 40 23 [.con (ns.map D.int)] (fun _=>none) fun d _=>d = .bl true:=by
 refine ax (by lia) (d:=d23) rfl rfl (ρ := [some _,none,none,none,none,none,none,none,none,none]) rfl ?_
 unfold d23 b23;walk_at "st";rw [i5];refine ⟨by split <;> split <;> lia,by split <;> split <;> lia, ?_⟩
 refine fu (I:=fun l ρ M' => ∃ o1 o2 o3 o4 o5 o6 o7 o8 o9, ρ = [some (.con (ns.map D.int)),o1,o2,o3,o4,o5,o6,o7,o8,o9]) fw ⟨_,_,_,_,_,_,_,_,_,rfl⟩ (fun _ _ _ hI=>trivial) ?_ ?_
 ·rintro l k r ρ M8 e ⟨o1,o2,o3,o4,o5,o6,o7,o8,o9,rfl⟩;refine ⟨_,rfl,fun F hF => ?_⟩;walk_at "st";refine A5 (s:=aj 13) (fc := 6) (fm := 7) (sc:=aj 11) rfl rfl (oO (by lia)) (by lia) (by lia) fun b x y BY => ?_
  walk_at "st";refine tK (by lia) ⟨_,_,_,aa⟩ fun L0 L1 L2 lA M1 h0 h1 h2 x1 flA mlA => ?_
  walk_at "st";refine bg (by lia) x1.box (by decide) (by decide) fun sz M2 z0 z1 x2 => ?_
  obtain ⟨sz,rfl⟩:∃ n:Nat,sz=n:=⟨sz.toNat,by lia⟩
  have nlA:lA≠b:=fun z=>by rw [z,aa] at flA;cases flA
  have L:=x2.keep _ _ nlA mlA;refine vN (by lia) x2.box L nlA (by lia) (by lia) (by lia) (by lia) fun xs hh td pg M3 lp BZ BD x3 fpg pi BE => ?_
  have npg:=aX x2.box fpg;have O:=x3.keep _ _ nlA L;have BG:=x2.box;clear x1 mlA;walk_at "st";refine az O (d := .int L0) rfl ?_;refine oP (by lia) (by lia) x3.box fun one oA M4 l1 b1 x4 fo mo => ?_
  have noA:=aX x3.box fo;have BH:=tM BG pi npg BE x4;have U:=x4.keep _ _ nlA O;refine az U (d := .int L1) rfl ?_;refine oP (by lia) (by lia) x4.box fun other pA M5 l2 b2 x5 fp mp => ?_
  have BB:=tM BG BH npg BE x5;have Bz:=x5.keep _ _ nlA U;have BC:=x5.keep _ _ noA mo;clear pi BH x2 x3 x4 x5 L O U mo;walk_at "wp";walk_at "st";refine ⟨_,_,rfl,ak BB.l,fun a1 BI => ?_⟩;have g1:=Ge.new (o := .lst (xs.map sqD)) BI;refine ⟨_,_,rfl,ak (g1 _ _ BC),fun a2 BJ => ?_⟩;have g2:=Ge.new (o := .lst (one.map .int)) BJ;refine ⟨_,_,rfl,ak (g2 _ _ (g1 _ _ mp)),fun a3 BK => ?_⟩;have g3:=Ge.new (o := .lst (other.map .int)) BK;refine ⟨by rw [q7];lia,fun hd BL => ?_⟩
  have g4:=Ge.new (o := .lst [.ref a1, .ref a2, .ref a3]) BL;have m1:=g4 _ _ (g3 _ _ (g2 _ _ (aa (M:=M5) (a:=a1) (o := .lst (xs.map sqD)))));have m2:=g4 _ _ (g3 _ _ (aa (M:=ah M5 a1 (.lst (xs.map sqD))) (a:=a2) (o := .lst (one.map .int))));have m3:=g4 _ _ (aa (M:=ah (ah M5 a1 (.lst (xs.map sqD))) a2 (.lst (one.map .int))) (a:=a3) (o := .lst (other.map .int)));have m4:ah (ah (ah (ah M5 a1 (.lst (xs.map sqD))) a2 (.lst (one.map .int))) a3 (.lst (other.map .int))) hd (.lst [.ref a1, .ref a2, .ref a3]) hd=_:=aa;have g:=((g1.trans g2).trans g3).trans g4;generalize ah (ah (ah (ah M5 a1 (.lst (xs.map sqD))) a2 (.lst (one.map .int))) a3 (.lst (other.map .int))) hd (.lst [.ref a1, .ref a2, .ref a3])=M6 at m1 m2 m3 m4 g;clear g1 g2 g3 g4 BI BJ BK BL;have By:=BB.ge g;have Y:=g _ _ Bz;have BM:=g _ _ BC;have BN:=g _ _ mp;have pia:PgI M6 a1 xs:=⟨m1,By.s⟩;have pr:=lp.prog;rw [<- l1, <- l2] at pr;have hE:Eb xs.length (tc (xs.map (·.1)))<=2 ^ 20:=Ed (eR (show xs.length<=30 by lia) (BD rfl)) (by decide)
  clear BB Bz BC mp g BD lp;walk_at "st";refine az Y (d := .int L2) rfl ?_;refine yn (by lia) By BM BN b1 b2 pr (by lia) hE (by lia) fun r1 M7 J C0 BO => ?_
  walk_at "st";refine az (J _ _ m4) (d := .ref a1) rfl ?_;refine az (J _ _ m4) (d := .ref a2) rfl ?_;refine az (J _ _ m4) (d := .ref a3) rfl ?_;refine az (J _ _ Y) (d := .int L2) rfl ?_;refine oQ (by lia) (pia.ge J) (J _ _ m2) (J _ _ m3) b1 b2 pr (by lia) hE (by lia) fun r2 M8 g8 BU BP => ?_
  have BQ:∀ {M':Mem} {r:Addr},M' r=some (.lst ((bo (ex one other (xs.map (·.1))).t L2).map .int))->M' r1=some (.lst ((bo (ex one other (xs.map (·.1))).t L2).map .int))->Sz M' 4 (.tup [.ref r, .int (tc (xs.map (·.1)):Nat), .int (bZ (xs.map (·.1))), .int (ex one other (xs.map (·.1))).m]) (.tup [.ref r1, .int (tc (xs.map (·.1)):Nat), .int (bZ (xs.map (·.1))), .int (ex one other (xs.map (·.1))).m]):=by
   intro M' r e1 e2;refine ⟨by simp,rfl,fun k d e h1 h2 => ?_⟩
   match k with
   | 0=>cases h1;cases h2;exact Sz.ints e1 e2 (by rw [ij];lia)
   | 1=>cases h1;cases h2;exact Sz.int
   | 2=>cases h1;cases h2;exact Sz.int
   | 3=>cases h1;cases h2;exact Sz.int
   | k+4=>simp at h1
  walk_at "st";refine nB (by lia) (BQ BP (g8 _ _ BO)) fun M9 g9 => ?_
  refine ⟨true,rfl, ?_⟩;rw [if_neg (by decide)]
  refine ⟨by rw [q7];lia,fun hd2 Z => ?_⟩
  have j:=((J.trans g8).trans g9).trans (Ge.new (o := .lst [.ref pg, .ref oA, .ref pA]) Z);have BA:=(g8.trans g9).trans (Ge.new (o := .lst [.ref pg, .ref oA, .ref pA]) Z);have BR:ah M9 hd2 (.lst [.ref pg, .ref oA, .ref pA]) hd2=_:=aa;have k2:ah M9 hd2 (.lst [.ref pg, .ref oA, .ref pA]) r2=_:=Ge.new Z _ _ (g9 _ _ BP);generalize ah M9 hd2 (.lst [.ref pg, .ref oA, .ref pA])=G at j BR k2 BA;obtain ⟨ps,eps⟩:=tL (k := 11) (By.ge j).s;have rbi:∀ {q:Addr} {is:List Int},G q=some (.lst (is.map .int))->rb 15 G (.ref q)=some (.list (is.map .int)):=fun hq=>by rw [dL hq,jv];rfl
  have rbp:∀ {q:Addr},G q=some (.lst (xs.map sqD))->rb 15 G (.ref q)=some (.list ps):=fun hq=>by rw [dL hq,eps];rfl
  have BS:rb 16 G (.ref hd)=some (.list [.list ps, .list (one.map .int), .list (other.map .int)]):=by
   rw [dL (j _ _ m4)];simp only [aw,rbp (j _ _ m1),rbi (j _ _ m2),rbi (j _ _ m3),EY,ED]
  have BV:rb 16 G (.ref hd2)=some (.list [.list ps, .list (one.map .int), .list (other.map .int)]):=by
   rw [dL BR];simp only [aw,rbp (j _ _ By.l),rbi (j _ _ BM),rbi (j _ _ BN),EY,ED]
  refine ⟨_,_,BS,BV, ?_⟩;rw [yq 16 _ _ BS];refine ⟨_,rfl, ?_⟩;rw [if_neg (by decide)]
  walk_at "st";refine ⟨_,rfl, ?_⟩;refine ⟨⟨_,rfl,_,k2⟩, ?_⟩;refine ⟨r2,_,_,rfl,rfl,k2,by rw [i5,ij,q7];lia, ?_⟩
  have B:Ge M7 (ah G r2 (.lst ((bo (ex one other (xs.map (·.1))).t L2).map .int++[.int 1]))):=fun a o ea=>by
   rw [ag (fun z=>by rw [z,BU] at ea;cases ea)]
   exact BA a o ea
  generalize ah G r2 (.lst ((bo (ex one other (xs.map (·.1))).t L2).map .int++[.int 1]))=M11 at B;walk_at "st";refine az (B _ _ (J _ _ m4)) (d := .ref a1) rfl ?_;refine az (B _ _ (J _ _ m4)) (d := .ref a2) rfl ?_;refine az (B _ _ (J _ _ m4)) (d := .ref a3) rfl ?_;refine az (B _ _ (J _ _ Y)) (d := .int L2) rfl ?_;refine oQ (by lia) ((pia.ge J).ge B) (B _ _ (J _ _ m2)) (B _ _ (J _ _ m3)) b1 b2 pr (by lia) hE (by lia) fun r3 C1 BW C2 BX => ?_
  refine nB (by lia) (BQ BX (BW _ _ (B _ _ BO))) fun C3 C4 => ?_
  refine ⟨true,rfl, ?_⟩;rw [if_neg (by decide)]
  exact hF _ _ ⟨_,_,_,_,_,_,_,_,_,rfl⟩
 ·rintro ρ M8 ⟨o1,o2,o3,o4,o5,o6,o7,o8,o9,rfl⟩;dsimp only;walk_at "st"
end K25
end
end
end Mi
end
end L2
namespace PySem.W.Fast
theorem tw10544034931457308065:True:=trivial
theorem tw12455963793327473332:True:=trivial
theorem tw4406134868684662421:True:=trivial
theorem tw13137018698969146320:True:=trivial
theorem tw15867281097390461114:True:=trivial
theorem tw6808454421573638809:True:=trivial
theorem tw6182195441897402647:True:=trivial
theorem tw11452043687886390911:True:=trivial
theorem tw18044344873890237935:True:=trivial
theorem tw12126138213474634114:True:=trivial
theorem tw579499052483055771:True:=trivial
theorem tw6022697103434740780:True:=trivial
theorem tw8628671078640970631:True:=trivial
theorem tw4767718851896650404:True:=trivial
theorem tw1696373520453630055:True:=trivial
theorem tw644541265111867973:True:=trivial
theorem tw9623807931976747647:True:=trivial
theorem tw1270420995086479921:True:=trivial
theorem tw15864308745792001787:True:=trivial
theorem tw216083135843458121:True:=trivial
theorem tw13611617516740246417:True:=trivial
theorem tw3122776351461642622:True:=trivial
theorem tw11090767076043846973:True:=trivial
theorem tw17540040206918066402:True:=trivial
theorem tw3443961601437566698:True:=trivial
theorem tw9381662161389542790:True:=trivial
theorem tw8806398470340238966:True:=trivial
theorem tw14587806676848781243:True:=trivial
theorem tw2021268612819746542:True:=trivial
theorem tw11692528587150041627:True:=trivial
theorem tw6483295231559883987:True:=trivial
theorem tw8623276997580361240:True:=trivial
theorem tw15336617217730141401:True:=trivial
theorem tw5702088523831834180:True:=trivial
theorem tw17130939137126733759:True:=trivial
theorem tw1529694654432271275:True:=trivial
theorem tw12817310127120824392:True:=trivial
theorem tw11416426539085943505:True:=trivial
theorem tw13575304491675502478:True:=trivial
theorem tw9572823280067861679:True:=trivial
theorem tw10147290510166216591:True:=trivial
theorem tw3586618059779654985:True:=trivial
theorem tw2560865403458648776:True:=trivial
theorem tw16078410767078904122:True:=trivial
theorem tw969133362608902515:True:=trivial
theorem tw13778517747970603812:True:=trivial
theorem tw3874227371966804554:True:=trivial
theorem tw17379392784560766080:True:=trivial
theorem tw15883484200564554377:True:=trivial
theorem tw2701369644839251269:True:=trivial
theorem tw9298456126619155824:True:=trivial
theorem tw1231262604474714538:True:=trivial
theorem tw5569464381139420634:True:=trivial
theorem tw17261698273566272549:True:=trivial
theorem tw12791700392023096969:True:=trivial
theorem tw12743274219172723012:True:=trivial
theorem tw9482139075220150034:True:=trivial
theorem tw7753133539545508028:True:=trivial
theorem tw7030127922954836310:True:=trivial
theorem tw7827158775668576184:True:=trivial
theorem tw18388148396421479800:True:=trivial
theorem tw1649324418339321932:True:=trivial
theorem tw17695918730902093556:True:=trivial
theorem tw2811244632860606698:True:=trivial
theorem tw11266246365938031322:True:=trivial
theorem tw1110524201921918590:True:=trivial
theorem tw18223749707269734840:True:=trivial
theorem tw12781683582112819104:True:=trivial
theorem tw5834641792931280500:True:=trivial
theorem tw11205591693005707043:True:=trivial
theorem tw7809244360617993979:True:=trivial
end PySem.W.Fast
open PySem.W in
set_option maxRecDepth 100000 in
set_option maxHeartbeats 0 in
theorem PySem.Challenge.cw_fewtimes_k25_programs_run_holds : PySem.Challenge.rw_fewtimes_k25_programs_run.Holds := by
 w_on;o_law;k_head;(case hw=>w_witness2)
 k_fill
 refine L2.Mi.K25.walk (l:=PySem.Challenge.rw_fewtimes_k25_programs_run) rfl rfl L2.Mi.K25.law_holds (fun w h Y=>PySem.W.kIn_of Y) ?F
 case F =>
  intro w mg fa h KX G hmg;refine' L2.Mi.K25.all_mk KX G hmg ?z ?_ ?_ ?_ ?_ ?_ ?_ ?_ ?_ ?_ ?_ ?_ ?_ ?_ ?_ ?_ ?_ ?_ ?_ ?_ ?_ ?_ ?_ ?_ ?_ ?_ ?_ ?_ ?_ ?_ ?_ ?_ ?_ ?_ ?_ ?_ ?_ ?_ ?_ ?_ ?_ ?_ ?_ ?_ ?_ ?_ ?_ ?_ ?_ ?_ ?_ ?_ ?_ ?_ ?_ ?_ ?_ ?_ ?_ ?_ ?_ ?_ ?_ ?_ ?_ ?_ ?_ ?_ ?_ ?_ ?_ ?_ ?_ ?_ ?_ ?_ ?_ ?_ ?_ ?_ ?_ ?_ ?_ ?_ ?_ ?_ ?_ ?_ ?_ ?_ ?_ ?_ ?_ ?_ ?_ ?_ ?_
  case z =>
   intro x hx;simp only [L2.Mi.bltNames,List.mem_cons,List.not_mem_nil,or_false] at hx
   rcases hx with rfl | rfl | rfl | rfl | rfl | rfl | rfl | rfl | rfl | rfl | rfl | rfl | rfl | rfl | rfl | rfl | rfl | rfl | rfl | rfl <;> k_is
  all_goals try (show _=_;k_is)
