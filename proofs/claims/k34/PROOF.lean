import PyProof.Rows.All
import Wide.All
import OpenK.AllK
import Wide.FinOn
import Lean
import PyProof.EqAt
import PyProof.EqKinds
import PyProof.TupleCall
import PyProof.ZipIter
import PyProof.EnumMake
import PyProof.EnumFor
import PyProof.CollectIter
import PyProof.TupleKey
import PyProof.DictRoadsH
import PyProof.P3Eq
import PyProof.Rows.SeqMore
import PyProof.ConsumeWalk
import PyProof.Rows.SortShellK
import PyProof.DictItems
import PyProof.DictWalks
import PyProof.AttrMissHeap
import PyProof.DictIter
import PyProof.MaxThree
import PyProof.SeqI3
import PyProof.DictTruth
import PyProof.Rows.TupDisplay
import PyProof.ListCopy
import PyProof.NeKinds
import PyProof.RaisesDict
import KE.KDictOf
import PyProof.Rows.CallKwBuiltin
import PyProof.DelItemList
import PySem.Challenge.RW_fewtimes_k34_tidied
set_option Elab.async false
set_option linter.all false
set_option compiler.extract_closed false
set_option genSizeOf false
set_option bootstrap.genMatcherCode false
set_option maxRecDepth 100000
set_option maxHeartbeats 4000000
open PySem.W (Frag)
open PySem renaming wpAny_bind → b0, Value → e6, Shared → h6, wpAny_pure → h7, sizeLine_eq → h8, sizeLine → p4, wpAny → DJ, starEach → DN, Program → DQ, Paired → E1, World → E4, wpAny_callSpecial?_slot → E6, wpAny_setField_rec → E7, Around → Ea, wpAny_field → Ee, Comprehension → Ef, compareOp → Eg, wpAny_call_entry → Eh, wpAny_seqItems → Ei, sysModules → Em, wpAny_holding → Et, mainGlobals → Ez, wpAny_newObj_type → EA, mem_of_lookup → EJ, swappedStores → EK, binaryOp → EL, wpAny_pyIter_tuple → EM, wpAny_pyIter_list → EU, sliceBounds → EY, assignEach → F5, wpAny_isInstance → F7, cLine → F8, wpAny_truthy_bool → Fc, foldedSetIterable → Fd, cellsFrom → Fe, wpAny_loadPart' → Fh, bootBuiltins → Fj, wpAny_rule → Fn, wpAny_passesOwn → Fs, swapsWithSole → Fy, IsPair → FC, wpAny_attempt → FE, Builtin → FH, NameKind → FJ, wpAny_mono → FO, wpAny_Call_Name_kw → FQ, tupleKind_room_in1 → FT, codeAny_builtin → FY, wpAny_standAt → G0, plainId_quiet → G2, backTo → G3, pyNext → G4, FuncData → Gb, wpAny_letGo → Gf, wpAny_tryCatch → Gg, codeAny → Gk, wpAny_forIn_list → Gm, wpAny_typeOf → Gn, DictEntry → Gq, behindInMarks → Gw, intKind → Gz, tupleKind → GI, swapsWith → GJ, atKey → GL, wpAny_of_eq → GN, standAt → GP, wpAny_dictEntries → GZ, wpAny_updateSeq_pair → Hk, letOwnedTupleGo → Hm, wpAny_specialOf → Hs, codeAny_mono → Hx, storedH → Hy, firstArgMember → HN, wpAny_binaryOp_repeat_ref → HU, getItem → I8, IsZip → I9, rawInt → Ic, wpAny_getItem_list_slice → Ie, wpAny_comprehension_free → Ig, wpAny_onRaise → Ih, noFill_tuple_add → Io, wpAny_Dict_empty → Ip, seqItems? → Ir, setItem → IG, wpAny_pyNext_list_item → IH, IsPart → IJ, typeIs_int → IM, Keyword → IP, call_meets → IS, IsEnum → IU, wpAny_execs_nil → IZ, pushCells_keeps → J3, wpAny_ite_false → J4, wpAny_updateSeq → J7, wpAny_pyNext_list_end → J9, isSubtype_tuple_tuple → Ja, builtinLookup_eq_fast → Jc, pyIter → Jg, newFunctionEnv → Jm, ZipApart → Jn, isSubtype_stop → Jo, carriedByValue → Jr, isSubtype_type → Jt, callerA → JE, valueAt → JF, eqIsQuiet → JH, assignInOrder → JN, seq_tuple_add → JO, evalPart_none → JP, attributeBase → JR, mroOf_keyiter → JS, foldedForSure → JW, wpAny_getItem_heap → Kd, wpAny_setItem_heap → Ke, PyData → Kg, Operator → Kn, BindsTo → Ks, concat_meets → Ku, wpAny_sequenceKey → Kv, seqIndex_neg → Kw, call_meetsIn → Kz, wpAny_pyIter_enum → KH, eqIsQuiet_byValue → KJ, Result → KZ, slicePick → L4, pushCells → L7, wpAny_pyIter_zip → Lb, IsEnumOut → Lc, entryFor_of_tree → Lf, richCompare → Lp, seqIndex_of → Lq, keywordEach → Lr, wpAny_throw → Lu, builtinsNs → LH, Model → LI, wpAny_Name → LJ, bindName → LK, bindL → LL, bindC → LM, call → LP, reduceHash → LR, argsOk → LV
open Bool renaming and_eq_true → e7, false_ne_true → hB, false_eq_true → Ec, not_eq_true' → EV, not_true → G1, not_eq_true → Hf, false_or → Hi, and_eq_true_iff → Hl, false_and → HH, or_eq_true → J6, and_eq_false_iff → Jd, or_eq_false_iff → JC
open PySem.Heap renaming get?_push_of_some → gV, get?_push_size → hH, lt_size → v5, size_push → ED, SameBut → EG, get?_update_other → EH, get?_update_self → G6, IsTuple → HA, IsList → Jp, get?_push_cases → Jq, ExtBut → Ls
open List renaming getElem?_eq_getElem → hh, getElem?_eq_some_iff → hD, length_map → hG, size_toArray → r3, mem_cons → r4, replicate → DK, getElem?_map → DL, map_cons → DM, length_append → DP, mem_cons_of_mem → DR, filter_cons_of_neg → DS, filter_cons_of_pos → DT, mem_append_right → DU, mem_append → DW, not_mem_nil → DY, mem_of_getElem? → DZ, filter_append → E2, length_cons → E9, mem_cons_self → Eb, length_filter_le → Ed, replicate_succ → El, range → Eo, getD_eq_getElem?_getD → Er, getElem?_append_left → Eu, all_cons → Ex, drop_eq_getElem_cons → EI, any_cons → ES, mem_map → ET, mem_map_of_mem → EW, nodup_cons → EX, find?_cons → EZ, map_append → F1, eraseIdx_eq_take_drop_succ → F4, length_take → F6, getElem?_mapIdx → Fb, flatten_cons → Ff, append_nil → Fg, lookup_cons → Fm, getElem?_append_right → Fo, append_assoc → Ft, length_range → Fv, map_map → Fx, filterMap_cons_none → FF, filterMap_cons_some → FG, map_congr_left → FI, length_eq_zero_iff → FK, getElem?_set_self → FN, find?_cons_of_neg → FU, length_nil → FV, take_append_drop → G8, reverse_cons → G9, map → Gi, zipWith → Gr, all_eq_true → Gs, any_eq_true → Gu, mem_filter → GA, forIn_cons → GC, getElem?_drop → GG, getElem?_cons_succ → GO, map_nil → GW, find?_cons_of_pos → H0, ext_getElem? → H8, take_of_length_le → H9, length_singleton → Ha, length_drop → Hd, getElem?_set_ne → Hj, foldl_cons → Hn, filterMap_cons → Hu, getElem?_range → Hw, getElem?_eq_none_iff → HV, nodup_append → Ia, flatMap_cons → Ib, map_take → Ik, map_drop → Il, getElem?_replicate → Im, drop_length → Iy, getElem_mem → IB, getElem?_cons_zero → IC, of_mem_zip → J0, nil_append → J1, append_inj → J8, getElem?_zipWith → Jb, mem_range → Je, mem_append_left → Jf, length → Jj, mem_iff_getElem → Js, take_succ → Ju, getElem?_of_mem → Jy, zip_eq_zipWith → JM, mem_filterMap → K2, zip_cons_cons → K7, filterMap_map → K8, foldl → Kb, set_cons_zero → Kj, set_cons_succ → Kk, mem_replicate → Kl, foldl_append → KO, filter_cons → L6, zipIdx_cons → L8, range'_succ → Lh, map_zipWith → Ll, cons_append → Lm, zipIdx_nil → LB, mem_mapIdx → LD, map_const' → LF
open Nat renaming le_refl → hQ, lt_of_lt_of_le → DV, ne_of_lt → E3, le_trans → Ej, lt_irrefl → EE, zero_le → EN, ne_of_gt → FP, min_eq_left → FX, le_of_lt → Gj, succ_mul → Gp, lt_or_ge → HB, add_assoc → Ii, succ_le_succ → Iw, le_mul_of_pos_right → IA, le_mul_of_pos_left → IW, mul_le_mul_right → JB, lt_succ_of_lt → KA, lt_trichotomy → KS, lt_succ_self → Ld, div_eq_of_lt → Le, not_lt → LQ
open PySem.W renaming mg_of → DO, kia_one → EF, fnOf → FR, keepIn → Gc, kitx_list → GQ, kitx_dict → GR, cellsFrom_some → GS, nsIn → GY, codeIn → HJ, methodObj → I0, instObj → IY, OpenLaw → J2, lookIn → Jh, kitAny → Jv, kitx_float → K5, kitx_tuple → K6, kitx_none → Ko, kitx_bool → Kq, plainGet → KU, kitx_int → KW, kitx_str → KY
open PySem.NameKind renaming free → DX, cell → F9
open Int renaming toNat_natCast → E5, eq_ofNat_of_zero_le → Es, emod_lt_of_pos → GH, emod_nonneg → Ht, natCast_mul → LC
open PySem.Value renaming ref → E8, none → Ga, int → Hc, type → HE, isInt → HY, isInt_shape → HZ, bool → IF, notImplemented → Jk, str → JD, float → Ln
open PySem.Str renaming ofString → Ek
open PySem.PyData renaming eqv → Ep, eqvAll → Ey, depthAll → Fi, canLayAll0 → Fu, int → GF, depth → GX, list → Lv
open PySem.Builtin.Tuple renaming tupleHashOf → Ew, tupleExact → FA, tupleItemsOf → Gd, tupleIsExact → HM, tupleTooMany → HQ
open Option renaming some → EB, map_eq_some_iff → Fk, isSome_iff_exists → Fz, map_some → GD, bind_some → Hg, getD_some → Iz, isSome_some → Kc, getD_none → L3, join_some → Li, bind_none → Lj, join_none → Lk
open True renaming intro → EC
open PySem.F renaming plain_min_loop → EO, slot_tuple_iterator_next → Fp, slot_enumerate_next → G7, args_tuple_add_2 → Gx, entry_tuple_add → GK, slot_tuple_add → GU, slot_dict_get → Hb, entry_min_loop → Hh, slot_int_rmul → Ho, args_tuple_iterator_next_1 → Hq, slot_zip_next → Hr, entry_tuple_iterator_next → Hz, args_dict_get_3 → Iq, args_enumerate_next_1 → Iu, entry_dict_get → IT, entry_enumerate_next → IV, slot_dict_ne → Jw, args_int_rmul_2 → Kx, args_zip_next_1 → KD, slot_tuple_hash → KI, entry_int_rmul → L5, entry_zip_next → L9, slot_dict_iter → Lg, fills_int_mul → LA
open PyProof.Rows renaming callWith_type1 → ER, Keyed → F0, slot_tuple_getitem → F3, kindOf → G5, IntsAre → GB, assignInOrder_cons → HG, AllBare → I7, seqSlot_of → Iv, subscriptTail_builtinR → IK, envOfC → Ji, pendingOf → JI, entry_tuple_getitem → JJ, subscriptTail → JQ, args_tuple_getitem → K9, assignInOrder_nil → Km, failedOf → KN, IsTup → Lo, Subscript_ → LN, tail_any → LO, SortSt → LS, SortKind → LU
open PySem.Paired renaming length → Fl
open PySem.Builtin.Slice renaming slicePlaces → Fq, sliceAdjust → Gv, sliceApplied → HL
open PySem.Shared renaming heap → FL
open ForInStep renaming yield → FW
open List.cons renaming injEq → FZ
open PySem.Around renaming under_plainId → Gh, in1_handled → Kh
open PySem.Builtin.List renaming listTooLong → Gy, listFitsIndex → HS
open PySem.Obj renaming mapSeq → He, data_mapFields → Kf
open Array renaming length_toList → Hv, forIn_toList → HP, getElem?_eq_getElem → HW, append_assoc → K1
open PySem.Builtin.Builtins renaming bindParams → HC
open PyProof.Rows.IsTup renaming new → HD
open PySem.Calls renaming Name_function_global → HF, spliced_cons → HI, callWith_builtin → IQ, evalArgs_plain → Jl, spliced_nil → Kr
open PySem.SeqAt.EqAt renaming int_int → HK, int_str → JZ, str_int → K0
open PySem.Builtin.Dict_items renaming isOneOf → HR
open PySem.Builtin.Dict renaming dictSlotArgs → HX, samePairs → IX
open PySem.Env renaming blockKind → Ij, kindOf → Ki
open Sum renaming inl → ID, inr → IE
open PySem.SeqAt renaming EqAt → II
open ToString renaming toString → Jx
open PySem.Expr renaming Subscript → Jz, Attribute → JA, Constant → JT, ListComp → JU, UnaryOp → KQ, Compare → KR, BoolOp → Lw, BinOp → LW, IfExp → LX, Tuple → LY, Slice → LZ, Name → Mc, List → Md, Call → Me, Dict → Mf
open And renaming intro → JG
open PySem.Heap.SameBut renaming update → JK
open PySem.Builtin.Int renaming intBits → JL
open PySem.Stmt renaming Continue → JV, Assign → Lx, Delete → Ly, Return → Lz, While → Ma, Break → Mb, Expr → Mg, Pass → Mh
open Function renaming comp → JX
open Sum.inr renaming injEq → JY
open PySem.Heap.IsSliceOf renaming new → Ka
open List.Pairwise renaming nil → Ky
open PySem.Heap.IsTuple renaming push → KG
open Option.some renaming injEq → KL
open MonadExcept renaming tryCatch → KP
open PySem.Heap.IsList renaming push → La
open Iff renaming rfl → LG
namespace L2
open PySem PySem.Spec PyProof.Rows
section
noncomputable abbrev Key:=Sum Int Str
noncomputable def fN:Key->e6->Bool
 | .inl k,v=>HY k v
 | .inr x,v=>Value.isStrOf x v
noncomputable def Cq (w:E4):Key->Int
 | .inl k=>hashInt k
 | .inr x=>hashStr w x
theorem aR:∀ {k:Key} {v:e6},fN k v=true->(∃ i t,k=ID i/\v=Hc i t)∨(∃ x t,k=IE x/\v=JD x t)
 | .inl i,v,h=>by
  obtain ⟨t,e⟩:=HZ (k:=i) (v:=v) h;exact .inl ⟨i,t,rfl,e⟩
 | .inr x,v,h=>by
  obtain ⟨t,e⟩:=Value.isStrOf_shape (x:=x) (v:=v) h;exact .inr ⟨x,t,rfl,e⟩
theorem rF (i:Int) (t:Tok):fN (.inl i) (.int i t)=true:=by simp [fN,HY]
theorem rG (x:Str) (t:Tok):fN (.inr x) (.str x t)=true:=by simp [fN,Value.isStrOf]
theorem zS (a b:Int):decide ((ID a:Key)=ID b)=(a==b):=by
 by_cases e:a=b
 ·subst e;simp
 ·have h : ¬ (ID a:Key)=ID b:=fun q=>e (ID.inj q);rw [decide_eq_false h];exact (beq_eq_false_iff_ne.mpr e).symm
theorem zT (a b:Str):decide ((IE a:Key)=IE b)=decide (a=b):=by
 by_cases e:a=b
 ·subst e;simp
 ·have h : ¬ (IE a:Key)=IE b:=fun q=>e (IE.inj q);rw [decide_eq_false h,decide_eq_false e]
theorem zU (a:Int) (b:Str):decide ((ID a:Key)=IE b)=false:=decide_eq_false (fun q=>nomatch q)
theorem zV (a:Str) (b:Int):decide ((IE a:Key)=ID b)=false:=decide_eq_false (fun q=>nomatch q)
noncomputable def aE (prog:DQ) (w:E4):PySem.KeyKind prog w Key where
 is:=fN
 hash:=Cq w
 inj:=fun v a b ha hb=>by
  rcases aR ha with ⟨i,t,rfl,rfl⟩ | ⟨x,t,rfl,rfl⟩
  ·rcases aR hb with ⟨j,u,rfl,e⟩ | ⟨y,u,rfl,e⟩
   ·injection e with e1 _;rw [e1]
   ·exact nomatch e
  ·rcases aR hb with ⟨j,u,rfl,e⟩ | ⟨y,u,rfl,e⟩
   ·exact nomatch e
   ·injection e with e1 _;rw [e1]
 byValue:=fun k v h=>by
  rcases aR h with ⟨i,t,rfl,rfl⟩ | ⟨x,t,rfl,rfl⟩ <;> rfl
 pyHash:=fun hv h=>by
  rcases aR hv with ⟨i,t,rfl,rfl⟩ | ⟨x,t,rfl,rfl⟩
  ·exact wpAny_pyHash_int h
  ·exact wpAny_pyHash_str h
 eqBool:=fun hu hv h=>by
  rcases aR hu with ⟨i,t,rfl,rfl⟩ | ⟨x,t,rfl,rfl⟩
  ·rcases aR hv with ⟨j,u,rfl,rfl⟩ | ⟨y,u,rfl,rfl⟩
   ·rw [zS] at h;exact wpAny_eqBool_int h
   ·rw [zU] at h;exact JZ i t y u _ _ _ _ h
  ·rcases aR hv with ⟨j,u,rfl,rfl⟩ | ⟨y,u,rfl,rfl⟩
   ·rw [zV] at h;exact K0 x t j u _ _ _ _ h
   ·rw [zT] at h;exact wpAny_eqBool_str h
 «strs» := fun k x t v h=>by
  rcases aR h with ⟨i,u,rfl,e⟩ | ⟨y,u,rfl,e⟩
  ·exact nomatch e
  ·injection e with e1 _
   subst e1
   cases v <;> rfl
theorem og (prog:DQ) (w:E4) (i:Int) (t:Tok):(aE prog w).is (.inl i) (.int i t)=true:=rF i t
theorem oh (prog:DQ) (w:E4) (x:Str) (t:Tok):(aE prog w).is (.inr x) (.str x t)=true:=rG x t
end
section
inductive V where
 | non | bl (b:Bool) | int (i:Int) | str (x:Str) | byt (b:Array UInt8) | flt (b:UInt64) | ref (a:Addr) | ty (n:String)
 deriving DecidableEq
noncomputable def RelV:V->e6->Prop
 | .non,u=>u=Ga
 | .bl b,u=>u=IF b
 | .int i,u => ∃ t,u=Hc i t
 | .str x,u => ∃ t,u=JD x t
 | .byt b,u => ∃ t,u=Value.bytes b t
 | .flt b,u => ∃ t,u=Ln b t
 | .ref a,u=>u=E8 a
 | .ty n,u=>u=HE n
noncomputable abbrev Vals:List V->List e6->Prop:=E1 RelV
theorem Vals.length {xs:List V} {us:List e6} (r:Vals xs us):xs.length=us.length:=Fl r
theorem Vals.get:∀ {xs:List V} {us:List e6} {i:Nat} {x:V},Vals xs us->xs[i]? = some x -> ∃ u,us[i]? = some u/\RelV x u
 | _,_,_,_, .nil,e=>by simp at e
 | _,_,0,_, .cons r _,e=>by simp at e;subst e;exact ⟨_,rfl,r⟩
 | _,_,i+1,x, .cons _ t,e=>by
   obtain ⟨u,h1,h2⟩:=Vals.get (i:=i) (x:=x) t (by simpa using e)
   exact ⟨u,by simpa using h1,h2⟩
theorem Vals.set {x:V} {u:e6} (r:RelV x u):∀ {xs:List V} {us:List e6} (i:Nat),Vals xs us->Vals (xs.set i x) (us.set i u)
 | _,_,_, .nil => .nil
 | _,_,0, .cons _ t => .cons r t
 | _,_,i+1, .cons q t => .cons q (Vals.set r i t)
theorem Vals.append:∀ {xs ys:List V} {us ws:List e6},Vals xs us->Vals ys ws->Vals (xs++ys) (us++ws)
 | _,_,_,_, .nil,s=>s
 | _,_,_,_, .cons r t,s => .cons r (Vals.append t s)
theorem Vals.take:∀ {xs:List V} {us:List e6} (n:Nat),Vals xs us->Vals (xs.take n) (us.take n)
 | _,_,0,_ => .nil
 | _,_,_+1, .nil => .nil
 | _,_,n+1, .cons r t => .cons r (Vals.take n t)
theorem Vals.drop:∀ {xs:List V} {us:List e6} (n:Nat),Vals xs us->Vals (xs.drop n) (us.drop n)
 | _,_,0,r=>r
 | _,_,_+1, .nil => .nil
 | _,_,n+1, .cons _ t=>Vals.drop n t
noncomputable def RelO:Option V->Option e6->Prop
 | some v,some u=>RelV v u
 | none,none=>True
 | _,_=>False
noncomputable def KV {κ:Type}:List (κ × V)->List (κ × e6)->Prop:=E1 fun (p : κ × V) (q : κ × e6)=>p.1=q.1/\RelV p.2 q.2
noncomputable def kV:Key->V
 | .inl i => .int i
 | .inr x => .str x
inductive HO where
 | lst (xs:List V)
 | tup (xs:List V)
 | dK (kvs:List (Key×V)) | dT (kvs:List (List Key×V))
 | set (S:Int->Bool) (n:Nat)
 | ins (C dx:Addr) (fs:List (Str×V))
 | own (x:Addr)
 | xd (fs:List (Str×V))
 | met (f x:Addr)
 | rng (lo hi:Int)
 | frz (o:Obj) (u:HO)
 | tbl (ps:Array e6)
 | ext (φ:Heap->Prop)
noncomputable abbrev Hp:=Addr->Option HO
noncomputable def upd (H:Hp) (a:Addr) (o:HO):Hp:=fun b=>if b=a then some o else H b
theorem ao {H:Hp} {a:Addr} {o:HO}:upd H a o a=some o:=by unfold upd;rw [if_pos rfl]
theorem ah {H:Hp} {a b:Addr} {o:HO} (h:b≠a):upd H a o b=H b:=by unfold upd;rw [if_neg h]
theorem xN {H:Hp} {a:Addr} {o u:HO}:upd (upd H a o) a u=upd H a u:=by
 funext b;unfold upd;split <;> rfl
theorem wY {H:Hp} {a b:Addr} {o u:HO} (h:H a=some o) (h':H b=some u) (d:o≠u):a≠b:=by
 intro e;subst e;rw [h] at h';exact d (EB.inj h')
theorem aS {H:Hp} {a b:Addr} {o:HO} (h:H a=some o) (h':H b=none):a≠b:=by
 intro e;subst e;rw [h] at h';cases h'
section
variable (P:DQ) (w:E4)
noncomputable def ObjOk (H:Hp) (h:Heap) (a:Addr):HO->Prop
 | .lst xs=>xs.length<=p4 /\ ∃ (its:List e6) (n:Nat),Vals xs its/\h.get? a=some { cls := .type "list",data := .seq its.toArray n }
 | .tup xs=>xs.length<=p4 /\ ∃ its:List e6,Vals xs its/\Lo h a its.toArray
 | .dK kvs=>kvs.length<=p4/\(a==Em)=false /\ ∃ vs,KV kvs vs/\h.DictOf (aE P w) a vs
 | .dT kvs=>kvs.length<=p4/\(a==Em)=false /\ ∃ xs:List (List Key×Addr×e6),
  E1 (fun (p:List Key×V) (q:List Key×Addr×e6)=>p.1=q.1/\H q.2.1=some (.tup (p.1.map kV))/\RelV p.2 q.2.2) kvs xs /\
  ∃ o es ep,h.get? a=some o/\o.ExactDict/\o.data = .dict es ep/\es.toList=xs.map (entryOfKey (GI (aE P w)))/\(xs.map (·.1)).Nodup
 | .set S n=>h.SetOf (Gz P w) a S n
 | .ins C dx fs=>H dx=some (.own a)/\fs.length<=1000/\dx≠a/\h.get? a=some (IY C dx) /\
  ∃ mA,h.Ns1 dx mA/\(∀ f,RelO (fs.lookup f) (mA f))/\PySem.Within mA (fs.map (·.1))
 | .own _ => ∃ o,h.get? a=some o
 | .xd fs => ∃ mA,h.Ns1 a mA /\ ∀ f,RelO (fs.lookup f) (mA f)
 | .rng lo hi => ∃ t u v,h.get? a=some { cls := .type "range",data := .fields #[.int lo t, .int hi u, .int 1 v] }
 | .frz o u=>h.get? a=some o/\ObjOk H h a u
 | .tbl ps=>h.get? a=some { cls := .none,data := .fields ps }
 | .met f x=>h.get? a=some (I0 (.ref f) (.ref x))
 | .ext φ => φ h/\(∃ o,h.get? a=some o) /\ ∀ h1 h2:Heap, φ h1->(∀ o,h1.get? a=some o->h2.get? a=some o) -> φ h2
def HOk (H:Hp) (h:Heap):Prop := ∀ a o,H a=some o->ObjOk P w H h a o
end
section
variable {P:DQ} {w:E4} {H H':Hp} {h h':Heap} {a:Addr} {o:HO}
theorem ObjOk.lt (x:ObjOk P w H h a o):a < h.objs.size:=by
 cases o with
 | lst xs=>obtain ⟨_,_,_,_,e⟩:=x;exact v5 e
 | tup xs=>obtain ⟨_,_,_,p⟩:=x;exact p.lt
 | dK kvs=>obtain ⟨_,_,_,_,o,_,_,e,_⟩:=x;exact v5 e
 | dT kvs=>obtain ⟨_,_,_,_,o,_,_,e,_⟩:=x;exact v5 e
 | set S n=>obtain ⟨o,_,_,_,e,_⟩:=x;exact v5 e
 | ins C dx fs=>obtain ⟨_,_,_,e,_⟩:=x;exact v5 e
 | own y=>obtain ⟨_,e⟩:=x;exact v5 e
 | xd fs=>obtain ⟨_,⟨_,_,_,e,_⟩,_⟩:=x;exact v5 e
 | rng lo hi=>obtain ⟨_,_,_,e⟩:=x;exact v5 e
 | frz ob u=>obtain ⟨e,_⟩:=x;exact v5 e
 | tbl ps=>exact v5 (show h.get? a=some _ from x)
 | met f y=>exact v5 (show h.get? a=some _ from x)
 | ext φ => obtain ⟨_,⟨_,e⟩,_⟩:=x;exact v5 e
theorem Mn {α β:Type} {F G : α -> β -> Prop}:∀ {l₁:List α} {l₂:List β},E1 F l₁ l₂ -> (∀ a b,F a b->G a b)->E1 G l₁ l₂
 | _,_, .nil,_ => .nil
 | _,_, .cons r t,f => .cons (f _ _ r) (Mn t f)
theorem ObjOk.stay (x:ObjOk P w H h a o) (k:∀ b u,(b=a∨H b=some (.own a))->h.get? b=some u->h'.get? b=some u)
 (ho:∀ b,H b=some (.own a)->H' b=some (.own a)) (j:∀ b xs,H b=some (.tup xs)->H' b=some (.tup xs)):ObjOk P w H' h' a o:=by
 induction o with
 | lst xs=>obtain ⟨z,its,n,r,e⟩:=x;exact ⟨z,its,n,r,k _ _ (.inl rfl) e⟩
 | tup xs=>obtain ⟨z,its,r,ob,e,c⟩:=x;exact ⟨z,its,r,ob,k _ _ (.inl rfl) e,c⟩
 | dK kvs=>obtain ⟨z,y,vs,r,ob,es,ep,e,c⟩:=x;exact ⟨z,y,vs,r,ob,es,ep,k _ _ (.inl rfl) e,c⟩
 | dT kvs =>
   obtain ⟨z,y,xs,r,ob,es,ep,e,c⟩:=x;exact ⟨z,y,xs,Mn r fun p q z=>⟨z.1,j _ _ z.2.1,z.2.2⟩,ob,es,ep,k _ _ (.inl rfl) e,c⟩
 | set S n=>obtain ⟨ob,es,ep,t,e,c⟩:=x;exact ⟨ob,es,ep,t,k _ _ (.inl rfl) e,c⟩
 | ins C dx fs =>
   obtain ⟨d,z,ne,e,mA,⟨od,es,ep,B,c⟩,r⟩:=x;exact ⟨ho _ d,z,ne,k _ _ (.inl rfl) e,mA,⟨od,es,ep,k _ _ (.inr d) B,c⟩,r⟩
 | own y=>obtain ⟨ob,e⟩:=x;exact ⟨ob,k _ _ (.inl rfl) e⟩
 | xd fs=>obtain ⟨mA,⟨od,es,ep,e,c⟩,r⟩:=x;exact ⟨mA,⟨od,es,ep,k _ _ (.inl rfl) e,c⟩,r⟩
 | rng lo hi=>obtain ⟨t,u,v,e⟩:=x;exact ⟨t,u,v,k _ _ (.inl rfl) e⟩
 | frz ob u ih=>obtain ⟨e,q⟩:=x;exact ⟨k _ _ (.inl rfl) e,ih q⟩
 | tbl ps =>
   have e:h.get? a=some { cls := .none,data := .fields ps }:=x;show h'.get? a=some { cls := .none,data := .fields ps };exact k a _ (.inl rfl) e
 | met f y =>
   have e:h.get? a=some (I0 (.ref f) (.ref y)):=x;show h'.get? a=some (I0 (.ref f) (.ref y));exact k a _ (.inl rfl) e
 | ext φ => obtain ⟨p,⟨o,e⟩,st⟩:=x;exact ⟨st _ _ p fun o q=>k _ _ (.inl rfl) q,⟨o,k _ _ (.inl rfl) e⟩,st⟩
theorem HOk.lt (x:HOk P w H h) (e:H a=some o):a < h.objs.size:=(x a o e).lt
theorem HOk.fresh (x:HOk P w H h) (e:h.objs.size<=a):H a=none:=by
 cases q:H a with
 | none=>rfl
 | some u=>exact absurd (DV (x.lt q) e) (EE _)
theorem HOk.kept (x:HOk P w H h) (k:∀ b u,h.get? b=some u->h'.get? b=some u):HOk P w H h':=fun a o e =>
 (x a o e).stay (fun b u _ q=>k b u q) (fun _ q=>q) fun _ _ q=>q
theorem HOk.laid (x:HOk P w H h) (k:∀ b u,h.get? b=some u->h'.get? b=some u) (z:h.objs.size<=a) (new:ObjOk P w (upd H a o) h' a o):HOk P w (upd H a o) h':=fun b u e=>by
 have j:=x.fresh z
 by_cases hb:b=a
 ·subst hb;rw [ao] at e;cases e;exact new
 ·rw [ah hb] at e;exact (x b u e).stay (fun c v _ q=>k c v q) (fun c q=>by rw [ah (aS q j)];exact q) fun c xs q=>by rw [ah (aS q j)];exact q
end
def Rd (H:Hp) (a:Addr) (u:HO):Prop:=H a=some u ∨ ∃ o,H a=some (.frz o u)
theorem Rd.of {H:Hp} {a:Addr} {u:HO} (h:H a=some u):Rd H a u := .inl h
theorem Rd.ok {P:DQ} {w:E4} {H:Hp} {h:Heap} {a:Addr} {u:HO} (r:Rd H a u) (x:HOk P w H h):ObjOk P w H h a u:=by
 rcases r with r | ⟨o,r⟩
 ·exact x a u r
 ·obtain ⟨_,q⟩:=x a _ r;exact q
noncomputable def Mut:Option HO->Prop
 | some (.lst _)=>True
 | some (.dK _)=>True
 | some (.dT _)=>True
 | some (.set _ _)=>True
 | some (.ins _ _ _)=>True
 | some (.ext _)=>True
 | _=>False
section
variable {P:DQ} {w:E4} {H:Hp} {h h':Heap} {x e:Addr} {o':HO}
theorem HOk.write (ok:HOk P w H h) (mu:Mut (H x)) (he:e=x∨H e=some (.own x)) (k:∀ b u,b≠e->h.get? b=some u->h'.get? b=some u) (F:∃ u,h'.get? e=some u)
 (new:ObjOk P w (upd H x o') h' x o'):HOk P w (upd H x o') h':=fun b u q=>by
 have nown:∀ c y,H c=some (.own y)->c≠x:=fun c y r z=>by subst z;rw [r] at mu;exact mu
 have ntup:∀ c xs,H c=some (.tup xs)->c≠x:=fun c xs r z=>by subst z;rw [r] at mu;exact mu
 by_cases hb:b=x
 ·subst hb;rw [ao] at q;cases q;exact new
 ·rw [ah hb] at q
  by_cases j:b=e
  ·have q':H b=some (.own x):=by
    rcases he with z | z
    ·exact absurd (j.trans z) hb
    ·rw [j];exact z
   rw [q] at q';cases q';obtain ⟨v,G⟩:=F;exact ⟨v,by rw [j];exact G⟩
  ·refine (ok b u q).stay (fun c v B r=>k c v ?_ r) (fun c r=>by rw [ah (nown c b r)];exact r) fun c xs r=>by rw [ah (ntup c xs r)];exact r
   rcases B with rfl | B
   ·exact j
   ·rintro rfl
    rcases he with z | z
    ·exact nown c b B z
    ·rw [B] at z;cases z;exact hb rfl
end
structure Un (fs ex:List Addr) (H H':Hp) (h h':Heap):Prop where
 keep:∀ b o,h.get? b=some o->H b=none->b∉fs->b∉ex->h'.get? b=some o
 slot:∀ b o,h.get? b=some o->H b=none->b∈fs->b∉ex -> ∃ sl,h'.get? b=some { o with slots:=sl }
 free:∀ b o,h.get? b=some o->H b=none->b∉ex->H' b=none
 there:∀ b o,h.get? b=some o->b∉ex -> ∃ o',h'.get? b=some o'
 tups:∀ b xs,H b=some (.tup xs)->H' b=some (.tup xs)
 frzs:∀ b o u,H b=some (.frz o u)->H' b=some (.frz o u)
 tbls:∀ b ps,H b=some (.tbl ps) -> ∃ more,H' b=some (.tbl (ps++more))
section
variable {fs fs' ex ex':List Addr} {H H1 H2:Hp} {h h1 h2 h':Heap} {a x e:Addr} {o:HO}
theorem Un.any (u:Un fs ex H H1 h h1) {b:Addr} {ob:Obj} (q:h.get? b=some ob) (n:H b=none) (hx:b∉ex):∃ sl,h1.get? b=some { ob with slots:=sl }:=by
 by_cases j:b∈fs
 ·exact u.slot b ob q n j hx
 ·exact ⟨ob.slots,u.keep b ob q n j hx⟩
theorem Un.trans (a:Un fs ex H H1 h h1) (b:Un fs ex H1 H2 h1 h2):Un fs ex H H2 h h2 where
 keep:=fun c ob q n z hx=>b.keep c ob (a.keep c ob q n z hx) (a.free c ob q n hx) z hx
 slot:=fun c ob q n z hx=>by
  obtain ⟨sl,j⟩:=a.slot c ob q n z hx;obtain ⟨sl',B⟩:=b.slot c _ j (a.free c ob q n hx) z hx;exact ⟨sl',B⟩
 free:=fun c ob q n hx=>by
  obtain ⟨o',j⟩:=a.there c ob q hx;exact b.free c o' j (a.free c ob q n hx) hx
 there:=fun c ob q hx=>by
  obtain ⟨o',j⟩:=a.there c ob q hx;exact b.there c o' j hx
 tups:=fun c xs q=>b.tups c xs (a.tups c xs q)
 frzs:=fun c ob xs q=>b.frzs c ob xs (a.frzs c ob xs q)
 tbls:=fun c ps q=>by
  obtain ⟨F,j⟩:=a.tbls c ps q;obtain ⟨G,B⟩:=b.tbls c _ j;exact ⟨F++G,by rw [B,K1]⟩
theorem Un.kept (k:∀ b u,h.get? b=some u->h'.get? b=some u):Un fs ex H H h h' :=
 ⟨fun b ob q _ _ _=>k b ob q,fun b ob q _ _ _=>⟨ob.slots,k b ob q⟩,fun _ _ _ n _=>n,fun b ob q _=>⟨ob,k b ob q⟩,fun _ _ q=>q,fun _ _ _ q=>q,fun _ ps q=>⟨#[],by rw [q];simp⟩⟩
theorem Un.refl:Un fs ex H H h h:=Un.kept fun _ _ q=>q
theorem Un.laid (k:∀ b u,h.get? b=some u->h'.get? b=some u) (z:h.objs.size<=a) (j:H a=none):Un fs ex H (upd H a o) h h' where
 keep:=fun b u q _ _ _=>k b u q
 slot:=fun b u q _ _ _=>⟨u.slots,k b u q⟩
 free:=fun b u q n _=>by rw [ah (E3 (DV (v5 q) z))];exact n
 there:=fun b u q _=>⟨u,k b u q⟩
 tups:=fun b xs q=>by rw [ah (aS q j)];exact q
 frzs:=fun b u xs q=>by rw [ah (aS q j)];exact q
 tbls:=fun b ps q=>⟨#[],by rw [ah (aS q j),q];simp⟩
theorem Un.write (mu:Mut (H x)) (he:e=x∨H e=some (.own x)) (k:∀ b u,b≠e->h.get? b=some u->h'.get? b=some u) (B:∃ u,h'.get? e=some u):Un fs ex H (upd H x o) h h':=by
 have hx:∀ b,H b=none->b≠x:=fun b n z=>by subst z;rw [n] at mu;exact mu
 have F:∀ b,H b=none->b≠e:=fun b n z=>by
  subst z
  rcases he with r | r
  ·exact hx b n r
  ·rw [n] at r;cases r
 have hm:∀ b u,H b=some u -> ¬ Mut (some u)->b≠x:=fun b u q nm z=>by subst z;rw [q] at mu;exact nm mu
 refine ⟨fun b u q n _ _=>k b u (F b n) q,fun b u q n _ _=>⟨u.slots,k b u (F b n) q⟩,fun b u q n _=>by rw [ah (hx b n)];exact n,fun b u q _ => ?_,
  fun b xs q=>by rw [ah (hm b _ q fun z=>z)];exact q,fun b u xs q=>by rw [ah (hm b _ q fun z=>z)];exact q,fun b ps q=>⟨#[],by rw [ah (hm b _ q fun z=>z),q];simp⟩⟩
 by_cases j:b=e
 ·subst j;exact B
 ·exact ⟨u,k b u j q⟩
end
noncomputable def trk (h:Heap) (H:Hp):List Addr:=(Eo h.objs.size).filter fun a=>(H a).isSome
noncomputable def ef (h:Heap) (H:Hp):Heap:=PySem.W.hideAll h (trk h H)
theorem rH (h:Heap) (H:Hp):(ef h H).objs.size=h.objs.size:=PySem.W.hideAll_size _ _
theorem uG {h:Heap} {H:Hp} {b:Addr} {o:Obj} (e:h.get? b=some o) (n:H b=none):(ef h H).get? b=some o :=
 PySem.W.hideAll_get _ e fun hm=>by
  have q:(H b).isSome=true:=(GA.mp hm).2;rw [n] at q;simp at q
theorem xO {h:Heap} {H:Hp} {b:Addr} {o:Obj} (e:(ef h H).get? b=some o):h.get? b=some o/\H b=none:=by
 have e':h.get? b=some o:=PySem.W.of_hideAll (trk h H) e;refine ⟨e', ?_⟩
 cases q:H b with
 | none=>rfl
 | some x =>
   have hm:b∈trk h H:=GA.mpr ⟨Je.mpr (v5 e'),by simp [q]⟩
   have z:(ef h H).get? b=none:=PySem.W.hideAll_none (trk h H) hm;rw [z] at e;cases e
noncomputable def xP (g h:Heap) (L:Addr):List (Addr×Obj):=(Eo h.objs.size).filterMap fun a=>if a=L∨(g.get? a).isSome=true then none else (h.get? a).map fun o=>(a,o)
noncomputable def rest (g h:Heap) (L d:Addr):List (Addr×Obj):=(xP g h L).filter fun p=>decide (p.1≠d)
end
section
structure Mod (K:Frag) (mg:Str->Option e6) (base:Heap):Prop where
 kin:K.In base
 glob:base.Ns Ez mg
 blt:∃ mb,base.Ns LH mb /\ ∀ x:Str,x ≠ "__name__" -> mb x=Fj x
 nolimit:base.NoLimit
structure Cx where
 prog:DQ
 w:E4
 K:Frag
 mg:Str->Option e6
 base:Heap
 A:Ea
 N:List Str
 s₀:h6
 H₀:Hp
 env:Env
 outer:List Env
 stack:List Env
 ex:List Addr
 fn:Str->Bool
 calm:Bool
 pn:List (Addr×Obj)
 xe:e6->h6->Prop
noncomputable def frs (l:List Env):List Addr:=l.filterMap (·.frame)
noncomputable abbrev Cx.fs (X:Cx):List Addr:=frs X.outer
def Vis (sc:Scope) (x:Str):Prop:=sc.names.lookup x=some .local∨sc.names.lookup x=some .cell∨sc.names.lookup x=some .free
def Loc (sc:Scope) (x:Str):Prop:=sc.names.lookup x=some .local∨sc.names.lookup x=some .cell
def Cr (env:Env) (h:Heap) (m:Str->Option e6) (x:Str) (u:e6):Prop :=
 (env.kindOf x=some .local/\m x=some u)∨((env.kindOf x=some .cell∨env.kindOf x=some .free) /\ ∃ c,env.cells.lookup x=some c/\h.IsCell c (some u))
structure Cx.Ok (X:Cx):Prop where
 mod:Mod X.K X.mg X.base
 kind:X.env.scope.kind = .function
 glob:X.env.globals=Ez
 blt:X.env.builtins=LH
 above:X.s₀.heap.objs.size<=X.env.locals
 inj:∀ x y c,X.env.cells.lookup x=some c->X.env.cells.lookup y=some c->x=y
 has:∀ x,(X.env.kindOf x=some .cell∨X.env.kindOf x=some .free) -> ∃ c,X.env.cells.lookup x=some c
 cab:∀ x c,X.fn x=true->X.env.cells.lookup x=some c->X.s₀.heap.objs.size<=c
 hd:X.calm=true->X.A.handled=none
 frames:X.A.frames=some X.stack
 stk:X.stack=X.outer∨(X.stack=X.env::X.outer/\X.env.frame=some X.env.locals)
 exf:∀ b∈X.ex,b≠X.env.locals /\ ∀ x c,X.env.cells.lookup x=some c->c≠b
 bs:∀ b o,X.base.get? b=some o->X.s₀.heap.get? b=some o/\X.H₀ b=none
 bsz:X.base.objs.size<=X.s₀.heap.objs.size
 noex:∀ b o,X.base.get? b=some o->b∉X.ex
 exfs:∀ b∈X.ex,b∉X.fs
 funs:X.s₀.heap.FunFrames X.base X.outer
 frf:∀ b∈X.fs,X.H₀ b=none
structure Inv (X:Cx) (pins:List (Addr×Obj)) (σ:List (Option V)) (H:Hp) (s:h6):Prop where
 ok:X.Ok
 os:s.os=X.s₀.os
 bare:I7 s.gens
 base:Un X.fs X.ex X.H₀ H X.s₀.heap s.heap
 loc:∃ m,s.heap.Ns X.env.locals m /\ ∀ (i:Nat) (x:Str) (v:V),X.N[i]? = some x -> σ[i]? = some (some v)->Vis X.env.scope x -> ∃ u,RelV v u/\Cr X.env s.heap m x u
 cell:∀ x c,X.env.cells.lookup x=some c -> ∃ v,s.heap.IsCell c v
 free:H X.env.locals=none
 freeC:∀ x c,X.env.cells.lookup x=some c->H c=none
 pin:∀ p∈X.pn++pins,s.heap.get? p.1=some p.2/\H p.1=none/\p.1≠X.env.locals/\p.1∉X.fs /\ ∀ v,p.2.data ≠ .cell v
 hok:HOk X.prog X.w H s.heap
 len : σ.length=X.N.length
section
variable {X:Cx} {pins:List (Addr×Obj)} {σ:List (Option V)} {H H':Hp} {s:h6} {h':Heap}
theorem Cx.Ok.nofr (ok:X.Ok) {b:Addr} {o:Obj} (e:X.base.get? b=some o):b∉X.fs:=fun j=>by
 have:=(ok.funs.mem j).1;rw [e] at this;cases this
theorem Inv.bs (I:Inv X pins σ H s):∀ b o,X.base.get? b=some o->s.heap.get? b=some o/\H b=none:=fun b o e =>
 ⟨I.base.keep b o (I.ok.bs b o e).1 (I.ok.bs b o e).2 (I.ok.nofr e) (I.ok.noex b o e),I.base.free b o (I.ok.bs b o e).1 (I.ok.bs b o e).2 (I.ok.noex b o e)⟩
theorem Inv.bk (I:Inv X pins σ H s):∀ b o,X.base.get? b=some o->s.heap.get? b=some o:=fun b o e=>(I.bs b o e).1
theorem Inv.mod (I:Inv X pins σ H s):Mod X.K X.mg X.base:=I.ok.mod
theorem Inv.kIn (I:Inv X pins σ H s):X.K.In s.heap:=I.ok.mod.kin.keeps I.bk
theorem Inv.lt (I:Inv X pins σ H s):X.env.locals < s.heap.objs.size:=let ⟨_,j,_⟩:=I.loc;j.lt
theorem Inv.sz (I:Inv X pins σ H s):X.s₀.heap.objs.size<=s.heap.objs.size:=Ej I.ok.above (Gj I.lt)
theorem Inv.nofs (I:Inv X pins σ H s) {a:Addr} (h:s.heap.objs.size<=a):a∉X.fs:=fun j=>by
 obtain ⟨_,o,ho,_⟩:=I.ok.funs.mem j;exact absurd (DV (v5 ho) (Ej I.sz h)) (EE _)
theorem Inv.cne (I:Inv X pins σ H s):∀ x c,X.env.cells.lookup x=some c->c≠X.env.locals:=fun x c e z=>by
 obtain ⟨v,o,ho,hd⟩:=I.cell x c e;obtain ⟨m,⟨o',es,ep,j,q,_⟩,_⟩:=I.loc;rw [z,j] at ho;cases ho;rw [q] at hd;cases hd
theorem Inv.funs (I:Inv X pins σ H s):s.heap.FunFrames X.base X.outer:=by
 have all:∀ (l:List Env),(∀ b∈frs l,b∈X.fs)->X.s₀.heap.FunFrames X.base l->s.heap.FunFrames X.base l:=by
  intro l
  induction l with
  | nil=>intro _ _;trivial
  | cons env r ih =>
    intro B F;obtain ⟨G,⟨L,o,hf,J,ho,hd⟩,O⟩:=F;have j:L∈X.fs:=B L (by unfold frs;rw [Hu,hf];exact Eb)
    obtain ⟨sl,e⟩:=I.base.slot L o ho (I.ok.frf L j) j fun z=>I.ok.exfs L z j;exact ⟨G,⟨L,_,hf,J,e,hd⟩,ih (fun b q=>B b (by unfold frs;rw [Hu,hf];exact DR _ q)) O⟩
 exact all X.outer (fun _ q=>q) I.ok.funs
theorem Inv.stack (I:Inv X pins σ H s):s.heap.FunFrames X.base X.stack:=by
 rcases I.ok.stk with e | ⟨e,hf⟩
 ·rw [e];exact I.funs
 ·rw [e];obtain ⟨m,j,_⟩:=I.loc;refine .cons (by rw [I.ok.kind];decide) hf j ?_ I.funs
  exact Heap.get?_none_of_le (Ej I.ok.bsz I.ok.above)
theorem Inv.stkSub (I:Inv X pins σ H s):∀ b∈frs X.stack,b∈X.env.locals::X.fs:=fun b j=>by
 rcases I.ok.stk with e | ⟨e,hf⟩
 ·rw [e] at j;exact DR _ j
 ·rw [e] at j;unfold frs at j;rw [Hu,hf] at j;exact j
theorem Inv.stkFree (I:Inv X pins σ H s):∀ b∈frs X.stack,H b=none:=fun b j=>by
 rcases r4.mp (I.stkSub b j) with e | j
 ·rw [e];exact I.free
 ·obtain ⟨_,o,ho,_⟩:=I.ok.funs.mem j;exact I.base.free b o ho (I.ok.frf b j) fun z=>I.ok.exfs b z j
theorem Inv.step {g':Array GenState} {t':Nat} {d':Drawn} {ch:List Addr} (I:Inv X pins σ H s)
 (j:∀ b∈ch,(b∈X.ex∨X.s₀.heap.objs.size<=b)/\b≠X.env.locals/\(∀ x c,X.env.cells.lookup x=some c->c≠b) /\ ∀ p∈X.pn++pins,p.1≠b)
 (keep:∀ b o,b≠X.env.locals->b∉X.fs->b∉ch->s.heap.get? b=some o->H b=none->h'.get? b=some o)
 (slot:∀ b o,b≠X.env.locals->b∈X.fs->b∉ch->s.heap.get? b=some o->H b=none -> ∃ sl,h'.get? b=some { o with slots:=sl }) (free:∀ b o,b∉ch->s.heap.get? b=some o->H b=none->H' b=none)
 (there:∀ b o,b∉ch->s.heap.get? b=some o -> ∃ o',h'.get? b=some o')
 (tups:∀ b xs,H b=some (.tup xs)->H' b=some (.tup xs)) (frzs:∀ b o u,H b=some (.frz o u)->H' b=some (.frz o u)) (tbls:∀ b ps,H b=some (.tbl ps) -> ∃ more,H' b=some (.tbl (ps++more)))
 (ns:∀ m,s.heap.Ns X.env.locals m->h'.Ns X.env.locals m) (hok:HOk X.prog X.w H' h') (O:I7 g') :
 Inv X pins σ H' { s with heap:=h',gens:=g',drawn:=d',toks:=t' }:=by
 have neL:∀ b o,X.s₀.heap.get? b=some o->b≠X.env.locals:=fun b o e=>E3 (DV (v5 e) I.ok.above);have neC:∀ b o,X.s₀.heap.get? b=some o->b∉X.ex->b∉ch:=fun b o e hx F=>by
  rcases (j b F).1 with z | z
  ·exact hx z
  ·exact absurd (DV (v5 e) z) (EE _)
 have cellK:∀ x c,X.env.cells.lookup x=some c -> ∀ v,s.heap.IsCell c v->h'.IsCell c v:=fun x c e v ⟨o,ho,hd⟩=>by
  have nch:c∉ch:=fun z=>(j c z).2.2.1 x c e rfl
  by_cases J:c∈X.fs
  ·obtain ⟨sl,q⟩:=slot c o (I.cne x c e) J nch ho (I.freeC x c e);exact ⟨_,q,hd⟩
  ·exact ⟨o,keep c o (I.cne x c e) J nch ho (I.freeC x c e),hd⟩
 refine ⟨I.ok,I.os,O,⟨fun b o e n F hx => ?_,fun b o e n F hx => ?_,fun b o e n hx => ?_,fun b o e hx => ?_,fun b xs e=>tups b xs (I.base.tups b xs e),fun b o xs e=>frzs b o xs (I.base.frzs b o xs e),fun b ps e => ?_⟩, ?_,fun x c e => ?_, ?_,fun x c e => ?_,fun p L => ?_,hok,I.len⟩
 ·exact keep b o (neL b o e) F (neC b o e hx) (I.base.keep b o e n F hx) (I.base.free b o e n hx)
 ·obtain ⟨sl,B⟩:=I.base.slot b o e n F hx;obtain ⟨sl',G⟩:=slot b _ (neL b o e) F (neC b o e hx) B (I.base.free b o e n hx);exact ⟨sl',G⟩
 ·obtain ⟨o',B⟩:=I.base.there b o e hx;exact free b o' (neC b o e hx) B (I.base.free b o e n hx)
 ·obtain ⟨o',B⟩:=I.base.there b o e hx;exact there b o' (neC b o e hx) B
 ·obtain ⟨U,B⟩:=I.base.tbls b ps e;obtain ⟨Y,G⟩:=tbls b _ B;exact ⟨U++Y,by rw [G,K1]⟩
 ·obtain ⟨m,Z,hl⟩:=I.loc;refine ⟨m,ns m Z,fun i x v B G e3 => ?_⟩;obtain ⟨u,r,l⟩:=hl i x v B G e3;refine ⟨u,r, ?_⟩
  rcases l with l | ⟨k,c,e,z⟩
  ·exact .inl l
  ·exact .inr ⟨k,c,e,cellK x c e _ z⟩
 ·obtain ⟨v,z⟩:=I.cell x c e;exact ⟨v,cellK x c e v z⟩
 ·obtain ⟨m,⟨o,_,_,ho,_⟩,_⟩:=I.loc;exact free _ o (fun z=>(j _ z).2.1 rfl) ho I.free
 ·obtain ⟨v,o,ho,hd⟩:=I.cell x c e;exact free c o (fun z=>(j c z).2.2.1 x c e rfl) ho (I.freeC x c e)
 ·obtain ⟨e,n,ne,nf,d⟩:=I.pin p L;have nch:p.1∉ch:=fun z=>(j p.1 z).2.2.2 p L rfl;exact ⟨keep p.1 p.2 ne nf nch e n,free p.1 p.2 nch e n,ne,nf,d⟩
theorem Inv.un {t':Nat} (I:Inv X pins σ H s) (u:Un X.fs [] H H' s.heap h') (hok:HOk X.prog X.w H' h'):Inv X pins σ H' { s with heap:=h',toks:=t' }:=by
 obtain ⟨m,⟨o,es,ep,ho,r⟩,_⟩:=id I.loc;obtain ⟨sl,B⟩:=u.any ho I.free (by simp)
 exact I.step (g':=s.gens) (d':=s.drawn) (ch := []) (fun _ z=>nomatch z) (fun b o _ q _ e n=>u.keep b o e n q (by simp)) (fun b o _ q _ e n=>u.slot b o e n q (by simp)) (fun b o _ e n=>u.free b o e n (by simp)) (fun b o _ e=>u.there b o e (by simp)) u.tups u.frzs u.tbls (fun m' hm=>by
  obtain ⟨o',es',ep',j,r'⟩:=hm;rw [ho] at j;cases j;exact ⟨_,es',ep',B,r'⟩) hok I.bare
theorem Inv.call {g':Array GenState} {t':Nat} {d':Drawn} {ch:List Addr} (I:Inv X pins σ H s) (u:Un (frs X.stack) ch H H' s.heap h') (hok:HOk X.prog X.w H' h') (G:I7 g')
 (q:∀ b∈ch,(b∈X.ex∨X.s₀.heap.objs.size<=b)/\b≠X.env.locals/\(∀ x c,X.env.cells.lookup x=some c->c≠b) /\ ∀ p∈X.pn++pins,p.1≠b) :
 Inv X pins σ H' { s with heap:=h',gens:=g',drawn:=d',toks:=t' }:=by
 obtain ⟨m,⟨o,es,ep,ho,r⟩,_⟩:=id I.loc;obtain ⟨sl,F⟩:=u.any ho I.free fun z=>(q _ z).2.1 rfl;exact I.step (ch:=ch) q (fun b o F J j e n=>u.keep b o e n (fun z=>(r4.mp (I.stkSub b z)).elim F J) j) (fun b o _ _ j e n=>u.any e n j) (fun b o j e n=>u.free b o e n j) (fun b o j e=>u.there b o e j) u.tups u.frzs u.tbls (fun m' hm=>by
  obtain ⟨o',es',ep',B,r'⟩:=hm;rw [ho] at B;cases B;exact ⟨_,es',ep',F,r'⟩) hok G
theorem Inv.turned {t':Nat} {it:Addr} (I:Inv X pins σ H s) (k:∀ b o,b≠it->s.heap.get? b=some o->h'.get? b=some o) (F:H it=none) (B:it≠X.env.locals)
 (h1:it∈X.ex∨X.s₀.heap.objs.size<=it) (h2:∀ x c,X.env.cells.lookup x=some c->c≠it) (G:∀ p∈X.pn++pins,p.1≠it):Inv X pins σ H { s with heap:=h',toks:=t' }:=by
 have nit:∀ b u,H b=some u->b≠it:=fun b u e z=>by rw [z,F] at e;cases e
 refine I.step (g':=s.gens) (d':=s.drawn) (ch := [it]) (fun b J => ?_) (fun b o _ _ j e _=>k b o (fun z=>j (by simp [z])) e) (fun b o _ _ j e _=>⟨o.slots,k b o (fun z=>j (by simp [z])) e⟩) (fun _ _ _ _ n=>n)
  (fun b o j e=>⟨o,k b o (fun z=>j (by simp [z])) e⟩) (fun _ _ e=>e) (fun _ _ _ e=>e) (fun b ps e=>⟨#[],by rw [e];simp⟩) (fun m hm => ?_) (fun b u e => ?_) I.bare
 ·have e:b=it:=by simpa using J
  subst e;exact ⟨h1,B,h2,G⟩
 ·obtain ⟨o,es,ep,ho,r⟩:=hm;exact ⟨o,es,ep,k _ o (Ne.symm B) ho,r⟩
 ·refine (I.hok b u e).stay (fun c v j q=>k c v ?_ q) (fun _ q=>q) fun _ _ q=>q
  rcases j with z | z
  ·rw [z];exact nit b u e
  ·exact nit c _ z
theorem Inv.tok (I:Inv X pins σ H s) (t:Nat):Inv X pins σ H { s with toks:=t }:=I.un (h':=s.heap) (t':=t) Un.refl I.hok
theorem Inv.kept {t':Nat} (I:Inv X pins σ H s) (k:∀ b u,s.heap.get? b=some u->h'.get? b=some u):Inv X pins σ H { s with heap:=h',toks:=t' }:=I.un (Un.kept k) (I.hok.kept k)
theorem Inv.laid {a:Addr} {o:HO} {t':Nat} (I:Inv X pins σ H s) (k:∀ b u,s.heap.get? b=some u->h'.get? b=some u) (j:s.heap.objs.size<=a) (new:ObjOk X.prog X.w (upd H a o) h' a o) :
 Inv X pins σ (upd H a o) { s with heap:=h',toks:=t' }:=I.un (Un.laid k j (I.hok.fresh j)) (I.hok.laid k j new)
theorem Inv.write {x e:Addr} {o:HO} {t':Nat} (I:Inv X pins σ H s) (mu:Mut (H x)) (he:e=x∨H e=some (.own x)) (k:∀ b u,b≠e->s.heap.get? b=some u->h'.get? b=some u) (j:∃ u,h'.get? e=some u)
 (new:ObjOk X.prog X.w (upd H x o) h' x o):Inv X pins σ (upd H x o) { s with heap:=h',toks:=t' }:=I.un (Un.write mu he k j) (I.hok.write mu he k j new)
theorem Inv.pins_of {pins':List (Addr×Obj)} (I:Inv X pins σ H s) (h:∀ p∈pins',s.heap.get? p.1=some p.2/\H p.1=none/\p.1≠X.env.locals/\p.1∉X.fs /\ ∀ v,p.2.data ≠ .cell v):Inv X pins' σ H s :=
 ⟨I.ok,I.os,I.bare,I.base,I.loc,I.cell,I.free,I.freeC,fun p j=>(DW.mp j).elim (fun z=>I.pin p (Jf _ z)) (h p),I.hok,I.len⟩
theorem kH {N:List Str} (q:N.Nodup) {i j:Nat} {x:Str} (a:N[i]? = some x) (b:N[j]? = some x):i=j:=by
 obtain ⟨h1,z⟩:=hD.mp a;obtain ⟨h2,B⟩:=hD.mp b;exact (List.getElem_inj q).mp (z.trans B.symm)
theorem rJ {M:LI} {A:Ea} {E:e6->h6->Prop} {i:Nat} {x:Str} {v:V} {u:e6} {Q:Unit->h6->Prop} (I:Inv X pins σ H s) (hN:X.N.Nodup) (hi:X.N[i]? = some x) (hx:Loc X.env.scope x) (r:RelV v u)
 (h:∀ s',Inv X pins (σ.set i (some v)) H s'->(∃ a,EG a s.heap s'.heap/\(a=X.env.locals∨X.env.cells.lookup x=some a))->Q () s') (hf:X.fn x=true∨X.env.scope.names.lookup x=some .local:=by first | exact .inl rfl | exact .inr rfl | assumption):DJ M A (storeName X.env x u) Q E s:=by
 obtain ⟨m,hn,hl⟩:=id I.loc;have CY:(X.env.scope.kind == .class || (X.env.scope.kind == .module&&X.env.locals != X.env.globals))=false:=by rw [I.ok.kind];rfl
 have CZ:i < σ.length:=by rw [I.len];exact (hD.mp hi).1
 have cne:=I.cne;have tracked:∀ {a:Addr} {h':Heap},(∃ o,s.heap.get? a=some o/\H a=none)->EG a s.heap h'->HOk X.prog X.w H h':=fun {a h'} ha B b ob e=>by
  obtain ⟨_,_,J⟩:=ha;refine (I.hok b ob e).stay (fun c w' G q=>(B.2 c ?_).trans q) (fun _ q=>q) fun _ _ q=>q;rintro rfl
  rcases G with rfl | G
  ·rw [J] at e;cases e
  ·rw [J] at G;cases G
 rcases hx with O | O
 ·refine wpAny_storeName_local O hn (fun h' D4 B => ?_) CY;obtain ⟨oL,_,_,D5,_⟩:=id hn;refine h _ ⟨I.ok,I.os,I.bare,⟨fun b o e n U hx => ?_,fun b o e n U hx => ?_,I.base.free,fun b o e hx => ?_,I.base.tups,I.base.frzs,I.base.tbls⟩,⟨_,D4,fun j y v' F L e3 => ?_⟩,fun y c e => ?_,I.free,I.freeC,fun p hp => ?_,tracked ⟨oL,D5,I.free⟩ B,by simpa using I.len⟩ ⟨_,B, .inl rfl⟩
  ·exact (B.2 b (E3 (DV (v5 e) I.ok.above))).trans (I.base.keep b o e n U hx)
  ·obtain ⟨sl,F⟩:=I.base.slot b o e n U hx;exact ⟨sl,(B.2 b (E3 (DV (v5 e) I.ok.above))).trans F⟩
  ·obtain ⟨o',F⟩:=I.base.there b o e hx;exact ⟨o',(B.2 b (E3 (DV (v5 e) I.ok.above))).trans F⟩
  ·by_cases Y:j=i
   ·subst Y;rw [hi] at F;cases F;rw [FN CZ] at L
    cases L
    exact ⟨u,r, .inl ⟨O,by simp⟩⟩
   ·rw [Hj (Ne.symm Y)] at L;obtain ⟨u',r',q⟩:=hl j y v' F L e3;refine ⟨u',r', ?_⟩
    rcases q with ⟨k,e⟩ | ⟨k,c,e,z⟩
    ·refine .inl ⟨k, ?_⟩;have:y≠x:=fun e=>Y (kH hN F (e ▸ hi));simp [this,e]
    ·exact .inr ⟨k,c,e,z.sameBut B (cne y c e)⟩
  ·obtain ⟨w',z⟩:=I.cell y c e;exact ⟨w',z.sameBut B (cne y c e)⟩
  ·obtain ⟨e,n,ne,nf,d⟩:=I.pin p hp;exact ⟨(B.2 p.1 ne).trans e,n,ne,nf,d⟩
 ·have Z:X.fn x=true:=by
   rcases hf with z | z
   ·exact z
   ·rw [z] at O;cases O
  obtain ⟨c,G⟩:=I.ok.has x (.inl O);obtain ⟨w',z⟩:=I.cell x c G;refine wpAny_storeName_cell I.ok.kind O G z (fun h' D0 B => ?_);obtain ⟨oc,D1,D2⟩:=id z;refine h { s with heap:=h' } ⟨I.ok,I.os,I.bare,⟨fun b o e n U hx => ?_,fun b o e n U hx => ?_,I.base.free,fun b o e hx => ?_,I.base.tups,I.base.frzs,I.base.tbls⟩,⟨m,hn.sameBut B (Ne.symm (cne x c G)),fun j y v' F L e3 => ?_⟩,fun y c' e => ?_,I.free,I.freeC,fun p hp => ?_,tracked ⟨oc,D1,I.freeC x c G⟩ B,by simpa using I.len⟩ ⟨c,B, .inr G⟩
  ·exact (B.2 b (E3 (DV (v5 e) (I.ok.cab x c Z G)))).trans (I.base.keep b o e n U hx)
  ·obtain ⟨sl,F⟩:=I.base.slot b o e n U hx;exact ⟨sl,(B.2 b (E3 (DV (v5 e) (I.ok.cab x c Z G)))).trans F⟩
  ·obtain ⟨o',F⟩:=I.base.there b o e hx;exact ⟨o',(B.2 b (E3 (DV (v5 e) (I.ok.cab x c Z G)))).trans F⟩
  ·by_cases Y:j=i
   ·subst Y;rw [hi] at F;cases F;rw [FN CZ] at L
    cases L
    exact ⟨u,r, .inr ⟨.inl O,c,G,D0⟩⟩
   ·rw [Hj (Ne.symm Y)] at L;obtain ⟨u',r',q⟩:=hl j y v' F L e3;refine ⟨u',r', ?_⟩
    rcases q with q | ⟨k,c',e,z'⟩
    ·exact .inl q
    ·refine .inr ⟨k,c',e,z'.sameBut B ?_⟩;rintro rfl;exact Y (kH hN F (I.ok.inj _ _ _ e G ▸ hi))
  ·by_cases D3:c'=c
   ·subst D3;exact ⟨_,D0⟩
   ·obtain ⟨w2,z2⟩:=I.cell y c' e;exact ⟨w2,z2.sameBut B D3⟩
  ·obtain ⟨e,n,ne,nf,d⟩:=I.pin p hp;refine ⟨(B.2 p.1 ?_).trans e,n,ne,nf,d⟩;intro q;rw [q,D1] at e;have q':oc=p.2:=EB.inj e;exact d w' (by rw [<- q'];exact D2)
theorem gC {M:LI} {A:Ea} {E:e6->h6->Prop} {i:Nat} {x:Str} {v:V} {u:e6} {Q:Unit->h6->Prop} (I:Inv X pins σ H s) (j:X.N.Nodup) (hi:X.N[i]? = some x) (hx:Loc X.env.scope x) (r:RelV v u)
 (h:∀ s',Inv X pins (σ.set i (some v)) H s'->Q () s') (hf:X.fn x=true∨X.env.scope.names.lookup x=some .local:=by first | exact .inl rfl | exact .inr rfl | assumption):DJ M A (storeName X.env x u) Q E s :=
 rJ I j hi hx r (fun s' I' _=>h s' I') hf
theorem Inv.call' {s':h6} {ch:List Addr} (I:Inv X pins σ H s) (ho:s'.os=s.os) (u:Un (frs X.stack) ch H H' s.heap s'.heap) (hok:HOk X.prog X.w H' s'.heap) (q:I7 s'.gens)
 (j:∀ b∈ch,(b∈X.ex∨X.s₀.heap.objs.size<=b)/\b≠X.env.locals/\(∀ x c,X.env.cells.lookup x=some c->c≠b) /\ ∀ p∈X.pn++pins,p.1≠b):Inv X pins σ H' s':=by
 obtain ⟨h',g',d',t',o'⟩:=s';have e:o'=s.os:=ho;subst e;exact I.call (g':=g') (t':=t') (d':=d') u hok q j
end
noncomputable abbrev XK:=e6->Option Addr->Hp->Prop
noncomputable abbrev St:=List (Option V)
noncomputable abbrev VK:=V->Hp->Prop
noncomputable abbrev TE:=St->Hp->VK->Prop
noncomputable abbrev TT:=St->Hp->(Bool->Hp->Prop)->Prop
noncomputable abbrev TA:=St->Hp->(List V->Hp->Prop)->Prop
structure bq where
 nx:St->Hp->Prop
 rt:VK
 bk:St->Hp->Prop:=fun _ _=>False
 ct:St->Hp->Prop:=fun _ _=>False
noncomputable abbrev TS:=bq->St->Hp->Prop
def EP (X:Cx) (pins:List (Addr×Obj)) (σ:St) (Q:VK) (u:e6) (s':h6):Prop := ∃ v H',Inv X pins σ H' s'/\RelV v u/\Q v H'
def TP (X:Cx) (pins:List (Addr×Obj)) (σ:St) (Q:Bool->Hp->Prop) (b:Bool) (s':h6):Prop := ∃ H',Inv X pins σ H' s'/\Q b H'
def AP (X:Cx) (pins:List (Addr×Obj)) (σ:St) (Q:List V->Hp->Prop) (us:List e6) (s':h6):Prop := ∃ vs H',Inv X pins σ H' s'/\Vals vs us/\Q vs H'
def SP (X:Cx) (pins:List (Addr×Obj)) (D:bq) (f:Flow) (s':h6):Prop :=
 match f with
 | .next => ∃ σ' H',Inv X pins σ' H' s'/\D.nx σ' H'
 | .brk => ∃ σ' H',Inv X pins σ' H' s'/\D.bk σ' H'
 | .cont => ∃ σ' H',Inv X pins σ' H' s'/\D.ct σ' H'
 | .ret u => ∃ v σ' H',Inv X pins σ' H' s'/\RelV v u/\D.rt v H'
def PE (X:Cx) (e:Expr) (t:TE):Prop :=
 ∀ (pins:List (Addr×Obj)) (s:h6) (σ:St) (H:Hp) (Q:VK),Inv X pins σ H s->t σ H Q->DJ (model X.prog X.w) X.A (eval e X.env) (EP X pins σ Q) X.xe s
def PT (X:Cx) (e:Expr) (t:TT):Prop :=
 ∀ (pins:List (Addr×Obj)) (s:h6) (σ:St) (H:Hp) (Q:Bool->Hp->Prop),Inv X pins σ H s->t σ H Q->DJ (model X.prog X.w) X.A (isTrue e X.env (eval e X.env)) (TP X pins σ Q) X.xe s
def PW (X:Cx) (e:Expr) (t:TT):Prop :=
 ∀ (whole:Sem e6) (pins:List (Addr×Obj)) (s:h6) (σ:St) (H:Hp) (Q:Bool->Hp->Prop),Inv X pins σ H s->t σ H Q->DJ (model X.prog X.w) X.A (isTrue e X.env whole) (TP X pins σ Q) X.xe s
theorem PW.pt {X:Cx} {e:Expr} {t:TT} (h:PW X e t):PT X e t:=h _
def PA (X:Cx) (es:List Expr) (t:TA):Prop :=
 ∀ (pos:Pos) (pins:List (Addr×Obj)) (s:h6) (σ:St) (H:Hp) (Q:List V->Hp->Prop),Inv X pins σ H s->t σ H Q->DJ (model X.prog X.w) X.A (spliced (G3 pos (DN es X.env))) (AP X pins σ Q) X.xe s
def PS (X:Cx) (st:Stmt) (t:TS):Prop :=
 ∀ (pins:List (Addr×Obj)) (s:h6) (σ:St) (H:Hp) (D:bq),Inv X pins σ H s->t D σ H->DJ (model X.prog X.w) X.A (exec st X.env) (SP X pins D) X.xe s
def PSs (X:Cx) (st:List Stmt) (t:TS):Prop :=
 ∀ (pins:List (Addr×Obj)) (s:h6) (σ:St) (H:Hp) (D:bq),Inv X pins σ H s->t D σ H->DJ (model X.prog X.w) X.A (execs st X.env) (SP X pins D) X.xe s
theorem thn {α:Type} {t:Sem α} {Q Q' : α -> h6->Prop} {M:LI} {A:Ea} {E:e6->h6->Prop} {s:h6} (h:DJ M A t Q E s) (j:∀ a s,Q a s->Q' a s):DJ M A t Q' E s:=FO h j fun _ _ x=>x
end
section
section
variable {X:Cx}
noncomputable def Ct (i:Nat):TE:=fun σ H Q => ∃ v, σ[i]? = some (some v)/\Q v H
noncomputable def tC (v:V):TE:=fun _ H Q=>Q v H
theorem zW {i:Nat} {x:Str} {pos:Pos} (F:X.N[i]? = some x) (G:Vis X.env.scope x) (hd:(x==("__debug__":Str))=false:=by decide) (z:(x==("__classdict__":Str))=false:=by decide):PE X (.Name x pos) (Ct i):=by
 intro pins s σ H Q I h;obtain ⟨v,e,h⟩:=h;obtain ⟨m,J,L⟩:=I.loc;obtain ⟨u,r,l⟩:=L i x v F e G;have fin:EP X pins σ Q u s:=⟨v,H,I,r,h⟩
 rcases l with ⟨q,hm⟩ | ⟨q,c,B,j⟩
 ·exact LJ (wpAny_loadName_local I.ok.kind q J hm fin) hd
 ·rcases q with q | q
  ·exact LJ (wpAny_loadName_cell I.ok.kind q B j fin) hd
  ·exact LJ (wpAny_loadName_free I.ok.kind q B j fin z) hd
theorem zX {i j pos}:PE X (.Constant (.int i) j pos) (tC (.int i)):=fun _ _ _ H _ I h=>wpAny_Constant_int ⟨.int i,H,I.tok _,⟨_,rfl⟩,h⟩
theorem Bz {b j pos}:PE X (.Constant (.bool b) j pos) (tC (.bl b)):=fun _ _ _ H _ I h=>Constant_bool ⟨.bl b,H,I,rfl,h⟩
theorem zY {j pos}:PE X (.Constant .none j pos) (tC .non):=fun _ _ _ H _ I h=>Constant_none ⟨.non,H,I,rfl,h⟩
def Gl (X:Cx) (x:Str):Prop:=X.env.kindOf x=some .globalImplicit
theorem oD {E:e6->h6->Prop} {pins:List (Addr×Obj)} {s:h6} {σ:St} {H:Hp} {x:Str} {u:e6} {pos:Pos} {Q:e6->h6->Prop} (I:Inv X pins σ H s) (j:Gl X x) (hm:X.mg x=some u) (h:Q u s)
 (hd:(x==("__debug__":Str))=false:=by decide):DJ (model X.prog X.w) X.A (eval (.Name x pos) X.env) Q E s :=
 HF I.ok.kind j (Calls.loadGlobal_global (by rw [I.ok.glob];exact I.mod.glob.keeps I.bk) hm h) hd
theorem cD {E:e6->h6->Prop} {pins:List (Addr×Obj)} {s:h6} {σ:St} {H:Hp} {x:Str} {u:e6} {pos:Pos} {Q:e6->h6->Prop} (I:Inv X pins σ H s) (j:Gl X x) (hm:X.mg x=none) (q:Fj x=some u) (h:Q u s)
 (z:x ≠ "__name__" := by decide) (hd:(x==("__debug__":Str))=false:=by decide):DJ (model X.prog X.w) X.A (eval (.Name x pos) X.env) Q E s:=by
 obtain ⟨mb,h1,h2⟩:=I.mod.blt;exact HF I.ok.kind j (Calls.loadGlobal_builtin (by rw [I.ok.glob];exact I.mod.glob.keeps I.bk) hm (by rw [I.ok.blt];exact h1.keeps I.bk) ((h2 x z).trans q) h) hd
theorem ja {x:Str} {v:V} {u:e6} {pos:Pos} (j:Gl X x) (hm:X.mg x=none) (q:Fj x=some u) (r:RelV v u) (z:x ≠ "__name__" := by decide) (hd:(x==("__debug__":Str))=false:=by decide):PE X (.Name x pos) (tC v) :=
 fun _ _ _ H _ I h=>cD I j hm q ⟨v,H,I,r,h⟩ z hd
variable {a b:Expr} {ta tb:TE} {pos:Pos}
variable {tA tB':TT} {rest:List Expr}
noncomputable def Cu (t u:TT):TT:=fun σ H Q=>t σ H fun c H1=>if c=true then u σ H1 Q else Q false H1
noncomputable def tOr (t u:TT):TT:=fun σ H Q=>t σ H fun c H1=>if c=true then Q true H1 else u σ H1 Q
noncomputable def Cv (t:TT):TT:=fun σ H Q=>t σ H fun c H1=>Q (!c) H1
theorem xQ (j:PT X a tA):PW X (.BoolOp .And [a] pos) tA:=by
 intro wh pins s σ H Q I h;refine isTrue_and (thn (j pins s σ H Q I h) fun c s1 e => ?_)
 cases c with
 | true=>exact isTrue_and_nil e
 | false=>exact e
theorem zZ (j:PT X a tA):PW X (.BoolOp .Or [a] pos) tA:=by
 intro wh pins s σ H Q I h;refine isTrue_or (thn (j pins s σ H Q I h) fun c s1 e => ?_)
 cases c with
 | false=>exact isTrue_or_nil e
 | true=>exact e
theorem A0 (z:PT X a tA) (B:PW X (.BoolOp .And (b::rest) pos) tB'):PW X (.BoolOp .And (a::b::rest) pos) (Cu tA tB'):=by
 intro wh pins s σ H Q I h;refine isTrue_and (thn (z pins s σ H _ I h) fun c s1 ⟨H1,j,q⟩ => ?_)
 cases c with
 | true=>exact B wh pins s1 σ H1 Q j q
 | false=>exact ⟨H1,j,q⟩
theorem BA (z:PT X a tA) (B:PW X (.BoolOp .Or (b::rest) pos) tB'):PW X (.BoolOp .Or (a::b::rest) pos) (tOr tA tB'):=by
 intro wh pins s σ H Q I h;refine isTrue_or (thn (z pins s σ H _ I h) fun c s1 ⟨H1,j,q⟩ => ?_)
 cases c with
 | true=>exact ⟨H1,j,q⟩
 | false=>exact B wh pins s1 σ H1 Q j q
theorem A1 (j:PT X a tA):PT X (.UnaryOp .Not a pos) (Cv tA):=by
 intro pins s σ H Q I h;exact isTrue_not (j pins s σ H (fun c H1=>Q (!c) H1) I h)
noncomputable def BB (ta tb:TE):TE:=fun σ H Q=>ta σ H fun x H1 => ∃ c,x = .bl c/\if c=true then tb σ H1 Q else Q (.bl false) H1
noncomputable def Cw (ta tb:TE):TE:=fun σ H Q=>ta σ H fun x H1 => ∃ c,x = .bl c/\if c=true then Q (.bl true) H1 else tb σ H1 Q
noncomputable def BC (ta:TE):TE:=fun σ H Q=>ta σ H fun x H1 => ∃ c,x = .bl c/\Q (.bl (!c)) H1
theorem A2 {op} {t:TE} (h:PE X a t):PE X (.BoolOp op [a] pos) t:=fun pins s σ H Q I hw=>BoolOp_one (h pins s σ H Q I hw)
theorem A3 (z:PE X a ta) (B:PE X (.BoolOp .And (b::rest) pos) tb):PE X (.BoolOp .And (a::b::rest) pos) (BB ta tb):=by
 intro pins s σ H Q I h;refine BoolOp_and (thn (z pins s σ H _ I h) fun v s1 ⟨x,H1,q,F,j⟩ => ?_);obtain ⟨c,rfl,j⟩:=j
 cases F
 refine Fc ?_
 cases c with
 | true=>exact B pins s1 σ H1 Q q j
 | false=>exact ⟨.bl false,H1,q,rfl,j⟩
theorem BD (z:PE X a ta) (B:PE X (.BoolOp .Or (b::rest) pos) tb):PE X (.BoolOp .Or (a::b::rest) pos) (Cw ta tb):=by
 intro pins s σ H Q I h;refine BoolOp_or (thn (z pins s σ H _ I h) fun v s1 ⟨x,H1,q,F,j⟩ => ?_);obtain ⟨c,rfl,j⟩:=j
 cases F
 refine Fc ?_
 cases c with
 | false=>exact B pins s1 σ H1 Q q j
 | true=>exact ⟨.bl true,H1,q,rfl,j⟩
theorem A4 (q:PE X a ta):PE X (.UnaryOp .Not a pos) (BC ta):=by
 intro pins s σ H Q I h;refine UnaryOp_ (thn (q pins s σ H _ I h) fun v s1 ⟨x,H1,z,B,j⟩ => ?_);obtain ⟨c,rfl,j⟩:=j
 cases B
 exact not_of (Fc ⟨.bl (!c),H1,z,rfl,j⟩)
noncomputable def tIf (t:TT) (ta tb:TE):TE:=fun σ H Q=>t σ H fun c H1=>if c=true then ta σ H1 Q else tb σ H1 Q
theorem uH {c:Expr} (z:PT X c tA) (B:PE X a ta) (F:PE X b tb):PE X (.IfExp c a b pos) (tIf tA ta tb):=by
 intro pins s σ H Q I h;refine wpAny_IfExp (thn (z pins s σ H _ I h) fun d s1 ⟨H1,j,q⟩ => ?_)
 cases d with
 | true=>exact B pins s1 σ H1 Q j q
 | false=>exact F pins s1 σ H1 Q j q
end
end
section
def SqL (K:Frag) (H:Hp) (a:Addr) (xs:List V):Prop :=
 Rd H a (.lst xs) ∨
  ∃ (o:Obj) (its:Array e6) (n:Nat),K.lookup a=some o/\o.cls = .type "list" /\ o.dict=none/\o.data = .seq its n/\its.size<=p4/\Vals xs its.toList
def SqT (K:Frag) (H:Hp) (a:Addr) (xs:List V):Prop :=
 Rd H a (.tup xs) ∨
  ∃ (o:Obj) (its:Array e6) (n:Nat),K.lookup a=some o/\o.cls = .type "tuple" /\ o.data = .seq its n/\its.size<=p4/\Vals xs its.toList
noncomputable def Cy:e6->Option V
 | .none=>some .non
 | .bool b=>some (.bl b)
 | .int i _=>some (.int i)
 | .str x _=>some (.str x)
 | .bytes b _=>some (.byt b)
 | .float b _=>some (.flt b)
 | .ref a=>some (.ref a)
 | .type n=>some (.ty n)
 | _=>none
theorem RelV.abs {x:V} {u:e6} (r:RelV x u):Cy u=some x:=by
 cases x with
 | non=>cases r;rfl
 | bl _=>cases r;rfl
 | int _=>obtain ⟨t,rfl⟩:=r;rfl
 | str _=>obtain ⟨t,rfl⟩:=r;rfl
 | byt _=>obtain ⟨t,rfl⟩:=r;rfl
 | flt _=>obtain ⟨t,rfl⟩:=r;rfl
 | ref _=>cases r;rfl
 | ty _=>cases r;rfl
theorem RelV.inj {x y:V} {u:e6} (r:RelV x u) (q:RelV y u):x=y:=EB.inj (r.abs.symm.trans q.abs)
theorem Vals.inj:∀ {xs ys:List V} {us:List e6},Vals xs us->Vals ys us->xs=ys
 | _,_,_, .nil, .nil=>rfl
 | _,_,_, .cons r t, .cons r' t'=>by rw [r.inj r',Vals.inj t t']
section
variable {X:Cx} {pins:List (Addr×Obj)} {σ:St} {H:Hp} {s:h6} {a:Addr} {xs ys:List V}
theorem SqL.of {K:Frag} (h:H a=some (.lst xs)):SqL K H a xs := .inl (.inl h)
theorem SqT.of {K:Frag} (h:H a=some (.tup xs)):SqT K H a xs := .inl (.inl h)
theorem Inv.list (I:Inv X pins σ H s) (h:SqL X.K H a xs):∃ its:List e6,Vals xs its/\PlainL s.heap a its.toArray/\xs.length<=p4:=by
 rcases h with h | ⟨o,its,n,j,q,hd,B,F,r⟩
 ·obtain ⟨z,its,n,r,e⟩:=h.ok I.hok;exact ⟨its,r,⟨_,n,e,rfl,rfl,rfl⟩,z⟩
 ·refine ⟨its.toList,r,⟨o,n,I.kIn a o j,q,hd,by simpa using B⟩, ?_⟩
  have e:=r.length;simp only [Hv] at e;omega
theorem Inv.tuple (I:Inv X pins σ H s) (h:SqT X.K H a xs):∃ its:List e6,Vals xs its/\Lo s.heap a its.toArray/\xs.length<=p4:=by
 rcases h with h | ⟨o,its,n,j,q,B,F,r⟩
 ·obtain ⟨z,its,r,p⟩:=h.ok I.hok;exact ⟨its,r,p,z⟩
 ·refine ⟨its.toList,r,⟨o,I.kIn a o j,q,n,by simpa using B⟩, ?_⟩
  have e:=r.length;simp only [Hv] at e;omega
theorem Inv.list_inj (I:Inv X pins σ H s) (h:SqL X.K H a xs) (h':SqL X.K H a ys):xs=ys:=by
 obtain ⟨its,r,⟨o,n,e,_,_,d⟩,_⟩:=I.list h;obtain ⟨its',r',⟨o',n',e',_,_,d'⟩,_⟩:=I.list h';rw [e] at e';cases e';rw [d] at d'
 injection d' with d1 _
 have:its=its':=by simpa using congrArg Array.toList d1
 subst this;exact r.inj r'
theorem Inv.tuple_inj (I:Inv X pins σ H s) (h:SqT X.K H a xs) (h':SqT X.K H a ys):xs=ys:=by
 obtain ⟨its,r,⟨o,e,_,n,d⟩,_⟩:=I.tuple h;obtain ⟨its',r',⟨o',e',_,n',d'⟩,_⟩:=I.tuple h';rw [e] at e';cases e';rw [d] at d'
 injection d' with d1 _
 have:its=its':=by simpa using congrArg Array.toList d1
 subst this;exact r.inj r'
end
noncomputable abbrev Cx.wish (X:Cx) (E:e6->h6->Prop):Cx := { X with xe:=E }
noncomputable abbrev Cx.nox (X:Cx):Cx:=X.wish fun _ _=>False
theorem Cx.Ok.wish {X:Cx} (ok:X.Ok) (E:e6->h6->Prop):(X.wish E).Ok :=
 ⟨ok.mod,ok.kind,ok.glob,ok.blt,ok.above,ok.inj,ok.has,ok.cab,ok.hd,ok.frames,ok.stk,ok.exf,ok.bs,ok.bsz,ok.noex,ok.exfs,ok.funs,ok.frf⟩
theorem Cx.Ok.unwish {X:Cx} {E:e6->h6->Prop} (ok:(X.wish E).Ok):X.Ok :=
 ⟨ok.mod,ok.kind,ok.glob,ok.blt,ok.above,ok.inj,ok.has,ok.cab,ok.hd,ok.frames,ok.stk,ok.exf,ok.bs,ok.bsz,ok.noex,ok.exfs,ok.funs,ok.frf⟩
section
variable {X:Cx} {pins:List (Addr×Obj)} {σ:St} {H:Hp} {s:h6} {E:e6->h6->Prop}
theorem Inv.wish (I:Inv X pins σ H s) (E:e6->h6->Prop):Inv (X.wish E) pins σ H s:=⟨I.ok.wish E,I.os,I.bare,I.base,I.loc,I.cell,I.free,I.freeC,I.pin,I.hok,I.len⟩
theorem Inv.unwish (I:Inv (X.wish E) pins σ H s):Inv X pins σ H s:=⟨I.ok.unwish,I.os,I.bare,I.base,I.loc,I.cell,I.free,I.freeC,I.pin,I.hok,I.len⟩
theorem SP.unwish {D:bq} {f:Flow} {s':h6} (h:SP (X.wish E) pins D f s'):SP X pins D f s':=by
 cases f with
 | next=>obtain ⟨σ',H',I,q⟩:=h;exact ⟨σ',H',I.unwish,q⟩
 | brk=>obtain ⟨σ',H',I,q⟩:=h;exact ⟨σ',H',I.unwish,q⟩
 | cont=>obtain ⟨σ',H',I,q⟩:=h;exact ⟨σ',H',I.unwish,q⟩
 | ret u=>obtain ⟨v, σ',H',I,r,q⟩:=h;exact ⟨v, σ',H',I.unwish,r,q⟩
theorem PSs.nox {st:List Stmt} {t:TS} (h:PSs X.nox st t):PSs X st t:=fun pins s σ H D I hw =>
 FO (h pins s σ H D (I.wish _) hw) (fun _ _ q=>q.unwish) fun _ _ z=>False.elim z
end
section
variable {X:Cx} {st:Stmt} {rest:List Stmt} {t u:TS} {e:Expr} {te:TE} {pos:Pos}
noncomputable def pR:TS:=fun D σ H=>D.nx σ H
noncomputable def A5 (t u:TS):TS:=fun D σ H=>t { D with nx:=u D } σ H
theorem xR:PSs X [] pR:=fun _ _ σ H _ I h=>IZ ⟨σ,H,I,h⟩
theorem uI (h1:PS X st t) (h2:PSs X rest u):PSs X (st::rest) (A5 t u):=by
 intro pins s σ H D I h;refine wpAny_execs_cons (thn (h1 pins s σ H { D with nx:=u D } I h) fun f s1 q => ?_)
 cases f with
 | next =>
   obtain ⟨σ',H',I',q⟩:=q;exact h2 pins s1 σ' H' D I' q
 | ret v=>exact q
 | brk=>exact q
 | cont=>exact q
noncomputable def rK:TS:=fun D σ H=>D.bk σ H
noncomputable def wZ:TS:=fun D σ H=>D.ct σ H
theorem xS:PS X (.Pass pos) pR:=fun _ _ σ H _ I h=>wpAny_Pass ⟨σ,H,I,h⟩
theorem uJ:PS X (.Break pos) rK:=fun _ _ σ H _ I h=>wpAny_Break ⟨σ,H,I,h⟩
theorem oi:PS X (.Continue pos) wZ:=fun _ _ σ H _ I h=>wpAny_Continue ⟨σ,H,I,h⟩
theorem Inv.quiet {pins:List (Addr×Obj)} {σ:St} {H:Hp} {s:h6} (I:Inv X pins σ H s):interactive X.env=false:=by simp [interactive,I.ok.kind]
noncomputable def xc (te:TE):TS:=fun D σ H=>te σ H fun _ H1=>D.nx σ H1
theorem xT (he:PE X e te) (j:GJ e none pos.line X.env=pure false:=by rfl):PS X (.Expr e pos) (xc te):=by
 intro pins s σ H D I h;exact wpAny_Expr_any (thn (he pins s σ H _ I h) fun v s1 ⟨x,H1,q,B,z⟩=>⟨σ,H1,q,z⟩) I.quiet j
noncomputable def A6 (te:TE):TS:=fun D σ H=>te σ H D.rt
theorem A7 (he:PE X e te):PS X (.Return (some e) pos) (A6 te):=by
 intro pins s σ H D I h;exact wpAny_Return_some (thn (he pins s σ H _ I h) fun v s1 ⟨x,H1,j,q,z⟩=>⟨x, σ,H1,j,q,z⟩)
noncomputable def A8 (c:TT) (t u:TS):TS:=fun D σ H=>c σ H fun b H1=>if b=true then t D σ H1 else u D σ H1
theorem BE {c:Expr} {a b:List Stmt} {tc:TT} (z:PT X c tc) (B:PSs X a t) (F:PSs X b u):PS X (.If c a b pos) (A8 tc t u):=by
 intro pins s σ H D I h;refine wpAny_If (thn (z pins s σ H _ I h) fun d s1 ⟨H1,j,q⟩ => ?_)
 cases d with
 | true=>exact B pins s1 σ H1 D j q
 | false=>exact F pins s1 σ H1 D j q
end
noncomputable abbrev TG:=V->St->Hp->(St->Hp->Prop)->Prop
noncomputable abbrev TGs:=List V->St->Hp->(St->Hp->Prop)->Prop
def PG (X:Cx) (target:Expr) (t:TG):Prop :=
 ∀ (pins:List (Addr×Obj)) (s:h6) (σ:St) (H:Hp) (v:V) (u:e6) (Q:St->Hp->Prop),Inv X pins σ H s->RelV v u->t v σ H Q ->
  DJ (model X.prog X.w) X.A (assign target X.env u) (fun _ s' => ∃ σ' H',Inv X pins σ' H' s'/\Q σ' H') X.xe s
def PGs (X:Cx) (ts:List Expr) (t:TGs):Prop :=
 ∀ (pins:List (Addr×Obj)) (s:h6) (σ:St) (H:Hp) (vs:List V) (us:List e6) (Q:St->Hp->Prop),Inv X pins σ H s->Vals vs us->t vs σ H Q ->
  DJ (model X.prog X.w) X.A (JN ((F5 ts X.env).map (·.2)) us) (fun _ s' => ∃ σ' H',Inv X pins σ' H' s'/\Q σ' H') X.xe s
noncomputable abbrev pS:=V->V->V->Hp->(Hp->Prop)->Prop
def PSet (X:Cx) (t:pS):Prop :=
 ∀ (pins:List (Addr×Obj)) (s:h6) (σ:St) (H:Hp) (o i v:V) (ov iv u:e6) (Q:Hp->Prop),Inv X pins σ H s->RelV o ov->RelV i iv->RelV v u->t o i v H Q ->
  DJ (model X.prog X.w) X.A (IG ov iv u) (fun _ s' => ∃ H',Inv X pins σ H' s'/\Q H') X.xe s
section
variable {X:Cx} {pos:Pos}
noncomputable def i6 (i:Nat):TG:=fun v σ H Q=>Q (σ.set i (some v)) H
theorem oE {i:Nat} {x:Str} (j:X.N.Nodup) (hi:X.N[i]? = some x) (hx:Loc X.env.scope x) (hf:X.fn x=true∨X.env.scope.names.lookup x=some .local:=by first | exact .inl rfl | exact .inr rfl | assumption):PG X (.Name x pos) (i6 i):=by
 intro pins s σ H v u Q I r h;exact wpAny_assign_Name (gC I j hi hx r (fun s' I'=>⟨_,H,I',h⟩) hf)
noncomputable def Cz:TGs:=fun vs σ H Q=>vs=[]/\Q σ H
noncomputable def BG (t:TG) (u:TGs):TGs:=fun vs σ H Q => ∃ v r,vs=v::r/\t v σ H fun σ' H'=>u r σ' H' Q
theorem oF:PGs X [] Cz:=by
 intro pins s σ H vs us Q I r h;obtain ⟨e,h⟩:=h;subst e
 cases r
 exact Km ⟨σ,H,I,h⟩
theorem gD {e:Expr} {es:List Expr} {t:TG} {u:TGs} (h1:PG X e t) (h2:PGs X es u)
 (j:(F5 (e::es) X.env).map (·.2)=assign e X.env::(F5 es X.env).map (·.2):=by rfl):PGs X (e::es) (BG t u):=by
 intro pins s σ H vs us Q I r h;obtain ⟨v,vr,q,h⟩:=h;subst q
 cases r with
 | cons r rr =>
   rw [j];refine HG (thn (h1 pins s σ H _ _ _ I r h) fun _ s1 ⟨σ1,H1,z,B⟩ => ?_);exact h2 pins s1 σ1 H1 _ _ Q z rr B
noncomputable def CA (K:Frag) (n:Nat) (t:TGs):TG:=fun v σ H Q => ∃ a xs,v = .ref a/\SqT K H a xs/\xs.length=n/\t xs σ H Q
theorem rL {es:List Expr} {k:Nat} {t:TGs} {n:Nat} (q:X.calm=true) (h:PGs X es t)
 (z:(F5 es X.env).length=n:=by rfl) (j:(F5 es X.env).findIdx? (·.1)=none:=by rfl):PG X (.Tuple es k pos) (CA X.K n t):=by
 intro pins s σ H v u Q I r hw;obtain ⟨a,xs,B,F,G,hw⟩:=hw;subst B
 cases r
 obtain ⟨its,rv,J,O⟩:=I.tuple F;refine assign_Tuple_tuple (I.ok.hd q) J (by simp [z, <- G,rv.length]) j fun h' hx => ?_
 have L:Inv X pins σ H { s with heap:=h' }:=I.kept (t':=s.toks) fun b o e=>hx b o (E3 (v5 e)) e
 exact h pins _ σ H xs _ Q L (by simpa using rv) hw
noncomputable def CB (to ti:TE) (t:pS):TG:=fun v σ H Q=>to σ H fun o H1=>ti σ H1 fun i H2=>t o i v H2 fun H3=>Q σ H3
theorem i7 {o i:Expr} {to ti:TE} {t:pS} (ho:PE X o to) (hi:PE X i ti) (j:PSet X t)
 (q:∀ v,assign (.Subscript o i pos) X.env v=(do
   let ov <- holding [v] (eval o X.env)
   let iv <- holding [v,ov] (eval i X.env)
   GP pos
   holding [v,ov,iv] (IG ov iv v)
   release [v,ov,iv] []):=by intro _;rfl):PG X (.Subscript o i pos) (CB to ti t):=by
 intro pins s σ H v u Q I r h;rw [q];refine b0 (Et (thn (ho pins s σ H _ I h) fun ov s1 ⟨x,H1,z,B,F⟩ => ?_));refine b0 (Et (thn (hi pins s1 σ H1 _ z F) fun iv s2 ⟨y,H2,G,J,L⟩ => ?_));refine b0 (G0 (b0 (Et (thn (j pins s2 σ H2 x y v ov iv u _ G B J r L) fun _ s3 ⟨O,U,Y⟩ => ?_))));exact wpAny_release ⟨σ,O,U,Y⟩
noncomputable def pT (te:TE) (g:TG):TS:=fun D σ H=>te σ H fun x H1=>g x σ H1 D.nx
theorem i8 {tg e:Expr} {te:TE} {g:TG} (he:PE X e te) (j:PG X tg g) (z:Fy [tg] e pos.line X.env=pure false:=by rfl) (hw:EK [tg] e X.env=pure none:=by rfl)
 (h1:(F5 [tg] X.env).map (·.2)=[assign tg X.env]:=by rfl):PS X (.Assign [tg] e pos) (pT te g):=by
 intro pins s σ H D I h;refine wpAny_Assign_stores (thn (he pins s σ H _ I h) fun v s1 ⟨x,H1,B,F,G⟩ => ?_) z hw;rw [h1];exact thn (j pins s1 σ H1 x v _ B F G) fun _ s2 q=>q
noncomputable def A9 (i j:Nat) (ta:TA):TS:=fun D σ H=>ta σ H fun vs H1 => ∃ v w,vs=[v,w]/\D.nx ((σ.set i (some v)).set j (some w)) H1
theorem Aa {i j:Nat} {x y:Str} {a b:Expr} {ta:TA} {px py pt:Pos} {kt G z} (hc:X.calm=true) (U:X.N.Nodup) (hi:X.N[i]? = some x) (hj:X.N[j]? = some y) (J:i≠j)
 (hx:X.env.scope.names.lookup x=some .local) (Y:X.env.scope.names.lookup y=some .local) (ha:PA X [a,b] ta)
 (hw:EK [.Tuple [.Name x px, .Name y py] kt pt] (.Tuple [a,b] G z) X.env=pure (some [x,y]))
 (hs:Fy [.Tuple [.Name x px, .Name y py] kt pt] (.Tuple [a,b] G z) pos.line X.env=pure false:=by rfl) :
 PS X (.Assign [.Tuple [.Name x px, .Name y py] kt pt] (.Tuple [a,b] G z) pos) (A9 i j ta):=by
 intro pins s σ H D I h;rw [exec_Assign_arm];refine b0 (G0 ?_);rw [hs];refine b0 (h7 ?_);rw [if_neg (by decide)]
 refine b0 (Tuple_ (thn (ha _ pins s σ H _ I h) fun us s1 ⟨vs,H1,I1,r1,L⟩ => ?_));obtain ⟨v,w,e1,L⟩:=L;subst e1;obtain ⟨B,F,rfl,rv,rw'⟩:∃ B F,us=[B,F]/\RelV v B/\RelV w F:=by
  cases r1 with
  | cons p q =>
    cases q with
    | cons p' q' =>
      cases q'
      exact ⟨_,_,rfl,p,p'⟩
 refine EA ?_ (by show 2<=p4;decide)
 have I2:Inv X pins σ H1 { s1 with heap:=s1.heap.push { cls := .type "tuple",data := .seq [B,F].toArray } }:=I1.kept (t':=s1.toks) fun b o e=>gV _ e
 rw [hw];refine b0 (h7 ?_);show DJ (model X.prog X.w) X.A (do rule "assign.swapped-stores";let items <- unpackItems (.ref s1.heap.objs.size) 2 none;JN [fun v=>LK X.env y v,fun v=>LK X.env x v] items.reverse;pure Flow.next) _ _ _
 refine b0 (Fn (b0 (unpackItems_tuple (items := #[B,F]) (I.ok.hd hc) (HD s1.heap _) fun h' O => ?_)));have I3:=I2.kept (h':=h') (t':=s1.toks) fun b o e=>O b o (E3 (v5 e)) e;show DJ _ _ (JN [fun v=>LK X.env y v,fun v=>LK X.env x v] [F,B] >>= fun _=>pure Flow.next) _ _ _;refine b0 (HG (wpAny_bindName (gC I3 U hj (.inl Y) rw' (fun s2 I4 => ?_) (.inr Y))));refine HG (wpAny_bindName (gC I4 U hi (.inl hx) rv (fun s3 Z=>Km (h7 ?_)) (.inr hx)));rw [List.set_comm _ _ (Ne.symm J)] at Z;exact ⟨_,H1,Z,L⟩
end
section
variable {X:Cx} {pos:Pos}
noncomputable def rM (c:TT) (tb:TS):TS:=fun D σ H => ∃ W:Nat->St->Hp->Prop,(∃ m,W m σ H) /\ ∀ m σ H,W m σ H ->
 c σ H fun b H1=>if b=true then ∃ N:St->Hp->Prop,(∀ σ' H',N σ' H' -> ∃ m',m' < m/\W m' σ' H')/\tb { D with nx:=N,ct:=N,bk:=D.nx } σ H1 else D.nx σ H1
theorem uK {c:Expr} {body:List Stmt} {tc:TT} {tb:TS} (J:PassesOwn (model X.prog X.w) X.A X.env X.xe) (U:PT X c tc) (Y:PSs X body tb):PS X (.While c body [] pos) (rM tc tb):=by
 intro pins s σ H D I h;obtain ⟨W,⟨m0,Z⟩,turn⟩:=h;refine wpAny_While (codeAny_whileLoop (fun n s' => ∃ σ' H',Inv X pins σ' H' s'/\W n σ' H') ?_ m0 ⟨σ,H,I,Z⟩);rintro n s1 ⟨σ1,H1,I1,w1⟩;refine Fs J (thn (U pins s1 σ1 H1 _ I1 (turn n σ1 H1 w1)) fun b s2 ⟨H2,L,q⟩ => ?_)
 cases b with
 | true =>
   obtain ⟨N,O,q⟩:=q;rw [if_pos rfl];refine Fs J (thn (Y pins s2 σ1 H2 _ L q) fun f s3 z => ?_)
   cases f with
   | next =>
     obtain ⟨σ3,j,B,F⟩:=z;obtain ⟨m',hm,G⟩:=O σ3 j F;exact ⟨m',hm, σ3,j,B,G⟩
   | cont =>
     obtain ⟨σ3,j,B,F⟩:=z;obtain ⟨m',hm,G⟩:=O σ3 j F;exact ⟨m',hm, σ3,j,B,G⟩
   | brk=>exact z
   | ret v=>exact z
 | false =>
   rw [if_neg hB];exact IZ ⟨σ1,H2,L,q⟩
end
structure It where
 go:Nat->Hp->Prop
 yld:Nat->Hp->V->Hp->Prop
 stop:Nat->Hp->Prop
def bL (X:Cx) (pins:List (Addr×Obj)) (H:Hp) (b:Addr):Prop :=
 H b=none/\b≠X.env.locals/\b∉X.fs/\(b∈X.ex∨X.s₀.heap.objs.size<=b)/\(∀ x c,X.env.cells.lookup x=some c->c≠b) /\ ∀ p∈X.pn++pins,p.1≠b
theorem Inv.fpOk {X:Cx} {pins:List (Addr×Obj)} {σ:St} {H H':Hp} {s:h6} {b:Addr} (I:Inv X pins σ H s) (j:s.heap.objs.size<=b) (B:H' b=none):bL X pins H' b:=by
 refine ⟨B,FP (DV I.lt j),I.nofs j, .inr (Ej I.sz j),fun x c e z => ?_,fun p F z => ?_⟩
 ·obtain ⟨v,q⟩:=I.cell x c e;exact absurd (DV q.lt (by rw [z];exact j)) (EE _)
 ·exact absurd (DV (v5 (I.pin p F).1) (by rw [z];exact j)) (EE _)
structure eQ (P:DQ) (w:E4) (K:Frag) (tg:Expr) (J:It) (fp:List Addr) (it:Addr) (tn:Nat->Heap->Prop):Prop where
 mem:it∈fp
 obj:∀ i h,tn i h -> ∀ b∈fp, ∃ o,h.get? b=some o /\ ∀ v,o.data ≠ .cell v
 keep:∀ i h h',tn i h->(∀ b∈fp, ∀ o,h.get? b=some o->h'.get? b=some o)->tn i h'
 item:∀ (X:Cx),X.prog=P->X.w=w->X.K=K->X.calm=true -> ∀ (i:Nat) (pins:List (Addr×Obj)) (s:h6) (σ:St) (H:Hp) (E:e6->h6->Prop),Inv X pins σ H s->(∀ b∈fp,bL X pins H b)->tn i s.heap->J.go i H ->
  DJ (model P w) X.A (G4 (.ref it)) (fun r s1 => ∃ u,r=some u /\
   DJ (model P w) X.A (Hm tg (.ref it) u) (fun _ s2 => ∃ x H',Inv X pins σ H' s2/\RelV x u/\J.yld i H x H'/\tn (i+1) s2.heap /\ ∀ b∈fp,H' b=none) E s1) E s
 done:∀ (X:Cx),X.prog=P->X.w=w->X.K=K->X.calm=true -> ∀ (i:Nat) (pins:List (Addr×Obj)) (s:h6) (σ:St) (H:Hp) (E:e6->h6->Prop),Inv X pins σ H s->(∀ b∈fp,bL X pins H b)->tn i s.heap->J.stop i H ->
  DJ (model P w) X.A (G4 (.ref it)) (fun r s1=>r=none/\Inv X pins σ H s1) E s
 self:∀ (A:Ea) (i:Nat) (s:h6) (Q:e6->h6->Prop) (E:e6->h6->Prop),tn i s.heap->Q (.ref it) s->DJ (model P w) A (Jg (.ref it)) Q E s
noncomputable abbrev TI:=St->Hp->(It->Hp->Prop)->Prop
def PIE (X:Cx) (pins:List (Addr×Obj)) (σ:St) (tg:Expr) (R:It->Hp->Prop) (itv:e6) (s2:h6):Prop :=
 ∃ (it:Addr) (fp:List Addr) (tn:Nat->Heap->Prop) (J:It) (H':Hp),itv = .ref it/\Inv X pins σ H' s2/\eQ X.prog X.w X.K tg J fp it tn/\tn 0 s2.heap/\(∀ b∈fp,bL X pins H' b)/\R J H'
def PI (X:Cx) (tg iter:Expr) (wi:TI):Prop :=
 ∀ (pins:List (Addr×Obj)) (s:h6) (σ:St) (H:Hp) (R:It->Hp->Prop),Inv X pins σ H s->wi σ H R ->
  DJ (model X.prog X.w) X.A (eval iter X.env) (fun v s1=>DJ (model X.prog X.w) X.A (Jg v) (PIE X pins σ tg R) X.xe s1) X.xe s
theorem ko {M:LI} {A:Ea} {E:e6->h6->Prop} {s:h6} {tg:Expr} {it:Addr} {u:e6} {o:Obj} {n:String} {vs:Array e6} {Q:Unit->h6->Prop} (ho:s.heap.get? it=some o) (q:o.cls = .type n) (hd:o.data = .fields vs)
 (z : ["enumerate", "zip", "dict_itemiterator", "dict_reverseitemiterator", "odict_iterator", "itertools.zip_longest", "itertools.pairwise"].contains n=false) (j:Q () s):DJ M A (Hm tg (.ref it) u) Q E s:=by
 unfold Hm
 cases tg <;> first
  | exact h7 j
  | (cases u <;> first
      | exact h7 j
      | (refine b0 (wpAny_load ho ?_)
         rw [q,hd];show DJ M A (if (["enumerate", "zip", "dict_itemiterator", "dict_reverseitemiterator", "odict_iterator", "itertools.zip_longest", "itertools.pairwise"].contains n&&vs[0]? == some (Ic _))=true then _ else _) Q E s
         rw [if_neg (by intro h;rw [z,HH] at h;cases h)]
         exact h7 j))
noncomputable def Itl (K:Frag) (a:Addr):It :=
 ⟨fun i H => ∃ xs x,SqL K H a xs/\xs[i]? = some x,fun i H x H'=>H'=H /\ ∀ xs,SqL K H a xs->xs[i]? = some x,fun i H => ∃ xs,SqL K H a xs/\xs.length<=i⟩
noncomputable def Itt (K:Frag) (a:Addr):It :=
 ⟨fun i H => ∃ xs x,SqT K H a xs/\xs[i]? = some x,fun i H x H'=>H'=H /\ ∀ xs,SqT K H a xs->xs[i]? = some x,fun i H => ∃ xs,SqT K H a xs/\xs.length<=i⟩
noncomputable def Itr (lo:Int) (n:Nat):It:=⟨fun i _=>i < n,fun i H x H'=>H'=H/\x = .int (lo+i),fun i _=>n<=i⟩
theorem rN {P:DQ} {w:E4} {K:Frag} {tg:Expr} (a it:Addr):eQ P w K tg (Itl K a) [it] it (fun i h=>h.IsListIter it a i) where
 mem:=by simp
 obj:=fun i h st b j=>by
  have e:b=it:=by simpa using j
  subst e;obtain ⟨o,e,c,d⟩:=st;exact ⟨o,e,fun v z=>by rw [d] at z;cases z⟩
 keep:=fun i h h' st k=>st.at fun o e=>k it (by simp) o e
 item:=by
  intro X B hw F L i pins s σ H E I hf st hg;subst B hw F;obtain ⟨xs,x,q,hx⟩:=hg;obtain ⟨its,rv,p,O⟩:=I.list q;obtain ⟨u,U,ru⟩:=rv.get hx;obtain ⟨f0,f1,f2,G,f4,J⟩:=hf it (by simp)
  refine IH st p.isList (x:=u) (by simpa using U) fun h' st' sb => ?_
  have Y:Inv X pins σ H { s with heap:=h' }:=I.turned (t':=s.toks) (fun b o j e=>(sb.2 b j).trans e) f0 f1 G f4 J
  obtain ⟨o,e,c,d⟩:=id st';exact ⟨u,rfl,ko (s := { s with heap:=h' }) e c d (by decide) ⟨x,H,Y,ru,⟨rfl,fun ys Z=>by rw [I.list_inj Z q];exact hx⟩,st',fun b j=>(hf b j).1⟩⟩
 done:=by
  intro X B hw F L i pins s σ H E I hf st hg;subst B hw F;obtain ⟨xs,q,hx⟩:=hg;obtain ⟨its,rv,p,O⟩:=I.list q;obtain ⟨f0,f1,f2,G,f4,J⟩:=hf it (by simp)
  have hl:=rv.length;exact J9 (I.ok.hd L) st p.isList (by simp;omega) fun h' eb=>⟨rfl,I.turned (t':=s.toks) (fun b o j e=>eb b o j e) f0 f1 G f4 J⟩
 self:=fun _ _ _ _ _ st h=>wpAny_pyIter_listiter st h
theorem pU {P:DQ} {w:E4} {K:Frag} {tg:Expr} (a it:Addr):eQ P w K tg (Itt K a) [it] it (fun i h=>h.IsTupleIter it a i) where
 mem:=by simp
 obj:=fun i h st b j=>by
  have e:b=it:=by simpa using j
  subst e;obtain ⟨o,e,c,d⟩:=st;exact ⟨o,e,fun v z=>by rw [d] at z;cases z⟩
 keep:=fun i h h' st k=>st.at fun o e=>k it (by simp) o e
 item:=by
  intro X B hw F L i pins s σ H E I hf st hg;subst B hw F;obtain ⟨xs,x,q,hx⟩:=hg;obtain ⟨its,rv,p,O⟩:=I.tuple q;obtain ⟨u,U,ru⟩:=rv.get hx;obtain ⟨f0,f1,f2,G,f4,J⟩:=hf it (by simp)
  refine wpAny_pyNext_tuple_item st (show s.heap.IsTuple a its.toArray from p) (x:=u) (by simpa using U) fun h' st' sb => ?_
  have Y:Inv X pins σ H { s with heap:=h' }:=I.turned (t':=s.toks) (fun b o j e=>(sb.2 b j).trans e) f0 f1 G f4 J
  obtain ⟨o,e,c,d⟩:=id st';exact ⟨u,rfl,ko (s := { s with heap:=h' }) e c d (by decide) ⟨x,H,Y,ru,⟨rfl,fun ys Z=>by rw [I.tuple_inj Z q];exact hx⟩,st',fun b j=>(hf b j).1⟩⟩
 done:=by
  intro X B hw F L i pins s σ H E I hf st hg;subst B hw F;obtain ⟨xs,q,hx⟩:=hg;obtain ⟨its,rv,p,O⟩:=I.tuple q;obtain ⟨f0,f1,f2,G,f4,J⟩:=hf it (by simp)
  have hl:=rv.length;exact wpAny_pyNext_tuple_end (I.ok.hd L) st (show s.heap.IsTuple a its.toArray from p) (by simp;omega) fun h' eb=>⟨rfl,I.turned (t':=s.toks) (fun b o j e=>eb b o j e) f0 f1 G f4 J⟩
 self:=fun _ _ _ _ _ st h=>wpAny_pyIter_tupleiter st h
theorem pV {P:DQ} {w:E4} {K:Frag} {tg:Expr} (it:Addr) (lo:Int) (n:Nat):eQ P w K tg (Itr lo n) [it] it (fun i h=>IsRangeIter h it (lo+(i:Nat)*1) ((n:Int) - (i:Nat)) 1) where
 mem:=by simp
 obj:=fun i h st b j=>by
  have e:b=it:=by simpa using j
  subst e;exact ⟨_,st,fun v z=>by
   have z':Data.fields _=Data.cell v:=z
   cases z'⟩
 keep:=fun i h h' st k=>k it (by simp) _ st
 item:=by
  intro X q hw B F i pins s σ H E I hf st hg;subst q hw B;obtain ⟨f0,f1,f2,G,f4,J⟩:=hf it (by simp)
  have W:=Walks.range (prog:=X.prog) (w:=X.w) (I.ok.hd F) it lo 1 n;refine W.item i s _ _ hg st fun v h' tk L st' kk => ?_;obtain ⟨t,rfl⟩:=L;have O:Inv X pins σ H { s with heap:=h',toks:=tk }:=I.turned (fun b o j e=>kk b o (by simpa using j) e) f0 f1 G f4 J
  refine ⟨_,rfl,ko (s := { s with heap:=h',toks:=tk }) (n := "range_iterator") st' rfl rfl (by decide) ⟨.int (lo+i),H,O,⟨t, ?_⟩,⟨rfl,rfl⟩,st',fun b j=>(hf b j).1⟩⟩
  rw [Int.mul_one]
 done:=by
  intro X q hw B F i pins s σ H E I hf st hg;subst q hw B;obtain ⟨f0,f1,f2,G,f4,J⟩:=hf it (by simp)
  exact wpAny_pyNext_range_end (I.ok.hd F) st (by have:n<=i:=hg;omega) fun h' eb=>⟨rfl,I.turned (t':=s.toks) (fun b o j e=>eb b o j e) f0 f1 G f4 J⟩
 self:=fun _ _ _ _ _ st h=>wpAny_pyIter_rangeiter st h
end
section
section
variable {X:Cx} {tg:Expr}
theorem kI {pins:List (Addr×Obj)} {σ:St} {H:Hp} {s:h6} {R:It->Hp->Prop} {E:e6->h6->Prop} {lo hi:Int} {t u v:Tok} {tk:Nat} (I:Inv X pins σ H s) (h1 : -(2 ^ 62)<=lo) (h2:lo < 2 ^ 62) (z : -(2 ^ 62)<=hi) (B:hi < 2 ^ 62)
 (q:R (Itr lo (hi - lo).toNat) H):DJ (model X.prog X.w) X.A (Jg (.ref s.heap.objs.size)) (PIE X pins σ tg R) E { s with heap:=s.heap.push { cls := .type "range",data := .fields #[.int lo t, .int hi u, .int 1 v] },toks:=tk }:=by
 refine wpAny_pyIter_range (IsRange.new ..) (small_one h1 h2 z B) ?_;have j:Inv X pins σ H { s with heap:=s.heap.push { cls := .type "range",data := .fields #[.int lo t, .int hi u, .int 1 v] },toks:=tk }:=I.kept fun b o e=>gV _ e
 refine ⟨(s.heap.push { cls := .type "range",data := .fields #[.int lo t, .int hi u, .int 1 v] }).objs.size,[(s.heap.push { cls := .type "range",data := .fields #[.int lo t, .int hi u, .int 1 v] }).objs.size],_,_,H,rfl,
  j.kept (t':=tk) fun b o e=>gV _ e,pV _ lo (hi - lo).toNat, ?_,fun b F => ?_,q⟩
 ·have G:lo+((0:Nat):Int)*1=lo:=by simp
  have J:(((hi - lo).toNat:Nat):Int) - ((0:Nat):Int)=Builtin.Range.rangeSize lo hi 1:=by rw [rangeSize_one];split <;> omega
  show IsRangeIter _ _ (lo+((0:Nat):Int)*1) ((((hi - lo).toNat:Nat):Int) - ((0:Nat):Int)) 1;rw [G,J];exact hH _ rfl
 ·have e:b=(s.heap.push { cls := .type "range",data := .fields #[.int lo t, .int hi u, .int 1 v] }).objs.size:=by simpa using F
  subst e;exact j.fpOk (hQ _) (j.hok.fresh (hQ _))
noncomputable def BH (ta:TA):TI:=fun σ H R=>ta σ H fun vs H1 => ∃ j:Int,vs=[.int j] /\ -(2 ^ 62)<=j/\j < 2 ^ 62/\R (Itr 0 j.toNat) H1
noncomputable def BI (ta:TA):TI:=fun σ H R=>ta σ H fun vs H1 => ∃ i j:Int,vs=[.int i, .int j]/\(-(2 ^ 62)<=i/\i < 2 ^ 62 /\ -(2 ^ 62)<=j/\j < 2 ^ 62)/\R (Itr i (j - i).toNat) H1
theorem rO {a:Expr} {ta:TA} {p pos:Pos} (B:Gl X "range") (hm:X.mg "range" = none) (F:PA X [a] ta) (G:DN [a] X.env=[(false,eval a X.env)]:=by rfl):PI X tg (.Call (.Name "range" p) [a] [] pos) (BH ta):=by
 intro pins s σ H R I h;refine Call_ (cD I B hm boot_range (ER (thn (F pos pins s σ H _ I h) fun us s1 ⟨vs,H1,J,L,z⟩ => ?_) G rfl));obtain ⟨j,e,z,O,q⟩:=z;subst e
 cases L with
 | cons r rr =>
   cases rr
   obtain ⟨t,rfl⟩:=r;exact call_range_1 (kI J (by omega) (by omega) z O (by simpa using q))
theorem rP {a b:Expr} {ta:TA} {p pos:Pos} (F:Gl X "range") (hm:X.mg "range" = none) (G:PA X [a,b] ta) (J:DN [a,b] X.env=[(false,eval a X.env),(false,eval b X.env)]:=by rfl) (z:DN [b] X.env=[(false,eval b X.env)]:=by rfl) :
 PI X tg (.Call (.Name "range" p) [a,b] [] pos) (BI ta):=by
 intro pins s σ H R I h;refine Call_ (cD I F hm boot_range (ER (thn (G pos pins s σ H _ I h) fun us s1 ⟨vs,H1,L,O,B⟩ => ?_) (by rw [J,z]) (by rw [z];rfl)))
 obtain ⟨i,j,e,⟨B,U,Y,Z⟩,q⟩:=B;subst e
 cases O with
 | cons r rr =>
   cases rr with
   | cons r' rr =>
     cases rr
     obtain ⟨t,rfl⟩:=r;obtain ⟨t',rfl⟩:=r';exact call_range_2 (kI L B U Y Z q)
noncomputable def Ab (wi:TI) (g:TG) (tb:TS):TS:=fun D σ H=>wi σ H fun J H1 => ∃ W:Nat->Nat->St->Hp->Prop,(∃ m,W 0 m σ H1) /\ ∀ i m σ H,W i m σ H ->
 (J.stop i H/\D.nx σ H)∨(J.go i H /\ ∃ N:St->Hp->Prop,(∀ σ' H',N σ' H' -> ∃ m',m' < m/\W (i+1) m' σ' H') /\ ∀ x H',J.yld i H x H'->g x σ H' fun σ2 H2=>tb { D with nx:=N,ct:=N,bk:=D.nx } σ2 H2)
noncomputable def i9 (fp:List Addr) (h:Heap):List (Addr×Obj):=fp.filterMap fun b=>(h.get? b).map fun o=>(b,o)
theorem cP {fp:List Addr} {h:Heap} {b:Addr} {o:Obj} (j:b∈fp) (e:h.get? b=some o):(b,o)∈i9 fp h:=K2.mpr ⟨b,j,by rw [e];rfl⟩
theorem rQ {fp:List Addr} {h:Heap} {p:Addr×Obj} (j:p∈i9 fp h):p.1∈fp/\h.get? p.1=some p.2:=by
 obtain ⟨b,z,e⟩:=K2.mp j
 cases q:h.get? b with
 | none=>rw [q] at e;cases e
 | some o =>
   rw [q] at e;have e':(b,o)=p:=EB.inj e;subst e';exact ⟨z,q⟩
theorem Inv.pinned {pins:List (Addr×Obj)} {σ:St} {H:Hp} {s:h6} {fp:List Addr} (I:Inv X pins σ H s) (hf:∀ b∈fp,bL X pins H b) (ho:∀ b∈fp, ∃ o,s.heap.get? b=some o /\ ∀ v,o.data ≠ .cell v):Inv X (pins++i9 fp s.heap) σ H s :=
 I.pins_of fun p q=>(DW.mp q).elim (fun z=>I.pin p (DU _ z)) fun z=>by
  obtain ⟨j,e⟩:=rQ z;obtain ⟨f0,f1,f2,_⟩:=hf p.1 j;obtain ⟨o,e',d⟩:=ho p.1 j;rw [e] at e';cases e';exact ⟨e,f0,f1,f2,d⟩
theorem Inv.unpinned {pins pl:List (Addr×Obj)} {σ:St} {H:Hp} {s:h6} (I:Inv X (pins++pl) σ H s):Inv X pins σ H s:=I.pins_of fun p j=>I.pin p (DU _ (Jf _ j))
theorem Ac {iter:Expr} {body:List Stmt} {wi:TI} {g:TG} {tb:TS} {pos:Pos} (G:PassesOwn (model X.prog X.w) X.A X.env X.xe) (hc:X.calm=true) (hi:PI X tg iter wi) (hg:PG X tg g) (j:PSs X body tb)
 (hs:∀ x,Fd iter X.env x=pure x:=by intro _;rfl):PS X (.For tg iter body [] pos) (Ab wi g tb):=by
 intro pins s σ H D I h;refine wpAny_For (thn (hi pins s σ H _ I h) fun v s1 h1=>thn h1 fun itv s2 h2 => ?_) hs;obtain ⟨it,fp,tn,J,H2,e,I2,T,Z,f2,W,⟨m0,w0⟩,turn⟩:=h2;subst e;have stat:∀ {H':Hp},(∀ b∈fp,H' b=none) -> ∀ b∈fp,bL X pins H' b:=fun hn b j=>⟨hn b j,(f2 b j).2⟩;refine codeAny_forLoop_any (fun n s' => ∃ i σ' H',Inv X pins σ' H' s'/\tn i s'.heap/\(∀ b∈fp,H' b=none)/\W i n σ' H') ?_ m0 ⟨0, σ,H2,I2,Z,fun b j=>(f2 b j).1,w0⟩;rintro n s3 ⟨i, σ3,Y,I3,L,O,w3⟩
 rcases turn i n σ3 Y w3 with ⟨stop,qn⟩ | ⟨go,N,hN,step⟩
 ·refine Fs G (thn (T.done X rfl rfl rfl hc i pins s3 σ3 Y X.xe I3 (stat O) L stop) fun r s4 ⟨hr,I4⟩ => ?_);subst hr;exact IZ ⟨σ3,Y,I4,qn⟩
 ·refine Fs G (thn (T.item X rfl rfl rfl hc i pins s3 σ3 Y X.xe I3 (stat O) L go) fun r s4 ⟨u,hr,h4⟩ => ?_);subst hr;refine Fs G (thn h4 fun _ s5 ⟨x,H5,I5,r5,y5,F,CY⟩ => ?_);have CZ:=I5.pinned (stat CY) (T.obj _ _ F);refine Fs G (thn (hg _ s5 σ3 H5 x u _ CZ r5 (step x H5 y5)) fun _ s6 ⟨σ6,H6,I6,q6⟩ => ?_);refine Fs G (thn (j _ s6 σ6 H6 _ I6 q6) fun f s7 B => ?_);have again:∀ {σ7:St} {q:Hp},Inv X (pins++i9 fp s5.heap) σ7 q s7->N σ7 q -> ∃ m,m < n /\ ∃ i σ' H',Inv X pins σ' H' s7/\tn i s7.heap/\(∀ b∈fp,H' b=none)/\W i m σ' H':=fun {σ7 q} z U=>by
   obtain ⟨m',hm,w7⟩:=hN σ7 q U;refine ⟨m',hm,i+1, σ7,q,z.unpinned,T.keep _ _ _ F fun b j o e=>(z.pin (b,o) (DU _ (DU _ (cP j e)))).1,fun b j => ?_,w7⟩;obtain ⟨o,e,d⟩:=T.obj _ _ F b j;exact (z.pin (b,o) (DU _ (DU _ (cP j e)))).2.1
  cases f with
  | next=>obtain ⟨σ7,q,z,U⟩:=B;exact again z U
  | cont=>obtain ⟨σ7,q,z,U⟩:=B;exact again z U
  | brk=>obtain ⟨σ7,q,z,B⟩:=B;exact ⟨σ7,q,z.unpinned,B⟩
  | ret v=>obtain ⟨x7, σ7,q,z,r7,B⟩:=B;exact ⟨x7, σ7,q,z.unpinned,r7,B⟩
end
end
section
noncomputable abbrev R2:=V->V->Hp->VK->Prop
def OpR (X:Cx) (f:e6->e6->Sem e6) (r:R2):Prop :=
 ∀ (pins:List (Addr×Obj)) (s:h6) (σ:St) (H:Hp) (x y:V) (v u:e6) (Q:VK),Inv X pins σ H s->RelV x v->RelV y u->r x y H Q ->
  DJ (model X.prog X.w) X.A (f v u) (EP X pins σ Q) X.xe s
def UnR (X:Cx) (f:e6->Sem e6) (r:V->Hp->VK->Prop):Prop :=
 ∀ (pins:List (Addr×Obj)) (s:h6) (σ:St) (H:Hp) (x:V) (v:e6) (Q:VK),Inv X pins σ H s->RelV x v->r x H Q ->
  DJ (model X.prog X.w) X.A (f v) (EP X pins σ Q) X.xe s
def CallR (X:Cx) (f:e6) (r:List V->Hp->VK->Prop):Prop :=
 ∀ (pins:List (Addr×Obj)) (s:h6) (σ:St) (H:Hp) (xs:List V) (us:List e6) (Q:VK),Inv X pins σ H s->Vals xs us->r xs H Q ->
  DJ (model X.prog X.w) X.A (call f us) (EP X pins σ Q) X.xe s
def CC (X:Cx) (r:V->Hp->(Bool->Hp->Prop)->Prop):Prop :=
 ∀ (pins:List (Addr×Obj)) (s:h6) (σ:St) (H:Hp) (x:V) (v:e6) (Q:Bool->Hp->Prop),Inv X pins σ H s->RelV x v->r x H Q ->
  DJ (model X.prog X.w) X.A (truthy v) (TP X pins σ Q) X.xe s
noncomputable def tOp (r:R2) (ta tb:TE):TE:=fun σ H Q=>ta σ H fun x H1=>tb σ H1 fun y H2=>r x y H2 Q
noncomputable def tUn (r:V->Hp->VK->Prop) (ta:TE):TE:=fun σ H Q=>ta σ H fun x H1=>r x H1 Q
noncomputable def rI (C:Int->Int->Prop) (g:Int->Int->V):R2:=fun x y H Q => ∃ i j,x = .int i/\y = .int j/\C i j/\Q (g i j) H
noncomputable def rI0 (g:Int->Int->V):R2:=fun x y H Q => ∃ i j,x = .int i/\y = .int j/\Q (g i j) H
noncomputable def rU (g:Int->V):V->Hp->VK->Prop:=fun x H Q => ∃ i,x = .int i/\Q (g i) H
section
variable {X:Cx} {a b c:Expr} {ta tb tc:TE} {pos:Pos}
theorem uL (j:PE X a ta) (q:PE X b tb) {pins:List (Addr×Obj)} {s:h6} {σ:St} {H:Hp} {R:V->V->Hp->Prop} (I:Inv X pins σ H s)
 (h:ta σ H fun x H1=>tb σ H1 fun y H2=>R x y H2) {Q:e6->h6->Prop} {f:e6->e6->Sem e6}
 (hf:∀ v u s2 x y H2,Inv X pins σ H2 s2->RelV x v->RelV y u->R x y H2->DJ (model X.prog X.w) X.A (f v u) Q X.xe s2) :
 DJ (model X.prog X.w) X.A (eval a X.env) (fun v s₁ => DJ (model X.prog X.w) X.A (eval b X.env) (fun u s₂ => DJ (model X.prog X.w) X.A (f v u) Q X.xe s₂) X.xe s₁) X.xe s:=by
 refine thn (j pins s σ H _ I h) fun v s1 ⟨x,H1,z,B,F⟩ => ?_;refine thn (q pins s1 σ H1 _ z F) fun u s2 ⟨y,H2,G,J,L⟩ => ?_;exact hf v u s2 x y H2 G B J L
theorem BJ {op:Kn} {r:R2} (ho:OpR X (EL op) r) (j:PE X a ta) (z:PE X b tb):PE X (.BinOp a op b pos) (tOp r ta tb):=by
 intro pins s σ H Q I h;exact wpAny_BinOp (uL j z I h fun v u s2 x y H2 B rx ry q=>ho pins s2 σ H2 x y v u Q B rx ry q)
theorem BK {op:UnaryOp} {r:V->Hp->VK->Prop} (ho:UnR X (unaryOp op) r) (j:PE X a ta):PE X (.UnaryOp op a pos) (tUn r ta):=by
 intro pins s σ H Q I h;exact UnaryOp_ (thn (j pins s σ H _ I h) fun v s1 ⟨x,H1,q,z,B⟩=>ho pins s1 σ H1 x v Q q z B)
theorem opI {f:e6->e6->Sem e6} {C:Int->Int->Prop} {g:Int->Int->Int}
 (rule:∀ (i j:Int) (t u:Tok) (s:h6) (Q:e6->h6->Prop) (E:e6->h6->Prop),C i j->Q (.int (g i j) s.toks) { s with toks:=s.toks+1 }->DJ (model X.prog X.w) X.A (f (.int i t) (.int j u)) Q E s) :
 OpR X f (rI C fun i j => .int (g i j)):=by
 intro pins s σ H x y v u Q I rx ry h;obtain ⟨i,j,rfl,rfl,z,q⟩:=h;obtain ⟨t,rfl⟩:=rx;obtain ⟨t',rfl⟩:=ry;exact rule i j t t' s _ _ z ⟨.int (g i j),H,I.tok _,⟨_,rfl⟩,q⟩
theorem Ad {f:e6->e6->Sem e6} {g:Int->Int->Int}
 (rule:∀ (i j:Int) (t u:Tok) (s:h6) (Q:e6->h6->Prop) (E:e6->h6->Prop),Q (.int (g i j) s.toks) { s with toks:=s.toks+1 }->DJ (model X.prog X.w) X.A (f (.int i t) (.int j u)) Q E s) :
 OpR X f (rI0 fun i j => .int (g i j)):=by
 intro pins s σ H x y v u Q I rx ry h;obtain ⟨i,j,rfl,rfl,q⟩:=h;obtain ⟨t,rfl⟩:=rx;obtain ⟨t',rfl⟩:=ry;exact rule i j t t' s _ _ ⟨.int (g i j),H,I.tok _,⟨_,rfl⟩,q⟩
theorem uM {f:e6->e6->Sem e6} {g:Int->Int->Bool}
 (rule:∀ (i j:Int) (t u:Tok) (s:h6) (Q:e6->h6->Prop) (E:e6->h6->Prop),Q (.bool (g i j)) s->DJ (model X.prog X.w) X.A (f (.int i t) (.int j u)) Q E s) :
 OpR X f (rI0 fun i j => .bl (g i j)):=by
 intro pins s σ H x y v u Q I rx ry h;obtain ⟨i,j,rfl,rfl,q⟩:=h;obtain ⟨t,rfl⟩:=rx;obtain ⟨t',rfl⟩:=ry;exact rule i j t t' s _ _ ⟨.bl (g i j),H,I,rfl,q⟩
def CD (i j:Int):Prop := 0<=j/\j<=1000000/\i.natAbs < 2 ^ 64
theorem op_add:OpR X (EL .Add) (rI0 fun i j => .int (i+j)):=Ad fun _ _ _ _ _ _ _ q=>add_int q
theorem Ae:OpR X (EL .Sub) (rI0 fun i j => .int (i - j)):=Ad fun _ _ _ _ _ _ _ q=>sub_int q
theorem Af:OpR X (EL .Mod) (rI (fun _ j => 0 < j) fun i j => .int (i % j)):=opI fun i j _ _ _ _ _ z q=>by
 have h1:(0:Int) < j:=z;exact mod_int' (by omega) (by rw [Int.fmod_eq_emod_of_nonneg i (by omega)];exact q)
theorem Ag:OpR X (EL .Pow) (rI CD fun i j => .int (i ^ j.toNat)):=opI fun _ _ _ _ _ _ _ z q=>pow_int_small z.1 z.2.1 z.2.2 q
theorem unI {f:e6->Sem e6} {g:Int->Int}
 (rule:∀ (i:Int) (t:Tok) (s:h6) (Q:e6->h6->Prop) (E:e6->h6->Prop),Q (.int (g i) s.toks) { s with toks:=s.toks+1 }->DJ (model X.prog X.w) X.A (f (.int i t)) Q E s) :
 UnR X f (rU fun i => .int (g i)):=by
 intro pins s σ H x v Q I rx h;obtain ⟨i,rfl,q⟩:=h;obtain ⟨t,rfl⟩:=rx;exact rule i t s _ _ ⟨.int (g i),H,I.tok _,⟨_,rfl⟩,q⟩
theorem Ah:UnR X (unaryOp .USub) (rU fun i => .int (-i)):=unI fun _ _ _ _ _ q=>neg_int q
end
section
variable {X:Cx} {a b c:Expr} {ta tb tc:TE} {pos:Pos}
theorem BL:OpR X (Eg .Lt) (rI0 fun i j => .bl (decide (i < j))):=uM fun _ _ _ _ _ _ _ q=>lt_int q
theorem BM:OpR X (Eg .Gt) (rI0 fun i j => .bl (decide (j < i))):=uM fun _ _ _ _ _ _ _ q=>gt_int q
theorem BN:OpR X (Eg .GtE) (rI0 fun i j => .bl (decide (j<=i))):=uM fun _ _ _ _ _ _ _ q=>ge_int q
theorem OpR.or {f:e6->e6->Sem e6} {r r':R2} (h:OpR X f r) (h':OpR X f r'):OpR X f (fun x y H Q=>r x y H Q∨r' x y H Q):=by
 intro pins s σ H x y v u Q I rx ry q
 rcases q with q | q
 ·exact h pins s σ H x y v u Q I rx ry q
 ·exact h' pins s σ H x y v u Q I rx ry q
theorem xU {op:CmpOp} {r:R2} (ho:OpR X (Eg op) r) (j:PE X a ta) (z:PE X b tb) (hm:Gw op b=false):PE X (.Compare a [op] [b] pos) (tOp r ta tb):=by
 intro pins s σ H Q I h;exact wpAny_Compare1 (uL j z I h fun v u s2 x y H2 B rx ry q=>ho pins s2 σ H2 x y v u Q B rx ry q) hm
noncomputable def xf (t:TE):TT:=fun σ H Q=>t σ H fun x H' => ∃ k,x = .bl k/\Q k H'
theorem xV {op:CmpOp} {r:R2} (ho:OpR X (Eg op) r) (j:PE X a ta) (q:PE X b tb) (hm:Gw op b=false):PT X (.Compare a [op] [b] pos) (xf (tOp r ta tb)):=by
 intro pins s σ H Q I h;refine wpAny_isTrue_Compare1 (thn (j pins s σ H _ I h) fun v s1 ⟨x,H1,B,F,G⟩=>thn (q pins s1 σ H1 _ B G) fun u s2 ⟨y,H2,J,L,O⟩ =>
  thn (ho pins s2 σ H2 x y v u _ J F L O) fun c s3 ⟨z,U,Y,Z,k,e,q3⟩ => ?_) hm
 subst e
 cases Z
 exact Fc ⟨U,Y,q3⟩
def uN (K:Frag) (x:V) (H:Hp) (k:Bool):Prop :=
 match x with
 | .non=>k=false
 | .bl b=>k=b
 | .int i=>k=(i != 0)
 | .str y=>y.length<=p4/\k=((y.length:Int) != 0)
 | .byt y=>y.size<=p4/\k=((y.size:Int) != 0)
 | .ref p=>(∃ xs,SqL K H p xs/\k = !xs.isEmpty)∨(∃ xs,SqT K H p xs/\k = !xs.isEmpty) ∨ ∃ kvs,H p=some (.dK kvs)/\k = !kvs.isEmpty
 | _=>False
theorem pW {κ:Type} {kvs:List (κ × V)} {vs:List (κ × e6)} (r:KV kvs vs):(!vs.isEmpty) = !kvs.isEmpty:=by
 cases r <;> rfl
theorem ic {xs:List V} {its:List e6} (r:Vals xs its):(!its.toArray.isEmpty) = !xs.isEmpty:=by
 cases r <;> simp
theorem eR:(p4:Nat) < 2 ^ 63:=by rw [h8];decide
theorem Ai:CC X (fun x H Q => ∃ k,uN X.K x H k/\Q k H):=by
 intro pins s σ H x v Q I rx h;obtain ⟨k,e,q⟩:=h;have F:=eR;have G:p4=16777216:=h8
 cases x with
 | non =>
   cases rx
   have e':k=false:=e;subst e';exact truthy_none ⟨H,I,q⟩
 | bl b =>
   cases rx
   have e':k=b:=e;subst e';exact Fc ⟨H,I,q⟩
 | int i =>
   obtain ⟨t,rfl⟩:=rx;have e':k=(i != 0):=e;subst e';exact PySem.P.truthy_int ⟨H,I,q⟩
 | str y =>
   obtain ⟨t,rfl⟩:=rx;obtain ⟨z,e'⟩:y.length<=p4/\k=((y.length:Int) != 0):=e;subst e';exact PySem.P.truthy_str (by omega) ⟨H,I.tok _,q⟩
 | byt y =>
   obtain ⟨t,rfl⟩:=rx;obtain ⟨z,e'⟩:y.size<=p4/\k=((y.size:Int) != 0):=e;subst e';exact PySem.W.truthy_bytes (by omega) ⟨H,I.tok _,q⟩
 | ref p =>
   cases rx
   have e':(∃ xs,SqL X.K H p xs/\k = !xs.isEmpty)∨(∃ xs,SqT X.K H p xs/\k = !xs.isEmpty) ∨ ∃ kvs,H p=some (.dK kvs)/\k = !kvs.isEmpty:=e
   rcases e' with ⟨xs,hx,e'⟩ | ⟨xs,hx,e'⟩ | ⟨kvs,hx,e'⟩
   ·subst e';obtain ⟨its,r,pl,j⟩:=I.list hx;have hlen:=r.length;exact wpAny_truthy_list pl.isList (by simp only [r3];omega) ⟨H,I.tok _,by rw [ic r];exact q⟩
   ·subst e';obtain ⟨its,r,pl,j⟩:=I.tuple hx;have hlen:=r.length;exact truthy_tuple pl (by simp only [r3];omega) ⟨H,I.tok _,by rw [ic r];exact q⟩
   ·subst e';obtain ⟨j,B,vs,r,m⟩:kvs.length<=p4/\(p==Em)=false /\ ∃ vs,KV kvs vs/\s.heap.DictOf (aE X.prog X.w) p vs:=I.hok p _ hx;have hlen:kvs.length=vs.length:=Fl r;exact wpAny_truthy_dict B m (by omega) ⟨H,I.tok _,by rw [pW r];exact q⟩
 | _=>exact (show False from e).elim
theorem uO (j:PE X a ta) (he:∀ whole,isTrue a X.env whole=(do let v <- whole;GP a.pos;holding [v] (truthy v))) :
 PT X a (fun σ H Q=>ta σ H fun x H' => ∃ k,uN X.K x H' k/\Q k H'):=by
 intro pins s σ H Q I h;exact isTrue_plain (thn (j pins s σ H _ I h) fun v s1 ⟨x,H1,q,z,B⟩=>Ai pins s1 σ H1 x v Q q z B) (he _)
theorem pX:OpR X (EL .Add) (fun x y H Q => ∃ i j,x = .str i/\y = .str j/\i.length+j.length<=p4/\Q (.str (i++j)) H):=by
 intro pins s σ H x y v u Q I rx ry h;obtain ⟨i,j,rfl,rfl,z,q⟩:=h;obtain ⟨t,rfl⟩:=rx;obtain ⟨t',rfl⟩:=ry;exact add_str (fun t' tk=>⟨.str (i++j),H,I.tok _,⟨_,rfl⟩,q⟩) z
theorem cQ {x:V} {us:List e6} (r:Vals [x] us):∃ u,us=[u]/\RelV x u:=by
 cases r with
 | cons j q=>cases q;exact ⟨_,rfl,j⟩
theorem pY {x y:V} {us:List e6} (r:Vals [x,y] us):∃ u w',us=[u,w']/\RelV x u/\RelV y w':=by
 cases r with
 | cons j q =>
   cases q with
   | cons z B=>cases B;exact ⟨_,_,rfl,j,z⟩
theorem uP:CallR X (.builtin "abs") (fun xs H Q => ∃ i,xs=[.int i]/\Q (.int (if i < 0 then -i else i)) H):=by
 intro pins s σ H xs us Q I r h;obtain ⟨i,rfl,q⟩:=h;obtain ⟨u,rfl,t,rfl⟩:=cQ r;exact call_abs_int fun u tk=>⟨.int (if i < 0 then -i else i),H,I.tok _,⟨_,rfl⟩,q⟩
theorem rR (B:X.calm=true):CallR X (.builtin "min") (fun xs H Q => ∃ i j,xs=[.int i, .int j]/\Q (.int (if j < i then j else i)) H):=by
 intro pins s σ H xs us Q I r h;obtain ⟨i,j,rfl,q⟩:=h;obtain ⟨u,w',rfl,⟨t,rfl⟩,⟨t',rfl⟩⟩:=pY r;refine min_two_ints (I.ok.hd B) fun h' tk k=>⟨_,H,I.kept k, ?_,q⟩
 by_cases z:j < i
 ·rw [if_pos z,if_pos z];exact ⟨_,rfl⟩
 ·rw [if_neg z,if_neg z];exact ⟨_,rfl⟩
theorem rS:CallR X (.type "int") (fun xs H Q=>(∃ i,xs=[.int i]/\Q (.int i) H) ∨ ∃ k,xs=[.bl k]/\Q (.int (if k then 1 else 0)) H):=by
 intro pins s σ H xs us Q I r h
 rcases h with ⟨i,rfl,q⟩ | ⟨k,rfl,q⟩
 ·obtain ⟨u,rfl,t,rfl⟩:=cQ r;exact call_int_int ⟨.int i,H,I,⟨_,rfl⟩,q⟩
 ·obtain ⟨u,rfl,j⟩:=cQ r
  cases j
  exact call_int_bool ⟨.int (if k then 1 else 0),H,I.tok _,⟨_,rfl⟩,q⟩
def CF (K:Frag) (x:V) (H:Hp) (n:Nat):Prop :=
 match x with
 | .str y=>y.length<=p4/\n=y.length
 | .byt y=>y.size<=p4/\n=y.size
 | .ref p=>(∃ xs,SqL K H p xs/\n=xs.length) ∨ ∃ xs,SqT K H p xs/\n=xs.length
 | _=>False
theorem uQ:CallR X (.builtin "len") (fun xs H Q => ∃ x n,xs=[x]/\CF X.K x H n/\Q (.int n) H):=by
 intro pins s σ H xs us Q I r h;obtain ⟨x,n,rfl,e,q⟩:=h;obtain ⟨u,rfl,rx⟩:=cQ r;have B:=eR;have F:p4=16777216:=h8
 cases x with
 | str y =>
   obtain ⟨t,rfl⟩:=rx;obtain ⟨j,e'⟩:y.length<=p4/\n=y.length:=e;subst e';exact len_str (by omega) ⟨.int _,H,I.tok _,⟨_,rfl⟩,q⟩
 | byt y =>
   obtain ⟨t,rfl⟩:=rx;obtain ⟨j,e'⟩:y.size<=p4/\n=y.size:=e;subst e';exact PySem.W.len_bytes (by omega) ⟨.int _,H,I.tok _,⟨_,rfl⟩,q⟩
 | ref p =>
   cases rx
   have e':(∃ xs,SqL X.K H p xs/\n=xs.length) ∨ ∃ xs,SqT X.K H p xs/\n=xs.length:=e
   rcases e' with ⟨xs,hx,e'⟩ | ⟨xs,hx,e'⟩
   ·subst e';obtain ⟨its,r',pl,z⟩:=I.list hx;have hlen:=r'.length;exact Calls.call_len_list pl.isList (by simp only [r3];omega) ⟨.int xs.length,H,I.tok _,⟨_,by simp only [r3];rw [hlen]⟩,q⟩
   ·subst e';obtain ⟨its,r',pl,z⟩:=I.tuple hx;have hlen:=r'.length;exact len_tuple pl (by simp only [r3];omega) ⟨.int xs.length,H,I.tok _,⟨_,by simp only [r3];rw [hlen]⟩,q⟩
 | _=>exact (show False from e).elim
end
end
section
structure ObjM (h:Heap) (x dx C:Addr) (mA:Str->Option e6):Prop where
 obj:h.get? x=some (IY C dx)
 ns:h.Ns1 dx mA
 ne:dx≠x
theorem rT {h:Heap} {dx:Addr} {mA:Str->Option e6} (n:h.Ns1 dx mA):∃ od,h.get? dx=some od /\ ∀ name,Jh name od=some (mA name):=by
 obtain ⟨o,es,ep,ho,hd,B,_,hm⟩:=n;refine ⟨o,ho,fun name => ?_⟩;have e:=hm name;unfold nsFind findBy at e;rw [<- Array.find?_toList] at e;unfold Jh;rw [hd];dsimp only
 split
 ·rename_i y q;rw [q] at e;exact congrArg some e
 ·rename_i q;rw [q] at e;have a:es.toList.any (·.refKey)=false:=by
   rw [List.any_eq_false];intro y F;obtain ⟨z,t,j⟩:=B y (Array.mem_toList_iff.mp F);simp [DictEntry.refKey,j]
  have a' : ¬ es.toList.any (·.refKey)=true:=by rw [a];exact hB
  rw [if_neg a'];exact congrArg some e
theorem ObjM.look {h:Heap} {x dx C:Addr} {mA:Str->Option e6} (I:ObjM h x dx C mA):∃ od,PySem.W.InstAt h x (IY C dx) C (some od) /\ ∀ name,Jh name od=some (mA name) :=
 let ⟨od,ho,j⟩:=rT I.ns
 ⟨od,⟨I.obj,rfl,rfl,ho⟩,j⟩
theorem Mx {v:V} {o:Option e6} (r:RelO (some v) o):∃ u,o=some u/\RelV v u:=by
 cases o with
 | none=>exact (show False from r).elim
 | some u=>exact ⟨u,rfl,r⟩
section
variable {P:DQ} {w:E4} {H H':Hp} {h h':Heap} {a C dx:Addr} {fs fs':List (Str×V)}
theorem xW (hok:HOk P w H h) (e:H a=some (.ins C dx fs)):∃ mA,ObjM h a dx C mA/\(∀ f,RelO (fs.lookup f) (mA f))/\PySem.Within mA (fs.map (·.1))/\fs.length<=1000/\H dx=some (.own a):=by
 obtain ⟨d,z,ne,ob,mA,n,r,q⟩:=(show ObjOk P w H h a (.ins C dx fs) from hok a _ e);exact ⟨mA,⟨ob,n,ne⟩,r,q,z,d⟩
end
structure Cls (K:Frag) (C:Addr):Prop where
 pg:KU K C Str.empty=true
 hd:PySem.W.hasDictIn K C=true
 po:PySem.W.plainOver K C=true
 sa:PySem.W.findIn K (.ref C) "__setattr__" = some (some (.builtin "object.__setattr__"))
theorem Cls.get {K:Frag} {C:Addr} (c:Cls K C) (f:Str):KU K C f=true:=c.pg
section
variable {X:Cx} {pins:List (Addr×Obj)} {σ:St} {H:Hp} {s:h6} {A:Ea} {E:e6->h6->Prop} {Q:e6->h6->Prop} {c:e6} {b:Bool}
inductive bM (K:Frag) (H:Hp):V->e6->Prop where
 | non:bM K H .non (.type "NoneType")
 | bl (x:Bool):bM K H (.bl x) (.type "bool")
 | int (i:Int):bM K H (.int i) (.type "int")
 | str (x:Str):bM K H (.str x) (.type "str")
 | flt (x:UInt64):bM K H (.flt x) (.type "float")
 | lst {a:Addr} {xs:List V} (e:H a=some (.lst xs)):bM K H (.ref a) (.type "list")
 | frz {a:Addr} {o:Obj} {xs:List V} (e:H a=some (.frz o (.lst xs))):bM K H (.ref a) (.type "list")
 | tup {a:Addr} {xs:List V} (e:SqT K H a xs):bM K H (.ref a) (.type "tuple")
 | dK {a:Addr} {kvs:List (Key×V)} (e:H a=some (.dK kvs)):bM K H (.ref a) (.type "dict")
 | dT {a:Addr} {kvs:List (List Key×V)} (e:H a=some (.dT kvs)):bM K H (.ref a) (.type "dict")
 | ins {a C dx:Addr} {fs:List (Str×V)} (e:H a=some (.ins C dx fs)) (cl:Cls K C) (ha:PySem.W.findIn K (.ref C) "__class__" = some (some (.builtin "object.__class__")))
    (hn:PySem.W.specialIn K (.builtin "object.__class__") "__get__" = some (some (.builtin "getset_descriptor.__get__"))) (htk:PySem.W.takesIn K (.builtin "object.__class__")=some true)
    (hm:PySem.W.mroIn K C (.type "object")=some true):bM K H (.ref a) (.ref C)
theorem rV {x:V} {u t:e6} (I:Inv X pins σ H s) (rx:RelV x u) (ty:bM X.K H x t) (e:PySem.W.kitOne X.K t c=some b) (h:∀ tk,Q (.bool b) { s with toks:=tk }) :
 DJ (model X.prog X.w) A (call (.builtin "isinstance") [u,c]) Q E s:=by
 cases ty with
 | non=>cases (show u=Ga from rx);exact EF Ko I.kIn EC e (fun z=>nomatch z) h
 | bl y=>cases (show u=IF y from rx);exact EF Kq I.kIn EC e (fun z=>nomatch z) h
 | int i=>obtain ⟨t,q⟩:=(show ∃ t,u=Hc i t from rx);cases q;exact EF KW I.kIn EC e (fun z=>nomatch z) h
 | str y=>obtain ⟨t,q⟩:=(show ∃ t,u=JD y t from rx);cases q;exact EF KY I.kIn EC e (fun z=>nomatch z) h
 | flt y=>obtain ⟨t,q⟩:=(show ∃ t,u=Ln y t from rx);cases q;exact EF K5 I.kIn EC e (fun z=>nomatch z) h
 | @lst a xs ea =>
  cases (show u=E8 a from rx)
  obtain ⟨_,_,n,_,h1⟩:=(show ObjOk X.prog X.w H s.heap a (.lst xs) from I.hok a _ ea);exact EF GQ I.kIn ⟨_,h1,rfl⟩ e (fun z=>nomatch z) h
 | @frz a ob xs ea =>
  cases (show u=E8 a from rx)
  obtain ⟨_,_,_,n,_,h1⟩:=(show ObjOk X.prog X.w H s.heap a (.frz ob (.lst xs)) from I.hok a _ ea);exact EF GQ I.kIn ⟨_,h1,rfl⟩ e (fun z=>nomatch z) h
 | @tup a xs ea =>
  cases (show u=E8 a from rx)
  obtain ⟨_,_,p,_⟩:=I.tuple ea;obtain ⟨o,h1,h2,_⟩:=p;exact EF K6 I.kIn ⟨o,h1,h2⟩ e (fun z=>nomatch z) h
 | @dK a kvs ea =>
  cases (show u=E8 a from rx)
  obtain ⟨_,_,vs,_,p⟩:=(show ObjOk X.prog X.w H s.heap a (.dK kvs) from I.hok a _ ea);obtain ⟨o,es,ep,h1,h2,_⟩:=p;exact EF GR I.kIn ⟨o,h1,h2.1⟩ e (fun z=>nomatch z) h
 | @dT a kvs ea =>
  cases (show u=E8 a from rx)
  obtain ⟨_,_,xs,_,o,es,ep,h1,h2,_⟩:=(show ObjOk X.prog X.w H s.heap a (.dT kvs) from I.hok a _ ea);exact EF GR I.kIn ⟨o,h1,h2.1⟩ e (fun z=>nomatch z) h
 | @ins a C dx fs ea cl ha hn htk hm =>
  cases (show u=E8 a from rx)
  obtain ⟨mA,O,_⟩:=xW I.hok ea;obtain ⟨od,J,_⟩:=O.look;exact EF (PySem.W.kitx_own (cl.get _) cl.hd ha hn htk hm) I.kIn J e (fun z=>nomatch z) h
end
end
section
structure Room (k:Nat) (A:Ea):Prop where
 hd:A.handled=none
 dp:A.depth+3*k+5 < recursionLimit
 un:A.units+16*k+200 < F8
theorem Room.deeper {k:Nat} {A:Ea} (r:Room (k+1) A) (env:Env):Room k (A.deeper env) :=
 ⟨r.hd,by have:=r.dp;show A.depth+1+3*k+5 < _;omega,by have:=r.un;show A.units+3+16*k+200 < _;omega⟩
theorem Room.depth {k:Nat} {A:Ea} (r:Room k A):A.depth < recursionLimit:=by have:=r.dp;omega
theorem Room.units {k:Nat} {A:Ea} (r:Room k A):A.units+64 < F8:=by have:=r.un;omega
noncomputable def Aj:TA:=fun _ H Q=>Q [] H
noncomputable def xg (ta:TE) (tr:TA):TA:=fun σ H Q=>ta σ H fun x H1=>tr σ H1 fun xs H2=>Q (x::xs) H2
section
variable {X:Cx} {e:Expr} {es:List Expr} {te:TE} {t:TA} {pos:Pos}
theorem ie:PA X [] Aj:=fun _ _ _ _ H Q I h=>Kr ⟨[],H,I, .nil,h⟩
theorem cn (j:PE X e te) (q:PA X es t) (z:DN (e::es) X.env=(false,eval e X.env)::DN es X.env:=by rfl):PA X (e::es) (xg te t):=by
 intro pos pins s σ H Q I h;rw [z];show DJ _ _ (spliced ((false,eval e X.env)::G3 pos (DN es X.env))) _ _ s;refine HI (thn (j pins s σ H _ I h) fun u s1 ⟨x,H1,B,F,G⟩ => ?_);exact thn (q pos pins s1 σ H1 _ B G) fun us s2 ⟨xs,H2,J,L,O⟩=>⟨x::xs,H2,J, .cons F L,O⟩
noncomputable def CG (t:TA):TE:=fun σ H Q=>t σ H fun xs H1=>xs.length<=p4 /\ ∀ p,H1 p=none->Q (.ref p) (upd H1 p (.tup xs))
noncomputable def CH (t:TA):TE:=fun σ H Q=>t σ H fun xs H1=>xs.length<=p4 /\ ∀ p,H1 p=none->Q (.ref p) (upd H1 p (.lst xs))
theorem rW {B} (h:PA X es t):PE X (.Tuple es B pos) (CG t):=by
 intro pins s σ H Q I hq;refine wpAny_Tuple_spliced (thn (h pos pins s σ H _ I hq) fun us s1 ⟨xs,H1,j,r,z,q⟩=>⟨by rw [<- r.length];exact z, ?_⟩)
 have hf:H1 s1.heap.objs.size=none:=j.hok.fresh (hQ _);refine ⟨.ref s1.heap.objs.size,upd H1 s1.heap.objs.size (.tup xs),j.laid (t':=s1.toks) (fun b u e=>gV _ e) (hQ _) ?_,rfl,q _ hf⟩;exact ⟨z,us,r,⟨_,hH _ rfl,rfl,_,rfl⟩⟩
theorem Ak (h:PA X es t):PE X (.List es pos) (CH t):=by
 intro pins s σ H Q I hq;refine wpAny_List_spliced (thn (h pos pins s σ H _ I hq) fun us s1 ⟨xs,H1,j,r,z,q⟩=>⟨by rw [<- r.length];exact z, ?_⟩)
 have hf:H1 s1.heap.objs.size=none:=j.hok.fresh (hQ _);refine ⟨.ref s1.heap.objs.size,upd H1 s1.heap.objs.size (.lst xs),j.laid (t':=s1.toks) (fun b u e=>gV _ e) (hQ _) ?_,rfl,q _ hf⟩;exact ⟨z,us,0,r,hH _ rfl⟩
end
noncomputable abbrev Sp:=List V->Hp->VK->XK->Prop
noncomputable abbrev CXT:=List Env->Hp->h6->XK->e6->h6->Prop
structure pZ (P:DQ) (w:E4) (K:Frag) (mg:Str->Option e6) (base:Heap) (A:Ea) (outer:List Env) (s:h6) (H:Hp):Prop where
 frames:A.frames=some outer
 mod:Mod K mg base
 bs:∀ b o,base.get? b=some o->s.heap.get? b=some o/\H b=none
 bsz:base.objs.size<=s.heap.objs.size
 funs:s.heap.FunFrames base outer
 frf:∀ b∈frs outer,H b=none
 hok:HOk P w H s.heap
 bare:I7 s.gens
def CE (outer:List Env) (P:DQ) (w:E4) (H:Hp) (s:h6) (Q:VK) (u:e6) (s':h6):Prop :=
 ∃ v H',s'.os=s.os/\I7 s'.gens/\Un (frs outer) [] H H' s.heap s'.heap/\HOk P w H' s'.heap/\RelV v u/\Q v H'
def CR (CX:CXT) (outer:List Env) (P:DQ) (w:E4) (H:Hp) (s:h6) (Q:VK) (E:XK) (r:KZ) (s':h6):Prop :=
 match r with
 | .ok (.ret u)=>CE outer P w H s Q u s'
 | .ok _=>False
 | .error e=>CX outer H s E e s'
structure dq (P:DQ) (w:E4) (K:Frag) (mg:Str->Option e6) (base:Heap) (CX:CXT) (k:Nat) (f:Addr) (fd:Gb) (ps:List Str) (sp:Sp):Prop where
 len:∀ vs H Q E,sp vs H Q E->vs.length=ps.length
 run:∀ (A:Ea) (outer:List Env) (s:h6) (H:Hp) (args:Args) (us:List e6) (vs:List V) (Q:VK) (E:XK),Room k A->pZ P w K mg base A outer s H->Ks s fd args (ps.zip us)->Vals vs us->sp vs H Q E ->
  Gk (model P w) A (.call (.ref f) args) (CR CX outer P w H s Q E) s
section
variable {X:Cx} {pins:List (Addr×Obj)} {σ:St} {H:Hp} {s s':h6}
theorem Inv.env0 (I:Inv X pins σ H s):pZ X.prog X.w X.K X.mg X.base X.A X.stack s H :=
 ⟨I.ok.frames,I.ok.mod,I.bs,Ej I.ok.bsz I.sz,I.stack,I.stkFree,I.hok,I.bare⟩
theorem Inv.after {Q:VK} {u:e6} (I:Inv X pins σ H s) (h:CE X.stack X.prog X.w H s Q u s'):EP X pins σ Q u s':=by
 obtain ⟨v,H',os,bare,un,hok,r,q⟩:=h;obtain ⟨j,g,d,t,os'⟩:=s';obtain rfl:os'=s.os:=os;exact ⟨v,H',I.call (h':=j) (g':=g) (d':=d) (t':=t) (ch := []) un hok bare (fun b z=>absurd z (by simp)),r,q⟩
end
noncomputable def xh (sp:Sp) (dvs:List V) (E:XK) (t:TA):TE:=fun σ H Q=>t σ H fun vs H1=>sp (vs++dvs) H1 Q E
def Binds (K:Frag) (fd:Gb) (ps:List Str) (ds:List e6):Prop :=
 ∀ (s:h6) (us:List e6),K.In s.heap->(us++ds).length=ps.length->Ks s fd ⟨us,[]⟩ (ps.zip (us++ds))
theorem Binds.all {K:Frag} {fd:Gb} {ps:List Str} (h:∀ us:List e6,us.length=ps.length->bindArgs fd ⟨us,[]⟩=pure (ps.zip us)):Binds K fd ps []:=fun s us _ j=>by
 rw [Fg] at j ⊢;exact .of_eq (h us j)
def ig (CX:CXT) (X:Cx) (E:XK):Prop := ∀ (pins:List (Addr×Obj)) (σ:St) (H:Hp) (s:h6) (e:e6) (s':h6),Inv X pins σ H s->CX X.stack H s E e s'->X.xe e s'
section
variable {X:Cx} {CX:CXT} {k:Nat} {f C:Addr} {fd:Gb} {ps:List Str} {sp:Sp} {dvs:List V} {ds:List e6} {E:XK} {x m:Str} {p pos apos:Pos} {e o:Expr} {es:List Expr} {ta:TE} {t:TA}
theorem rX {pins:List (Addr×Obj)} {σ:St} {H:Hp} {s:h6} {Q:VK} {us:List e6} {vs:List V} (F:dq X.prog X.w X.K X.mg X.base CX k f fd ps sp) (z:Room k X.A) (B:Binds X.K fd ps ds) (hd:Vals dvs ds) (hx:ig CX X E)
 (I:Inv X pins σ H s) (r:Vals vs us) (h:sp (vs++dvs) H Q E):DJ (model X.prog X.w) X.A (call (.ref f) us) (EP X pins σ Q) X.xe s:=by
 have q:Vals (vs++dvs) (us++ds):=r.append hd;have G:(us++ds).length=ps.length:=by rw [<- q.length];exact F.len _ _ _ _ h
 refine wpAny_call (Hx (F.run X.A X.stack s H ⟨us,[]⟩ (us++ds) (vs++dvs) Q E z I.env0 (B s us I.kIn G) q h) fun r s' j => ?_)
 cases r with
 | error e=>exact hx pins σ H s e s' I j
 | ok fl =>
   cases fl with
   | ret u=>exact I.after j
   | next=>exact False.elim j
   | brk=>exact False.elim j
   | cont=>exact False.elim j
theorem xX (F:dq X.prog X.w X.K X.mg X.base CX k f fd ps sp) (G:Room k X.A) (J:Gl X x) (hm:X.mg x=some (.ref f)) (L:Gc X.K (.ref f)=true) (O:Binds X.K fd ps ds) (hd:Vals dvs ds) (hx:ig CX X E)
 (U:PA X (e::es) t) (j:(x==("__debug__":Str))=false:=by decide) (he:DN (e::es) X.env=(false,eval e X.env)::DN es X.env:=by rfl) (z:(G3 pos (DN es X.env)).any (·.1)=false:=by rfl) :
 PE X (.Call (.Name x p) (e::es) [] pos) (xh sp dvs E t):=by
 intro pins s σ H Q I h;refine FQ (oD I J hm ?_ j);refine PySem.W.callWith_K (h₀ := X.base) I.ok.mod.kin L (thn (U pos pins s σ H _ I h) fun us s1 ⟨vs,H1,B,r,q⟩=>⟨B.kIn, ?_⟩) he z;exact rX F G O hd hx B r q
theorem uR (F:dq X.prog X.w X.K X.mg X.base CX k f fd ps sp) (q:Room k X.A) (z:Gl X x) (hm:X.mg x=some (.ref f)) (B:Gc X.K (.ref f)=true) (G:Binds X.K fd ps ds) (hd:Vals dvs ds) (hx:ig CX X E)
 (j:(x==("__debug__":Str))=false:=by decide):PE X (.Call (.Name x p) [] [] pos) (xh sp dvs E Aj):=by
 intro pins s σ H Q I h;refine FQ (oD I z hm ?_ j);exact PySem.W.callWith_K0 I.kIn B (rX (us := []) F q G hd hx I .nil h)
end
structure fO (N P:List Str) (sc:Scope):Prop where
 kind:sc.kind = .function
 co:sc.isCoroutine=false
 gen:sc.isGenerator=false
 nd:N.Nodup
 pre:N.take P.length=P
 par:∀ x∈P,sc.names.lookup x=some .local∨sc.names.lookup x=some .cell
 nofree:∀ y∈sc.names,y.2 ≠ .free
theorem jG {G5:Str->Option FJ} {x:Str}:∀ {binds:List (Str×e6)} {m:Str->Option e6},(∀ v,(x,v)∉binds)->LL G5 binds m x=m x
 | [],_,_=>rfl
 | (n,v)::r,m,h=>by
  unfold LL;rw [jG fun w hw=>h w (DR _ hw)]
  split
  ·have:x≠n:=by rintro rfl;exact h v Eb
   simp [this]
  ·rfl
theorem jH {G5:Str->Option FJ} {x:Str}:∀ {binds:List (Str×e6)} {m:Str->Option e6},(∀ v,(x,v)∉binds)->LM G5 binds m x=m x
 | [],_,_=>rfl
 | (n,v)::r,m,h=>by
  unfold LM;rw [jH fun w hw=>h w (DR _ hw)]
  split
  ·rfl
  ·have:x≠n:=by rintro rfl;exact h v Eb
   simp [this]
theorem jI {G5:Str->Option FJ} {x:Str} {v:e6}:∀ {P:List Str} {vs:List e6} {i:Nat} {m:Str->Option e6},P.Nodup->P[i]? = some x->vs[i]? = some v->G5 x=some .local ->
 LL G5 (P.zip vs) m x=some v
 | [],_,_,_,_,h,_,_=>by simp at h
 | _::_,[],_,_,_,_,h,_=>by simp at h
 | p::P,w::vs,0,m,nd,h1,h2,j=>by
   simp at h1 h2;subst h1;subst h2;show LL G5 ((p,w)::P.zip vs) m p=_;unfold LL;rw [jG fun v q=>(EX.mp nd).1 (J0 q).1,if_pos j];simp
 | p::P,w::vs,i+1,m,nd,h1,h2,j=>by
   show LL G5 ((p,w)::P.zip vs) m x=_;unfold LL;exact jI (i:=i) (EX.mp nd).2 (by simpa using h1) (by simpa using h2) j
theorem jJ {G5:Str->Option FJ} {x:Str} {v:e6}:∀ {P:List Str} {vs:List e6} {i:Nat} {m:Str->Option e6},P.Nodup->P[i]? = some x->vs[i]? = some v->G5 x≠some .local ->
 LM G5 (P.zip vs) m x=some v
 | [],_,_,_,_,h,_,_=>by simp at h
 | _::_,[],_,_,_,_,h,_=>by simp at h
 | p::P,w::vs,0,m,nd,h1,h2,j=>by
   simp at h1 h2;subst h1;subst h2;show LM G5 ((p,w)::P.zip vs) m p=_;unfold LM;rw [jH fun v q=>(EX.mp nd).1 (J0 q).1,if_neg j];simp
 | p::P,w::vs,i+1,m,nd,h1,h2,j=>by
   show LM G5 ((p,w)::P.zip vs) m x=_;unfold LM;exact jJ (i:=i) (EX.mp nd).2 (by simpa using h1) (by simpa using h2) j
noncomputable def cz (N:List Str) (vs:List V):St:=vs.map some++DK (N.length - vs.length) none
noncomputable def gE (CX:CXT) (P:DQ) (w:E4) (K:Frag) (mg:Str->Option e6) (base:Heap) (N:List Str) (qual:Str) (scope:Scope) (f:Addr) (cd:e6) (A:Ea) (outer:List Env) (s:h6) (H:Hp) (E:XK):Cx where
 prog:=P
 w:=w
 K:=K
 mg:=mg
 base:=base
 A:=A.deeper (Ji qual scope s.heap.objs.size f cd)
 N:=N
 s₀ := s
 H₀ := H
 env:=Ji qual scope s.heap.objs.size f cd
 outer:=outer
 stack:=Ji qual scope s.heap.objs.size f cd::outer
 ex := []
 calm:=true
 fn:=fun _=>true
 pn := []
 xe:=fun e s'=>DJ (model P w) (A.deeper (Ji qual scope s.heap.objs.size f cd)) (leaving (Ji qual scope s.heap.objs.size f cd) e) (fun _ s''=>CX outer H s E e s'') (fun e' s''=>CX outer H s E e' s'') s'
theorem kJ {sc:Scope} {n:Nat} {x:Str} (h:sc.names.lookup x=some .cell):∃ c,(Fe n sc.names []).lookup x=some c:=by
 have q:=GS sc.names n [] (.inl h);exact Fz.mp q
theorem rY {CX:CXT} {P:DQ} {w:E4} {K:Frag} {mg:Str->Option e6} {base:Heap} {N ps:List Str} {qual:Str} {scope:Scope} {f:Addr} {cd:e6} {A:Ea} {outer:List Env} {s s1:h6} {H:Hp} {E:XK} {us:List e6} {vs:List V}
 (S:fO N ps scope) (hd:A.handled=none) (j:pZ P w K mg base A outer s H) (U:vs.length=ps.length) (r:Vals vs us)
 (x:InCallC s s.heap.objs.size (LL (Ji qual scope s.heap.objs.size f cd).kindOf (ps.zip us) fun _=>none) (Fe (s.heap.objs.size+1) scope.names []) (LM (Ji qual scope s.heap.objs.size f cd).kindOf (ps.zip us) fun _=>none) s1) :
 Inv (gE CX P w K mg base N qual scope f cd A outer s H E) [] (cz N vs) H s1:=by
 have L:ps.length<=N.length:=by have:=congrArg Jj S.pre;rw [F6] at this;omega
 obtain ⟨h1,tk,rfl,G⟩:=x.done;have noA:∀ b:Addr,b∉(gE CX P w K mg base N qual scope f cd A outer s H E).ex:=fun b z=>absurd (show b∈([]:List Addr) from z) (by simp)
 refine ⟨⟨j.mod,S.kind,rfl,rfl,hQ _,fun y z c h1 h2 => ?_,fun y B => ?_,fun y c _ h => ?_,fun _=>hd,Around.frames_deeper j.frames, .inr ⟨rfl,rfl⟩,fun b z=>absurd z (noA b),j.bs,j.bsz,fun b _ _=>noA b,fun b z=>absurd z (noA b),j.funs,j.frf⟩,
  rfl,j.bare,Un.kept G,⟨_,x.toInCall.ns,fun i y v h1 h2 Y => ?_⟩,fun y c h=>⟨_,x.cell y c h⟩,j.hok.fresh (hQ _),fun y c h => ?_,fun p F=>absurd (show p∈([]:List (Addr×Obj)) from F) (by simp),j.hok.kept G, ?_⟩
 ·exact name_of_addr x.apart (EJ h1) (EJ h2)
 ·have B:scope.names.lookup y=some .cell∨scope.names.lookup y=some .free:=B
  rcases B with B | B
  ·exact kJ B
  ·exact absurd rfl (S.nofree _ (EJ B))
 ·exact Gj (x.above y c (EJ h))
 ·have hi:i < vs.length:=by
   unfold cz at h2
   by_cases hi:i < vs.length
   ·exact hi
   ·rw [Fo (by simpa using hi)] at h2
    rw [Im] at h2
    split at h2 <;> cases h2
  have O:vs[i]? = some v:=by
   unfold cz at h2;rw [Eu (by simpa using hi),DL] at h2
   cases e:vs[i]? with
   | none=>rw [e] at h2;cases h2
   | some a=>rw [e] at h2;cases h2;rfl
  obtain ⟨u,J,rv⟩:=r.get O;have F:ps[i]? = some y:=by
   rw [<- S.pre,List.getElem?_take_of_lt (by omega)];exact h1
  have ndP:ps.Nodup:=by rw [<- S.pre];exact S.nd.sublist (List.take_sublist _ _)
  refine ⟨u,rv, ?_⟩
  rcases S.par y (DZ F) with k | k
  ·exact .inl ⟨k,jI ndP F J k⟩
  ·obtain ⟨c,e⟩:=kJ (n:=s.heap.objs.size+1) k;refine .inr ⟨.inl k,c,e, ?_⟩;have q:=x.cell y c e;rw [jJ ndP F J (by show scope.names.lookup y≠_;rw [k];decide)] at q
   exact q
 ·exact j.hok.fresh (Gj (x.above y c (EJ h)))
 ·unfold cz;show _=N.length;rw [DP,hG,List.length_replicate];omega
theorem BO {CX:CXT} {P:DQ} {w:E4} {K:Frag} {mg:Str->Option e6} {base:Heap} {k:Nat} {f:Addr} {name qual:Str} {params:Arguments} {body:List Stmt} {scope:Scope} {dV kV doc pm cdv ct oc:e6} {an od:Option Addr}
 {osl:Array (Option e6)} {N ps:List Str} {sp:Sp} (lk:K.lookup f=some ⟨oc,od, .func (FR name qual params body scope dV kV doc pm an cdv ct),osl⟩) (L:HJ K cdv qual=true) (S:fO N ps scope)
 (len:∀ vs H Q E,sp vs H Q E->vs.length=ps.length)
 (j:∀ (A:Ea) (outer:List Env) (s:h6) (H:Hp) (vs:List V) (Q:VK) (E:XK),Room k (A.deeper (Ji qual scope s.heap.objs.size f cdv))->sp vs H Q E ->
   ∃ t,PSs (gE CX P w K mg base N qual scope f cdv A outer s H E) body t/\t { nx:=fun _ H'=>Q .non H',rt:=Q } (cz N vs) H) :
 dq P w K mg base CX (k+1) f (FR name qual params body scope dV kV doc pm an cdv ct) ps sp:=by
 refine ⟨len,fun A outer s H args us vs Q E O F U r G => ?_⟩;have Y:=len _ _ _ _ G;have KX:K.In s.heap:=F.mod.kin.keeps fun b o e=>(F.bs b o e).1;have lim:s.heap.NoLimit:=F.mod.nolimit.keeps fun b o e=>(F.bs b o e).1;have z:∀ y∈ps.zip us,scope.names.lookup y.1=some .local∨(scope.names.lookup y.1=some .cell/\((Fe (s.heap.objs.size+1) scope.names []).lookup y.1).isSome=true):=fun ⟨n,v⟩ hy=>by
  rcases S.par n (J0 hy).1 with q | q
  ·exact .inl q
  ·exact .inr ⟨q,GS _ _ _ (.inl q)⟩
 refine codeAny_call_function O.depth (KX _ _ lk) rfl S.co S.gen rfl (PySem.W.codeRec_of KX L) (U _ _ _ _ ?_);refine wpAny_newFunctionEnv_cells S.kind z fun env he s1 x => ?_;subst he;refine ⟨lim.keeps x.toInCall.keep,codeAny_func ?_⟩;obtain ⟨t,Z,hq⟩:=j A outer s H vs Q E (O.deeper _) G;have I:Inv (gE CX P w K mg base N qual scope f cdv A outer s H E) [] (cz N vs) H s1:=rY S O.hd F Y r x;refine FO (Z [] s1 (cz N vs) H _ I hq) (fun fl s' B => ?_) fun e s' B=>B;have fin:∀ {σ':St} {H':Hp} {v:V} {u:e6},Inv (gE CX P w K mg base N qual scope f cdv A outer s H E) [] σ' H' s'->RelV v u->Q v H'->CE outer P w H s Q u s' :=
  fun {σ' H' v u} J rv q=>⟨v,H',J.os,J.bare,J.base,J.hok,rv,q⟩
 cases fl with
 | ret u =>
   obtain ⟨v, σ',H',J,rv,q⟩:=B;exact fin J rv q
 | next =>
   obtain ⟨σ',H',J,q⟩:=B;exact fin (v:=V.non) (u:=Ga) J rfl q
 | brk =>
   obtain ⟨_,_,_,q⟩:=B;exact False.elim q
 | cont =>
   obtain ⟨_,_,_,q⟩:=B;exact False.elim q
end
section
section
variable {X:Cx} {x:Str} {p pos:Pos} {e:Expr} {es:List Expr} {t:TA} {id T:String} {r:List V->Hp->VK->Prop}
noncomputable def tCB (r:List V->Hp->VK->Prop) (t:TA):TE:=fun σ H Q=>t σ H fun vs H1=>r vs H1 Q
theorem bR (z:CallR X (.builtin id) r) (B:Gl X x) (hm:X.mg x=none) (F:Fj x=some (.builtin id)) (G:PA X (e::es) t) (J:x ≠ "__name__" := by decide) (j:(x==("__debug__":Str))=false:=by decide)
 (he:DN (e::es) X.env=(false,eval e X.env)::DN es X.env:=by rfl) (q:(G3 pos (DN es X.env)).any (·.1)=false:=by rfl):PE X (.Call (.Name x p) (e::es) [] pos) (tCB r t):=by
 intro pins s σ H Q I h;refine FQ (cD I B hm F ?_ J j);exact PyProof.Rows.callWith_builtin1 (thn (G pos pins s σ H _ I h) fun us s1 ⟨vs,H1,L,O,U⟩=>z pins s1 σ H1 vs us Q L O U) he q
theorem dD (z:CallR X (.type T) r) (B:Gl X x) (hm:X.mg x=none) (F:Fj x=some (.type T)) (G:PA X (e::es) t) (J:x ≠ "__name__" := by decide) (j:(x==("__debug__":Str))=false:=by decide)
 (he:DN (e::es) X.env=(false,eval e X.env)::DN es X.env:=by rfl) (q:(G3 pos (DN es X.env)).any (·.1)=false:=by rfl):PE X (.Call (.Name x p) (e::es) [] pos) (tCB r t):=by
 intro pins s σ H Q I h;refine FQ (cD I B hm F ?_ J j);exact ER (thn (G pos pins s σ H _ I h) fun us s1 ⟨vs,H1,L,O,U⟩=>z pins s1 σ H1 vs us Q L O U) he q
end
end
end L2
namespace HT
open PySem PyProof.Rows
noncomputable def lexLt:List Int->List Int->Bool
 | [],[] => false
 | [],_::_=>true
 | _::_,[] => false
 | x::xs,y::ys=>if x=y then lexLt xs ys else decide (x < y)
theorem lexLt_cons (x y:Int) (xs ys:List Int):lexLt (x::xs) (y::ys)=if x=y then lexLt xs ys else decide (x < y):=rfl
theorem ki:lexLt [] []=false:=rfl
theorem jb (y:Int) (ys:List Int):lexLt [] (y::ys)=true:=rfl
theorem jc (x:Int) (xs:List Int):lexLt (x::xs) []=false:=rfl
theorem uS (A:Ea) (s:h6) (a:Int) (t:Tok) (c:Int) (u:Tok):∃ e,II A s (.int a t) (.int c u) e/\(e=true↔a=c) :=
 ⟨(a==c),HK a t c u,by simp⟩
theorem uT (A:Ea) (s:h6) (a:Int) (t:Tok) (c:Int) (u:Tok) (prog:DQ) (w:E4) (E:e6->h6->Prop) (Q:e6->h6->Prop) (h:Q (.bool (decide (a < c))) s) :
 DJ (model prog w) A (Lp .Lt (.int a t) (.int c u)) Q E s :=
 (PyProof.Rows.lt_int h:DJ (model prog w) A (Eg .Lt (.int a t) (.int c u)) Q E s)
section
open PySem.SeqAt
open PySem.AutoSeq1 (wpAny_loadPart')
open PySem.MeetsSeq PySem.MeetsSeq2 PySem.MeetsSeq3
theorem kj (l b:Addr) (items j:Array e6) (n n2:Nat) (dd CY:Option Addr) (sl CZ:Array (Option e6)) (ns ms:List Int) (hi:GB items.toList ns) (hj:GB j.toList ms) :
 Meets (FH.«tuple.__lt__» ⟨[.ref l, .ref b],[]⟩)
  (fun _ R s=>s.heap.get? l=some { cls := .type "tuple",dict:=dd,data := .seq items n,slots:=sl }/\s.heap.get? b=some { cls := .type "tuple",dict:=CY,data := .seq j n2,slots:=CZ } /\
    R (.ok (.ret (.bool (lexLt ns ms)))) s) :=
 .of_wp fun prog w A R s h=>by
  obtain ⟨Z,g,d,tk,os⟩:=s;obtain ⟨hl,hb,h⟩:=h;have f2:=AutoSeq1.sub_tuple_tuple;have z1:items.size=ns.length:=by rw [<- hi.length];simp
  have z2:j.size=ms.length:=by rw [<- hj.length];simp
  wp_walk using Fh hl,Fh hb,Gm _ (fun rest b s'=>b.1=none/\s'=⟨Z,g,d,tk,os⟩ /\ ∃ (vs ws:List e6) (ns' ms':List Int),rest=vs.zip ws /\
   GB vs ns'/\GB ws ms'/\ns'.length+j.size=ms'.length+items.size/\R (.ok (.ret (.bool (lexLt ns' ms')))) ⟨Z,g,d,tk,os⟩) _
  case turn =>
   rintro ⟨y,x⟩ rest b s' ⟨J,rfl,vs,ws,ns',ms',z,L,B,hlen,F⟩
   cases L with
   | nil=>rw [List.zip_nil_left] at z;cases z
   | cons a t U =>
     cases B with
     | nil=>rw [List.zip_nil_right] at z;cases z
     | cons c u Y =>
       rw [K7] at z
       injection z with hyx O
       injection hyx with hy hx
       subst hy hx;rw [lexLt_cons] at F;simp only [E9] at hlen;obtain ⟨e,he,G⟩:=uS A.in1 ⟨Z,g,d,tk,os⟩ a t c u;refine b0 (he prog w _ _ ?_)
       cases e with
       | true =>
         rw [if_pos (G.mp rfl)] at F
         wp_walk
         exact ⟨rfl,rfl,_,_,_,_,O,U,Y,by omega,F⟩
       | false =>
         rw [if_neg (fun q=>absurd (G.mpr q) hB)] at F;have D0:=uT A.in1 ⟨Z,g,d,tk,os⟩ a t c u prog w
         wp_walk using D0
         exact ⟨_,rfl,by simpa using F⟩
  case fin =>
   rintro ⟨b1,b2⟩ s' ⟨J,rfl,vs,ws,ns',ms',z,L,B,hlen,F⟩;simp only at J;subst J;have hv:lexLt ns' ms'=decide (items.size < j.size):=by
    cases L with
    | nil =>
      cases B with
      | nil =>
        simp only [FV] at hlen;rw [ki];exact (decide_eq_false (by omega)).symm
      | cons c u hw =>
        simp only [FV,E9] at hlen;rw [jb];exact (decide_eq_true (by omega)).symm
    | cons a t hv =>
      cases B with
      | nil =>
        simp only [FV,E9] at hlen;rw [jc];exact (decide_eq_false (by omega)).symm
      | cons c u hw =>
        rw [K7] at z
        cases z
   rw [hv] at F
   wp_walk
   exact ⟨_,rfl,by simpa [Builtin.Tuple.tupleCompareSizes] using F⟩
  case h =>
   exact ⟨rfl,rfl,items.toList,j.toList,ns,ms,rfl,hi,hj,by omega,h⟩
end
section
variable {prog:DQ} {w:E4} {A:Ea} {E:e6->h6->Prop} {s:h6}
theorem lt_tupInts {l b:Addr} {items j:Array e6} {ns ms:List Int} {Q:e6->h6->Prop} (O:Lo s.heap l items) (U:Lo s.heap b j) (hi:GB items.toList ns) (Y:GB j.toList ms)
 (Z:A.units < F8) (h:Q (.bool (lexLt ns ms)) s):DJ (model prog w) A (Eg .Lt (.ref l) (.ref b)) Q E s:=by
 obtain ⟨⟨cls,dd,data,sl⟩,ho,J,n,hd⟩:=id O;obtain ⟨⟨L,B,data2,G⟩,q,z,n2,hd2⟩:=id U;simp only at J hd z hd2;subst J hd z hd2;exact richCompare_meets_room (op := .Lt) ⟨_,ho,rfl⟩ ⟨_,q,rfl⟩ PySem.F.slot_tuple_lt PySem.F.entry_tuple_lt (PySem.F.args_tuple_lt_2 _ _) (kj l b items j n n2 dd B sl G ns ms hi Y)
  ⟨ho,q,show IF (lexLt ns ms)≠Jk/\Q (.bool (lexLt ns ms)) s from ⟨(fun x=>nomatch x),h⟩⟩ Z
theorem cat_tup {t b:Addr} {vs ws:List e6} {Q:e6->h6->Prop} (U:Lo s.heap t vs.toArray) (Y:Lo s.heap b ws.toArray) (G:vs≠[])
 (h1:ws=[]->Q (.ref t) s) (h2:ws≠[]->Q (.ref s.heap.objs.size) { s with heap:=s.heap.push { cls := .type "tuple",data := .seq (vs++ws).toArray } })
 (hsz:vs.length+ws.length<=p4):DJ (model prog w) A (EL .Add (.ref t) (.ref b)) Q E s:=by
 obtain ⟨⟨cls,dd,data,sl⟩,ho,J,n,hd⟩:=id U;obtain ⟨⟨L,q,data2,z⟩,j,B,O,hd2⟩:=id Y;simp only at J hd B hd2;subst J hd B hd2;have e:vs.toArray++ws.toArray=(vs++ws).toArray:=by simp
 by_cases hw:ws=[]
 ·exact Ku ⟨_,ho,rfl⟩ ⟨_,j,rfl⟩ Io JO GU GK (Gx _ _)
   (tuple_addW1 t b vs.toArray ws.toArray n O dd q sl z (by simpa using G) (by simp [hw])) ⟨ho,j,h1 hw⟩
 ·refine Ku ⟨_,ho,rfl⟩ ⟨_,j,rfl⟩ Io JO GU GK (Gx _ _)
   (tuple_addW2 t b vs.toArray ws.toArray n O dd q sl z (by simpa using G) (by simpa using hw) (by rw [r3,r3];exact hsz)) ⟨ho,j, ?_⟩
  rw [e];exact h2 hw
noncomputable def sIx (n d:Nat):Option Int->Nat
 | none=>d
 | some v=>if v < 0 then (v+(n:Int)).toNat else min v.toNat n
theorem sIx_none (n d:Nat):sIx n d none=d:=rfl
theorem sIx_nat (n d k:Nat):sIx n d (some (k:Int))=min k n:=by
 show (if (k:Int) < 0 then ((k:Int)+(n:Int)).toNat else min (k:Int).toNat n)=min k n
 rw [if_neg (by omega),E5]
theorem Al (n d:Nat) (hd:d<=n) (o:Option Int):sIx n d o<=n:=by
 cases o with
 | none=>exact hd
 | some v =>
   show (if v < 0 then (v+(n:Int)).toNat else min v.toNat n)<=n
   by_cases hv:v < 0
   ·rw [if_pos hv];omega
   ·rw [if_neg hv];exact Nat.min_le_right _ _
theorem oG (v:Int) (n d:Nat):(if v < 0 then max (v+(n:Int)) 0 else min v (n:Int))=((sIx n d (some v):Nat):Int):=by
 show (if v < 0 then max (v+(n:Int)) 0 else min v (n:Int))=(((if v < 0 then (v+(n:Int)).toNat else min v.toNat n):Nat):Int)
 by_cases hv:v < 0
 ·simp only [if_pos hv];omega
 ·simp only [if_neg hv];omega
theorem q8 (lo hi:Option Int) (n:Nat):Gv lo hi 1 (n:Int)=(((sIx n 0 lo:Nat):Int),((sIx n n hi:Nat):Int)):=by
 have h1 : ¬ ((1:Int) < 0):=by omega
 unfold Gv;simp only [h1,if_false];refine Prod.ext ?_ ?_
 ·cases lo with
  | none=>rfl
  | some v=>exact oG v n 0
 ·cases hi with
  | none=>rfl
  | some v=>exact oG v n n
theorem q9 (i j:Nat):Fq (i:Int) (j:Int) 1=j - i:=by
 unfold Fq;have h1:(1:Int) > 0:=by omega
 simp only [h1,if_true,Int.ediv_one]
 split <;> omega
theorem ii {v:e6} {o:Option Int} {Q:Option Int->h6->Prop} (p:IJ v o) (h:Q o s):DJ (model prog w) A (Builtin.Slice.slicePartIndex v) Q E s:=by
 cases p with
 | none=>exact slicePart_none h
 | int i t=>exact slicePart_int h
theorem dr {sl:Addr} {vl vu:e6} {lo hi:Option Int} {n:Nat} {Q:Int×Int×Nat->h6->Prop} (z:s.heap.IsSliceOf sl vl vu .none) (pl:IJ vl lo) (pu:IJ vu hi)
 (h:Q (((sIx n 0 lo:Nat):Int),1,sIx n n hi - sIx n 0 lo) s):DJ (model prog w) A (HL (.ref sl) (pure (n:Int))) Q E s:=by
 obtain ⟨os,j,B,q⟩:=id z;unfold HL Builtin.Slice.sliceFields;refine b0 (b0 (Ee j q (x:=vl) rfl (b0 (Ee j q (x:=vu) rfl (b0 (Ee j q (x := .none) rfl (h7 ?_)))))));refine b0 (slicePart_none ?_);show DJ _ _ (if ((1:Int)==0)=true then _ else _) _ _ s
 rw [if_neg (by decide)]
 refine b0 (ii pl (b0 (ii pu (b0 (h7 ?_)))));show DJ _ _ (match Gv lo hi 1 (n:Int) with | (lo,hi)=>pure (lo,(1:Int),Fq lo hi 1)) _ _ s
 rw [q8 lo hi n];show DJ _ _ (pure (((sIx n 0 lo:Nat):Int),(1:Int),Fq ((sIx n 0 lo:Nat):Int) ((sIx n n hi:Nat):Int) 1)) _ _ s;rw [q9];exact h7 h
theorem uU (xs:Array e6) (i k:Nat):((Eo k).filterMap fun (m:Nat)=>xs[((i:Int)+(m:Int)*1).toNat]?).toArray=((xs.toList.drop i).take k).toArray:=by
 have e:(fun (m:Nat)=>xs[((i:Int)+(m:Int)*1).toNat]?)=fun m=>xs[i+m]? := by
  funext m
  have:((i:Int)+(m:Int)*1).toNat=i+m:=by omega
  rw [this]
 rw [e];have:=pick_run xs i k;rw [K8] at this;have j:((fun x=>xs[x]?) ∘ fun x=>i+x)=fun m=>xs[i+m]? := rfl;rw [j] at this;rw [this]
theorem getItem_tuple_cut {t sl:Addr} {items:Array e6} {vl vu:e6} {lo hi:Option Int} {Q:e6->h6->Prop} (z:Lo s.heap t items) (L:s.heap.IsSliceOf sl vl vu .none) (pl:IJ vl lo) (pu:IJ vu hi)
 (hw : ¬ (sIx items.size 0 lo=0/\sIx items.size items.size hi=items.size))
 (h:Q (.ref s.heap.objs.size) { s with heap:=s.heap.push { cls := .type "tuple",data := .seq ((items.toList.drop (sIx items.size 0 lo)).take (sIx items.size items.size hi - sIx items.size 0 lo)).toArray } })
 (hsz:items.size<=p4):DJ (model prog w) A (I8 (.ref t) (.ref sl)) Q E s:=by
 have j:sizeOk (.seq ((items.toList.drop (sIx items.size 0 lo)).take (sIx items.size items.size hi - sIx items.size 0 lo)).toArray):=by
  show ((items.toList.drop (sIx items.size 0 lo)).take (sIx items.size items.size hi - sIx items.size 0 lo)).toArray.size<=p4;rw [r3,F6,Hd,Hv];omega
 have U:sIx items.size items.size hi<=items.size:=Al _ _ (hQ _) hi;obtain ⟨os,B,F,O⟩:=id L;have G:s.TypeIs (.ref sl) "slice" := ⟨os,B,F⟩;unfold I8
 try with_reducible refine Et ?_
 first | refine b0 (h7 ?_) | skip
 refine b0 (Kv z.typeIs (by decide) ?_)
 refine b0 (E6 (name:=Ek "__getitem__") z.typeIs F3
  (Eh F3 z.typeIs JJ ?_ (K9 _ _)))
 show DJ _ _ (Gd (.ref t) >>= _) _ _ s;refine b0 (tupleItemsOf_ z ?_);refine b0 (Gn G ?_);rw [if_pos (by decide)]
 refine b0 (dr L pl pu ?_);have J : ¬ ((((sIx items.size 0 lo:Nat):Int)==0&&(1:Int)==1&&(sIx items.size items.size hi - sIx items.size 0 lo)==items.size)=true):=by
  intro q;rw [e7,e7] at q;have Y:((sIx items.size 0 lo:Nat):Int)=0:=eq_of_beq q.1.1;have Z:sIx items.size items.size hi - sIx items.size 0 lo=items.size:=eq_of_beq q.2;exact hw ⟨by omega,by omega⟩
 show DJ _ _ (if (((sIx items.size 0 lo:Nat):Int)==0&&(1:Int)==1&&(sIx items.size items.size hi - sIx items.size 0 lo)==items.size)=true then _ else _) _ _ s
 rw [if_neg J,uU]
 first
  | exact b0 (m:=FA _) (EA (h7 ⟨_,rfl,h7 h⟩) j)
  | exact b0 (m:=FA _) (EA (b0 (h7 (h7 ⟨_,rfl,h7 h⟩))) j)
  | exact b0 (b0 (m:=FA _) (EA (h7 (h7 ⟨_,rfl,h7 h⟩)) j))
  | exact b0 (b0 (m:=FA _) (EA (h7 ⟨_,rfl,h7 h⟩) j))
end
end HT
namespace L2
open PySem PySem.Spec PyProof.Rows
section
noncomputable abbrev TO:=St->Hp->(Option Int->Hp->Prop)->Prop
def PO (X:Cx) (e:Option Expr) (t:TO):Prop :=
 ∀ (pins:List (Addr×Obj)) (s:h6) (σ:St) (H:Hp) (Q:Option Int->Hp->Prop),Inv X pins σ H s->t σ H Q ->
  DJ (model X.prog X.w) X.A (evalPart e X.env) (fun u s' => ∃ o H',Inv X pins σ H' s'/\IJ u o/\Q o H') X.xe s
noncomputable def xY:TO:=fun _ H Q=>Q none H
noncomputable def BP (t:TE):TO:=fun σ H Q=>t σ H fun x H1 => ∃ i,x = .int i/\Q (some i) H1
theorem qc {ns:List Int}:∀ {us:List e6},Vals (ns.map V.int) us->GB us ns:=by
 induction ns with
 | nil=>intro us r;rw [GW] at r;cases r;exact .nil
 | cons n ns ih =>
   intro us r;rw [DM] at r
   cases r with
   | cons j q =>
     obtain ⟨t,e⟩:=j;subst e;exact .cons n t (ih q)
section
variable {X:Cx} {e:Expr} {te:TE} {lo hi:Option Expr} {tl th:TO} {pos p2:Pos}
theorem xZ:PO X none xY:=by
 intro pins s σ H Q I h;rw [JP];exact h7 ⟨none,H,I, .none,h⟩
theorem y0 (h:PE X e te):PO X (some e) (BP te):=by
 intro pins s σ H Q I hw;rw [evalPart_some];refine thn (h pins s σ H _ I hw) fun u s1 ⟨x,H1,j,z,B⟩ => ?_;obtain ⟨i,rfl,q⟩:=B;obtain ⟨t,rfl⟩:=z;exact ⟨some i,H1,j, .int i t,q⟩
def SlR (X:Cx) (r:V->Option Int->Option Int->Hp->VK->Prop):Prop :=
 ∀ (pins:List (Addr×Obj)) (s:h6) (σ:St) (H:Hp) (x:V) (v vl vu:e6) (lo hi:Option Int) (sl:Addr) (Q:VK),Inv X pins σ H s->RelV x v->s.heap.IsSliceOf sl vl vu .none->IJ vl lo->IJ vu hi->r x lo hi H Q ->
  ∃ T id,typeLookup (.type T) "__getitem__" = pure (some (.builtin id))/\s.TypeIs v T/\DJ (model X.prog X.w) X.A (I8 v (.ref sl)) (EP X pins σ Q) X.xe s
theorem SlR.or {r r':V->Option Int->Option Int->Hp->VK->Prop} (h:SlR X r) (h':SlR X r'):SlR X (fun x lo hi H Q=>r x lo hi H Q∨r' x lo hi H Q):=by
 intro pins s σ H x v vl vu lo hi sl Q I rx hs pl pu q
 rcases q with q | q
 ·exact h pins s σ H x v vl vu lo hi sl Q I rx hs pl pu q
 ·exact h' pins s σ H x v vl vu lo hi sl Q I rx hs pl pu q
noncomputable def tSl (r:V->Option Int->Option Int->Hp->VK->Prop) (te:TE) (tl th:TO):TE:=fun σ H Q=>te σ H fun x H1=>tl σ H1 fun l H2=>th σ H2 fun u H3=>r x l u H3 Q
theorem uV {r:V->Option Int->Option Int->Hp->VK->Prop} (z:SlR X r) (he:PE X e te) (B:PO X lo tl) (F:PO X hi th):PE X (.Subscript e (.Slice lo hi none p2) pos) (tSl r te tl th):=by
 intro pins s σ H Q I h;refine LN (thn (he pins s σ H _ I h) fun v s1 ⟨x,H1,G,J,L⟩ => ?_);refine wpAny_Slice (thn (B pins s1 σ H1 _ G L) fun vl s2 ⟨l,H2,O,pl,U⟩=>thn (F pins s2 σ H2 _ O U) fun vu s3 ⟨u,j,Y,pu,Z⟩ => ?_);rw [JP];refine h7 ?_;have I4:Inv X pins σ j { s3 with heap:=s3.heap.push { cls := .type "slice",data := .fields #[vl,vu, .none] } }:=Y.kept (t':=s3.toks) fun b ob q=>gV _ q
 obtain ⟨T,id,hT,ht,hg⟩:=z pins { s3 with heap:=s3.heap.push { cls := .type "slice",data := .fields #[vl,vu, .none] } } σ j x v vl vu l u s3.heap.objs.size Q I4 J (Ka ..) pl pu Z
 show DJ (model X.prog X.w) X.A (JQ e (.Slice lo hi none p2) v (.ref s3.heap.objs.size)) (EP X pins σ Q) X.xe { s3 with heap:=s3.heap.push { cls := .type "slice",data := .fields #[vl,vu, .none] } }
 exact LO (ops := [.ref s3.heap.objs.size,v]) ht hT hg (by with_unfolding_all rfl)
noncomputable def eS (xs:List V) (lo hi:Option Int):List V:=(xs.drop (HT.sIx xs.length 0 lo)).take (HT.sIx xs.length xs.length hi - HT.sIx xs.length 0 lo)
theorem gv (xs:List V) (lo hi:Option Int):(eS xs lo hi).length<=xs.length:=by
 unfold eS;rw [F6,Hd];omega
noncomputable def CI (K:Frag):V->Option Int->Option Int->Hp->VK->Prop:=fun x lo hi H Q => ∃ a xs,x = .ref a/\SqT K H a xs /\
 ¬ (HT.sIx xs.length 0 lo=0/\HT.sIx xs.length xs.length hi=xs.length) /\ ∀ p,H p=none->Q (.ref p) (upd H p (.tup (eS xs lo hi)))
theorem sl_tup:SlR X (CI X.K):=by
 intro pins s σ H x v vl vu lo hi sl Q I rx hs pl pu h;obtain ⟨a,xs,rfl,hx,hw,q⟩:=h
 cases rx
 obtain ⟨its,r,j,z⟩:=I.tuple hx;have hlen:its.toArray.size=xs.length:=by rw [r3];exact r.length.symm
 refine ⟨"tuple",_,PyProof.Rows.slot_tuple_getitem.lookup,j.typeIs, ?_⟩;refine HT.getItem_tuple_cut j hs pl pu (by rw [hlen];exact hw) ?_ (by rw [hlen];exact z)
 rw [hlen];refine ⟨.ref s.heap.objs.size,_,I.laid (t':=s.toks) (o := .tup (eS xs lo hi)) (fun b ob q=>gV _ q) (hQ _) ?_,rfl,q _ (I.hok.fresh (hQ _))⟩;exact ⟨Ej (gv xs lo hi) z,_,(r.drop (HT.sIx xs.length 0 lo)).take (HT.sIx xs.length xs.length hi - HT.sIx xs.length 0 lo),HD _ _⟩
noncomputable def xi (K:Frag):R2:=fun x y H Q => ∃ a b xs ys,x = .ref a/\y = .ref b/\SqT K H a xs/\SqT K H b ys/\xs≠[]/\xs.length+ys.length<=p4 /\
 (ys=[]->Q (.ref a) H)/\(ys≠[] -> ∀ p,H p=none->Q (.ref p) (upd H p (.tup (xs++ys))))
theorem Vals.nil_iff {xs:List V} {us:List e6} (r:Vals xs us):us=[]↔xs=[]:=by
 cases r with
 | nil=>simp
 | cons _ _=>simp
theorem op_catT:OpR X (EL .Add) (xi X.K):=by
 intro pins s σ H x y v u Q I rx ry h;obtain ⟨a,b,xs,ys,rfl,rfl,J,L,hx,F,O,U⟩:=h
 cases rx
 cases ry
 obtain ⟨its,B,Y,_⟩:=I.tuple J;obtain ⟨G,j,p2,_⟩:=I.tuple L;refine HT.cat_tup Y p2 (fun z=>hx (B.nil_iff.mp z)) (fun z=>⟨.ref a,H,I,rfl,O (j.nil_iff.mp z)⟩) (fun z => ?_) (by rw [<- B.length, <- j.length];exact F)
 refine ⟨.ref s.heap.objs.size,_,I.laid (t':=s.toks) (o := .tup (xs++ys)) (fun b ob q=>gV _ q) (hQ _) ?_,rfl,U (fun w=>z (j.nil_iff.mpr w)) _ (I.hok.fresh (hQ _))⟩;exact ⟨by rw [DP];exact F,_,B.append j,HD _ _⟩
end
end
section
noncomputable def ixN (n:Nat) (i:Int):Option Nat:=if 0<=i then (if i < n then some i.toNat else none) else if -(n:Int)<=i then some (i+n).toNat else none
noncomputable def atI {α:Type} (xs:List α) (i:Int):Option α := (ixN xs.length i).bind fun j=>xs[j]?
theorem jd {n:Nat} {i:Int} {j:Nat} (h:ixN n i=some j):seqIndex? i n=some j/\j < n /\ -(n:Int)<=i/\i < n:=by
 unfold ixN at h
 by_cases h0 : 0<=i
 ·rw [if_pos h0] at h
  by_cases h1:i < n
  ·rw [if_pos h1] at h;have e:i.toNat=j:=EB.inj h;exact ⟨by rw [Lq h0 h1,e],by omega,by omega,h1⟩
  ·rw [if_neg h1] at h;cases h
 ·rw [if_neg h0] at h
  by_cases h1 : -(n:Int)<=i
  ·rw [if_pos h1] at h;have e:(i+n).toNat=j:=EB.inj h;exact ⟨by rw [Kw (by omega) h1,e],by omega,h1,by omega⟩
  ·rw [if_neg h1] at h;cases h
theorem oH {α:Type} {xs:List α} {i:Int} {v : α} (h:atI xs i=some v):∃ j,seqIndex? i xs.length=some j/\xs[j]? = some v/\j < xs.length /\ -(xs.length:Int)<=i/\i < xs.length:=by
 unfold atI at h
 cases e:ixN xs.length i with
 | none=>rw [e] at h;cases h
 | some j =>
   rw [e] at h;obtain ⟨h1,h2,q,z⟩:=jd e;exact ⟨j,h1,h,h2,q,z⟩
def je (b:Expr):Prop := ∀ o i,subscripted b false o i=operate [o,i] (I8 o i)
def IxR (X:Cx) (r:R2):Prop :=
 ∀ (value slice:Expr) (pins:List (Addr×Obj)) (s:h6) (σ:St) (H:Hp) (x y:V) (v u:e6) (Q:VK),Inv X pins σ H s->RelV x v->RelV y u->r x y H Q ->
  subscripted slice false v u=operate [v,u] (I8 v u)->DJ (model X.prog X.w) X.A (JQ value slice v u) (EP X pins σ Q) X.xe s
def MtR (X:Cx) (id:String) (r:V->List V->Hp->VK->Prop):Prop :=
 ∀ (pins:List (Addr×Obj)) (s:h6) (σ:St) (H:Hp) (x:V) (xs:List V) (v:e6) (us:List e6) (Q:VK),Inv X pins σ H s->RelV x v->Vals xs us->r x xs H Q ->
  DJ (model X.prog X.w) X.A (call (.builtin id) (v::us)) (EP X pins σ Q) X.xe s
section
variable {X:Cx} {a b:Expr} {ta tb:TE} {pos:Pos}
theorem IxR.or {r r':R2} (h:IxR X r) (h':IxR X r'):IxR X (fun x y H Q=>r x y H Q∨r' x y H Q):=by
 intro value slice pins s σ H x y v u Q I rx ry q hs
 rcases q with q | q
 ·exact h value slice pins s σ H x y v u Q I rx ry q hs
 ·exact h' value slice pins s σ H x y v u Q I rx ry q hs
theorem BQ {r:R2} (j:IxR X r) (z:PE X a ta) (B:PE X b tb) (F:je b):PE X (.Subscript a b pos) (tOp r ta tb):=by
 intro pins s σ H Q I h;exact LN (uL z B I h fun v u s2 x y H2 G rx ry q=>j a b pins s2 σ H2 x y v u Q G rx ry q (F _ _))
noncomputable def CJ (K:Frag):R2:=fun x y H Q => ∃ p xs i v,x = .ref p/\y = .int i/\SqL K H p xs/\atI xs i=some v/\Q v H
noncomputable def CK (K:Frag):R2:=fun x y H Q => ∃ p xs i v,x = .ref p/\y = .int i/\SqT K H p xs/\atI xs i=some v/\Q v H
theorem ix_list:IxR X (CJ X.K):=by
 intro value slice pins s σ H x y v u Q I rx ry h hs;obtain ⟨p,xs,i,z,rfl,rfl,F,he,q⟩:=h
 cases rx
 obtain ⟨t,rfl⟩:=ry;obtain ⟨its,r,pl,O⟩:=I.list F;obtain ⟨j,h1,h2,U,G,J⟩:=oH he;obtain ⟨w,ew,rw'⟩:=r.get h2;have L:=r.length;have Y:=eR;have fin:EP X pins σ Q w s:=⟨z,H,I,rw',q⟩
 by_cases h0 : 0<=i
 ·have B:i.toNat=j:=by
   rw [Lq h0 J] at h1;exact EB.inj h1
  exact item_listR pl.isList h0 (by omega) (by rw [B];simpa using ew) fin hs
 ·have B:(i+(its.toArray.size:Int)).toNat=j:=by
   rw [Kw (by omega) G] at h1
   rw [r3, <- L];exact EB.inj h1
  exact IK (x:=w) pl.isList.typeIs slot_list_getitem.lookup
   (wpAny_getItem_list_neg (Q:=fun r s'=>r=w/\EP X pins σ Q r s') pl.isList (by omega) (by rw [r3] <;> omega) (by omega) (by rw [B];simpa using ew) ⟨rfl,fin⟩) hs
theorem ix_tup:IxR X (CK X.K):=by
 intro value slice pins s σ H x y v u Q I rx ry h hs;obtain ⟨p,xs,i,z,rfl,rfl,B,he,q⟩:=h
 cases rx
 obtain ⟨t,rfl⟩:=ry;obtain ⟨its,r,pl,G⟩:=I.tuple B;obtain ⟨j,h1,h2,J,L,O⟩:=oH he;obtain ⟨w,ew,rw'⟩:=r.get h2;have F:=r.length;have U:=eR;have fin:EP X pins σ Q w s:=⟨z,H,I,rw',q⟩;exact IK (x:=w) pl.typeIs slot_tuple_getitem.lookup
  (getItem_tuple (j:=j) (Q:=fun r s'=>r=w/\EP X pins σ Q r s') pl (by omega) (by omega) (by rw [r3, <- F];exact h1) (by simpa using ew) ⟨rfl,fin⟩) hs
theorem qd (its:List e6) (n j:Nat) (u:e6):He (·.setIfInBounds j u) { cls := .type "list",data := .seq its.toArray n } = { cls := .type "list",data := .seq (its.set j u).toArray n }:=by
 simp [He]
theorem Inv.lst {pins:List (Addr×Obj)} {σ:St} {H:Hp} {s:h6} {p:Addr} {xs:List V} (I:Inv X pins σ H s) (h:H p=some (.lst xs)) :
 ∃ (its:List e6) (n:Nat),Vals xs its/\s.heap.get? p=some { cls := .type "list",data := .seq its.toArray n }/\xs.length<=p4:=by
 obtain ⟨z,its,n,r,e⟩:=I.hok p _ h;exact ⟨its,n,r,e,z⟩
theorem Inv.lstUpd {pins:List (Addr×Obj)} {σ:St} {H:Hp} {s:h6} {p:Addr} {xs ys:List V} {its its':List e6} {n n':Nat} {f:Obj->Obj} (I:Inv X pins σ H s) (h:H p=some (.lst xs))
 (ho:s.heap.get? p=some { cls := .type "list",data := .seq its.toArray n }) (hf:f { cls := .type "list",data := .seq its.toArray n } = { cls := .type "list",data := .seq its'.toArray n' }) (r:Vals ys its') (j:ys.length<=p4) (t:Nat) :
 Inv X pins σ (upd H p (.lst ys)) { s with heap:=s.heap.update p f,toks:=t }:=by
 have e:(s.heap.update p f).get? p=some { cls := .type "list",data := .seq its'.toArray n' }:=by
  rw [G6 f ho (by rw [hf] <;> rfl),hf]
 refine I.write (x:=p) (e:=p) (by rw [h];trivial) (.inl rfl) (fun b u z q=>(EH _ _ (Ne.symm z)).trans q) ⟨_,e⟩ ?_
 exact ⟨j,its',n',r,e⟩
noncomputable def xj:V->V->V->Hp->(Hp->Prop)->Prop:=fun o i v H Q => ∃ p xs k j,o = .ref p/\i = .int k/\H p=some (.lst xs)/\ixN xs.length k=some j/\Q (upd H p (.lst (xs.set j v)))
theorem kK:PSet X xj:=by
 intro pins s σ H o i v ov iv u Q I ro ri rv h;obtain ⟨p,xs,k,j,rfl,rfl,F,L,q⟩:=h
 cases ro
 obtain ⟨t,rfl⟩:=ri;obtain ⟨its,n,r,ho,O⟩:=I.lst F;obtain ⟨h1,h2,G,J⟩:=jd L;have z:=r.length;have U:=eR;have I':Inv X pins σ (upd H p (.lst (xs.set j v))) { s with heap:=s.heap.update p (He (·.setIfInBounds j u)) } :=
  I.lstUpd F ho (qd its n j u) (r.set rv j) (by rw [List.length_set];exact O) s.toks
 by_cases h0 : 0<=k
 ·have B:k.toNat=j:=by
   rw [Lq h0 J] at h1;exact EB.inj h1
  exact PySem.W.ki_setAt ho h0 (by omega) (by rw [r3, <- z];exact J) (by rw [B];exact ⟨_,I',q⟩)
 ·have B:(k+(its.toArray.size:Int)).toNat=j:=by
   rw [Kw (by omega) G] at h1
   rw [r3, <- z];exact EB.inj h1
  exact PySem.W.ki_setBack ho (by omega) (by rw [r3, <- z];exact G) (by omega) (by rw [B];exact ⟨_,I',q⟩)
theorem kL (lo hi:Option Int) (n:Nat):(EY lo hi none n).1=((HT.sIx n 0 lo:Nat):Int)/\(EY lo hi none n).2.1=((HT.sIx n n hi:Nat):Int)/\(EY lo hi none n).2.2=1:=by
 refine ⟨?_, ?_,rfl⟩
 ·cases lo with
  | none=>simp [EY,HT.sIx]
  | some i =>
    simp only [EY,HT.sIx,L3,show (1:Int) > 0 by decide,if_true]
    by_cases h:i < 0
    ·simp only [h,if_true] <;> omega
    ·simp only [h,if_false] <;> omega
 ·cases hi with
  | none=>simp [EY,HT.sIx]
  | some i =>
    simp only [EY,HT.sIx,L3,show (1:Int) > 0 by decide,if_true]
    by_cases h:i < 0
    ·simp only [h,if_true] <;> omega
    ·simp only [h,if_false] <;> omega
theorem kl (its:List e6) (lo hi:Option Int):L4 its.toArray lo hi none=((its.drop (HT.sIx its.length 0 lo)).take (HT.sIx its.length its.length hi - HT.sIx its.length 0 lo)).toArray:=by
 obtain ⟨h1,h2,j⟩:=kL lo hi its.toArray.size;unfold L4;rw [h1,h2,j];simp only [sliceRange_one,pick_run,r3] <;> rfl
noncomputable def CL (K:Frag):V->Option Int->Option Int->Hp->VK->Prop:=fun x lo hi H Q => ∃ a xs,x = .ref a/\SqL K H a xs /\ ∀ p,H p=none->Q (.ref p) (upd H p (.lst (eS xs lo hi)))
theorem sl_list:SlR X (CL X.K):=by
 intro pins s σ H x v vl vu lo hi sl Q I rx hs pl pu h;obtain ⟨a,xs,rfl,hx,q⟩:=h
 cases rx
 obtain ⟨its,r,j,z⟩:=I.list hx;have hlen:=r.length;refine ⟨"list",_,slot_list_getitem.lookup,j.isList.typeIs, ?_⟩;refine Ie j.isList hs pl pu .none (by simp) ?_ (by rw [r3] <;> omega)
 rw [kl, <- hlen];refine ⟨.ref s.heap.objs.size,_,I.laid (t':=s.toks) (o := .lst (eS xs lo hi)) (fun b ob q=>gV _ q) (hQ _) ?_,rfl,q _ (I.hok.fresh (hQ _))⟩;exact ⟨Ej (gv xs lo hi) z,_,0,(r.drop (HT.sIx xs.length 0 lo)).take (HT.sIx xs.length xs.length hi - HT.sIx xs.length 0 lo),hH _ rfl⟩
noncomputable def cR:V->Bool
 | .non=>true
 | .bl _=>true
 | .int _=>true
 | .str _=>true
 | _=>false
noncomputable def eqV:V->V->Bool
 | .non, .non=>true
 | .bl a, .bl b=>a==b
 | .bl a, .int b=>(if a then 1 else 0)==b
 | .int a, .bl b=>a==(if b then 1 else 0)
 | .int a, .int b=>a==b
 | .str a, .str b=>a==b
 | _,_=>false
theorem Am {A:Ea} {s:h6} {y x:V} {u v:e6} (ry:RelV y u) (rx:RelV x v) (fy:cR y=true) (fx:cR x=true):II A s u v (eqV y x):=by
 cases y with
 | non =>
   cases ry
   cases x with
   | non=>cases rx;exact SeqAt.EqAt.same _
   | bl b=>cases rx;exact SeqAt.EqAt.none_bool b
   | int b=>obtain ⟨t,rfl⟩:=rx;exact SeqAt.EqAt.none_int b t
   | str b=>obtain ⟨t,rfl⟩:=rx;exact SeqAt.EqAt.none_str b t
   | _=>exact absurd (show false=true from fx) hB
 | bl a =>
   cases ry
   cases x with
   | non=>cases rx;exact SeqAt.EqAt.bool_none a
   | bl b=>cases rx;exact SeqAt.EqAt.bool_bool a b
   | int b=>obtain ⟨t,rfl⟩:=rx;exact SeqAt.EqAt.bool_int a b t
   | str b=>obtain ⟨t,rfl⟩:=rx;exact SeqAt.EqAt.bool_str a b t
   | _=>exact absurd (show false=true from fx) hB
 | int a =>
   obtain ⟨t',rfl⟩:=ry
   cases x with
   | non=>cases rx;exact SeqAt.EqAt.int_none a t'
   | bl b=>cases rx;exact SeqAt.EqAt.int_bool a t' b
   | int b=>obtain ⟨t,rfl⟩:=rx;exact HK a t' b t
   | str b=>obtain ⟨t,rfl⟩:=rx;exact JZ a t' b t
   | _=>exact absurd (show false=true from fx) hB
 | str a =>
   obtain ⟨t',rfl⟩:=ry
   cases x with
   | non=>cases rx;exact SeqAt.EqAt.str_none a t'
   | bl b=>cases rx;exact SeqAt.EqAt.str_bool a t' b
   | int b=>obtain ⟨t,rfl⟩:=rx;exact K0 a t' b t
   | str b=>obtain ⟨t,rfl⟩:=rx;exact SeqAt.EqAt.str_str a t' b t
   | _=>exact absurd (show false=true from fx) hB
 | _=>exact absurd (show false=true from fy) hB
noncomputable def eqU (x:V) (u:e6):Bool:=match u with
 | .none=>eqV .non x
 | .bool b=>eqV (.bl b) x
 | .int i _=>eqV (.int i) x
 | .str z _=>eqV (.str z) x
 | _=>false
theorem rZ {x y:V} {u:e6} (r:RelV y u) (f:cR y=true):eqU x u=eqV y x:=by
 cases y with
 | non=>cases r;rfl
 | bl b=>cases r;rfl
 | int i=>obtain ⟨t,rfl⟩:=r;rfl
 | str z=>obtain ⟨t,rfl⟩:=r;rfl
 | _=>exact absurd (show false=true from f) hB
theorem jf {x:V}:∀ {xs:List V} {us:List e6},Vals xs us->xs.all cR=true->us.any (eqU x)=xs.any fun y=>eqV y x
 | _,_, .nil,_=>rfl
 | y::xs,u::us, .cons r t,f=>by
   rw [Ex,e7] at f;rw [ES,ES,rZ r f.1,jf t f.2]
theorem gF {A:Ea} {s:h6} {x:V} {v:e6} (rx:RelV x v) (fx:cR x=true):∀ {xs:List V} {us:List e6},Vals xs us->xs.all cR=true -> ∀ u∈us,II A s u v (eqU x u)
 | _,_, .nil,_=>fun u j=>by cases j
 | y::xs,u::us, .cons r t,f=>fun u' j=>by
   rw [Ex,e7] at f
   rcases r4.mp j with rfl | j
   ·rw [rZ r f.1];exact Am r rx f.1 fx
   ·exact gF rx fx t f.2 u' j
noncomputable def inV (x:V) (xs:List V):Bool:=xs.any fun y=>eqV y x
noncomputable def rIn (K:Frag) (neg:Bool):R2:=fun x y H Q => ∃ p xs,y = .ref p/\(SqL K H p xs∨SqT K H p xs)/\cR x=true/\xs.all cR=true/\Q (.bl (if neg then !inV x xs else inV x xs)) H
theorem kM:OpR X (Eg .NotIn) (rIn X.K true):=by
 intro pins s σ H x y v u Q I rx ry h;obtain ⟨p,xs,rfl,j,fx,fs,q⟩:=h
 cases ry
 rcases j with j | j
 ·obtain ⟨its,r,pl,z⟩:=I.list j;refine SeqAt.notIn_listAt (eqU x) pl.isList (fun w hw=>gF rx fx r fs w (by simpa using hw)) ⟨.bl _,H,I,rfl, ?_⟩
  rw [show its.toArray.any (eqU x)=its.any (eqU x) by simp,jf r fs]
  exact q
 ·obtain ⟨its,r,pl,z⟩:=I.tuple j;refine SeqAt.notIn_tupleAt (eqU x) pl (fun w hw=>gF rx fx r fs w (by simpa using hw)) ⟨.bl _,H,I,rfl, ?_⟩
  rw [show its.toArray.any (eqU x)=its.any (eqU x) by simp,jf r fs]
  exact q
theorem kN:CallR X (.type "list") (fun xs H Q => ∃ p ys,xs=[.ref p]/\(SqL X.K H p ys∨SqT X.K H p ys) /\ ∀ l,H l=none->Q (.ref l) (upd H l (.lst ys))):=by
 intro pins s σ H xs us Q I r h;obtain ⟨p,ys,rfl,j,q⟩:=h;obtain ⟨u,rfl,rx⟩:=cQ r
 cases rx
 have fin:∀ (its:List e6),Vals ys its->ys.length<=p4 -> ∀ (h':Heap) (c':Nat),(∀ b o',s.heap.get? b=some o'->h'.get? b=some o') ->
  h'.get? s.heap.objs.size=some { cls := .type "list",dict:=none,data := .seq its.toArray c',slots := #[] }->EP X pins σ Q (.ref s.heap.objs.size) { s with heap:=h' }:=fun its r' z h' c' kp e =>
  ⟨.ref s.heap.objs.size,_,I.laid (t':=s.toks) kp (hQ _) (show ObjOk X.prog X.w _ h' _ (.lst ys) from ⟨z,its,c',r',e⟩),rfl,q _ (I.hok.fresh (hQ _))⟩
 rcases j with j | j
 ·obtain ⟨its,r',pl,z⟩:=I.list j;have hlen:=r'.length;obtain ⟨o,ho,B,n,hd⟩:=pl.isList;exact call_list_seq p (.inl rfl) ho B hd (fun h' c' kp e=>fin its r' z h' c' kp e) (by simp only [r3] <;> omega)
 ·obtain ⟨its,r',pl,z⟩:=I.tuple j;have hlen:=r'.length;obtain ⟨o,ho,B,n,hd⟩:=pl;exact call_list_seq p (.inr rfl) ho B hd (fun h' c' kp e=>fin its r' z h' c' kp e) (by simp only [r3] <;> omega)
theorem km:CallR X (.type "tuple") (fun xs H Q => ∃ p ys,xs=[.ref p]/\((SqL X.K H p ys /\ ∀ l,H l=none->Q (.ref l) (upd H l (.tup ys)))∨(SqT X.K H p ys/\Q (.ref p) H))):=by
 intro pins s σ H xs us Q I r h;obtain ⟨p,ys,rfl,h⟩:=h;obtain ⟨u,rfl,rx⟩:=cQ r
 cases rx
 rcases h with ⟨j,q⟩ | ⟨j,q⟩
 ·obtain ⟨its,r',pl,z⟩:=I.list j;have hlen:=r'.length;refine call_tuple_list pl.isList (fun h' kp => ?_) (by simp only [r3] <;> omega)
  have B:Inv X pins σ H { s with heap:=h' }:=I.kept (t':=s.toks) kp
  have F:Inv X pins σ (upd H h'.objs.size (.tup ys)) { s with heap:=h'.push { cls := .type "tuple",data := .seq its.toArray } } :=
   B.laid (t':=s.toks) (fun b o e=>gV _ e) (hQ _) (show ObjOk X.prog X.w _ _ _ (.tup ys) from ⟨z,its,r',HD _ _⟩)
  exact ⟨.ref h'.objs.size,_,F,rfl,q _ (B.hok.fresh (hQ _))⟩
 ·obtain ⟨its,r',pl,z⟩:=I.tuple j;exact call_tuple_same pl ⟨.ref p,H,I,rfl,q⟩
def tyV (K:Frag) (T:String) (x:V) (H:Hp):Prop:=match x with
 | .str _=>T = "str"
 | .int _=>T = "int"
 | .ref p=>(T = "list" /\ ∃ xs,SqL K H p xs)∨(T = "tuple" /\ ∃ o,K.lookup p=some o/\o.cls = .type "tuple" /\ o.dict=none) ∨
  (T = "dict" /\ ((∃ kvs,H p=some (.dK kvs)) ∨ ∃ kvs,H p=some (.dT kvs)))∨(T = "set" /\ ∃ S n,H p=some (.set S n))
 | _=>False
theorem An {pins:List (Addr×Obj)} {σ:St} {H:Hp} {s:h6} {T:String} {x:V} {v:e6} (I:Inv X pins σ H s) (r:RelV x v) (ty:tyV X.K T x H) :
 s.TypeIs v T /\ ∀ a,v = .ref a -> ∃ ob,s.heap.get? a=some ob/\ob.dict=none:=by
 cases x with
 | str z =>
   obtain ⟨t,rfl⟩:=r
   cases (show T = "str" from ty)
   exact ⟨typeIs_str s z t,fun _ e=>nomatch e⟩
 | int i =>
   obtain ⟨t,rfl⟩:=r
   cases (show T = "int" from ty)
   exact ⟨IM s i t,fun _ e=>nomatch e⟩
 | ref p =>
   cases r
   rcases ty with ⟨rfl,xs,B⟩ | ⟨rfl,o,j,F,hd⟩ | ⟨rfl,j⟩ | ⟨rfl,S,n,j⟩
   ·obtain ⟨its,_,pl,_⟩:=I.list B;refine ⟨pl.isList.typeIs,fun a e => ?_⟩
    cases e
    obtain ⟨o,n,e,c,hd,_⟩:=pl;exact ⟨o,e,hd⟩
   ·refine ⟨⟨o,I.kIn p o j,F⟩,fun a e => ?_⟩
    cases e
    exact ⟨o,I.kIn _ o j,hd⟩
   ·have z:∃ o,s.heap.get? p=some o/\o.ExactDict:=by
     rcases j with ⟨kvs,j⟩ | ⟨kvs,j⟩
     ·obtain ⟨_,_,_,_,o,_,_,e,ex,_⟩:=I.hok p _ j;exact ⟨o,e,ex⟩
     ·obtain ⟨_,_,_,_,o,_,_,e,ex,_⟩:=I.hok p _ j;exact ⟨o,e,ex⟩
    obtain ⟨o,e,ex⟩:=z;refine ⟨⟨o,e,ex.1⟩,fun a q => ?_⟩
    cases q
    exact ⟨o,e,ex.2.1⟩
   ·obtain ⟨o,_,_,_,e,ex,_⟩:=I.hok p _ j;refine ⟨⟨o,e,ex.1⟩,fun a q => ?_⟩
    cases q
    exact ⟨o,e,ex.2.1⟩
 | _=>exact False.elim ty
noncomputable def tBM (K:Frag) (T:String) (r:V->List V->Hp->VK->Prop) (to:TE) (t:TA):TE:=fun σ H Q=>to σ H fun x H1=>tyV K T x H1/\t σ H1 fun xs H2=>r x xs H2 Q
variable {o e:Expr} {es:List Expr} {to:TE} {t:TA} {name:Str} {apos cpos:Pos} {T id:String} {r:V->List V->Hp->VK->Prop}
theorem BR (pa:PlainAttrs T) (slot:Slot T name id) (F:typeOf (.builtin id)=pure (.type "method_descriptor")) (hm:MtR X id r) (ho:PE X o to) (O:PA X (e::es) t)
 (q:JR o name X.env (eval o X.env)=eval o X.env:=by rfl)
 (B:((G3 cpos (DN (e::es) X.env)).all (fun x => !x.1)&&(backToKw cpos (Lr [] X.env)).all (fun x=>x.1.isSome)
   && decide ((e::es).length+([]:List IP).length+(if ([]:List IP).isEmpty then 0 else 1) < 30))=true:=by rfl)
 (z:(apos.endLine==cpos.line)=true:=by rfl) (U:DN (e::es) X.env=(false,eval e X.env)::DN es X.env:=by rfl) (j:(G3 cpos (DN es X.env)).any (·.1)=false:=by rfl) :
 PE X (.Call (.Attribute o name apos) (e::es) [] cpos) (tBM X.K T r to t):=by
 intro pins s σ H Q I h;refine wpAny_Call_method_late q B z rfl (thn (ho pins s σ H _ I h) fun v s1 ⟨x,H1,G,J,ty,Y⟩ => ?_);obtain ⟨h1,h2⟩:=An G J ty;refine ⟨T,id,pa,slot,F,h1,h2, ?_⟩;have L:=O cpos pins s1 σ H1 _ G Y;rw [U] at L ⊢;refine IQ (by show (false || (G3 cpos (DN es X.env)).any (·.1))=false;rw [j] <;> rfl) (Jl ?_)
 exact thn L fun us s2 ⟨vs,H2,Z,r2,q2⟩=>hm pins s2 σ H2 x vs v us Q Z J r2 q2
end
end
section
def MtM (X:Cx) (id:String) (r:V->List V->Hp->VK->Prop):Prop :=
 ∀ (pins:List (Addr×Obj)) (s:h6) (σ:St) (H:Hp) (x:V) (xs:List V) (v:e6) (us:List e6) (Q:VK),Inv X pins σ H s->RelV x v->Vals xs us->r x xs H Q ->
  DJ (model X.prog X.w) X.A (call (.builtin id) (v::us)) (EP X pins σ Q) X.xe s
theorem Vals.one:∀ {x:V} {us:List e6},Vals [x] us -> ∃ u,us=[u]/\RelV x u
 | _,_, .cons r .nil=>⟨_,rfl,r⟩
theorem Vals.reverse {xs:List V} {us:List e6} (h:Vals xs us):Vals xs.reverse us.reverse:=by
 induction h with
 | nil=>exact .nil
 | cons r t ih=>rw [G9,G9];exact Vals.append ih (.cons r .nil)
theorem Vals.rep {xs:List V} {us:List e6} (h:Vals xs us):∀ k:Nat,Vals (DK k xs).flatten (DK k us).flatten
 | 0 => .nil
 | k+1=>by
   rw [El,El,Ff,Ff];exact Vals.append h (Vals.rep h k)
theorem eT (its:List e6):∀ (k:Nat) (acc:List e6),
 Kb (fun j q=>j++q) acc.toArray (DK k its.toArray)=(acc++(DK k its).flatten).toArray
 | 0,acc=>by simp
 | k+1,acc=>by
   have e:acc.toArray++its.toArray=(acc++its).toArray:=by simp
   have z:(acc++its)++(DK k its).flatten=acc++(DK (k+1) its).flatten:=by
    rw [El,Ff,Ft]
   rw [<- z, <- eT its k (acc++its), <- e,El,Hn]
section
variable {X:Cx} {pins:List (Addr×Obj)} {σ:St} {H:Hp} {s:h6} {l b:Addr} {xs ys zs:List V}
theorem Inv.lset {its its':List e6} {n:Nat} {f:Array e6->Array e6} {t':Nat} (I:Inv X pins σ H s) (j:H l=some (.lst xs))
 (e:s.heap.get? l=some { cls := .type "list",data := .seq its.toArray n }) (hf:f its.toArray=its'.toArray) (z:Vals ys its') (B:ys.length<=p4) :
 Inv X pins σ (upd H l (.lst ys)) { s with heap:=s.heap.update l (He f),toks:=t' }:=by
 have q:=PySem.IsL.update e f;rw [hf] at q;refine I.write (x:=l) (e:=l) (by rw [j];exact trivial) (.inl rfl) (fun b' u F G=>(EH s.heap (He f) (Ne.symm F)).trans G) ⟨_,q⟩ ?_
 exact ⟨B,its',_,z,q⟩
theorem Inv.lnew {its:List e6} {t':Nat} (I:Inv X pins σ H s) (j:Vals ys its) (z:ys.length<=p4) :
 Inv X pins σ (upd H s.heap.objs.size (.lst ys)) { s with heap:=s.heap.push { cls := .type "list",data := .seq its.toArray },toks:=t' } :=
 I.laid (fun _ _ q=>gV _ q) (hQ _) ⟨z,its,0,j,hH _ rfl⟩
theorem Inv.fresh (I:Inv X pins σ H s):H s.heap.objs.size=none:=I.hok.fresh (hQ _)
theorem Inv.lstM (I:Inv X pins σ H s) (j:H l=some (.lst xs)):xs.length<=p4 /\ ∃ (its:List e6) (n:Nat),Vals xs its/\xs.length=its.length/\s.heap.get? l=some { cls := .type "list",data := .seq its.toArray n }:=by
 obtain ⟨z,its,n,r,e⟩:=I.hok l _ j;exact ⟨z,its,n,r,r.length,e⟩
theorem uW {n:Nat} (h:n<=p4):Gy n=false:=by
 unfold Gy;exact decide_eq_false (by omega)
end
section
variable {X:Cx}
noncomputable def oI:V->List V->Hp->VK->Prop:=fun x vs H Q => ∃ l xs y,x = .ref l/\vs=[y]/\H l=some (.lst xs)/\xs.length < p4/\Q .non (upd H l (.lst (xs++[y])))
theorem jK:MtM X "list.append" oI:=by
 intro pins s σ H x vs v us Q I rx rv h;obtain ⟨l,xs,y,rfl,rfl,j,B,q⟩:=h
 cases rx
 obtain ⟨u,rfl,ru⟩:=rv.one;obtain ⟨z,its,n,r,G,e⟩:=I.lstM j;refine IS F.slot_list_append ⟨_,e,rfl⟩ F.entry_list_append (F.args_list_append_2 _ _) (PySem.list_append l its.toArray n u (by rw [r3];omega)) ⟨e, ?_⟩
 refine ⟨.non,_,I.lset (its':=its++[u]) j e (by simp) (r.append (.cons ru .nil)) ?_,rfl,q⟩
 rw [DP,Ha];omega
noncomputable def CM:R2:=fun x y H Q => ∃ l b xs zs,x = .ref l/\y = .ref b/\H l=some (.lst xs)/\H b=some (.lst zs)/\xs.length+zs.length<=p4 /\ ∀ p,H p=none->Q (.ref p) (upd H p (.lst (xs++zs)))
theorem op_cat:OpR X (EL .Add) CM:=by
 intro pins s σ H x y v u Q I rx ry h;obtain ⟨l,b,xs,zs,rfl,rfl,B,F,O,q⟩:=h
 cases rx
 cases ry
 obtain ⟨z,its,n,r,U,e⟩:=I.lstM B;obtain ⟨Y,j,Z,G,J,L⟩:=I.lstM F;refine PySem.P.add_list e L ?_ (by rw [r3,r3];omega)
 have ea:its.toArray++j.toArray=(its++j).toArray:=by simp
 rw [ea];exact ⟨.ref _,_,I.lnew (t':=s.toks) (r.append G) (by rw [DP];omega),rfl,q _ I.fresh⟩
noncomputable def CN:R2:=fun x y H Q => ∃ l k xs,x = .ref l/\y = .int k/\H l=some (.lst xs) /\ -(2 ^ 63)<=k/\k < 2 ^ 63/\xs.length*k.toNat<=p4 /\
 ∀ p,H p=none->Q (.ref p) (upd H p (.lst (DK k.toNat xs).flatten))
theorem oJ {α:Type} (xs:List α) (k:Nat):(DK k xs).flatten.length=k*xs.length:=by
 induction k with
 | zero=>simp
 | succ k ih=>rw [El,Ff,DP,ih,Gp,Nat.add_comm]
theorem op_rep:OpR X (EL .Mult) CN:=by
 intro pins s σ H x y v u Q I rx ry h;obtain ⟨l,k,xs,rfl,rfl,Z,h1,h2,Y,q⟩:=h
 cases rx
 obtain ⟨t,rfl⟩:=ry;obtain ⟨z,its,n,r,hl,e⟩:=I.lstM Z;have hlen:its.toArray.size*k.toNat<=p4:=by rw [r3, <- hl];exact Y
 have B : ¬ its.toArray.size*k.toNat > (2 ^ 63 - 1) / 8:=by
  have:(p4:Nat)<=(2 ^ 63 - 1) / 8:=by decide
  omega
 have G : ¬ (!Builtin.List.listFitsIndex k)=true:=by
  rw [fitsIndex_both h1 h2];exact hB
 have j : ¬ Gy (its.toArray.size*k.toNat)=true:=by
  rw [uW hlen];exact hB
 have J:Kb (fun L O=>L++O) #[] (DK (if its.toArray.isEmpty=true then 0 else k.toNat) its.toArray)=(DK k.toNat its).flatten.toArray:=by
  have f0:∀ m:Nat,Kb (fun L O=>L++O) #[] (DK m its.toArray)=(DK m its).flatten.toArray:=fun m=>by
   have:=eT its m [];rw [J1] at this;exact this
  rw [f0]
  cases its with
  | nil=>simp
  | cons a r'=>rw [if_neg (by simp)]
 refine HU (T := "list") (U := "int") (by decide) ⟨_,e,rfl⟩ (fun s'=>IM s' k t) noFill_list_mul LA Ho repeat_list F.slot_int_index.lookup
  (IS Ho (IM s k t) L5 (Kx _ _) (int___rmul___int_list k t l its.toArray n)
    ⟨e,rfl,⟨_,e,rfl⟩,IS F.slot_list_mul ⟨_,e,rfl⟩ F.entry_list_mul (F.args_list_mul_2 _ _) (AutoListH.list___mul___list_int_3 l its.toArray n k t G B j) ⟨e, ?_⟩⟩)
 rw [J];exact ⟨.ref _,_,I.lnew (t':=s.toks) (r.rep k.toNat) (by rw [oJ,Nat.mul_comm];exact Y),rfl,q _ I.fresh⟩
end
end
end L2
namespace Att
open PySem PySem.W PySem.Calls PyProof.Rows
theorem ik {P:Params} {h:Heap}:∀ (ns:List Int) (vs:List e6),WellAll P h vs (ns.map WData.int)->GB vs ns:=by
 intro ns
 induction ns with
 | nil =>
   intro vs w;rw [GW] at w
   cases w
   exact .nil
 | cons n ns ih =>
   intro vs w;rw [DM] at w
   cases w with
   | cons a b =>
     cases a
     exact .cons _ _ (ih _ b)
theorem s9 {l:OpenLaw} {n:Nat} (O:l.most=some n) {P:Params} {h:Heap} {args:List WData} {vals:List e6}
 (j:l.row.toRowW.claim.pre args=true) (G:WellAll P h vals args) :
 ∃ a vs ns,vals=[E8 a]/\args=[WData.list (ns.map WData.int)]/\h.get? a=some { cls := .type "list",data := .seq vs.toArray }/\GB vs ns/\ns.length<=n:=by
 have J:WShape.hasAll [] args [.list .int]=true:=(pre_splitW j).1;have L:l.pre.holds [] { args:=args }=true:=(pre_splitW j).2;obtain ⟨d,r,rfl,h1,h2⟩:=hasAllW_cons J;obtain rfl:=hasAllW_nil h2;obtain ⟨xs,rfl,U⟩:=hasW_list h1;obtain ⟨ns,rfl⟩:=items_int U;have hlen:ns.length<=n:=by
  unfold OpenLaw.pre at L;have B:(WTm.not (.lt (.lit (.int (n:Int))) (.len (.arg 0)))).holds [] { args := [.list (ns.map .int)] }=true:=by
   have B:=(holds_andW L).1;rw [O] at B;exact B
  have F:=condW_of B (w_not (w_lt w_lit (w_len_list (w_arg rfl))));rw [hG] at F;refine Nat.le_of_not_lt fun q => ?_;have q':(n:Int) < ((ns.length:Nat):Int):=by omega
  first
   | (rw [decide_eq_true q'] at F;exact absurd F (by decide))
   | (simp at F;omega)
 cases G with
 | cons Y Z =>
   cases Z
   cases Y with
   | list ho z=>exact ⟨_,_,ns,rfl,rfl,ho,ik ns _ z,hlen⟩
theorem se (l:OpenLaw) (args:List WData):l.row.toRowW.claim.post args (.bool true) args=true :=
 postW_of (r:=l.row.toRowW) (X:=(true==true))
  (show WShape.has [] (.bool true) .bool=true by first | rfl | decide | simp [WShape.has,WShape.arms,WShape.armsAll])
  (show (WTm.eq .res (.lit (.bool true))).value [] { args:=args,res:=some (.bool true),after:=args }=some (.bool (true==true)) from w_eq_bool (w_res rfl) w_lit) rfl
theorem attach_call {l:OpenLaw} {n:Nat} {q:DQ} {loose:List Str} {XP:(Str->Option e6)->Heap->Prop} {YP:E4->Heap->Prop} {d:DefRec}
 (Z:l.most=some n) (B:d.params.defaults=[])
 (call:∀ (w:E4) (s₀ s₁:h6) (mg mb:Str->Option e6) (fa:Addr) (o:Obj) (pm cd doc:e6) (a:Addr) (vs:List e6) (ns:List Int),
   Ground q loose [] XP w s₀ mg mb s₁.heap->YP w s₁.heap ->
   s₁.heap.get? fa=some o->o.data = .func (docDef d.name d.params d.body d.scope pm cd doc)->s₁.heap.CodeRec cd d.name->mg d.name=some (.ref fa) ->
   s₁.heap.get? a=some { cls := .type "list",data := .seq vs.toArray }->GB vs ns->ns.length<=n->s₁.gens = #[] ->
   Gk (model l.prog w) JE (.call (.ref fa) ⟨[.ref a],[]⟩) (fun r s'=>r = .ok (.ret (.bool true))/\OldK s₁.heap s'.heap/\s'.os=s₁.os/\I7 s'.gens) s₁) :
 WalkO q loose XP YP l.row.toRowW d [] (fun f vs=>LP f vs):=by
 intro w s₀ s₁ mg mb G Y fa o pm cd doc dV kV ho hd F O J hg args vals as j U CY L CZ;obtain rfl:dV = .none:=Dflts.none O B;obtain rfl:kV = .none:=Dflts.noKw O;obtain ⟨a,vs,ns,rfl,rfl,z,hints,hlen⟩:=s9 Z j L;refine enter_call (Hx (call w s₀ s₁ mg mb fa o pm cd doc a vs ns G Y ho (fd_plain hd) F J z hints hlen hg) fun r s' hq => ?_);obtain ⟨rfl,h2,h3,h4⟩:=hq;exact ⟨.inl ⟨.bool true, .bool true,[],rfl,fun _=>rfl, .bool true,se l _,fun _=>⟨Ky,fun _ hm=>(nomatch hm)⟩⟩,h2,h3,h4⟩
section
variable {prog:DQ} {w:E4} {A:Ea} {E:e6->h6->Prop} {s:h6} {K:Frag}
noncomputable def CW (h:Heap) (L d:Addr):List (Addr×Obj):=(Eo h.objs.size).filterMap fun a=>if a=L∨a=d then none else (h.get? a).map fun o=>(a,o)
end
end Att
namespace L2
open PySem PySem.Spec PyProof.Rows
section
theorem jL:∀ {vs:List e6} {ns:List Int},GB vs ns->Vals (ns.map V.int) vs
 | _,_, .nil => .nil
 | _,_, .cons n t h => .cons ⟨t,rfl⟩ (jL h)
def qe (H:Hp):Prop := ∀ b,H b=none ∨ ∃ o xs,H b=some (.frz o (.lst xs))
theorem uX {P:DQ} {w:E4} {K:Frag} {mg mb:Str->Option e6} {CX:CXT} {k:Nat} {fa a:Addr} {fd:Gb} {x:Str} {sp:Sp} {s₁:h6} {vs:List e6} {ns:List Int}
 (KX:K.In s₁.heap) (G:s₁.heap.Ns Ez mg) (j:s₁.heap.Ns LH mb) (Y:∀ x:Str,x ≠ "__name__" -> mb x=Fj x) (J:s₁.heap.NoLimit) (hg:s₁.gens = #[])
 (U:s₁.heap.get? a=some { cls := .type "list",data := .seq vs.toArray }) (hi:GB vs ns) (hl:ns.length<=p4) (hr:Room k JE)
 (F:∀ base:Heap,K.In base->base.Ns Ez mg->dq P w K mg base CX k fa fd [x] sp) (B:∀ (s:h6) (u:e6),Ks s fd ⟨[u],[]⟩ [(x,u)])
 (Z:∀ H:Hp,qe H->SqL K H a (ns.map V.int)->sp [.ref a] H (fun v _=>v = .bl true) fun _ _ _=>False)
 (CY:∀ H e s',CX [] H s₁ (fun _ _ _=>False) e s'->False) :
 Gk (model P w) JE (.call (.ref fa) ⟨[.ref a],[]⟩) (fun r s'=>r = .ok (.ret (.bool true))/\OldK s₁.heap s'.heap/\s'.os=s₁.os/\I7 s'.gens) s₁ := by
 have rv:=jL hi;have lenV:=hi.length;have core:∀ H:Hp,qe H->SqL K H a (ns.map V.int)->HOk P w H s₁.heap->(∀ b,H b≠none->b=a)->(H a≠none->K.lookup a=none) ->
  Gk (model P w) JE (.call (.ref fa) ⟨[.ref a],[]⟩) (fun r s'=>r = .ok (.ret (.bool true))/\OldK s₁.heap s'.heap/\s'.os=s₁.os/\I7 s'.gens) s₁ := by
  intro H hO hS hok hA hK;have base_of:∀ {b:Addr} {o:Obj},s₁.heap.get? b=some o->H b=none->(ef s₁.heap H).get? b=some o:=fun e n=>uG e n;have noA:∀ {b:Addr} {o:Obj} {es:Array Gq} {ep:Nat},s₁.heap.get? b=some o->o.data = .dict es ep->H b=none:=fun {b o es ep} e d=>by
   cases q:H b with
   | none=>rfl
   | some u =>
     have e':b=a:=hA b (by rw [q];simp)
     subst e';rw [U] at e;cases e;have d':Data.seq vs.toArray _=Data.dict es ep:=d
     cases d'
  have nsK:∀ {b:Addr} {m:Str->Option e6},s₁.heap.Ns b m->(ef s₁.heap H).Ns b m:=fun {b m} ⟨o,es,ep,e,d,r⟩=>⟨o,es,ep,base_of e (noA e d),d,r⟩;have L:K.In (ef s₁.heap H):=fun b o e=>base_of (KX b o e) (by
   cases q:H b with
   | none=>rfl
   | some u =>
     have e':b=a:=hA b (by rw [q];simp)
     subst e';rw [hK (by rw [q];simp)] at e;cases e)
  have hM:Mod K mg (ef s₁.heap H):=⟨L,nsK G,⟨mb,nsK j,Y⟩,let ⟨mc,h1,h2⟩:=J; ⟨mc,nsK h1,h2⟩⟩;have e0:pZ P w K mg (ef s₁.heap H) JE [] s₁ H:=⟨rfl,hM,fun b o e=>xO e,Nat.le_of_eq (rH _ _),trivial,fun b j=>absurd (show b∈([]:List Addr) from j) (by simp),hok, .of_eq hg⟩
  refine Hx ((F _ L (nsK G)).run JE [] s₁ H ⟨[.ref a],[]⟩ [.ref a] [.ref a] _ _ hr e0 (B s₁ (.ref a)) (.cons rfl .nil) (Z H hO hS)) fun r s' h => ?_
  cases r with
  | error e=>exact (CY H e s' h).elim
  | ok fl =>
    cases fl with
    | next=>exact False.elim h
    | brk=>exact False.elim h
    | cont=>exact False.elim h
    | ret u =>
      obtain ⟨v,H',os,bare,un,O,r',q⟩:=h;have q':v = .bl true:=q;subst q';obtain rfl:u=IF true:=r';refine ⟨rfl,OldK.of_keep fun b o e => ?_,os,bare⟩
      cases q:H b with
      | none=>exact un.keep b o e q (by intro z;exact absurd (show b∈([]:List Addr) from z) (by simp)) (by simp)
      | some u =>
        rcases hO b with z | ⟨ob,xs,z⟩
        ·rw [q] at z;cases z
        ·have z2:=un.frzs b ob _ z;obtain ⟨e1,_⟩:=hok b _ z;obtain ⟨e2,_⟩:=O b _ z2;rw [e] at e1;cases e1;exact e2
 cases hk:K.lookup a with
 | some o =>
   have e:=KX a o hk;rw [U] at e
   cases e
   refine core (fun _=>none) (fun _ => .inl rfl) (.inr ⟨_,vs.toArray,_,hk,rfl,rfl,rfl,by rw [r3,lenV];exact hl,by simpa using rv⟩) (fun b u z=>by have z':(none:Option HO)=some u:=z;cases z') (fun b z=>absurd rfl z) fun z=>absurd rfl z
 | none =>
   refine core (fun b=>if b=a then some (.frz { cls := .type "list",data := .seq vs.toArray } (.lst (ns.map V.int))) else none) (fun b => ?_) (.inl (.inr ⟨{ cls := .type "list",data := .seq vs.toArray },if_pos rfl⟩)) (fun b u z => ?_) (fun b z => ?_) fun _=>hk
   ·by_cases j:b=a
    ·exact .inr ⟨_,_,if_pos j⟩
    ·exact .inl (if_neg j)
   ·by_cases j:b=a
    ·have z':=(if_pos j).symm.trans z
     cases z'
     subst j;exact ⟨U,by rw [hG];exact hl,vs,_,rv,U⟩
    ·have z':=(if_neg j).symm.trans z
     cases z'
   ·by_cases j:b=a
    ·exact j
    ·exact absurd (if_neg j) z
end
section
theorem walk_of {l:J2} {n k:Nat} {q:DQ} {loose:List Str} {XP:(Str->Option e6)->Heap->Prop} {YP:E4->Heap->Prop} {d:DefRec} {K:Params->Frag} {CX:E4->CXT} {sp:E4->Sp} {x:Str}
 (U:l.most=some n) (z:n<=p4) (B:d.params.defaults=[]) (Z:Room k JE)
 (hY:∀ (w:E4) (h:Heap),YP w h->(K w.params).In h)
 (F:∀ (w:E4) (mg:Str->Option e6) (fa:Addr) (h:Heap),(K w.params).In h->h.Ns Ez mg->mg d.name=some (.ref fa) ->
   ∃ fd:Gb,(∀ (s:h6) (u:e6),Ks s fd ⟨[u],[]⟩ [(x,u)]) /\
    ∀ base:Heap,(K w.params).In base->base.Ns Ez mg->dq l.prog w (K w.params) mg base (CX w) k fa fd [x] (sp w))
 (J:∀ (w:E4) (H:Hp) (a:Addr) (ns:List Int),ns.length<=n->qe H->SqL (K w.params) H a (ns.map V.int)->sp w [.ref a] H (fun v _=>v = .bl true) fun _ _ _=>False)
 (L:∀ (w:E4) (H:Hp) (s:h6) (e:e6) (s':h6),CX w [] H s (fun _ _ _=>False) e s'->False) :
 PySem.W.WalkO q loose XP YP l.row.toRowW d [] (fun f vs=>LP f vs):=by
 refine Att.attach_call U B fun w s₀ s₁ mg mb fa o pm cd doc a vs ns G Y ho hd CY O j hints hlen hg => ?_;have KX:=hY w _ Y;obtain ⟨fd,hb,hF⟩:=F w mg fa _ KX G.T.g O;exact uX KX G.T.g G.T.b G.T.builtins G.T.nolimit hg j hints (Ej hlen z) Z hF hb (fun H hO hS=>J w H a ns hlen hO hS) fun H e s'=>L w H s₁ e s'
end
section
noncomputable def de (s:Stmt):Arguments:=match s with
 | .FunctionDef _ a _ _ _ _ _ _ _ _=>a
 | _ => { posonlyargs := [],args := [],vararg:=none,kwonlyargs := [],kw_defaults := [],kwarg:=none,defaults := [] }
noncomputable def bE (s:Stmt):List Stmt:=match s with
 | .FunctionDef _ _ b _ _ _ _ _ _ _=>b
 | _ => []
noncomputable def ay (s:Stmt):Scope:=match s with
 | .FunctionDef _ _ _ _ _ _ sc _ _ _=>sc
 | _ => { kind := .function,names := [],isGenerator:=false,isCoroutine:=false }
noncomputable abbrev CX0:CXT:=fun _ _ _ _ _ _=>False
noncomputable abbrev E0:XK:=fun _ _ _=>False
theorem xk {X:Cx}:ig CX0 X E0:=fun _ _ _ _ _ _ _ h=>h.elim
structure Fun (K:Frag) (x qual:Str) (st:Stmt) (f:Addr) (fd:Gb):Prop where
 ex:∃ (oc:e6) (od:Option Addr) (kV doc pm:e6) (an:Option Addr) (cdv ct:e6) (osl:Array (Option e6)),
  fd=FR x qual (de st) (bE st) (ay st) .none kV doc pm an cdv ct/\K.lookup f=some ⟨oc,od, .func fd,osl⟩/\HJ K cdv qual=true
 kp:Gc K (.ref f)=true
section
variable {P:DQ} {w:E4} {K:Frag} {mg:Str->Option e6} {base:Heap}
theorem Fun.ok {x qual:Str} {st:Stmt} {f:Addr} {fd:Gb} {N ps:List Str} {k:Nat} {sp:Sp} (F:Fun K x qual st f fd) (S:fO N ps (ay st)) (len:∀ vs H Q E,sp vs H Q E->vs.length=ps.length)
 (j:∀ (cdv:e6) (A:Ea) (outer:List Env) (s:h6) (H:Hp) (vs:List V) (Q:VK) (E:XK),Room k (A.deeper (Ji qual (ay st) s.heap.objs.size f cdv))->sp vs H Q E ->
   ∃ t,PSs (gE CX0 P w K mg base N qual (ay st) f cdv A outer s H E).nox (bE st) t/\t { nx:=fun _ H'=>Q .non H',rt:=Q } (cz N vs) H):dq P w K mg base CX0 (k+1) f fd ps sp:=by
 obtain ⟨oc,od,kV,doc,pm,an,cdv,ct,osl,rfl,lk,z⟩:=F.ex;refine BO lk z S len fun A outer s H vs Q E G B => ?_;obtain ⟨t,h,q⟩:=j cdv A outer s H vs Q E G B;exact ⟨t,h.nox,q⟩
theorem Fun.binds {x qual:Str} {st:Stmt} {f:Addr} {fd:Gb} {ps:List Str} (F:Fun K x qual st f fd)
 (h:∀ (kV doc pm:e6) (an:Option Addr) (cdv ct:e6) (us:List e6),us.length=ps.length->bindArgs (FR x qual (de st) (bE st) (ay st) .none kV doc pm an cdv ct) ⟨us,[]⟩=pure (ps.zip us)):Binds K fd ps []:=by
 obtain ⟨oc,od,kV,doc,pm,an,cdv,ct,osl,rfl,lk,j⟩:=F.ex;exact .all (h kV doc pm an cdv ct)
theorem af {x qual:Str} {st:Stmt} {f:Addr} {oc:e6} {od an:Option Addr} {osl:Array (Option e6)} {kV doc pm cdv ct:e6} (l:K.lookup f=some ⟨oc,od, .func (FR x qual (de st) (bE st) (ay st) .none kV doc pm an cdv ct),osl⟩)
 (c:HJ K cdv qual=true) (k:Gc K (.ref f)=true):Fun K x qual st f (FR x qual (de st) (bE st) (ay st) .none kV doc pm an cdv ct):=⟨⟨oc,od,kV,doc,pm,an,cdv,ct,osl,rfl,l,c⟩,k⟩
end
def Same (H H':Hp):Prop := ∀ b o,H b=some o->H' b=some o
theorem Same.trans {H H1 H2:Hp} (a:Same H H1) (b:Same H1 H2):Same H H2:=fun c o h=>b c o (a c o h)
theorem Same.free {H H':Hp} (e:Same H H') {l:Addr} (h:H' l=Option.none):H l=Option.none:=by
 cases q:H l with
 | none=>rfl
 | some o =>
   rw [e l o q] at h
   cases h
theorem Same.seq {K:Frag} {H H':Hp} {a:Addr} {xs:List V} (e:Same H H') (h:SqL K H a xs):SqL K H' a xs:=by
 rcases h with (h | ⟨o,h⟩) | h
 ·exact .inl (.inl (e _ _ h))
 ·exact .inl (.inr ⟨o,e _ _ h⟩)
 ·exact .inr h
end
end L2
namespace HT
open PySem PySem.Spec PyProof.Rows
section
variable {prog:DQ} {w:E4} {A:Ea} {E:e6->h6->Prop} {s:h6}
theorem getItem_tuple_whole {t sl:Addr} {items:Array e6} {vl vu:e6} {lo hi:Option Int} {Q:e6->h6->Prop} (j:Lo s.heap t items) (G:s.heap.IsSliceOf sl vl vu .none) (pl:IJ vl lo) (pu:IJ vu hi)
 (hw:sIx items.size 0 lo=0/\sIx items.size items.size hi=items.size) (h:Q (.ref t) s):DJ (model prog w) A (I8 (.ref t) (.ref sl)) Q E s:=by
 obtain ⟨os,q,z,J⟩:=id G;have B:s.TypeIs (.ref sl) "slice" := ⟨os,q,z⟩;unfold I8
 try with_reducible refine Et ?_
 first | refine b0 (h7 ?_) | skip
 refine b0 (Kv j.typeIs (by decide) ?_)
 refine b0 (E6 (name:=Ek "__getitem__") j.typeIs F3
  (Eh F3 j.typeIs JJ ?_ (K9 _ _)))
 show DJ _ _ (Gd (.ref t) >>= _) _ _ s;refine b0 (tupleItemsOf_ j ?_);refine b0 (Gn B ?_);rw [if_pos (by decide)]
 refine b0 (dr G pl pu ?_);have F:(((sIx items.size 0 lo:Nat):Int)==0&&(1:Int)==1&&(sIx items.size items.size hi - sIx items.size 0 lo)==items.size)=true:=by
  rw [hw.1,hw.2];simp
 show DJ _ _ (if (((sIx items.size 0 lo:Nat):Int)==0&&(1:Int)==1&&(sIx items.size items.size hi - sIx items.size 0 lo)==items.size)=true then _ else _) _ _ s
 rw [if_pos F];refine b0 (m:=HM (.ref t)) ?_;unfold HM;refine b0 (Gn j.typeIs (h7 ?_));show DJ _ _ (if true=true then _ else _) _ _ s
 rw [if_pos rfl];exact b0 (Fn (h7 ⟨_,rfl,h7 h⟩))
end
end HT
namespace L2
open PySem PySem.Spec PyProof.Rows
section
section
variable {X:Cx}
noncomputable def CO (K:Frag):V->Option Int->Option Int->Hp->VK->Prop:=fun x lo hi H Q => ∃ a xs,x = .ref a/\SqT K H a xs/\(HT.sIx xs.length 0 lo=0/\HT.sIx xs.length xs.length hi=xs.length)/\Q x H
theorem uY:SlR X (CO X.K):=by
 intro pins s σ H x v vl vu lo hi sl Q I rx hs pl pu h;obtain ⟨a,xs,rfl,hx,hw,q⟩:=h
 cases rx
 obtain ⟨its,r,j,z⟩:=I.tuple hx;have hlen:=r.length;refine ⟨"tuple",_,slot_tuple_getitem.lookup,j.typeIs, ?_⟩;refine HT.getItem_tuple_whole j hs pl pu (by rw [r3, <- hlen];exact hw) ⟨.ref a,H,I,rfl,q⟩
end
end
section
section
variable {κ:Type} [DecidableEq κ]
noncomputable def bB (kvs:List (κ × V)) (k : κ):Option V:=(kvs.find? fun kv=>decide (kv.1=k)).map (·.2)
noncomputable def b8 (kvs:List (κ × V)) (k : κ) (v:V):List (κ × V) :=
 if (kvs.any fun kv=>decide (kv.1=k))=true then kvs.map (fun kv=>if kv.1=k then (kv.1,v) else kv) else kvs++[(k,v)]
noncomputable def kr (kvs:List (κ × V)) (k : κ):List (κ × V):=kvs.filter fun kv=>decide (kv.1≠k)
theorem eh {p : κ × V} {r:List (κ × V)} {k : κ} (e:p.1=k):bB (p::r) k=some p.2:=by simp [bB,EZ,e]
theorem en {p : κ × V} {r:List (κ × V)} {k : κ} (e : ¬ p.1=k):bB (p::r) k=bB r k:=by simp [bB,EZ,e]
theorem kP (k : κ):∀ kvs:List (κ × V),(kvs.any fun kv=>decide (kv.1=k))=(bB kvs k).isSome
 | [] => rfl
 | p::r=>by
   rw [ES]
   by_cases e:p.1=k
   ·simp only [eh e,decide_eq_true e,Bool.true_or,Kc]
   ·rw [en e,decide_eq_false e,Hi];exact kP k r
theorem cA (kvs:List (κ × V)) (k : κ) (v:V):(b8 kvs k v).length<=kvs.length+1:=by
 unfold b8
 split
 ·rw [hG];omega
 ·rw [DP,E9,FV];omega
theorem RelO.isSome_eq {o:Option V} {u:Option e6} (r:RelO o u):o.isSome=u.isSome:=by
 cases o with
 | none=>cases u with
   | none=>rfl
   | some _=>exact (show False from r).elim
 | some _=>cases u with
   | none=>exact (show False from r).elim
   | some _=>rfl
theorem RelO.getD {o:Option V} {u:Option e6} {d:V} {d':e6} (r:RelO o u) (rd:RelV d d'):RelV (o.getD d) (u.getD d'):=by
 cases o with
 | none=>cases u with
   | none=>exact rd
   | some _=>exact (show False from r).elim
 | some _=>cases u with
   | none=>exact (show False from r).elim
   | some _=>exact r
theorem KV.val {kvs:List (κ × V)} {vs:List (κ × e6)} (r:KV kvs vs) (k : κ):RelO (bB kvs k) (JF vs k):=by
 unfold KV at r
 induction r with
 | nil=>exact EC
 | @cons p q ps qs h t ih =>
  obtain ⟨h1,h2⟩:=h
  by_cases e:p.1=k
  ·have e':q.1=k:=h1.symm.trans e;have b:JF (q::qs) k=some q.2:=by simp [JF,EZ,e']
   rw [eh e,b];exact h2
  ·have e' : ¬ q.1=k:=fun z=>e (h1.trans z);have b:JF (q::qs) k=JF qs k:=by simp [JF,EZ,e']
   rw [en e,b];exact ih
theorem KV.any {kvs:List (κ × V)} {vs:List (κ × e6)} (r:KV kvs vs) (k : κ):(kvs.any fun kv=>decide (kv.1=k))=vs.any fun kv=>decide (kv.1=k):=by
 unfold KV at r
 induction r with
 | nil=>rfl
 | cons h t ih=>rw [ES,ES,ih,h.1]
theorem KV.repl {kvs:List (κ × V)} {vs:List (κ × e6)} (r:KV kvs vs) (k : κ) {y:V} {u:e6} (ry:RelV y u) :
 KV (kvs.map fun kv=>if kv.1=k then (kv.1,y) else kv) (vs.map fun kv=>if kv.1=k then (kv.1,u) else kv):=by
 unfold KV at r ⊢
 induction r with
 | nil=>exact .nil
 | @cons p q ps qs h t ih =>
  rw [DM,DM];refine .cons ?_ ih;obtain ⟨h1,h2⟩:=h
  by_cases e:p.1=k
  ·rw [if_pos e,if_pos (h1.symm.trans e)];exact ⟨h1,ry⟩
  ·rw [if_neg e,if_neg (fun z=>e (h1.trans z))];exact ⟨h1,h2⟩
theorem KV.put {kvs:List (κ × V)} {vs:List (κ × e6)} (r:KV kvs vs) (k : κ) {y:V} {u:e6} (ry:RelV y u):KV (b8 kvs k y) (stored vs k u):=by
 unfold b8 stored;rw [r.any k]
 by_cases e:(vs.any fun kv=>decide (kv.1=k))=true
 ·rw [if_pos e,if_pos e];exact r.repl k ry
 ·rw [if_neg e,if_neg e];exact Paired.snoc r ⟨rfl,ry⟩
theorem KV.drop {kvs:List (κ × V)} {vs:List (κ × e6)} (r:KV kvs vs) (k : κ):KV (kr kvs k) (without vs k):=by
 unfold KV at r ⊢;unfold kr without
 induction r with
 | nil=>exact .nil
 | @cons p q ps qs h t ih =>
  obtain ⟨h1,h2⟩:=h;rw [L6,L6]
  by_cases e:p.1=k
  ·have a : ¬ decide (p.1≠k)=true:=by simp [e]
   have b : ¬ decide (q.1≠k)=true:=by simp [h1.symm.trans e]
   rw [if_neg a,if_neg b];exact ih
  ·have e' : ¬ q.1=k:=fun z=>e (h1.trans z);have a:decide (p.1≠k)=true:=by simp [e]
   have b:decide (q.1≠k)=true:=by simp [e']
   rw [if_pos a,if_pos b];exact .cons ⟨h1,h2⟩ ih
theorem KV.length {kvs:List (κ × V)} {vs:List (κ × e6)} (r:KV kvs vs):kvs.length=vs.length:=Fl r
end
theorem ku {P:DQ} {w:E4} {k:Key} {u:e6} (r:RelV (kV k) u):(aE P w).is k u=true:=by
 cases k with
 | inl i=>obtain ⟨t,e⟩:=(show ∃ t,u=Hc i t from r);subst e;exact og P w i t
 | inr x=>obtain ⟨t,e⟩:=(show ∃ t,u=JD x t from r);subst e;exact oh P w x t
theorem jM {P:DQ} {w:E4}:∀ {ks:List Key} {us:List e6},Vals (ks.map kV) us->ItemsAre (aE P w) ks us
 | [],_,r=>by rw [GW] at r;cases r;exact .nil
 | k::ks,_,r=>by
   rw [DM] at r
   cases r with
   | cons h t=>exact .cons (ku h) (jM t)
noncomputable abbrev KT (H:Hp):List (List Key×V)->List (List Key×Addr×e6)->Prop:=E1 fun p q=>p.1=q.1/\H q.2.1=some (.tup (p.1.map kV))/\RelV p.2 q.2.2
theorem KT.val {H:Hp} {kvs:List (List Key×V)} {xs:List (List Key×Addr×e6)} (r:KT H kvs xs) (k:List Key):RelO (bB kvs k) ((GL xs k).map (·.2)):=by
 induction r with
 | nil=>exact EC
 | @cons p q ps qs h t ih =>
  obtain ⟨h1,_,h2⟩:=h
  by_cases e:p.1=k
  ·have e':q.1=k:=h1.symm.trans e;have b:GL (q::qs) k=some q.2:=by simp [GL,EZ,e']
   rw [eh e,b];exact h2
  ·have e' : ¬ q.1=k:=fun z=>e (h1.trans z);have b:GL (q::qs) k=GL qs k:=by simp [GL,EZ,e']
   rw [en e,b];exact ih
theorem KT.repl {H:Hp} {kvs:List (List Key×V)} {xs:List (List Key×Addr×e6)} (r:KT H kvs xs) (k:List Key) {y:V} {u:e6} (ry:RelV y u) :
 KT H (kvs.map fun kv=>if kv.1=k then (kv.1,y) else kv) (xs.map (putAt k u)):=by
 induction r with
 | nil=>exact .nil
 | @cons p q ps qs h t ih =>
  rw [DM,DM];refine .cons ?_ ih;obtain ⟨h1,h2,j⟩:=h;unfold putAt
  by_cases e:p.1=k
  ·rw [if_pos e,if_pos (h1.symm.trans e)];exact ⟨h1,h2,ry⟩
  ·rw [if_neg e,if_neg (fun z=>e (h1.trans z))];exact ⟨h1,h2,j⟩
theorem KT.put {H:Hp} {kvs:List (List Key×V)} {xs:List (List Key×Addr×e6)} (r:KT H kvs xs) (k:List Key) {b:Addr} {y:V} {u:e6} (j:H b=some (.tup (k.map kV))) (ry:RelV y u) :
 KT H (b8 kvs k y) (Hy xs k b u):=by
 have e:(kvs.any fun kv=>decide (kv.1=k))=(GL xs k).isSome:=by
  rw [kP,(r.val k).isSome_eq,Option.isSome_map]
 unfold b8 Hy;rw [e]
 by_cases q:(GL xs k).isSome=true
 ·rw [if_pos q,if_pos q];exact r.repl k ry
 ·rw [if_neg q,if_neg q];exact Paired.snoc r ⟨rfl,j,ry⟩
theorem KT.keeps {H H':Hp} {kvs:List (List Key×V)} {xs:List (List Key×Addr×e6)} (r:KT H kvs xs) (j:∀ b ys,H b=some (.tup ys)->H' b=some (.tup ys)):KT H' kvs xs :=
 Mn r fun _ _ z=>⟨z.1,j _ _ z.2.1,z.2.2⟩
section
variable {P:DQ} {w:E4} {H:Hp} {h:Heap} {a:Addr}
theorem xl {u:HO} (ok:HOk P w H h) (e:Rd H a u):ObjOk P w H h a u:=e.ok ok
theorem kx {kvs:List (Key×V)} (ok:HOk P w H h) (e:Rd H a (.dK kvs)):kvs.length<=p4/\(a==Em)=false /\ ∃ vs,KV kvs vs/\h.DictOf (aE P w) a vs :=
 show ObjOk P w H h a (.dK kvs) from xl ok e
theorem BS {kvs:List (Key×V)} (ok:HOk P w H h) (e:H a=some (.dK kvs)):kvs.length<=p4/\(a==Em)=false /\ ∃ vs,KV kvs vs/\h.DictOf (aE P w) a vs:=kx ok (.inl e)
theorem eU {ks:List Key} (ok:HOk P w H h) (e:H a=some (.tup (ks.map kV))):(GI (aE P w)).is h ks a:=by
 obtain ⟨_,its,r,o,h1,h2,n,j⟩:=(show ObjOk P w H h a (.tup (ks.map kV)) from ok a _ e);exact ⟨o,its.toArray,n,h1,h2,j,by simpa using jM r⟩
theorem fP {kvs:List (List Key×V)} (ok:HOk P w H h) (e:Rd H a (.dT kvs)):kvs.length<=p4/\(a==Em)=false /\
 ∃ xs,KT H kvs xs/\h.DictOfH (GI (aE P w)) a xs:=by
 obtain ⟨z,y,xs,r,o,es,ep,h1,h2,j,B,F⟩:=(show ObjOk P w H h a (.dT kvs) from xl ok e);refine ⟨z,y,xs,r,o,es,ep,h1,h2,j,B,fun x hx => ?_,F⟩;have all:∀ {l:List (List Key×V)} {m:List (List Key×Addr×e6)},KT H l m -> ∀ x∈m,(GI (aE P w)).is h x.1 x.2.1:=by
  intro l m q
  induction q with
  | nil=>intro x hx;exact nomatch hx
  | @cons p q ps qs hq t ih =>
   intro x hx
   rcases r4.mp hx with e | hx
   ·subst e;exact eU ok (by rw [<- hq.1];exact hq.2.1)
   ·exact ih x hx
 exact all r x hx
theorem xm {kvs:List (List Key×V)} (ok:HOk P w H h) (e:H a=some (.dT kvs)):kvs.length<=p4/\(a==Em)=false /\
 ∃ xs,KT H kvs xs/\h.DictOfH (GI (aE P w)) a xs:=fP ok (.inl e)
end
def DGet (H:Hp) (a:Addr) (y:V) (r:Option V):Prop :=
 (∃ kvs k,Rd H a (.dK kvs)/\y=kV k/\r=bB kvs k) ∨ ∃ kvs k b,Rd H a (.dT kvs)/\y = .ref b/\H b=some (.tup (k.map kV))/\r=bB kvs k
def DPut (H:Hp) (a:Addr) (y v:V) (H':Hp):Prop :=
 (∃ kvs k,H a=some (.dK kvs)/\y=kV k/\kvs.length < p4/\H'=upd H a (.dK (b8 kvs k v))) ∨
 ∃ kvs k b,H a=some (.dT kvs)/\y = .ref b/\H b=some (.tup (k.map kV))/\kvs.length < p4/\H'=upd H a (.dT (b8 kvs k v))
theorem DGet.k {H:Hp} {a:Addr} {kvs:List (Key×V)} {k:Key} (e:H a=some (.dK kvs)):DGet H a (kV k) (bB kvs k) := .inl ⟨kvs,k, .inl e,rfl,rfl⟩
theorem DGet.t {H:Hp} {a b:Addr} {kvs:List (List Key×V)} {k:List Key} (e:H a=some (.dT kvs)) (eb:H b=some (.tup (k.map kV))):DGet H a (.ref b) (bB kvs k) := .inr ⟨kvs,k,b, .inl e,rfl,eb,rfl⟩
theorem DPut.k {H:Hp} {a:Addr} {kvs:List (Key×V)} {k:Key} {v:V} (e:H a=some (.dK kvs)) (j:kvs.length < p4):DPut H a (kV k) v (upd H a (.dK (b8 kvs k v))) := .inl ⟨kvs,k,e,rfl,j,rfl⟩
theorem DPut.t {H:Hp} {a b:Addr} {kvs:List (List Key×V)} {k:List Key} {v:V} (e:H a=some (.dT kvs)) (eb:H b=some (.tup (k.map kV))) (j:kvs.length < p4) :
 DPut H a (.ref b) v (upd H a (.dT (b8 kvs k v))) := .inr ⟨kvs,k,b,e,rfl,eb,j,rfl⟩
section
variable {X:Cx} {pins:List (Addr×Obj)} {σ:St} {H:Hp} {s:h6} {a:Addr} {y v:V} {u r:e6} {o:Option V} {A:Ea} {E:e6->h6->Prop}
theorem Inv.big (I:Inv X pins σ H s):Em < s.heap.objs.size:=by
 have h:Ez < s.heap.objs.size:=(I.mod.glob.keeps I.bk).lt;exact Nat.lt_trans (by decide) h
theorem sf {Q:e6->h6->Prop} (q:A.units+1 < F8) (I:Inv X pins σ H s) (g:DGet H a y (some v)) (ry:RelV y u) (h:∀ w' s',Inv X pins σ H s'->RelV v w'->Q w' s') :
 DJ (model X.prog X.w) A (I8 (.ref a) u) Q E s:=by
 rcases g with ⟨kvs,k,e,ey,l⟩ | ⟨kvs,k,b,e,ey,eb,l⟩
 ·subst ey;obtain ⟨z,hd,vs,rel,dd⟩:=kx I.hok e;obtain ⟨w',hw,rw'⟩:=Mx (v:=v) (o:=JF vs k) (by rw [l];exact rel.val k)
  exact wpAny_getItem_of (ku ry) dd.mapOf hw (h w' _ (I.tok _) rw')
 ·subst ey
  cases (show u=E8 b from ry)
  obtain ⟨z,hd,xs,rel,dd⟩:=fP I.hok e;obtain ⟨w',hw,rw'⟩:=Mx (v:=v) (o:=(GL xs k).map (·.2)) (by rw [l];exact rel.val k)
  obtain ⟨p,B,j⟩:=Fk.mp hw;refine Kd (FT q) (eU I.hok eb) dd B ?_;rw [j];exact h w' _ (I.tok _) rw'
theorem dQ {h':Heap} {t':Nat} {ob:HO} (I:Inv X pins σ H s) (mu:Mut (H a)) (j:EG a s.heap h') (he:∃ q,h'.get? a=some q) (new:ObjOk X.prog X.w (upd H a ob) h' a ob) :
 Inv X pins σ (upd H a ob) { s with heap:=h',toks:=t' } :=
 I.write (x:=a) (e:=a) mu (.inl rfl) (fun b q B z=>(j.2 b B).trans z) he new
theorem Ao {P:DQ} {w:E4} {H':Hp} {h':Heap} {kvs:List (Key×V)} {vs:List (Key×e6)} (z:kvs.length<=p4) (hd:(a==Em)=false) (rel:KV kvs vs) (dd:h'.DictOf (aE P w) a vs) :
 ObjOk P w H' h' a (.dK kvs):=⟨z,hd,vs,rel,dd⟩
theorem sh {H':Hp} {Q:Unit->h6->Prop} (J:A.units+1 < F8) (I:Inv X pins σ H s) (g:DPut H a y v H') (ry:RelV y u) (rv:RelV v r) (h:∀ s',Inv X pins σ H' s'->Q () s') :
 DJ (model X.prog X.w) A (IG (.ref a) u r) Q E s:=by
 rcases g with ⟨kvs,k,e,ey,l,eH⟩ | ⟨kvs,k,b,e,ey,eb,l,eH⟩
 ·subst ey eH;obtain ⟨z,hd,vs,rel,dd⟩:=BS I.hok e;have B:vs.length<=p4:=by rw [<- rel.length];exact z
  have F:(b8 kvs k v).length<=p4:=by have:=cA kvs k v;omega
  refine wpAny_setItem_pairs (hsz:=B) (ku ry) dd fun h' dd' G=>h _ ?_;have he:∃ q,h'.get? a=some q:=let ⟨q,_,_,j,_⟩:=dd'; ⟨q,j⟩;exact dQ I (by rw [e];exact EC) G he (Ao F hd (rel.put k rv) dd')
 ·subst ey eH
  cases (show u=E8 b from ry)
  obtain ⟨z,hd,xs,rel,dd⟩:=xm I.hok e;have B:xs.length<=p4:=by rw [<- Fl rel];exact z
  have F:(b8 kvs k v).length<=p4:=by have:=cA kvs k v;omega
  refine Ke (hsz:=B) (FT J) (eU I.hok eb) dd fun h' dd' G=>h _ ?_;obtain ⟨q,es,ep,j,h2,L,O,_,U⟩:=dd';refine dQ I (by rw [e];exact EC) G ⟨q,j⟩ ⟨F,hd,_,(rel.put k eb rv).keeps fun c ys ec => ?_,q,es,ep,j,h2,L,O,U⟩
  rw [ah (wY ec e (fun z=>nomatch z))];exact ec
end
theorem uZ {P:DQ} {w:E4} {H:Hp} (h:Heap) (j:Em < h.objs.size):ObjOk P w H (h.push { cls := .type "dict",data := .dict #[] }) h.objs.size (.dK []) :=
 ⟨EN _,beq_eq_false_iff_ne.mpr (Ne.symm (E3 j)),[], .nil,Heap.DictOf.new h⟩
theorem kQ {P:DQ} {w:E4} {H:Hp} (h:Heap) (j:Em < h.objs.size):ObjOk P w H (h.push { cls := .type "dict",data := .dict #[] }) h.objs.size (.dT []) :=
 ⟨EN _,beq_eq_false_iff_ne.mpr (Ne.symm (E3 j)),[], .nil,_, #[],0,hH _ rfl,⟨rfl,rfl,rfl⟩,rfl,rfl,List.nodup_nil⟩
noncomputable def Ap:TE:=fun _ H Q => ∀ p,H p=none->Q (.ref p) (upd H p (.dK []))
noncomputable def Aq:TE:=fun _ H Q => ∀ p,H p=none->Q (.ref p) (upd H p (.dT []))
section
variable {X:Cx} {pos:Pos}
theorem v6:PE X (.Dict [] [] pos) Ap:=fun pins s σ H Q I h =>
 Ip ⟨.ref s.heap.objs.size,_,I.laid (a:=s.heap.objs.size) (o := .dK []) (t':=s.toks) (fun _ _ q=>gV _ q) (hQ _) (uZ s.heap I.big),rfl,h _ (I.hok.fresh (hQ _))⟩
theorem v7:PE X (.Dict [] [] pos) Aq:=fun pins s σ H Q I h =>
 Ip ⟨.ref s.heap.objs.size,_,I.laid (a:=s.heap.objs.size) (o := .dT []) (t':=s.toks) (fun _ _ q=>gV _ q) (hQ _) (kQ s.heap I.big),rfl,h _ (I.hok.fresh (hQ _))⟩
end
structure M2 (X:Cx) (o:Expr) (m:Str) (apos:Pos) (e f:Expr) (cpos:Pos):Prop where
 base:JR o m X.env (eval o X.env)=eval o X.env
 few:((G3 cpos (DN [e,f] X.env)).all (fun x => !x.1)&&(backToKw cpos (Lr [] X.env)).all (fun x=>x.1.isSome)
  && decide (([e,f]:List Expr).length+([]:List IP).length+(if ([]:List IP).isEmpty then 0 else 1) < 30))=true
 line:(apos.endLine==cpos.line)=true
 trees:G3 cpos (DN [e,f] X.env)=[(false,eval e X.env),(false,eval f X.env)]
def IsD (H:Hp) (a:Addr):Prop:=(∃ kvs,Rd H a (.dK kvs)) ∨ ∃ kvs,Rd H a (.dT kvs)
theorem kR {X:Cx} {pins:List (Addr×Obj)} {σ:St} {H:Hp} {s:h6} {a:Addr} (I:Inv X pins σ H s) (d:IsD H a) :
 s.TypeIs (.ref a) "dict" /\ (∀ b,E8 a = .ref b -> ∃ ob,s.heap.get? b=some ob/\ob.dict=none)/\(a==Em)=false:=by
 rcases d with ⟨kvs,e⟩ | ⟨kvs,e⟩
 ·obtain ⟨_,hd,vs,_,dd⟩:=kx I.hok e;refine ⟨dd.typeIs,fun b q => ?_,hd⟩
  cases q
  obtain ⟨ob,_,_,h1,h2,_⟩:=dd;exact ⟨ob,h1,h2.2.1⟩
 ·obtain ⟨_,hd,xs,_,dd⟩:=fP I.hok e;refine ⟨dd.typeIs,fun b q => ?_,hd⟩
  cases q
  obtain ⟨ob,_,_,h1,h2,_⟩:=dd;exact ⟨ob,h1,h2.2.1⟩
section
variable {X:Cx} {pins:List (Addr×Obj)} {σ:St} {H:Hp} {s:h6} {a:Addr} {y d:V} {u r:e6} {o:Option V} {A:Ea} {E:e6->h6->Prop}
theorem Ar {Q:e6->h6->Prop} (j:A.units+1 < F8) (I:Inv X pins σ H s) (g:DGet H a y o) (ry:RelV y u) (rd:RelV d r) (h:∀ w' s',Inv X pins σ H s'->RelV (o.getD d) w'->Q w' s') :
 DJ (model X.prog X.w) A (call (.builtin "dict.get") [.ref a,u,r]) Q E s:=by
 rcases g with ⟨kvs,k,e,ey,l⟩ | ⟨kvs,k,b,e,ey,eb,l⟩
 ·subst ey;obtain ⟨z,hd,vs,rel,dd⟩:=kx I.hok e;refine Kz Hb dd.typeIs IT (Iq _ _ _) (meets_dict_get_default (aE X.prog X.w) a (ku ry) hd r) ⟨_,dd.mapOf,h _ _ (I.tok _) ?_⟩;rw [l];exact (rel.val k).getD rd
 ·subst ey
  cases (show u=E8 b from ry)
  obtain ⟨z,hd,xs,rel,dd⟩:=fP I.hok e;refine Kz Hb dd.typeIs IT (Iq _ _ _) (meetsH_dict_get_default (GI (aE X.prog X.w)) a b hd r) ⟨FT j,k,xs,eU I.hok eb,dd,h _ _ (I.tok _) ?_⟩;rw [l];exact (rel.val k).getD rd
end
noncomputable def As (td ty tx:TE):TE:=fun σ H Q=>td σ H fun x H1 => ∃ a,x = .ref a/\IsD H1 a/\ty σ H1 fun y H2=>tx σ H2 fun z H3 => ∃ o,DGet H3 a y o/\Q (o.getD z) H3
section
variable {X:Cx} {o e f:Expr} {apos cpos:Pos} {td ty tx:TE}
theorem v8 (q:X.A.units+1 < F8) (ho:PE X o td) (he:PE X e ty) (hf:PE X f tx) (m:M2 X o "get" apos e f cpos):PE X (.Call (.Attribute o "get" apos) [e,f] [] cpos) (As td ty tx):=by
 intro pins s σ H Q I h;refine wpAny_Call_method m.base m.few m.line PySem.F.plainAttrs_dict Hb PySem.F.type_dict_get (thn (ho pins s σ H _ I h) fun u s1 ⟨x,H1,j,rx,a,ex,d,B⟩ => ?_);subst ex;obtain rfl:u=E8 a:=rx;obtain ⟨t1,G,_⟩:=kR j d;refine ⟨t1,G, ?_⟩;rw [m.trees];refine IQ rfl (Jl (HI (thn (he pins s1 σ H1 _ j B) fun iv s2 ⟨y,H2,J,ry,L⟩ =>
  HI (thn (hf pins s2 σ H2 _ J L) fun fv s3 ⟨z,O,U,rz,ov,g,Y⟩=>Kr ?_))))
 exact Ar q U g ry rz fun w' s4 Z rw'=>⟨_,O,Z,rw',Y⟩
end
end
section
noncomputable def aY (elt:Expr) (gens:List Ef) (scope:Scope) (pos:Pos) (d:Nat) (acc:e6) (env:Env) (k:Sem Fin):Sem Fin :=
 match gens[d+1]? with
 | some g'=>eval g'.iter env >>= fun x=>GP g'.iter.pos >>= fun _=>Fd g'.iter env x >>= fun x=>holding [x] (Jg x) >>= fun it' =>
    runOwn (.compStart (.ListComp elt gens scope pos) (d+1) it' acc env) env >>= fun _=>k
 | none=>(eval elt env >>= fun x=>call (.builtin "list.append") [acc,x] >>= fun _=>pure ()) >>= fun _=>k
noncomputable def b9 (ifs:List Expr) (env:Env):Sem Bool :=
 forIn ifs true fun c r=>if r=true then do let ok <- isTrue c env (eval c env);pure (FW ok) else pure (FW r)
theorem kS (elt target iter:Expr) (ifs:List Expr) (gens:List Ef) (scope:Scope) (pos:Pos) (d:Nat) (it acc:e6) (env:Env)
 (hd:gens[d]? = some ⟨target,iter,ifs,0⟩) (j:∀ g',gens[d+1]? = some g'->g'.is_async=0) :
 compTurn (.ListComp elt gens scope pos) d it acc env=(GP iter.pos >>= fun _=>G4 it >>= fun r=>match r with
  | none=>pure (.done .next)
  | some v=>Hm target it v >>= fun _=>assign target env v >>= fun _=>b9 ifs env >>= fun ok =>
    (if ok=true then aY elt gens scope pos d acc env (again (.compLoop (.ListComp elt gens scope pos) d it acc env)) else again (.compLoop (.ListComp elt gens scope pos) d it acc env))):=by
 unfold compTurn;simp only [hd];unfold aY b9
 cases hn:gens[d+1]? with
 | none=>rfl
 | some g' =>
   obtain ⟨t',i',f',a'⟩:=g';have e:a'=0:=j _ hn;subst e;rfl
noncomputable abbrev TC:=St->Hp->(St->Hp->Prop)->Prop
def fQ (J:It) (g:TG) (tb:TC) (N:St->Hp->Prop) (σ:St) (H:Hp):Prop :=
 ∃ W:Nat->Nat->St->Hp->Prop,(∃ m,W 0 m σ H) /\ ∀ i m σ H,W i m σ H ->
  (J.stop i H/\N σ H)∨(J.go i H /\ ∃ N':St->Hp->Prop,(∀ σ' H',N' σ' H' -> ∃ m',m' < m/\W (i+1) m' σ' H') /\ ∀ x H',J.yld i H x H'->g x σ H' fun σ2 H2=>tb σ2 H2 N')
def PB (X:Cx) (F:Sem Fin->Sem Fin) (t:TC):Prop :=
 ∀ (pins:List (Addr×Obj)) (s:h6) (σ:St) (H:Hp) (N:St->Hp->Prop) (k:Sem Fin) (Q:Fin->h6->Prop) (E:e6->h6->Prop),Inv X pins σ H s->t σ H N ->
  (∀ s' σ' H',Inv X pins σ' H' s'->N σ' H'->DJ (model X.prog X.w) X.A k Q E s')->DJ (model X.prog X.w) X.A (F k) Q E s
section
variable {X:Cx}
theorem nox {α:Type} {m:Sem α} {Q : α -> h6->Prop} {E:e6->h6->Prop} {s:h6} (hx:∀ e s,X.xe e s->False) (h:DJ (model X.prog X.w) X.A m Q X.xe s):DJ (model X.prog X.w) X.A m Q E s :=
 FO h (fun _ _ q=>q) fun e s' q=>(hx e s' q).elim
noncomputable def im (ts:List TT) (tb:TC):TC:=match ts with
 | [] => tb
 | t::r=>fun σ H N=>t σ H fun b H1=>if b=true then im r tb σ H1 N else N σ H1
theorem io {env:Env} {M:LI} {A:Ea} {Q:Bool->h6->Prop} {E:e6->h6->Prop} {s:h6} (h:Q false s):∀ ifs:List Expr,
 DJ M A (forIn ifs false fun c r=>if r=true then do let ok <- isTrue c env (eval c env);pure (FW ok) else pure (FW r)) Q E s
 | [] => h7 h
 | c::r=>by
   rw [GC];simp only [Ec,if_false];exact b0 (h7 (io h r))
theorem kT (hx:∀ e s,X.xe e s->False) {tb:TC} {N:St->Hp->Prop}:∀ {ifs:List Expr} {ts:List TT},E1 (fun c t=>PT X c t) ifs ts ->
 ∀ (pins:List (Addr×Obj)) (s:h6) (σ:St) (H:Hp) (E:e6->h6->Prop),Inv X pins σ H s->im ts tb σ H N ->
 DJ (model X.prog X.w) X.A (b9 ifs X.env) (fun ok s' => ∃ H',Inv X pins σ H' s'/\if ok=true then tb σ H' N else N σ H') E s
 | _,_, .nil=>fun pins s σ H E I h=>h7 ⟨H,I,by rw [if_pos rfl];exact h⟩
 | c::ifs,_, .cons (b:=t) z hr=>by
   intro pins s σ H E I h;have ih:=kT hx hr (tb:=tb) (N:=N) pins;unfold b9 at ih ⊢;rw [GC];simp only [if_true];refine b0 (b0 (nox hx (thn (z pins s σ H _ I h) fun b s1 ⟨H1,q,j⟩=>h7 ?_)))
   cases b with
   | false =>
     rw [if_neg hB] at j;exact io ⟨H1,q,by rw [if_neg hB];exact j⟩ ifs
   | true =>
     rw [if_pos rfl] at j;exact ih s1 σ H1 E q j
theorem v9 (hx:∀ e s,X.xe e s->False) {F:Sem Fin->Sem Fin} {tb:TC} (z:PB X F tb) {ifs:List Expr} {ts:List TT} (B:E1 (fun c t=>PT X c t) ifs ts) :
 PB X (fun k=>b9 ifs X.env >>= fun ok=>if ok=true then F k else k) (im ts tb):=by
 intro pins s σ H N k Q E I h hk;refine b0 (thn (kT hx B pins s σ H E I h) fun ok s1 ⟨H1,q,j⟩ => ?_)
 cases ok with
 | false =>
   rw [if_neg hB] at j ⊢;exact hk s1 σ H1 q j
 | true =>
   rw [if_pos rfl] at j ⊢;exact z pins s1 σ H1 N k Q E q j hk
noncomputable def xo (p:Addr) (te:TE):TC:=fun σ H N=>te σ H fun x H1 => ∃ xs,H1 p=some (.lst xs)/\xs.length < p4/\N σ (upd H1 p (.lst (xs++[x])))
theorem jg (hx:∀ e s,X.xe e s->False) {elt:Expr} {gens:List Ef} {scope:Scope} {pos:Pos} {d:Nat} {p:Addr} {te:TE} (he:PE X elt te) (hd:gens[d+1]? = none) :
 PB X (aY elt gens scope pos d (.ref p) X.env) (xo p te):=by
 intro pins s σ H N k Q E I h j;unfold aY;rw [hd];refine b0 (b0 (nox hx (thn (he pins s σ H _ I h) fun u s1 ⟨x,H1,q,z,xs,B,l1,F⟩ => ?_)));refine b0 (nox hx (thn (jK (X:=X) pins s1 σ H1 (.ref p) [x] (.ref p) [u] (fun _ H2=>N σ H2) q rfl (.cons z .nil) ⟨p,xs,x,rfl,rfl,B,l1,F⟩) fun v s2 ⟨_,H2,G,_,J⟩ => ?_));exact h7 (j s2 σ H2 G J)
theorem jN (hx:∀ e s,X.xe e s->False) (Y:X.calm=true) {elt target iter:Expr} {ifs:List Expr} {gens:List Ef} {scope:Scope} {pos:Pos} {d:Nat} {acc:e6}
 (hd:gens[d]? = some ⟨target,iter,ifs,0⟩) (ha:∀ g',gens[d+1]? = some g'->g'.is_async=0) {g:TG} (hg:PG X target g) {tb:TC}
 (j:PB X (fun k=>b9 ifs X.env >>= fun ok=>if ok=true then aY elt gens scope pos d acc X.env k else k) tb)
 {pins:List (Addr×Obj)} {s:h6} {σ:St} {H:Hp} {N:St->Hp->Prop} {it:Addr} {fp:List Addr} {tn:Nat->Heap->Prop} {J:It} (I:Inv X pins σ H s) (T:eQ X.prog X.w X.K target J fp it tn)
 (t0:tn 0 s.heap) (f2:∀ b∈fp,bL X pins H b) (h:fQ J g tb N σ H) :
 Gk (model X.prog X.w) X.A (.compLoop (.ListComp elt gens scope pos) d (.ref it) acc X.env) (fun r s'=>match r with | .ok _ => ∃ σ' H',Inv X pins σ' H' s'/\N σ' H' | .error _=>False) s:=by
 obtain ⟨W,⟨m0,w0⟩,turn⟩:=h;have stat:∀ {H':Hp},(∀ b∈fp,H' b=none) -> ∀ b∈fp,bL X pins H' b:=fun hn b j=>⟨hn b j,(f2 b j).2⟩;refine codeAny_loop rfl (fun n s' => ∃ i σ' H',Inv X pins σ' H' s'/\tn i s'.heap/\(∀ b∈fp,H' b=none)/\W i n σ' H') ?_ m0 ⟨0, σ,H,I,t0,fun b j=>(f2 b j).1,w0⟩;rintro n s3 ⟨i, σ3,F,Z,z,B,w3⟩;show DJ _ _ ((compTurn (.ListComp elt gens scope pos) d (.ref it) acc X.env).onRaise (fun x=>do noteFrame x X.env;theTreesLotGoes x)) _ _ s3
 refine wpAny_noted ?_;rw [kS elt target iter ifs gens scope pos d (.ref it) acc X.env hd ha];refine b0 (G0 (b0 ?_));show DJ (model X.prog X.w) X.A _ _ _ s3
 rcases turn i n σ3 F w3 with ⟨stop,qn⟩ | ⟨go,N',hN,step⟩
 ·refine thn (T.done X rfl rfl rfl Y i pins s3 σ3 F _ Z (stat B) z stop) fun r s4 ⟨G,I4⟩ => ?_;subst G;exact h7 ⟨σ3,F,I4,qn⟩
 ·refine thn (T.item X rfl rfl rfl Y i pins s3 σ3 F _ Z (stat B) z go) fun r s4 ⟨u,G,h4⟩ => ?_;subst G;refine b0 (thn h4 fun _ s5 ⟨x,H5,I5,r5,y5,q,L⟩ => ?_);have O:=I5.pinned (stat L) (T.obj _ _ q);refine b0 (nox hx (thn (hg _ s5 σ3 H5 x u _ O r5 (step x H5 y5)) fun _ s6 ⟨σ6,H6,I6,q6⟩ => ?_));refine j _ s6 σ6 H6 N' (again (.compLoop (.ListComp elt gens scope pos) d (.ref it) acc X.env)) _ _ I6 q6 fun s7 σ7 H7 U n7 => ?_;obtain ⟨m',hm,w7⟩:=hN σ7 H7 n7;refine h7 ⟨rfl,m',hm,i+1, σ7,H7,U.unpinned,T.keep _ _ _ q fun b j o e=>(U.pin (b,o) (DU _ (DU _ (cP j e)))).1,fun b j => ?_,w7⟩;obtain ⟨o,e,dd⟩:=T.obj _ _ q b j;exact (U.pin (b,o) (DU _ (DU _ (cP j e)))).2.1
theorem ip {elt target iter:Expr} {ifs:List Expr} {gens:List Ef} {scope:Scope} {pos:Pos} {d:Nat} {it acc:e6} {env:Env} {prog:DQ} {w:E4} {A:Ea} {R:KZ->h6->Prop} {s:h6}
 (hd:gens[d]? = some ⟨target,iter,ifs,0⟩)
 (h0:Gk (model prog w) A (.compLoop (.ListComp elt gens scope pos) d it acc env) R s)
 (h:DJ (model prog w) A (Jg it) (fun it' s'=>Gk (model prog w) A (.compLoop (.ListComp elt gens scope pos) d it' acc env) R s')
   (notedBy (model prog w) A env fun x s'=>R (.error x) s') s) :
 Gk (model prog w) A (.compStart (.ListComp elt gens scope pos) d it acc env) R s:=by
 refine codeAny_of_tree ?_;show DJ _ _ ((compStart (.ListComp elt gens scope pos) d it acc env).onRaise (fun x=>do noteFrame x env;GP theWindowsPlace)) _ _ s
 refine wpAny_notedAt ?_;unfold compStart;have j:(clausesOf (.ListComp elt gens scope pos))[d]? = some ⟨target,iter,ifs,0⟩:=hd;rw [j];show DJ _ _ (ask >>= _) _ _ s;refine b0 (wpAny_askSetting (wpAny_ite ?_))
 split
 ·first
   | exact b0 (h7 (h7 (JG rfl h0)))
   | exact h7 (JG rfl h0)
 ·first
   | exact b0 (Fn (b0 (G0 (b0 (FO h (fun it' s' h'=>h7 (JG rfl h')) fun _ _ x=>x)))))
   | (refine b0 (Fn ?_);show DJ _ _ (GP iter.pos >>= _) _ _ s;exact b0 (G0 (b0 (FO h (fun it' s' h'=>h7 (JG rfl h')) fun _ _ x=>x))))
theorem jO (hx:∀ e s,X.xe e s->False) (z:X.calm=true) {elt target iter:Expr} {ifs:List Expr} {gens:List Ef} {scope:Scope} {pos:Pos} {d:Nat} {acc:e6}
 (hd:gens[d+1]? = some ⟨target,iter,ifs,0⟩) (B:∀ g',gens[d+1+1]? = some g'->g'.is_async=0) {wi:TI} (hi:PI X target iter wi) {g:TG} (F:PG X target g) {tb:TC}
 (G:PB X (fun k=>b9 ifs X.env >>= fun ok=>if ok=true then aY elt gens scope pos (d+1) acc X.env k else k) tb)
 (L:∀ x,Fd iter X.env x=pure x) :
 PB X (aY elt gens scope pos d acc X.env) (fun σ H N=>wi σ H fun J H1=>fQ J g tb N σ H1):=by
 intro pins s σ H N k Q E I h hk;unfold aY;rw [hd];refine b0 (nox hx (thn (hi pins s σ H _ I h) fun v s1 h1 => ?_));refine b0 (G0 (b0 (GN (L v) ?_)));refine b0 (Et (nox hx (thn h1 fun itv s2 h2 => ?_)));obtain ⟨it,fp,tn,J,H2,e,O,T,j,f2,hw⟩:=h2;subst e;have loop:=jN (acc:=acc) hx z hd B F G O T j f2 hw;refine b0 (wpAny_runOwn (Hx (ip (R:=fun r s'=>match r with | .ok _ => ∃ σ' H',Inv X pins σ' H' s'/\N σ' H' | .error _=>False) hd loop (T.self _ 0 _ _ _ j loop)) fun r s3 q => ?_))
 cases r with
 | error e=>exact q.elim
 | ok f =>
   obtain ⟨σ3,U,Y,Z⟩:=q;exact hk s3 σ3 U Y Z
noncomputable def aO (cells:List (Str×Addr)):List (Str×FJ)->List (Str×Addr)->List (Str×Addr)
 | [],acc=>acc
 | (n,k)::r,acc=>if k == .free then (match cells.lookup n with | some c=>aO cells r ((n,c)::acc) | none=>aO cells r acc) else aO cells r acc
theorem gw {env:Env}:∀ (names:List (Str×FJ)) (acc:List (Str×Addr)),(∀ x∈names,x.2 = .free->(env.cells.lookup x.1).isSome=true) ->
 (forIn names acc fun (x:Str×FJ) (r:List (Str×Addr))=>(match x with | (name,kind)=>if (kind==DX)=true then do let c <- cellOf env name;pure (FW ((name,c)::r)) else pure (FW r):Sem (ForInStep (List (Str×Addr)))))=(pure (aO env.cells names acc):Sem (List (Str×Addr)))
 | [],acc,_=>rfl
 | (n,k)::r,acc,h=>by
  rw [GC];have ih:=fun acc'=>gw r acc' fun x hx=>h x (DR _ hx);unfold aO
  by_cases hk:(k==DX)=true
  ·obtain ⟨c,q⟩:=Fz.mp (h (n,k) Eb (beq_iff_eq.mp hk));have j:env.cells.lookup n=some c:=q;have z:cellOf env n=pure c:=by unfold cellOf;rw [j]
   simp only [hk,if_true,z,j,pure_bind];exact ih _
  ·simp only [hk,if_false,pure_bind];exact ih _
theorem iq {scope:Scope} {env:Env} (h:∀ x∈scope.names,x.2 = .free->(env.cells.lookup x.1).isSome=true):closureFor scope env=pure (aO env.cells scope.names []):=by
 unfold closureFor;have e:=gw (env:=env) scope.names [] h;simp only [bind_pure];exact e
theorem cS {cells:List (Str×Addr)} {y:Str} {c:Addr}:∀ {names:List (Str×FJ)} {acc:List (Str×Addr)},(y,c)∈aO cells names acc->(y,c)∈acc∨(cells.lookup y=some c/\(y,DX)∈names)
 | [],acc,h => .inl h
 | (n,k)::r,acc,h=>by
  unfold aO at h
  by_cases hk:(k==DX)=true
  ·rw [if_pos hk] at h;have B:k = .free:=beq_iff_eq.mp hk;subst B
   cases F:cells.lookup n with
   | none =>
     rw [F] at h
     rcases cS h with z | ⟨j,q⟩
     ·exact .inl z
     ·exact .inr ⟨j,DR _ q⟩
   | some c' =>
     rw [F] at h
     rcases cS h with z | ⟨j,q⟩
     ·rcases r4.mp z with e | z
      ·cases e
       exact .inr ⟨F,Eb⟩
      ·exact .inl z
     ·exact .inr ⟨j,DR _ q⟩
  ·rw [if_neg hk] at h
   rcases cS h with z | ⟨j,q⟩
   ·exact .inl z
   ·exact .inr ⟨j,DR _ q⟩
theorem cT {cells:List (Str×Addr)} {y:Str} {c:Addr} (j:cells.lookup y=some c):∀ {names:List (Str×FJ)} {acc:List (Str×Addr)},((y,c)∈acc∨(y,DX)∈names)->(y,c)∈aO cells names acc
 | [],acc,h=>by
  rcases h with h | h
  ·exact h
  ·simp at h
 | (n,k)::r,acc,h=>by
  unfold aO
  by_cases hk:(k==DX)=true
  ·rw [if_pos hk];have q:k = .free:=beq_iff_eq.mp hk;subst q
   cases hl:cells.lookup n with
   | none =>
     refine cT j ?_
     rcases h with h | h
     ·exact .inl h
     ·rcases r4.mp h with e | h
      ·cases e;rw [hl] at j;cases j
      ·exact .inr h
   | some c' =>
     refine cT j ?_
     rcases h with h | h
     ·exact .inl (DR _ h)
     ·rcases r4.mp h with e | h
      ·cases e;rw [hl] at j;cases j;exact .inl Eb
      ·exact .inr h
  ·rw [if_neg hk];refine cT j ?_
   rcases h with h | h
   ·exact .inl h
   ·rcases r4.mp h with e | h
    ·cases e;exact absurd rfl hk
    ·exact .inr h
theorem cM:∀ (names:List (Str×FJ)) (n:Nat) (acc acc':List (Str×Addr)),Fe n names (acc++acc')=Fe n names acc++acc'
 | [],_,_,_=>rfl
 | (x,k)::r,n,acc,acc'=>by
  unfold Fe
  by_cases j:(k==F9)=true
  ·rw [if_pos j,if_pos j];exact cM r (n+1) ((x,n)::acc) acc'
  ·rw [if_neg j,if_neg j];exact cM r n acc acc'
theorem cN:∀ {names:List (Str×FJ)} {n:Nat} {acc:List (Str×Addr)} {y:Str} {c:Addr},(y,c)∈Fe n names acc->(y,c)∈acc∨(n<=c/\(y,F9)∈names)
 | [],_,_,_,_,h => .inl h
 | (x,k)::r,n,acc,y,c,h=>by
  unfold Fe at h
  by_cases hk:(k==F9)=true
  ·rw [if_pos hk] at h;have j:k = .cell:=beq_iff_eq.mp hk;subst j
   rcases cN h with z | ⟨q,B⟩
   ·rcases r4.mp z with e | z
    ·cases e;exact .inr ⟨hQ _,Eb⟩
    ·exact .inl z
   ·exact .inr ⟨Nat.le_of_succ_le q,DR _ B⟩
  ·rw [if_neg hk] at h
   rcases cN h with z | ⟨q,B⟩
   ·exact .inl z
   ·exact .inr ⟨q,DR _ B⟩
structure aZ (sc osc:Scope) (oN N':List Str) (fr:List (Option Nat)):Prop where
 kind:sc.kind = .function
 nd:(sc.names.map (·.1)).Nodup
 ndN:N'.Nodup
 free:∀ x∈sc.names,x.2 = .free->osc.names.lookup x.1=some .cell∨osc.names.lookup x.1=some .free
 len:fr.length=N'.length
 fr:∀ (i j:Nat) (x:Str),N'[i]? = some x->fr[i]? = some (some j)->oN[j]? = some x/\(x,DX)∈sc.names
noncomputable def inh (fr:List (Option Nat)) (σ:St):St:=fr.map fun o=>o.bind fun j=>(σ[j]?).join
noncomputable def b4 (X:Cx) (sc:Scope) (L:Addr):Env :=
 { scope:=relabel sc X.env,locals:=L,globals:=X.env.globals,cells:=Fe (L+1) sc.names (aO X.env.cells sc.names []),qual:=X.env.qual,func:=none,code:=X.env.code,frame:=X.env.frame,builtins:=X.env.builtins }
noncomputable def aD (X:Cx) (sc:Scope) (N':List Str) (s:h6) (H:Hp) (fp:List Addr):Cx :=
 { X with N:=N',s₀ := s,H₀ := H,env:=b4 X sc s.heap.objs.size,outer:=X.stack,stack:=X.stack,ex:=fp,fn:=fun x=>sc.names.lookup x==some .cell,pn := [],xe:=fun _ _=>False }
theorem aN:∀ {l:List (Str×FJ)} {x:Str} {k:FJ},(l.map (·.1)).Nodup->(x,k)∈l->l.lookup x=some k
 | (y,k')::r,x,k,nd,h=>by
  have nd':(y::r.map (·.1)).Nodup:=nd;obtain ⟨q,z⟩:=EX.mp nd';rw [Fm]
  rcases r4.mp h with e | hm
  ·cases e;simp
  ·have j:(x==y)=false:=by
    refine beq_eq_false_iff_ne.mpr fun e => ?_;subst e;exact q (ET.mpr ⟨(x,k),hm,rfl⟩)
   rw [j];exact aN z hm
theorem ca {env:Env}:∀ {names:List (Str×FJ)} {x:Str},
 (names.map fun (n,k)=>if (k==DX&&env.scope.kind == .function&&env.kindOf n==some .cell) then (n,F9) else (n,k)).lookup x =
   (names.lookup x).map fun k=>if (k==DX&&env.scope.kind == .function&&env.kindOf x==some .cell) then F9 else k
 | [],_=>rfl
 | (n,k)::r,x=>by
  have ih:=ca (env:=env) (names:=r) (x:=x);show List.lookup x ((if (k==DX&&env.scope.kind == .function&&env.kindOf n==some .cell)=true then (n,F9) else (n,k))::_)=_
  rw [Fm (a:=x) (b:=k)]
  by_cases hx:x=n
  ·subst hx;simp only [beq_self_eq_true];show _=some (if (k==DX&&env.scope.kind == .function&&env.kindOf x==some .cell)=true then F9 else k)
   by_cases j:(k==DX&&env.scope.kind == .function&&env.kindOf x==some .cell)=true
   ·rw [if_pos j,if_pos j,Fm];simp only [beq_self_eq_true]
   ·rw [if_neg j,if_neg j,Fm];simp only [beq_self_eq_true]
  ·have q:(x==n)=false:=beq_eq_false_iff_ne.mpr hx;rw [q]
   by_cases j:(k==DX&&env.scope.kind == .function&&env.kindOf n==some .cell)=true
   ·rw [if_pos j,Fm,q];exact ih
   ·rw [if_neg j,Fm,q];exact ih
section
variable {pins:List (Addr×Obj)} {σ:St} {H:Hp} {s:h6} {sc:Scope} {N':List Str} {fr:List (Option Nat)} {fp:List Addr}
theorem eV (I:Inv X pins σ H s) (B:aZ sc X.env.scope X.N N' fr):∀ x∈sc.names,x.2 = .free->(X.env.cells.lookup x.1).isSome=true:=fun x hx e=>by
 obtain ⟨c,j⟩:=I.ok.has x.1 (B.free x hx e);rw [j];rfl
theorem si (I:Inv X pins σ H s) (f2:∀ b∈fp,bL X pins H b) (Z:∀ b∈fp,b < s.heap.objs.size) (B:aZ sc X.env.scope X.N N' fr) :
 Inv (aD X sc N' s H fp) [] (inh fr σ) H { s with heap:=L7 (s.heap.push { cls := .type "dict",data := .dict #[] }) sc.names }:=by
 have G:∀ b o,s.heap.get? b=some o->(L7 (s.heap.push { cls := .type "dict",data := .dict #[] }) sc.names).get? b=some o:=fun b o e=>J3 _ _ b o (gV _ e);have ok:=cellsFrom_ok sc.names (s.heap.push { cls := .type "dict",data := .dict #[] }) (s.heap.objs.size+1) [] ⟨fun _ _ hm=>(nomatch hm),Ky⟩ (by rw [ED];exact hQ _)
 rw [ED] at ok;have capp:Fe (s.heap.objs.size+1) sc.names (aO X.env.cells sc.names [])=Fe (s.heap.objs.size+1) sc.names []++aO X.env.cells sc.names []:=cM sc.names _ [] _;have cof:∀ x c,(b4 X sc s.heap.objs.size).cells.lookup x=some c->((x,c)∈Fe (s.heap.objs.size+1) sc.names []/\s.heap.objs.size < c)∨(X.env.cells.lookup x=some c/\(x,DX)∈sc.names):=fun x c e=>by
  have m:=EJ e;have m':(x,c)∈Fe (s.heap.objs.size+1) sc.names (aO X.env.cells sc.names []):=m;rw [capp] at m'
  rcases DW.mp m' with z | z
  ·exact .inl ⟨z,(ok.empty x c z).2⟩
  ·rcases cS z with q | q
   ·simp at q
   ·exact .inr q
 have cOld:∀ x c,X.env.cells.lookup x=some c->c < s.heap.objs.size:=fun x c e=>by
  obtain ⟨v,q⟩:=I.cell x c e;exact q.lt
 have kindF:∀ x,(x,DX)∈sc.names->(b4 X sc s.heap.objs.size).kindOf x=some .cell∨(b4 X sc s.heap.objs.size).kindOf x=some .free:=fun x hx=>by
  have e1:sc.names.lookup x=some .free:=aN B.nd hx;have O:(b4 X sc s.heap.objs.size).kindOf x=_:=ca (env:=X.env) (names:=sc.names) (x:=x);rw [e1] at O;rw [O]
  by_cases J:(DX==DX&&X.env.scope.kind == .function&&X.env.kindOf x==some .cell)=true
  ·exact .inl (by simp only [GD,if_pos J])
  ·exact .inr (by simp only [GD,if_neg J])
 have cellF:∀ x c,(x,DX)∈sc.names->X.env.cells.lookup x=some c->(b4 X sc s.heap.objs.size).cells.lookup x=some c:=fun x c hx J=>by
  have m:=cT (acc := []) J (.inr hx);have m2:(x,c)∈(b4 X sc s.heap.objs.size).cells:=by
   show (x,c)∈Fe (s.heap.objs.size+1) sc.names (aO X.env.cells sc.names []);rw [capp];exact DU _ m
  cases F:(b4 X sc s.heap.objs.size).cells.lookup x with
  | none =>
    exfalso
    have:∀ {l:List (Str×Addr)},(x,c)∈l->l.lookup x=none->False:=by
     intro l
     induction l with
     | nil=>intro h;simp at h
     | cons a r ih =>
       intro h e;obtain ⟨y,d⟩:=a;rw [Fm] at e
       rcases r4.mp h with z | z
       ·cases z;simp at e
       ·by_cases hxy:(x==y)=true
        ·rw [hxy] at e;cases e
        ·simp only [Hf] at hxy;rw [hxy] at e;exact ih z e
    exact this m2 F
  | some c' =>
    rcases cof x c' F with ⟨z,_⟩ | ⟨z,_⟩
    ·rcases cN z with q | ⟨_,q⟩
     ·simp at q
     ·have a1:=aN B.nd hx;have a2:=aN B.nd q;rw [a1] at a2;cases a2
    ·rw [J] at z;rw [z]
 have kindC:∀ x,(b4 X sc s.heap.objs.size).kindOf x=some .cell->(x,F9)∈sc.names∨(x,DX)∈sc.names:=fun x e=>by
  have O:(b4 X sc s.heap.objs.size).kindOf x=_:=ca (env:=X.env) (names:=sc.names) (x:=x);rw [O] at e
  cases F:sc.names.lookup x with
  | none=>rw [F] at e;cases e
  | some k =>
    rw [F] at e;have m:=EJ F
    cases k with
    | cell=>exact .inl m
    | free=>exact .inr m
    | «local» => simp at e
    | globalImplicit=>simp at e
    | globalExplicit=>simp at e
 have kindFr:∀ x,(b4 X sc s.heap.objs.size).kindOf x=some .free->(x,DX)∈sc.names:=fun x e=>by
  have O:(b4 X sc s.heap.objs.size).kindOf x=_:=ca (env:=X.env) (names:=sc.names) (x:=x);rw [O] at e
  cases F:sc.names.lookup x with
  | none=>rw [F] at e;cases e
  | some k =>
    rw [F] at e;have m:=EJ F
    cases k with
    | free=>exact m
    | cell=>simp at e
    | «local» => simp at e
    | globalImplicit=>simp at e
    | globalExplicit=>simp at e
 refine ⟨⟨I.ok.mod,B.kind,I.ok.glob,I.ok.blt,hQ _,fun y z c h1 h2 => ?_,fun y hy => ?_,fun y c hf h => ?_,I.ok.hd,I.ok.frames, .inl rfl,fun b U=>⟨?_,fun x c e => ?_⟩,fun b o e=>I.bs b o e, ?_,fun b o e U => ?_,fun b U => ?_,I.stack,I.stkFree⟩,
  rfl,I.bare,Un.kept G,⟨_,(Heap.Ns.new s.heap (.type "dict")).keeps (J3 _ _),fun i x v h1 h2 h3 => ?_⟩,fun y c h => ?_,I.hok.fresh (hQ _),fun y c h => ?_,fun p hp=>absurd (show p∈([]:List (Addr×Obj)) from hp) (by simp),I.hok.kept G, ?_⟩
 ·rcases cof y c h1 with ⟨a1,a2⟩ | ⟨a1,a2⟩
  ·rcases cof z c h2 with ⟨b1,b2⟩ | ⟨b1,b2⟩
   ·exact name_of_addr ok.apart a1 b1
   ·exact absurd (cOld z c b1) (LQ.mpr (Gj a2))
  ·rcases cof z c h2 with ⟨b1,b2⟩ | ⟨b1,b2⟩
   ·exact absurd (cOld y c a1) (LQ.mpr (Gj b2))
   ·exact I.ok.inj y z c a1 b1
 ·have D0:(y,F9)∈sc.names∨(y,DX)∈sc.names:=by
   rcases hy with hy | hy
   ·exact kindC y hy
   ·exact .inr (kindFr y hy)
  rcases D0 with q | q
  ·exact Fz.mp (GS sc.names _ _ (.inl (aN B.nd q)))
  ·obtain ⟨c,J⟩:=Fz.mp (eV I B _ q rfl);exact ⟨c,cellF y c q J⟩
 ·have D1:(sc.names.lookup y==some .cell)=true:=hf;have CY:sc.names.lookup y=some .cell:=by simpa using D1
  rcases cof y c h with ⟨_,a2⟩ | ⟨_,a2⟩
  ·exact Gj a2
  ·rw [aN B.nd a2] at CY;cases CY
 ·exact E3 (Z b U)
 ·rcases cof x c e with ⟨_,a2⟩ | ⟨a1,_⟩
  ·exact FP (Nat.lt_trans (Z b U) a2)
  ·exact (f2 b U).2.2.2.2.1 x c a1
 ·exact Ej I.ok.bsz I.sz
 ·obtain ⟨f0,f1,f3,f4,f5,f6⟩:=f2 b U
  rcases f4 with z | z
  ·exact I.ok.noex b o e z
  ·exact absurd (DV (DV (v5 e) I.ok.bsz) z) (EE _)
 ·obtain ⟨f0,f1,f3,f4,f5,f6⟩:=f2 b U;exact fun z=>(r4.mp (I.stkSub b z)).elim f1 f3
 ·have hi:∃ j,fr[i]? = some (some j) /\ σ[j]? = some (some v):=by
   unfold inh at h2;rw [DL] at h2
   cases e:fr[i]? with
   | none=>rw [e] at h2;cases h2
   | some o =>
     rw [e] at h2
     cases o with
     | none=>cases h2
     | some j =>
       refine ⟨j,rfl, ?_⟩;have L:some ((σ[j]?).join)=some (some v):=h2
       cases e' : σ[j]? with
       | none=>rw [e'] at L;cases L
       | some w=>rw [e'] at L;cases L;rfl
  obtain ⟨j,e1,O⟩:=hi;obtain ⟨n1,n2⟩:=B.fr i j x h1 e1;obtain ⟨m,hn,F⟩:=I.loc;have hv:Vis X.env.scope x := .inr (B.free (x, .free) n2 rfl);obtain ⟨u,ru,lk⟩:=F j x v n1 O hv;refine ⟨u,ru, .inr ⟨kindF x n2, ?_⟩⟩
  rcases lk with ⟨k1,_⟩ | ⟨_,c,J,Y⟩
  ·have CZ:X.env.scope.names.lookup x=some .local:=k1
   rcases B.free (x, .free) n2 rfl with z | z
   ·rw [CZ] at z;cases z
   ·rw [CZ] at z;cases z
  ·exact ⟨c,cellF x c n2 J,Y.keeps G⟩
 ·rcases cof y c h with ⟨a1,a2⟩ | ⟨a1,a2⟩
  ·exact ⟨_,(ok.empty y c a1).1⟩
  ·obtain ⟨v,q⟩:=I.cell y c a1;exact ⟨v,q.keeps G⟩
 ·rcases cof y c h with ⟨a1,a2⟩ | ⟨a1,a2⟩
  ·exact I.hok.fresh (Gj a2)
  ·exact I.freeC y c a1
 ·show (inh fr σ).length=N'.length;unfold inh;rw [hG];exact B.len
theorem jP {σ':St} {H':Hp} {s':h6} {h':Heap} (I:Inv X pins σ H s) (f2:∀ b∈fp,bL X pins H b) (J:Inv (aD X sc N' s H fp) [] σ' H' s') (B:EG s.heap.objs.size s'.heap h') :
 Inv X pins σ H' { s' with heap:=h' }:=by
 have u:Un (frs X.stack) fp H H' s.heap s'.heap:=J.base;have ne:∀ b o,s.heap.get? b=some o->b≠s.heap.objs.size:=fun b o e=>E3 (v5 e);refine I.call' (s' := { s' with heap:=h' }) (ch:=fp) J.os ⟨fun b o e n j hx => ?_,fun b o e n j hx => ?_,u.free,fun b o e hx => ?_,u.tups,u.frzs,u.tbls⟩ (fun b v e => ?_) J.bare fun b j => ?_
 ·exact (B.2 b (ne b o e)).trans (u.keep b o e n j hx)
 ·obtain ⟨sl,q⟩:=u.slot b o e n j hx;exact ⟨sl,(B.2 b (ne b o e)).trans q⟩
 ·obtain ⟨o',q⟩:=u.there b o e hx;exact ⟨o',(B.2 b (ne b o e)).trans q⟩
 ·refine (J.hok b v e).stay (fun c w G q=>(B.2 c ?_).trans q) (fun _ q=>q) fun _ _ q=>q;have fr:H' s.heap.objs.size=none:=J.free
  rcases G with z | z
  ·rw [z];intro F;rw [F,fr] at e;cases e
  ·intro F;rw [F,fr] at z;cases z
 ·obtain ⟨f0,f1,U,f4,L,O⟩:=f2 b j;exact ⟨f4,f1,L,O⟩
theorem kn {Q:Env->h6->Prop} {E:e6->h6->Prop} {M:LI} {A:Ea}
 (h:Q { scope:=sc,locals:=s.heap.objs.size,globals:=X.env.globals,cells:=Fe (s.heap.objs.size+1) sc.names (aO X.env.cells sc.names []),qual:=X.env.qual,func:=none,code:=X.env.code,frame:=X.env.frame,builtins:=X.env.builtins }
   { s with heap:=L7 (s.heap.push { cls := .type "dict",data := .dict #[] }) sc.names }) :
 DJ M A (Jm sc X.env.globals (aO X.env.cells sc.names []) [] X.env.qual none .none (some X.env)) Q E s:=by
 simp only [Jm,Kc,if_true];refine b0 (wpAny_alloc ?_);refine b0 (wpAny_layCells _ (fun name kind cells=>by cases hkc:kind==F9 <;> simp [hkc]) _ _ _ _ ?_)
 rw [show ({ s with heap:=s.heap.push { cls := .type "dict",data := .dict #[] } }:h6).heap.objs.size=s.heap.objs.size+1 from ED ..]
 exact b0 (h7 (h7 h))
theorem kU (hc:X.calm=true) {elt target iter:Expr} {ifs:List Expr} {rest:List Ef} {pos:Pos} {E:e6->h6->Prop}
 (hx:∀ e s,X.xe e s->False) (B:aZ sc X.env.scope X.N N' fr) (ha:∀ g',rest[0]? = some g'->g'.is_async=0) {wi:TI} (hi:PI X target iter wi) {g:TG} {tb:Addr->TC}
 (hg:∀ s H fp,PG (aD X sc N' s H fp) target g)
 (j:∀ s H fp p,PB (aD X sc N' s H fp) (fun k=>b9 ifs (aD X sc N' s H fp).env >>= fun ok=>if ok=true then aY elt (⟨target,iter,ifs,0⟩::rest) sc pos 0 (.ref p) (aD X sc N' s H fp).env k else k) (tb p))
 {Nn:Addr->St->Hp->Prop} {RR:e6->Addr->KZ->h6->Prop} (I:Inv X pins σ H s)
 (h:wi σ H fun J H1 => ∀ p,H1 p=none->fQ J g (tb p) (Nn p) (inh fr σ) (upd H1 p (.lst [])))
 (hR:∀ p fp s3 L s' σ' H' f,Inv X pins σ L s3->(∀ b∈fp,bL X pins L b)->Inv (aD X sc N' s3 L fp) [] σ' H' s'->Nn p σ' H'->RR (.ref p) s3.heap.objs.size (.ok f) s') :
 DJ (model X.prog X.w) X.A (eval iter X.env) (fun x s₁ => DJ (model X.prog X.w) X.A (Jg x) (fun it s₂ => DJ (model X.prog X.w) X.A (newList []) (fun acc s₃ =>
  DJ (model X.prog X.w) X.A (Jm sc X.env.globals (aO X.env.cells sc.names []) [] X.env.qual none .none (some X.env)) (fun cenv s₄ =>
   Gk (model X.prog X.w) X.A (.compStart (.ListComp elt (⟨target,iter,ifs,0⟩::rest) sc pos) 0 it acc { cenv with scope:=relabel sc X.env }) (RR acc cenv.locals) s₄) E s₃) E s₂) E s₁) E s:=by
 refine nox hx (thn (hi pins s σ H _ I h) fun v s1 h1=>nox hx (thn h1 fun itv s2 h2 => ?_));obtain ⟨it,fp,tn,J,H2,e,Z,T,q,f2,hw⟩:=h2;subst e;have hf:H2 s2.heap.objs.size=none:=Z.hok.fresh (hQ _);refine wpAny_newList ?_;have I3:Inv X pins σ (upd H2 s2.heap.objs.size (.lst [])) { s2 with heap:=s2.heap.push { cls := .type "list",dict:=none,data := .seq ([]:List e6).toArray } } :=
  Z.laid (t':=s2.toks) (fun b u e=>gV _ e) (hQ _) ⟨EN _,[],0, .nil,hH _ rfl⟩
 have fneq:∀ b∈fp,b≠s2.heap.objs.size:=fun b j z=>by
  obtain ⟨o,e,_⟩:=T.obj _ _ q b j;exact absurd (v5 e) (by rw [z];exact EE _)
 have O:∀ b∈fp,bL X pins (upd H2 s2.heap.objs.size (.lst [])) b:=fun b j=>⟨by rw [ah (fneq b j)];exact (f2 b j).1,(f2 b j).2⟩
 have U:∀ b∈fp,b < (s2.heap.push { cls := .type "list",dict:=none,data := .seq ([]:List e6).toArray }).objs.size:=fun b j=>by
  obtain ⟨o,e,_⟩:=T.obj _ _ q b j;rw [ED];exact KA (v5 e)
 have Y:tn 0 (s2.heap.push { cls := .type "list",dict:=none,data := .seq ([]:List e6).toArray }):=T.keep _ _ _ q fun b _ o e=>gV _ e;refine kn ?_;have G:=si (N':=N') I3 O U B;have F:=T.keep _ (h':=L7 (({ s2 with heap:=s2.heap.push { cls := .type "list",dict:=none,data := .seq ([]:List e6).toArray } }:h6).heap.push { cls := .type "dict",data := .dict #[] }) sc.names) _ Y fun b _ o e=>J3 _ _ b o (gV _ e)
 have f4:∀ b∈fp,bL (aD X sc N' { s2 with heap:=s2.heap.push { cls := .type "list",dict:=none,data := .seq ([]:List e6).toArray } } (upd H2 s2.heap.objs.size (.lst [])) fp) [] (upd H2 s2.heap.objs.size (.lst [])) b:=fun b j =>
  ⟨(O b j).1,(G.ok.exf b j).1,G.ok.exfs b j, .inl j,(G.ok.exf b j).2,fun p hp=>absurd (show p∈([]:List (Addr×Obj)) from hp) (by simp)⟩
 have loop:=jN (X:=aD X sc N' { s2 with heap:=s2.heap.push { cls := .type "list",dict:=none,data := .seq ([]:List e6).toArray } } (upd H2 s2.heap.objs.size (.lst [])) fp) (fun _ _ z=>z) hc
  (elt:=elt) (pos:=pos) (scope:=sc) (gens:=⟨target,iter,ifs,0⟩::rest) (d := 0) (acc := .ref s2.heap.objs.size) rfl (fun g' e=>ha g' (by simpa using e)) (hg _ _ _) (j _ _ _ _) G T F f4 (hw _ hf)
 refine Hx (ip (R:=fun r s'=>match r with | .ok _ => ∃ σ' H',Inv (aD X sc N' { s2 with heap:=s2.heap.push { cls := .type "list",dict:=none,data := .seq ([]:List e6).toArray } } (upd H2 s2.heap.objs.size (.lst [])) fp) [] σ' H' s'/\Nn s2.heap.objs.size σ' H' | .error _=>False)
  (gens:=⟨target,iter,ifs,0⟩::rest) (d := 0) rfl loop (T.self _ 0 _ _ _ F loop)) fun r s5 hr => ?_
 cases r with
 | error e=>exact hr.elim
 | ok f =>
   obtain ⟨σ5,H5,I5,n5⟩:=hr;exact hR _ fp _ _ s5 σ5 H5 f I3 O I5 n5
noncomputable def qf (wi:TI) (g:TG) (tb:Addr->TC) (fr:List (Option Nat)):TE:=fun σ H Q=>wi σ H fun J H1 => ∀ p,H1 p=none->fQ J g (tb p) (fun _ H2=>Q (.ref p) H2) (inh fr σ) (upd H1 p (.lst []))
theorem jQ (B:aZ sc X.env.scope X.N N' fr):∀ x∈sc.names,x.2 = .local->sc.names.lookup x.1=some .local:=fun x hx e=>by
 obtain ⟨n,k⟩:=x;have e':k = .local:=e;subst e';exact aN B.nd hx
theorem gx (z:X.calm=true) {elt target iter:Expr} {ifs:List Expr} {rest:List Ef} {pos:Pos}
 (hx:∀ e s,X.xe e s->False) (B:aZ sc X.env.scope X.N N' fr) (F:∀ g',rest[0]? = some g'->g'.is_async=0) {wi:TI} (hi:PI X target iter wi) {g:TG} {tb:Addr->TC}
 (G:∀ s H fp,PG (aD X sc N' s H fp) target g)
 (L:∀ s H fp p,PB (aD X sc N' s H fp) (fun k=>b9 ifs (aD X sc N' s H fp).env >>= fun ok=>if ok=true then aY elt (⟨target,iter,ifs,0⟩::rest) sc pos 0 (.ref p) (aD X sc N' s H fp).env k else k) (tb p))
 (O:∀ x,Fd iter X.env x=pure x) :
 PE X (.ListComp elt (⟨target,iter,ifs,0⟩::rest) sc pos) (qf wi g tb fr):=by
 intro pins s σ H Q I h;rw [eval_ListComp];refine Ig (use:=none) rfl O (iq (eV I B)) B.kind (jQ B) (kU (Nn:=fun p _ H2=>Q (.ref p) H2) (RR:=fun acc C=>compPost (model X.prog X.w) X.A X.xe none (EP X pins σ Q) acc C) z hx B F hi G L I h ?_);intro p fp s3 H3 s' σ' H' f U Y J q;obtain ⟨m,Z,_⟩:=J.loc;exact ⟨m,Z,fun h' j=>⟨.ref p,H',jP U Y J j,rfl,q⟩⟩
theorem iu (hc:X.calm=true) {elt target iter:Expr} {ifs:List Expr} {rest:List Ef} {pos pos' spos:Pos} {x:Str} {i:Nat}
 (hx:∀ e s,X.xe e s->False) (B:aZ sc X.env.scope X.N N' fr) (ha:∀ g',rest[0]? = some g'->g'.is_async=0) {wi:TI} (hi:PI X target iter wi) {g:TG} {tb:Addr->TC}
 (hg:∀ s H fp,PG (aD X sc N' s H fp) target g)
 (F:∀ s H fp p,PB (aD X sc N' s H fp) (fun k=>b9 ifs (aD X sc N' s H fp).env >>= fun ok=>if ok=true then aY elt (⟨target,iter,ifs,0⟩::rest) sc pos 0 (.ref p) (aD X sc N' s H fp).env k else k) (tb p))
 (hs:∀ x,Fd iter X.env x=pure x) (G:PG X (.Name x pos') (i6 i))
 (L:GJ (.ListComp elt (⟨target,iter,ifs,0⟩::rest) sc pos) (some (.Name x pos')) spos.line X.env=pure true) :
 PS X (.Assign [.Name x pos'] (.ListComp elt (⟨target,iter,ifs,0⟩::rest) sc pos) spos) (pT (qf wi g tb fr) (i6 i)):=by
 intro pins s σ H D I h;rw [exec_Assign_Name_used _ _ _ _ L];refine b0 (G0 (b0 ?_));show DJ _ X.A (do let _ <- comprehension (.ListComp elt (⟨target,iter,ifs,0⟩::rest) sc pos) sc X.env _ (newList []) false (eval iter X.env) (some (assign (.Name x pos') X.env))) _ _ s
 refine b0 (FO (Ig (use:=some (assign (.Name x pos') X.env)) (Q:=fun _ s'=>SP X pins D .next s') rfl hs (iq (eV I B)) B.kind (jQ B)
  (kU (Nn:=fun p _ H2=>D.nx (σ.set i (some (.ref p))) H2) (RR:=fun acc C=>compPost (model X.prog X.w) X.A X.xe (some (assign (.Name x pos') X.env)) (fun _ s'=>SP X pins D .next s') acc C) hc hx B ha hi hg F I h ?_)) (fun _ s' hq=>h7 (h7 hq)) fun _ _ e=>e)
 intro p fp s3 H3 s' σ' H' f j f3 J q;obtain ⟨m,⟨o,es,ep,ho,hd,hk,hm⟩,_⟩:=J.loc;have I4:Inv X pins σ H' s':=jP (h':=s'.heap) j f3 J ⟨rfl,fun _ _=>rfl⟩;have hL:(aD X sc N' s3 H3 fp).env.locals=s3.heap.objs.size:=rfl;rw [hL] at ho;have O:H' s3.heap.objs.size=none:=J.free;have neL:s3.heap.objs.size≠X.env.locals:=FP j.lt;have nfs:s3.heap.objs.size∉X.fs:=j.nofs (hQ _);have I5:Inv X (pins++[(s3.heap.objs.size,o)]) σ H' s':=I4.pins_of fun pr U=>by
  rcases DW.mp U with z | z
  ·exact I4.pin pr (DU _ z)
  ·have e:pr=(s3.heap.objs.size,o):=by simpa using z
   subst e;exact ⟨ho,O,neL,nfs,fun v z=>by rw [hd] at z;cases z⟩
 show DJ _ X.A (assign (.Name x pos') X.env (.ref p)) _ _ _;refine thn (G _ s' σ H' (.ref p) (.ref p) D.nx I5 rfl q) fun _ s6 ⟨σ6,H6,I6,q6⟩ => ?_;obtain ⟨Y,Z,_⟩:=I6.pin (s3.heap.objs.size,o) (DU _ (DU _ (by simp)))
 refine ⟨m,⟨o,es,ep,Y,hd,hk,hm⟩,fun h' CY=>⟨σ6,H6, ?_,q6⟩⟩;refine (I6.unpinned).turned (t':=s6.toks) (it:=s3.heap.objs.size) (fun b o F e=>(CY.2 b F).trans e) Z neL (.inr j.sz) (fun y c e z => ?_) fun pr U z => ?_
 ·obtain ⟨v,q⟩:=j.cell y c e;exact absurd q.lt (by rw [z];exact EE _)
 ·exact absurd (v5 (j.pin pr U).1) (by rw [z];exact EE _)
end
end
end
end L2
namespace L2
namespace Zp
open PySem PySem.Spec PyProof.Rows
def At (t:Bool) (h:Heap) (i l:Addr) (k:Nat):Prop:=match t with | true=>h.IsTupleIter i l k | false=>h.IsListIter i l k
def Sq (t:Bool) (h:Heap) (l:Addr) (xs:Array e6):Prop:=match t with | true=>h.IsTuple l xs | false=>h.IsList l xs
theorem At.up {t:Bool} {h h':Heap} {i l:Addr} {k:Nat} (x:At t h i l k) (e:∀ o,h.get? i=some o->h'.get? i=some o):At t h' i l k:=by
 cases t <;> (obtain ⟨o,ho,r⟩:=x;exact ⟨o,e o ho,r⟩)
theorem Sq.up {t:Bool} {h h':Heap} {l:Addr} {xs:Array e6} (x:Sq t h l xs) (e:∀ o,h.get? l=some o->h'.get? l=some o):Sq t h' l xs:=by
 cases t <;> (obtain ⟨o,ho,r⟩:=x;exact ⟨o,e o ho,r⟩)
theorem At.lt {t:Bool} {h:Heap} {i l:Addr} {k:Nat} (x:At t h i l k):∃ o,h.get? i=some o /\ ∀ v,o.data ≠ .cell v:=by
 cases t <;> (obtain ⟨o,ho,j,hd⟩:=x;exact ⟨o,ho,fun v z=>by rw [hd] at z;cases z⟩)
section
variable {prog:DQ} {w:E4} {A:Ea} {E:e6->h6->Prop} {s:h6}
open Builtin.SmallTypes in
theorem va {i l:Addr} {k:Nat} {xs:Array e6} {x:e6} {Q:e6->h6->Prop} (hi:s.heap.IsTupleIter i l k) (L:s.heap.IsTuple l xs) (hx:xs[k]? = some x)
 (q:∀ h',h'.IsTupleIter i l (k+1)->EG i s.heap h'->Q x { s with heap:=h' }):DJ (model prog w) A (nextOf (.ref i)) Q E s:=by
 obtain ⟨ob,z,B,j⟩:=id hi;obtain ⟨oq,G,_,nq,J⟩:=L;unfold nextOf;refine b0 (E6 (name:=Ek "__next__") hi.typeIs Fp (Eh Fp hi.typeIs Hz ?_ (Hq _)));refine b0 (m:=field (.ref i) 0) (Ee z j (x := .ref l) rfl ?_);refine (if_neg (c:=(E8 l==Ga)=true) hB) ▸ ?_;refine b0 (m:=field (.ref i) 1) (Ee z j (x := .int k 0) rfl ?_);refine b0 (m:=Ir (.ref l)) (Ei G J ?_);simp only [E5,hx];refine b0 (wpAny_setField z j (by simp) (h7 ⟨x,rfl,h7 (q _ ⟨_,G6 _ z (Obj.isFreed_of_fields (Kf j _)),(Obj.cls_mapFields ..).trans B, ?_⟩ (JK ..))⟩))
 rw [Kf j];simp [Ic]
open Builtin.SmallTypes in
theorem y4 {i l:Addr} {k:Nat} {xs:Array e6} {Q:e6->h6->Prop} (J:A.handled=none) (hi:s.heap.IsTupleIter i l k) (L:s.heap.IsTuple l xs) (hx:xs[k]? = none)
 (q:∀ h' e,Ls i s.heap h'->(∃ o,h'.get? e=some o/\o.cls = .type "StopIteration")->E (.ref e) { s with heap:=h' }):DJ (model prog w) A (nextOf (.ref i)) Q E s:=by
 obtain ⟨ob,j,O,z⟩:=id hi;obtain ⟨oq,B,_,nq,G⟩:=L;unfold nextOf;refine b0 (E6 (name:=Ek "__next__") hi.typeIs Fp (Eh Fp hi.typeIs Hz ?_ (Hq _)));refine b0 (m:=field (.ref i) 0) (Ee j z (x := .ref l) rfl ?_);refine (if_neg (c:=(E8 l==Ga)=true) hB) ▸ ?_;refine b0 (m:=field (.ref i) 1) (Ee j z (x := .int k 0) rfl ?_);refine b0 (m:=Ir (.ref l)) (Ei B G ?_);simp only [E5,hx];refine b0 (Fn (b0 (wpAny_setField j z (by simp) ?_)))
 refine b0 (m:=newExc (.type "StopIteration") []) ?_;simp only [newExc,newTuple];refine b0 (EA ?_ (by size_fits))
 refine b0 (m:=HN _ _) (GN (a:=Ga) (by first | rfl | (simp only [HN];rfl)) (EA ?_ (by size_fits)))
 simp only [raiseNew];refine b0 (wpAny_handled ?_)
 first | rw [show A.in1.handled=none from J] | rw [J]
 exact b0 (h7 (Lu (q _ _ (((JK ..).extBut.push _).push _) ⟨_,hH _ rfl,rfl⟩)))
open Builtin.SmallTypes in
theorem nx_item {t:Bool} {i l:Addr} {k:Nat} {xs:Array e6} {x:e6} {Q:e6->h6->Prop} (hi:At t s.heap i l k) (j:Sq t s.heap l xs) (hx:xs[k]? = some x)
 (q:∀ h',At t h' i l (k+1)->EG i s.heap h'->Q x { s with heap:=h' }):DJ (model prog w) A (nextOf (.ref i)) Q E s:=by
 cases t with
 | true=>exact va hi j hx q
 | false=>exact wpAny_nextOf_list_item hi j hx q
open Builtin.SmallTypes in
theorem nx_end {t:Bool} {i l:Addr} {k:Nat} {xs:Array e6} {Q:e6->h6->Prop} (j:A.handled=none) (hi:At t s.heap i l k) (z:Sq t s.heap l xs) (hx:xs[k]? = none)
 (q:∀ h' e,Ls i s.heap h'->(∃ o,h'.get? e=some o/\o.cls = .type "StopIteration")->E (.ref e) { s with heap:=h' }):DJ (model prog w) A (nextOf (.ref i)) Q E s:=by
 cases t with
 | true=>exact y4 j hi z hx q
 | false=>exact wpAny_nextOf_list_end j hi z hx q
open Builtin.SmallTypes in
theorem Au {z T O i j a b:Addr} {t u:Bool} {k:Nat} {xs ys:Array e6} {x y p r:e6} {Q:e6->h6->Prop} (D:Jn z T O i j a b)
 (G:I9 s.heap z T O .none) (hT:FC s.heap T (.ref i) (.ref j)) (hO:FC s.heap O p r)
 (hi:At t s.heap i a k) (hj:At u s.heap j b k) (ha:Sq t s.heap a xs) (hb:Sq u s.heap b ys) (hx:xs[k]? = some x) (hy:ys[k]? = some y)
 (q:∀ h',I9 h' z T O (Ic s.heap.objs.size)->FC h' O x y->At t h' i a (k+1)->At u h' j b (k+1)->FC h' s.heap.objs.size x y ->
   (∀ c o,c≠z->c≠O->c≠i->c≠j->s.heap.get? c=some o->h'.get? c=some o)->Q (.ref s.heap.objs.size) { s with heap:=h' }) :
 DJ (model prog w) A (FH.«zip.__next__» ⟨[.ref z],[]⟩) (fun fin s' => ∃ v,fin = .done (.ret v)/\Q v s') E s:=by
 refine b0 (m:=field (.ref z) 2) (Ee G rfl (x := .bool false) rfl ?_);refine b0 (m:=field (.ref z) 3) (Ee G rfl (x := .ref T) rfl ?_);refine b0 (Ei hT rfl ?_);refine b0 (m:=ownedTupleIsFree (.ref z)) ?_;unfold ownedTupleIsFree;refine b0 (Ee G rfl (x := .none) rfl (h7 ?_));simp only [if_true];refine b0 (Fn (b0 (Ee G rfl (x := .ref O) rfl (b0 (E7 G (by simp) fun g1 z1 s1 => ?_)))))
 have Z1:I9 g1 z T O .ellipsis:=z1;clear z1;refine b0 ?_;simp only [L8,LB,GC,List.forIn_nil];refine b0 (b0 (Ih (b0 (m:=nextOf (.ref i)) ?_)));refine nx_item (hi.up fun o e=>s1.extBut _ o D.i1z e) (ha.up fun o e=>s1.extBut _ o D.l1z e) hx fun g2 U s2=>h7 ?_;have O2:FC g2 O p r:=s2.extBut _ _ D.TOi1 (s1.extBut _ _ D.TOz hO);refine b0 (Ei O2 rfl (b0 (Hk O2 fun g3 o3 s3 => ?_)));have O3:FC g3 O x r:=o3;clear o3;refine b0 (Gf (h7 (b0 (b0 (Ih (b0 (m:=nextOf (.ref j)) ?_))))));refine nx_item (hj.up fun o e=>s3.extBut _ o D.TOi2.symm (s2.extBut _ o D.i12.symm (s1.extBut _ o D.i2z e))) (hb.up fun o e=>s3.extBut _ o D.l2TO (s2.extBut _ o D.l2i1 (s1.extBut _ o D.l2z e))) hy fun g4 Y s4=>h7 ?_;have O4:FC g4 O x r:=s4.extBut _ _ D.TOi2 O3;refine b0 (Ei O4 rfl (b0 (Hk O4 fun B o5 s5 => ?_)));have O5:FC B O x y:=o5;clear o5;refine b0 (Gf (h7 (h7 (b0 (Ei O5 rfl (b0 (wpAny_newTuple ?_)))))));have sz:B.objs.size=s.heap.objs.size:=by rw [s5.1,s4.1,s3.1,s2.1,s1.1]
 have k5:∀ c o,c≠z->c≠O->c≠i->c≠j->s.heap.get? c=some o->B.get? c=some o:=fun c o F J Z c4 e =>
  s5.extBut _ _ J (s4.extBut _ _ c4 (s3.extBut _ _ J (s2.extBut _ _ Z (s1.extBut _ _ F e))))
 have Z5:I9 B z T O .ellipsis:=s5.extBut _ _ D.TOz.symm (s4.extBut _ _ D.i2z.symm (s3.extBut _ _ D.TOz.symm (s2.extBut _ _ D.i1z.symm Z1)));have I5:At t B i a (k+1):=U.up fun o e=>s5.extBut _ o D.TOi1.symm (s4.extBut _ o D.i12 (s3.extBut _ o D.TOi1.symm e));have J5:At u B j b (k+1):=Y.up fun o e=>s5.extBut _ o D.TOi2.symm e;have zl:z < B.objs.size:=v5 Z5;refine b0 (m:=ownedTupleHandOut (.ref z) (.ref B.objs.size)) ?_;unfold ownedTupleHandOut;refine b0 (E7 (gV _ Z5) (by simp) fun g7 z7 s7 => ?_)
 have Z7:I9 g7 z T O (Ic B.objs.size):=z7;clear z7;refine E7 Z7 (by simp) fun L z8 s8 => ?_
 have Z8:I9 L z T O (Ic B.objs.size):=z8;clear z8;have up:∀ c o,c≠z->B.get? c=some o->L.get? c=some o:=fun c o F e=>s8.extBut _ _ F (s7.extBut _ _ F (gV _ e));have P8:FC L B.objs.size x y:=s8.extBut _ _ (FP zl) (s7.extBut _ _ (FP zl) (hH _ rfl));rw [sz] at Z8 P8;refine h7 ⟨_,rfl, ?_⟩;show Q (.ref B.objs.size) _;rw [sz];exact q L Z8 (up _ _ D.TOz O5) (I5.up fun o e=>up _ o D.i1z e) (J5.up fun o e=>up _ o D.i2z e) P8 fun c o F J Z c4 e=>up c o F (k5 c o F J Z c4 e)
open Builtin.SmallTypes in
theorem BU {z T O i j a b:Addr} {t u:Bool} {k:Nat} {xs ys:Array e6} {p r:e6} {Q:Fin->h6->Prop} (hn:A.handled=none) (D:Jn z T O i j a b)
 (G:I9 s.heap z T O .none) (hT:FC s.heap T (.ref i) (.ref j)) (hO:FC s.heap O p r)
 (hi:At t s.heap i a k) (hj:At u s.heap j b k) (ha:Sq t s.heap a xs) (hb:Sq u s.heap b ys) (J:xs[k]? = none∨ys[k]? = none)
 (q:∀ h' e,(∀ c o,c≠z->c≠O->c≠i->c≠j->s.heap.get? c=some o->h'.get? c=some o)->(∃ o,h'.get? e=some o/\o.cls = .type "StopIteration")->E (.ref e) { s with heap:=h' }) :
 DJ (model prog w) A (FH.«zip.__next__» ⟨[.ref z],[]⟩) Q E s:=by
 refine b0 (m:=field (.ref z) 2) (Ee G rfl (x := .bool false) rfl ?_);refine b0 (m:=field (.ref z) 3) (Ee G rfl (x := .ref T) rfl ?_);refine b0 (Ei hT rfl ?_);refine b0 (m:=ownedTupleIsFree (.ref z)) ?_;unfold ownedTupleIsFree;refine b0 (Ee G rfl (x := .none) rfl (h7 ?_));simp only [if_true];refine b0 (Fn (b0 (Ee G rfl (x := .ref O) rfl (b0 (E7 G (by simp) fun g1 z1 s1 => ?_)))))
 have Z1:I9 g1 z T O .ellipsis:=z1;clear z1;refine b0 ?_;simp only [L8,LB,GC,List.forIn_nil];refine b0 (b0 (Ih (b0 (m:=nextOf (.ref i)) ?_)));have L:At t g1 i a k:=hi.up fun o e=>s1.extBut _ o D.i1z e;have U:Sq t g1 a xs:=ha.up fun o e=>s1.extBut _ o D.l1z e
 cases hx:xs[k]? with
 | none =>
   refine nx_end hn L U hx fun g2 e s2 he => ?_;obtain ⟨oe,B,F⟩:=he;have Z2:I9 g2 z T O .ellipsis:=s2 _ _ D.i1z.symm Z1;have ez:e≠z:=fun x=>by subst x;rw [Z2] at B;cases B;simp at F
   exact E7 Z2 (by simp) fun g3 _ s3=>q g3 e (fun c o Y _ Z _ x=>s3.extBut _ _ Y (s2 _ _ Z (s1.extBut _ _ Y x))) ⟨oe,s3.extBut _ _ ez B,F⟩
 | some x =>
   have hy:ys[k]? = none:=J.elim (fun z=>by rw [hx] at z;cases z) id
   refine nx_item L U hx fun g2 CY s2=>h7 ?_;have O2:FC g2 O p r:=s2.extBut _ _ D.TOi1 (s1.extBut _ _ D.TOz hO);refine b0 (Ei O2 rfl (b0 (Hk O2 fun g3 o3 s3 => ?_)));refine b0 (Gf (h7 (b0 (b0 (Ih (b0 (m:=nextOf (.ref j)) ?_))))));refine nx_end hn (hj.up fun o e=>s3.extBut _ o D.TOi2.symm (s2.extBut _ o D.i12.symm (s1.extBut _ o D.i2z e))) (hb.up fun o e=>s3.extBut _ o D.l2TO (s2.extBut _ o D.l2i1 (s1.extBut _ o D.l2z e))) hy fun g4 e s4 he => ?_;obtain ⟨oe,B,F⟩:=he;have Z4:I9 g4 z T O .ellipsis:=s4 _ _ D.i2z.symm (s3.extBut _ _ D.TOz.symm (s2.extBut _ _ D.i1z.symm Z1));have ez:e≠z:=fun x=>by subst x;rw [Z4] at B;cases B;simp at F
   exact E7 Z4 (by simp) fun g5 _ s5=>q g5 e (fun c o Y c2 Z c4 x=>s5.extBut _ _ Y (s4 _ _ c4 (s3.extBut _ _ c2 (s2.extBut _ _ Z (s1.extBut _ _ Y x))))) ⟨oe,s5.extBut _ _ ez B,F⟩
theorem nxt_item {z T O i j a b:Addr} {t u:Bool} {k:Nat} {xs ys:Array e6} {x y p r:e6} {Q:Option e6->h6->Prop} (D:Jn z T O i j a b)
 (B:I9 s.heap z T O .none) (G:FC s.heap T (.ref i) (.ref j)) (J:FC s.heap O p r)
 (hi:At t s.heap i a k) (L:At u s.heap j b k) (U:Sq t s.heap a xs) (Y:Sq u s.heap b ys) (hx:xs[k]? = some x) (Z:ys[k]? = some y)
 (q:∀ h',I9 h' z T O (Ic s.heap.objs.size)->FC h' O x y->At t h' i a (k+1)->At u h' j b (k+1)->FC h' s.heap.objs.size x y ->
   (∀ c o,c≠z->c≠O->c≠i->c≠j->s.heap.get? c=some o->h'.get? c=some o)->Q (some (.ref s.heap.objs.size)) { s with heap:=h' }) :
 DJ (model prog w) A (G4 (.ref z)) Q E s:=by
 have ty:s.TypeIs (.ref z) "zip" := ⟨_,B,rfl⟩;unfold G4;exact b0 (FE (E6 (name:=Ek "__next__") ty Hr (Eh Hr ty L9
  (Au D B G J hi L U Y hx Z fun h' a1 a2 a3 a4 a5 a6=>h7 (q h' a1 a2 a3 a4 a5 a6)) (KD _))))
theorem nxt_end {z T O i j a b:Addr} {t u:Bool} {k:Nat} {xs ys:Array e6} {p r:e6} {Q:Option e6->h6->Prop} (J:A.handled=none) (D:Jn z T O i j a b)
 (G:I9 s.heap z T O .none) (L:FC s.heap T (.ref i) (.ref j)) (U:FC s.heap O p r)
 (hi:At t s.heap i a k) (Y:At u s.heap j b k) (Z:Sq t s.heap a xs) (hb:Sq u s.heap b ys) (B:xs[k]? = none∨ys[k]? = none)
 (q:∀ h',(∀ c o,c≠z->c≠O->c≠i->c≠j->s.heap.get? c=some o->h'.get? c=some o)->Q none { s with heap:=h' }):DJ (model prog w) A (G4 (.ref z)) Q E s:=by
 have ty:s.TypeIs (.ref z) "zip" := ⟨_,G,rfl⟩;unfold G4;refine b0 (FE (E6 (name:=Ek "__next__") ty Hr (Eh Hr ty L9
  (BU J D G L U hi Y Z hb B fun h' e hk he => ?_) (KD _))))
 obtain ⟨o,ho,hc⟩:=he;exact b0 (F7 (T := "StopIteration") (b:=true) ⟨o,ho,hc⟩ Jo (h7 (q _ hk)))
noncomputable def itO (t:Bool) (l:Addr):Obj:=match t with | true => { cls := .type "tuple_iterator",data := .fields #[.ref l, .int 0 0] } | false => { cls := .type "list_iterator",data := .fields #[.ref l, .int 0 0] }
noncomputable def zH1 (h:Heap) (t:Bool) (a:Addr):Heap:=h.push (itO t a)
noncomputable def zH2 (h:Heap) (t u:Bool) (a b:Addr):Heap:=(zH1 h t a).push (itO u b)
noncomputable def zH3 (h:Heap) (t u:Bool) (a b:Addr):Heap:=(zH2 h t u a b).push { cls := .type "tuple",data := .seq #[.ref h.objs.size, .ref (zH1 h t a).objs.size] }
noncomputable def zH4 (h:Heap) (t u:Bool) (a b:Addr):Heap:=(zH3 h t u a b).push { cls := .type "tuple",data := .seq #[.none, .none] }
noncomputable def zH5 (h:Heap) (t u:Bool) (a b:Addr):Heap:=(zH4 h t u a b).push { cls := .type "zip",data := .fields #[.none, .bool false, .bool false, .ref (zH2 h t u a b).objs.size, .ref (zH3 h t u a b).objs.size] }
theorem sj (t u:Bool) (a b:Addr) (xs ys:Array e6) :
 Meets (FH.«zip.__new__» ⟨[.type "zip", .ref a, .ref b],[]⟩) (fun _ R s=>Sq t s.heap a xs/\Sq u s.heap b ys/\R (.ok (.ret (.ref (zH4 s.heap t u a b).objs.size))) { s with heap:=zH5 s.heap t u a b }) :=
 .of_wp fun prog w A R s h=>by
  obtain ⟨j,g,d,tk,os⟩:=s;obtain ⟨B,F,h⟩:=h;have G:=sub_zip
  cases t <;> cases u
  ·have q:Jp (FL ⟨j,g,d,tk,os⟩) a xs:=B;have z:Jp (FL ⟨j.push { cls := .type "list_iterator",data := .fields #[.ref a, .int 0 0] },g,d,tk,os⟩) b ys:=La F _
   wp_walk using EU q,EU z
   exact ⟨_,rfl,h⟩
  ·have q:Jp (FL ⟨j,g,d,tk,os⟩) a xs:=B;have z:HA (FL ⟨j.push { cls := .type "list_iterator",data := .fields #[.ref a, .int 0 0] },g,d,tk,os⟩) b ys:=KG F _
   wp_walk using EU q,EM z
   exact ⟨_,rfl,h⟩
  ·have q:HA (FL ⟨j,g,d,tk,os⟩) a xs:=B;have z:Jp (FL ⟨j.push { cls := .type "tuple_iterator",data := .fields #[.ref a, .int 0 0] },g,d,tk,os⟩) b ys:=La F _
   wp_walk using EM q,EU z
   exact ⟨_,rfl,h⟩
  ·have q:HA (FL ⟨j,g,d,tk,os⟩) a xs:=B;have z:HA (FL ⟨j.push { cls := .type "tuple_iterator",data := .fields #[.ref a, .int 0 0] },g,d,tk,os⟩) b ys:=KG F _
   wp_walk using EM q,EM z
   exact ⟨_,rfl,h⟩
theorem at_new {t:Bool} {h:Heap} {i l:Addr} (e:h.get? i=some (itO t l)):At t h i l 0:=by
 cases t <;> exact ⟨_,e,rfl,rfl⟩
theorem call_zip {t u:Bool} {a b:Addr} {xs ys:Array e6} {Q:e6->h6->Prop} (ha:Sq t s.heap a xs) (hb:Sq u s.heap b ys)
 (q:∀ h',I9 h' (s.heap.objs.size+4) (s.heap.objs.size+2) (s.heap.objs.size+3) .none->FC h' (s.heap.objs.size+2) (.ref s.heap.objs.size) (.ref (s.heap.objs.size+1)) ->
   FC h' (s.heap.objs.size+3) .none .none->At t h' s.heap.objs.size a 0->At u h' (s.heap.objs.size+1) b 0->h'.objs.size=s.heap.objs.size+5 ->
   (∀ c o,s.heap.get? c=some o->h'.get? c=some o)->Q (.ref (s.heap.objs.size+4)) { s with heap:=h' }) :
 DJ (model prog w) A (call (.type "zip") [.ref a, .ref b]) Q E s:=by
 refine callType_new F.called_zip (by decide) (F.typeCall_zip_2 _ _) (F.newCall_zip_2 _ _) (fun obj=>F.args_object_init_3 obj _ _) F.entry_zip_new (sj t u a b xs ys) ⟨ha,hb, ?_⟩
 have B:(zH1 s.heap t a).objs.size=s.heap.objs.size+1:=ED ..;have G:(zH2 s.heap t u a b).objs.size=s.heap.objs.size+2:=by unfold zH2;rw [ED,B]
 have J:(zH3 s.heap t u a b).objs.size=s.heap.objs.size+3:=by unfold zH3;rw [ED,G]
 have L:(zH4 s.heap t u a b).objs.size=s.heap.objs.size+4:=by unfold zH4;rw [ED,J]
 have z5:(zH5 s.heap t u a b).objs.size=s.heap.objs.size+5:=by unfold zH5;rw [ED,L]
 have j:∀ {c o},(zH4 s.heap t u a b).get? c=some o->(zH5 s.heap t u a b).get? c=some o:=fun e=>gV _ e;have z:∀ {c o},(zH3 s.heap t u a b).get? c=some o->(zH4 s.heap t u a b).get? c=some o:=fun e=>gV _ e;have O:∀ {c o},(zH2 s.heap t u a b).get? c=some o->(zH3 s.heap t u a b).get? c=some o:=fun e=>gV _ e;have Y:∀ {c o},(zH1 s.heap t a).get? c=some o->(zH2 s.heap t u a b).get? c=some o:=fun e=>gV _ e;have k1:∀ {c o},s.heap.get? c=some o->(zH1 s.heap t a).get? c=some o:=fun e=>gV _ e;have f:∀ t l,(itO t l).isFreed=false:=fun t l=>by cases t <;> rfl
 have U:(zH5 s.heap t u a b).get? (zH4 s.heap t u a b).objs.size=some _:=hH _ rfl;have Z:(zH5 s.heap t u a b).get? (zH3 s.heap t u a b).objs.size=some _:=j (hH _ rfl);have g3:(zH5 s.heap t u a b).get? (zH2 s.heap t u a b).objs.size=some _:=j (z (hH _ rfl));have g2:(zH5 s.heap t u a b).get? (zH1 s.heap t a).objs.size=some _:=j (z (O (hH _ (f u b))));have g1:(zH5 s.heap t u a b).get? s.heap.objs.size=some _:=j (z (O (Y (hH _ (f t a)))));show _/\_;rw [G,J,L] at U;rw [B,G] at g3;rw [J] at Z;rw [B] at g2;rw [L];exact ⟨⟨_,U,rfl⟩,q _ U g3 Z (at_new g1) (at_new g2) z5 fun c o x=>j (z (O (Y (k1 x))))⟩
end
end Zp
end L2
namespace L2
open PySem PySem.Spec PyProof.Rows
section
section
variable {X:Cx} {pins:List (Addr×Obj)} {σ:St} {H:Hp} {s:h6} {h':Heap}
theorem Inv.turnedL {t':Nat} {fp:List Addr} (I:Inv X pins σ H s) (hf:∀ b∈fp,bL X pins H b) (k:∀ b o,b∉fp->s.heap.get? b=some o->h'.get? b=some o):Inv X pins σ H { s with heap:=h',toks:=t' }:=by
 have nit:∀ b u,H b=some u->b∉fp:=fun b u e z=>by rw [(hf b z).1] at e;cases e
 refine I.step (g':=s.gens) (d':=s.drawn) (ch:=fp) (fun b B => ?_) (fun b o _ _ j e _=>k b o j e) (fun b o _ _ j e _=>⟨o.slots,k b o j e⟩) (fun _ _ _ _ n=>n)
  (fun b o j e=>⟨o,k b o j e⟩) (fun _ _ e=>e) (fun _ _ _ e=>e) (fun b ps e=>⟨#[],by rw [e];simp⟩) (fun m hm => ?_) (fun b u e => ?_) I.bare
 ·obtain ⟨_,f1,_,F,f4,G⟩:=hf b B;exact ⟨F,f1,f4,G⟩
 ·obtain ⟨o,es,ep,ho,r⟩:=hm;exact ⟨o,es,ep,k _ o (fun z=>(hf _ z).2.1 rfl) ho,r⟩
 ·refine (I.hok b u e).stay (fun c v j q=>k c v ?_ q) (fun _ q=>q) fun _ _ q=>q
  rcases j with z | z
  ·rw [z];exact nit b u e
  ·exact nit c _ z
end
def SqV (K:Frag) (t:Bool) (H:Hp) (a:Addr) (xs:List V):Prop:=match t with | true=>SqT K H a xs | false=>SqL K H a xs
theorem Inv.sqv {X:Cx} {pins:List (Addr×Obj)} {σ:St} {H:Hp} {s:h6} {t:Bool} {a:Addr} {xs:List V} (I:Inv X pins σ H s) (h:SqV X.K t H a xs):∃ its:List e6,Vals xs its/\Zp.Sq t s.heap a its.toArray:=by
 cases t with
 | true=>obtain ⟨its,r,p,_⟩:=I.tuple h;exact ⟨its,r,p⟩
 | false=>obtain ⟨its,r,p,_⟩:=I.list h;exact ⟨its,r,p.isList⟩
theorem Inv.sqv_inj {X:Cx} {pins:List (Addr×Obj)} {σ:St} {H:Hp} {s:h6} {t:Bool} {a:Addr} {xs ys:List V} (I:Inv X pins σ H s) (h:SqV X.K t H a xs) (h':SqV X.K t H a ys):xs=ys:=by
 cases t with
 | true=>exact I.tuple_inj h h'
 | false=>exact I.list_inj h h'
noncomputable def Itz (K:Frag) (t u:Bool) (a b:Addr):It :=
 ⟨fun i H => ∃ xs ys x y,SqV K t H a xs/\SqV K u H b ys/\xs[i]? = some x/\ys[i]? = some y,
  fun i H v H' => ∃ p x y,H p=none/\v = .ref p/\H'=upd H p (.tup [x,y]) /\ ∀ xs ys,SqV K t H a xs->SqV K u H b ys->xs[i]? = some x/\ys[i]? = some y,
  fun i H => ∃ xs ys,SqV K t H a xs/\SqV K u H b ys/\(xs.length<=i∨ys.length<=i)⟩
theorem vb {P:DQ} {w:E4} {K:Frag} {elts:List Expr} {cx} {pos:Pos} {t u:Bool} {z T O i j a b:Addr} (D:Jn z T O i j a b) :
 eQ P w K (.Tuple elts cx pos) (Itz K t u a b) [z,T,O,i,j] z (fun k h=>I9 h z T O .none/\FC h T (.ref i) (.ref j)/\(∃ p r,FC h O p r)/\Zp.At t h i a k/\Zp.At u h j b k) where
 mem:=by simp
 obj:=fun k h ⟨B,F,⟨p,r,G⟩,hi,J⟩ c q=>by
  simp only [r4,DY,or_false] at q
  rcases q with rfl | rfl | rfl | rfl | rfl
  ·exact ⟨_,B,fun v e=>by cases e⟩
  ·exact ⟨_,F,fun v e=>by cases e⟩
  ·exact ⟨_,G,fun v e=>by cases e⟩
  ·exact hi.lt
  ·exact J.lt
 keep:=fun k h h' ⟨B,F,⟨p,r,G⟩,hi,J⟩ kk=>⟨kk z (by simp) _ B,kk T (by simp) _ F,⟨p,r,kk O (by simp) _ G⟩,hi.up fun o e=>kk i (by simp) o e,J.up fun o e=>kk j (by simp) o e⟩
 item:=by
  intro X Y hw Z q k pins s σ H E I hf st hg;subst Y hw Z;obtain ⟨B,F,⟨p,r,G⟩,hi,J⟩:=st;obtain ⟨xs,ys,x,y,qx,qy,ex,ey⟩:=hg;obtain ⟨is,rx,px⟩:=I.sqv qx;obtain ⟨js,ry,py⟩:=I.sqv qy;obtain ⟨ux,CY,rux⟩:=rx.get ex;obtain ⟨uy,CZ,ruy⟩:=ry.get ey;refine Zp.nxt_item D B F G hi J px py (by simpa using CY) (by simpa using CZ) fun h1 z1 o1 i1 j1 p1 U=>⟨_,rfl, ?_⟩
  refine wpAny_letOwnedTupleGo_zip (s := { s with heap:=h1 }) z1 fun h2 z2 s2 => ?_
  have lt:∀ {c o},s.heap.get? c=some o->c≠s.heap.objs.size:=fun e=>E3 (v5 e);have nz:s.heap.objs.size≠z:=(lt B).symm;have D0:∃ o,s.heap.get? i=some o:=hi.lt.imp fun _ h=>h.1;have D1:∃ o,s.heap.get? j=some o:=J.lt.imp fun _ h=>h.1;have up:∀ c o,c≠z->h1.get? c=some o->h2.get? c=some o:=fun c o n e=>s2.extBut _ _ n e;have IL:Inv X pins σ (upd H s.heap.objs.size (.tup [x,y])) { s with heap:=s.heap.push { cls := .type "tuple",data := .seq #[ux,uy] },toks:=s.toks } :=
   I.laid (fun b o e=>gV _ e) (hQ _) ⟨by rw [h8];simp,[ux,uy], .cons rux (.cons ruy .nil),HD _ _⟩
  have fr:∀ c∈[z,T,O,i,j],c≠s.heap.objs.size:=fun c q=>by
   simp only [r4,DY,or_false] at q
   rcases q with rfl | rfl | rfl | rfl | rfl
   ·exact lt B
   ·exact lt F
   ·exact lt G
   ·obtain ⟨o,e⟩:=D0;exact lt e
   ·obtain ⟨o,e⟩:=D1;exact lt e
  have un:∀ c∈[z,T,O,i,j],upd H s.heap.objs.size (.tup [x,y]) c=none:=fun c q=>by
   rw [ah (fr c q)];exact (hf c q).1
  have kk:∀ c o,c∉[z,T,O,i,j]->(s.heap.push { cls := .type "tuple",data := .seq #[ux,uy] }).get? c=some o->h2.get? c=some o:=fun c o q e=>by
   simp only [r4,DY,or_false,not_or] at q
   rcases Jq e with ⟨rfl,rfl⟩ | e
   ·exact up _ _ nz p1
   ·exact up _ _ q.1 (U c o q.1 q.2.2.1 q.2.2.2.1 q.2.2.2.2 e)
  have I2:Inv X pins σ (upd H s.heap.objs.size (.tup [x,y])) { s with heap:=h2,toks:=s.toks } :=
   (Inv.turnedL (s := { s with heap:=s.heap.push { cls := .type "tuple",data := .seq #[ux,uy] },toks:=s.toks }) (h':=h2) (t':=s.toks) (fp := [z,T,O,i,j]) IL (fun c q=>⟨un c q,(hf c q).2⟩) kk)
  refine ⟨.ref s.heap.objs.size,_,I2,rfl,⟨_,x,y,I.hok.fresh (hQ _),rfl,rfl,fun xs' ys' q1 q2 => ?_⟩,⟨z2,up _ _ D.TIz (U _ _ D.TIz D.TITO D.TIi1 D.TIi2 F),⟨_,_,up _ _ D.TOz o1⟩,i1.up fun o e=>up _ o D.i1z e,j1.up fun o e=>up _ o D.i2z e⟩,un⟩;rw [I.sqv_inj q1 qx,I.sqv_inj q2 qy];exact ⟨ex,ey⟩
 done:=by
  intro X Y hw Z q k pins s σ H E I hf st hg;subst Y hw Z;obtain ⟨B,F,⟨p,r,G⟩,hi,J⟩:=st;obtain ⟨xs,ys,qx,qy,L⟩:=hg;obtain ⟨is,rx,px⟩:=I.sqv qx;obtain ⟨js,ry,py⟩:=I.sqv qy;have lx:=rx.length;have ly:=ry.length;refine Zp.nxt_end (I.ok.hd q) D B F G hi J px py (L.imp (fun e=>by simp;lia) (fun e=>by simp;lia)) fun h1 U=>⟨rfl,I.turnedL (t':=s.toks) hf fun c o q e => ?_⟩
  simp only [r4,DY,or_false,not_or] at q;exact U c o q.1 q.2.2.1 q.2.2.2.1 q.2.2.2.2 e
 self:=fun A k s Q E st h=>Lb st.1 h
section
variable {X:Cx}
noncomputable def CP (K:Frag) (ta:TA):TI:=fun σ H R=>ta σ H fun vs H1 => ∃ a b t u xs ys,vs=[.ref a, .ref b]/\SqV K t H1 a xs/\SqV K u H1 b ys/\R (Itz K t u a b) H1
theorem Av {elts:List Expr} {cx} {pos p pos':Pos} {a b:Expr} {ta:TA} (G:Gl X "zip") (hm:X.mg "zip" = none) (J:PA X [a,b] ta) (L:DN [a,b] X.env=[(false,eval a X.env),(false,eval b X.env)]) (j:DN [b] X.env=[(false,eval b X.env)]) :
 PI X (.Tuple elts cx pos) (.Call (.Name "zip" p) [a,b] [] pos') (CP X.K ta):=by
 intro pins s σ H R I h;refine Call_ (cD I G hm (u := .type "zip") (by decide +kernel) (ER (thn (J pos' pins s σ H _ I h) fun us s1 ⟨vs,H1,z,O,U⟩ => ?_) (by rw [L,j]) (by rw [j];rfl)))
 obtain ⟨a',b',t,u,xs,ys,rfl,qx,qy,q⟩:=U
 cases O with
 | cons r rr =>
   cases rr with
   | cons r' rr =>
     cases rr
     cases r
     cases r'
     obtain ⟨is,rx,px⟩:=z.sqv qx;obtain ⟨js,ry,py⟩:=z.sqv qy;refine Zp.call_zip px py fun h1 B t1 Y Z j1 sz k1 => ?_;refine Lb B ?_;have la:a' < s1.heap.objs.size:=by cases t <;> (obtain ⟨o,e,_⟩:=px;exact v5 e)
     have lb:b' < s1.heap.objs.size:=by cases u <;> (obtain ⟨o,e,_⟩:=py;exact v5 e)
     have D:Jn (s1.heap.objs.size+4) (s1.heap.objs.size+2) (s1.heap.objs.size+3) s1.heap.objs.size (s1.heap.objs.size+1) a' b':=by constructor <;> (intro e;subst_vars;first | lia | (simp only [Addr] at *;lia))
     refine ⟨_,_,_,_,H1,rfl,z.kept (t':=s1.toks) k1,vb (t:=t) (u:=u) D,⟨B,t1,⟨_,_,Y⟩,Z,j1⟩,fun c F => ?_,q⟩;have hle:s1.heap.objs.size<=c:=by
      simp only [r4,DY,or_false] at F
      rcases F with rfl | rfl | rfl | rfl | rfl <;> lia
     exact z.fpOk hle (z.hok.fresh hle)
end
end
end L2
namespace L2
namespace Zp
open PySem PySem.Spec PyProof.Rows
end Zp
open PySem PySem.Spec PyProof.Rows
end L2
namespace L2
namespace En
open PySem PySem.Spec PyProof.Rows
section
variable {prog:DQ} {w:E4} {A:Ea} {E:e6->h6->Prop} {s:h6}
open Builtin.SmallTypes Zp in
theorem Aw {z i a:Addr} {t:Bool} {k:Nat} {xs:Array e6} {x old:e6} {Q:e6->h6->Prop} (U:IU s.heap z i k old) (hi:At t s.heap i a k) (ha:Sq t s.heap a xs) (hx:xs[k]? = some x) (j:z≠i)
 (q:∀ h',Lc h' z i ((k:Int)+1) x s.heap.objs.size->At t h' i a (k+1)->h'.get? s.heap.objs.size=some { cls := .type "tuple",data := .seq #[.int k s.toks,x] } ->
   (∀ b o,b≠z->b≠i->s.heap.get? b=some o->h'.get? b=some o)->Q (.ref s.heap.objs.size) { s with heap:=h',toks:=s.toks+1 }) :
 DJ (model prog w) A (FH.«enumerate.__next__» ⟨[.ref z],[]⟩) (fun fin s' => ∃ v,fin = .done (.ret v)/\Q v s') E s:=by
 obtain ⟨B,g,d,tk,os⟩:=s;refine b0 (m:=field (.ref z) 2) (Ee U rfl (x := .ref i) rfl (b0 (nx_item hi ha hx fun g1 i1 s1 => ?_)));have S1:EG i B g1:=s1;clear s1;have Y:IU g1 z i k old:=(S1.2 z j).trans U;refine b0 (m:=field (.ref z) 3) (Ee (s:=⟨g1,g,d,tk,os⟩) Y rfl (x:=Ic k) rfl ?_);refine b0 (m:=field (.ref z) 4) (Ee (s:=⟨g1,g,d,tk,os⟩) Y rfl (x := .none) rfl ?_);refine b0 (m:=mkInt k) (wpAny_mkInt ?_);refine b0 (m:=setField (.ref z) 3 (Ic ((k:Int)+1))) (E7 (s:=⟨g1,g,d,tk+1,os⟩) Y (by simp) fun g2 z2 s2 => ?_)
 have Z:EG z g1 g2:=s2;have Z2:IU g2 z i ((k:Int)+1) old:=z2;clear s2 z2;refine b0 (m:=setField (.ref z) 4 .none) (E7 (s:=⟨g2,g,d,tk+1,os⟩) Z2 (by simp) fun g3 z3 s3 => ?_)
 have S3:EG z g2 g3:=s3;have Z3:IU g3 z i ((k:Int)+1) old:=z3;clear s3 z3;refine b0 (m:=newTuple [.int k tk,x]) (wpAny_newTuple ?_);have G:IU (g3.push { cls := .type "tuple",data := .seq #[.int k tk,x] }) z i ((k:Int)+1) old:=gV _ Z3;have sz:g3.objs.size=B.objs.size:=by rw [S3.1,Z.1,S1.1]
 have zl:z < B.objs.size:=v5 U;have T4:(g3.push { cls := .type "tuple",data := .seq #[.int k tk,x] }).get? B.objs.size=some { cls := .type "tuple",data := .seq #[.int k tk,x] }:=by rw [<- sz];exact hH _ rfl
 have K4:∀ b o,b≠z->b≠i->B.get? b=some o->(g3.push { cls := .type "tuple",data := .seq #[.int k tk,x] }).get? b=some o:=fun b o bz bi e =>
  gV _ (S3.extBut b o bz (Z.extBut b o bz (S1.extBut b o bi e)))
 have I4:At t (g3.push { cls := .type "tuple",data := .seq #[.int k tk,x] }) i a (k+1):=i1.up fun o e=>gV _ (S3.extBut i o j.symm (Z.extBut i o j.symm e));rw [sz];generalize g3.push { cls := .type "tuple",data := .seq #[.int k tk,x] }=F at G T4 K4 I4;refine b0 (m:=ownedTupleIsFree (.ref z)) ?_;unfold ownedTupleIsFree;refine b0 (Ee (s:=⟨F,g,d,tk+1,os⟩) G rfl (x := .none) rfl (h7 ?_));simp only [if_true];refine b0 (Fn (b0 (Ee (s:=⟨F,g,d,tk+1,os⟩) G rfl (x:=old) rfl (b0 (E7 (s:=⟨F,g,d,tk+1,os⟩) G (by simp) fun J z5 s5 => ?_)))))
 have S5:EG z F J:=s5;have Z5:IU J z i ((k:Int)+1) x:=z5;clear s5 z5;refine b0 (m:=ownedTupleHandOut (.ref z) (.ref B.objs.size)) ?_;unfold ownedTupleHandOut;refine b0 (E7 (s:=⟨J,g,d,tk+1,os⟩) Z5 (by simp) fun L z6 s6 => ?_)
 have S6:EG z J L:=s6;have Z6:Lc L z i ((k:Int)+1) x B.objs.size:=z6;clear s6 z6;refine E7 (s:=⟨L,g,d,tk+1,os⟩) Z6 (by simp) fun O z7 s7 => ?_
 have S7:EG z L O:=s7;have Z7:Lc O z i ((k:Int)+1) x B.objs.size:=z7;clear s7 z7;have up:∀ b o,b≠z->F.get? b=some o->O.get? b=some o:=fun b o bz e=>S7.extBut b o bz (S6.extBut b o bz (S5.extBut b o bz e));exact b0 (Gf (h7 ⟨_,rfl,q O Z7 (I4.up fun o e=>up i o j.symm e) (up _ _ (FP zl) T4) fun b o bz bi e=>up b o bz (K4 b o bz bi e)⟩))
theorem nxt_item {z i a:Addr} {t:Bool} {k:Nat} {xs:Array e6} {x old:e6} {Q:Option e6->h6->Prop} (B:IU s.heap z i k old) (hi:Zp.At t s.heap i a k) (G:Zp.Sq t s.heap a xs) (hx:xs[k]? = some x) (j:z≠i)
 (q:∀ h',Lc h' z i ((k:Int)+1) x s.heap.objs.size->Zp.At t h' i a (k+1)->h'.get? s.heap.objs.size=some { cls := .type "tuple",data := .seq #[.int k s.toks,x] } ->
   (∀ b o,b≠z->b≠i->s.heap.get? b=some o->h'.get? b=some o)->Q (some (.ref s.heap.objs.size)) { s with heap:=h',toks:=s.toks+1 }) :
 DJ (model prog w) A (G4 (.ref z)) Q E s:=by
 have ty:s.TypeIs (.ref z) "enumerate" := ⟨_,B,rfl⟩;unfold G4;exact b0 (FE (E6 (name:=Ek "__next__") ty G7 (Eh G7 ty IV
  (Aw B hi G hx j fun h' a1 a2 J L=>h7 (q h' a1 a2 J L)) (Iu _))))
theorem nxt_end {z i a:Addr} {t:Bool} {k:Nat} {xs:Array e6} {old:e6} {Q:Option e6->h6->Prop} (B:A.handled=none) (j:IU s.heap z i k old) (hi:Zp.At t s.heap i a k) (G:Zp.Sq t s.heap a xs) (hx:xs[k]? = none)
 (q:∀ h',Ls i s.heap h'->Q none { s with heap:=h' }):DJ (model prog w) A (G4 (.ref z)) Q E s:=by
 have ty:s.TypeIs (.ref z) "enumerate" := ⟨_,j,rfl⟩;unfold G4;refine b0 (FE (E6 (name:=Ek "__next__") ty G7 (Eh G7 ty IV ?_ (Iu _))));refine b0 (m:=field (.ref z) 2) (Ee j rfl (x := .ref i) rfl (b0 (Zp.nx_end B hi G hx fun h' x he J => ?_)));obtain ⟨o,ho,L⟩:=J;exact b0 (F7 (T := "StopIteration") (b:=true) ⟨o,ho,L⟩ Jo (h7 (q _ he)))
open AutoSeq1 (wpAny_loadPart') in
theorem ya (l:Addr) (items:Array e6) (n:Nat) (dct:Option Addr) (sl:Array (Option e6)) :
 Meets (FH.«enumerate.__new__» ⟨[.type "enumerate", .ref l],[]⟩) (fun _ R s=>s.heap.get? l=some { cls := .type "tuple",dict:=dct,data := .seq items n,slots:=sl } /\
  R (.ok (.ret (.ref (s.heap.push (Zp.itO true l)).objs.size))) { s with heap:=(s.heap.push (Zp.itO true l)).push { cls := .type "enumerate",data := .fields #[.none, .bool false, .ref s.heap.objs.size,Ic 0, .none, .none] } }) :=
 .of_wp fun prog w A R s h=>by
  obtain ⟨B,g,d,tk,os⟩:=s;obtain ⟨j,h⟩:=h;have q:=sub_enumerate;have z:HA (FL ⟨B,g,d,tk,os⟩) l items:=⟨_,j,rfl,n,rfl⟩
  wp_walk using Fh j
  refine wpAny_stack_any fun st=>h7 ?_
  split
  ·rename_i c _ _ _ _ _
   cases (c==HE "enumerate") <;> (wp_walk using Fh j,EM z;exact ⟨_,rfl,h⟩)
  ·wp_walk using Fh j,EM z
   exact ⟨_,rfl,h⟩
theorem call_enum {t:Bool} {l:Addr} {items:Array e6} {Q:e6->h6->Prop} (B:Zp.Sq t s.heap l items)
 (q:∀ h',IU h' (s.heap.objs.size+1) s.heap.objs.size 0 .none->Zp.At t h' s.heap.objs.size l 0->(∀ b o,s.heap.get? b=some o->h'.get? b=some o)->Q (.ref (s.heap.objs.size+1)) { s with heap:=h' }) :
 DJ (model prog w) A (call (.type "enumerate") [.ref l]) Q E s:=by
 cases t with
 | false=>exact call_enumerate_list B fun h' a b _ k=>q h' a b k
 | true =>
   obtain ⟨⟨c,dct,dt,sl⟩,J,L,n,hd⟩:=B;have j:c = .type "tuple" := L;have z:dt = .seq items n:=hd;subst j z;refine callType_new F.called_enumerate (by decide) (F.typeCall_enumerate_1 _) (F.newCall_enumerate_1 _) (fun obj=>F.args_object_init_2 obj _) F.entry_enumerate_new (ya l items n dct sl) ⟨J, ?_⟩
   have G:(s.heap.push (Zp.itO true l)).objs.size=s.heap.objs.size+1:=ED ..;have e:((s.heap.push (Zp.itO true l)).push { cls := .type "enumerate",data := .fields #[.none, .bool false, .ref s.heap.objs.size,Ic 0, .none, .none] }).get? (s.heap.push (Zp.itO true l)).objs.size=some _:=hH _ rfl;rw [G] at e;show _/\_;rw [G];exact ⟨⟨_,e,rfl⟩,q _ e (Zp.at_new (gV _ (hH _ rfl))) fun b o x=>gV _ (gV _ x)⟩
end
end En
open PySem PySem.Spec PyProof.Rows
noncomputable def Ite (K:Frag) (t:Bool) (a:Addr):It :=
 ⟨fun i H => ∃ xs x,SqV K t H a xs/\xs[i]? = some x,
  fun i H v H' => ∃ p x,H p=none/\v = .ref p/\H'=upd H p (.tup [.int (i:Nat),x]) /\ ∀ xs,SqV K t H a xs->xs[i]? = some x,
  fun i H => ∃ xs,SqV K t H a xs/\xs.length<=i⟩
theorem sk {P:DQ} {w:E4} {K:Frag} {elts:List Expr} {cx} {pos:Pos} {t:Bool} {z i a:Addr} (B:z≠i) :
 eQ P w K (.Tuple elts cx pos) (Ite K t a) [z,i] z (fun k h=>(∃ old,IU h z i k old)/\Zp.At t h i a k) where
 mem:=by simp
 obj:=fun k h ⟨⟨old,q⟩,hi⟩ c j=>by
  simp only [r4,DY,or_false] at j
  rcases j with rfl | rfl
  ·exact ⟨_,q,fun v e=>by cases e⟩
  ·exact hi.lt
 keep:=fun k h h' ⟨⟨old,q⟩,hi⟩ kk=>⟨⟨old,kk z (by simp) _ q⟩,hi.up fun o e=>kk i (by simp) o e⟩
 item:=by
  intro X F hw G j k pins s σ H E I hf st hg;subst F hw G;obtain ⟨⟨old,q⟩,hi⟩:=st;obtain ⟨xs,x,qx,ex⟩:=hg;obtain ⟨is,rx,px⟩:=I.sqv qx;obtain ⟨ux,J,rux⟩:=rx.get ex;refine En.nxt_item q hi px (by simpa using J) B fun h1 Y Z p1 L=>⟨_,rfl, ?_⟩
  refine wpAny_letOwnedTupleGo_enum (s := { s with heap:=h1,toks:=s.toks+1 }) Y fun h2 z2 s2 => ?_
  have lt:∀ {c o},s.heap.get? c=some o->c≠s.heap.objs.size:=fun e=>E3 (v5 e);have nz:s.heap.objs.size≠z:=(lt q).symm;have O:∃ o,s.heap.get? i=some o:=hi.lt.imp fun _ h=>h.1;have up:∀ c o,c≠z->h1.get? c=some o->h2.get? c=some o:=fun c o n e=>s2.extBut _ _ n e;have IL:Inv X pins σ (upd H s.heap.objs.size (.tup [.int (k:Nat),x])) { s with heap:=s.heap.push { cls := .type "tuple",data := .seq #[.int k s.toks,ux] },toks:=s.toks+1 } :=
   I.laid (fun b o e=>gV _ e) (hQ _) ⟨by rw [h8];simp,[.int k s.toks,ux], .cons ⟨_,rfl⟩ (.cons rux .nil),HD _ _⟩
  have fr:∀ c∈[z,i],c≠s.heap.objs.size:=fun c j=>by
   simp only [r4,DY,or_false] at j
   rcases j with rfl | rfl
   ·exact lt q
   ·obtain ⟨o,e⟩:=O;exact lt e
  have un:∀ c∈[z,i],upd H s.heap.objs.size (.tup [.int (k:Nat),x]) c=none:=fun c j=>by
   rw [ah (fr c j)];exact (hf c j).1
  have kk:∀ c o,c∉[z,i]->(s.heap.push { cls := .type "tuple",data := .seq #[.int k s.toks,ux] }).get? c=some o->h2.get? c=some o:=fun c o j e=>by
   simp only [r4,DY,or_false,not_or] at j
   rcases Jq e with ⟨rfl,rfl⟩ | e
   ·exact up _ _ nz p1
   ·exact up _ _ j.1 (L c o j.1 j.2 e)
  have I2:Inv X pins σ (upd H s.heap.objs.size (.tup [.int (k:Nat),x])) { s with heap:=h2,toks:=s.toks+1 } :=
   Inv.turnedL (s := { s with heap:=s.heap.push { cls := .type "tuple",data := .seq #[.int k s.toks,ux] },toks:=s.toks+1 }) (h':=h2) (t':=s.toks+1) (fp := [z,i]) IL (fun c j=>⟨un c j,(hf c j).2⟩) kk
  refine ⟨.ref s.heap.objs.size,_,I2,rfl,⟨_,x,I.hok.fresh (hQ _),rfl,rfl,fun xs' q1 => ?_⟩,⟨⟨ux,by simpa using z2⟩,Z.up fun o e=>up _ o B.symm e⟩,un⟩
  rw [I.sqv_inj q1 qx];exact ex
 done:=by
  intro X F hw G j k pins s σ H E I hf st hg;subst F hw G;obtain ⟨⟨old,q⟩,hi⟩:=st;obtain ⟨xs,qx,U⟩:=hg;obtain ⟨is,rx,px⟩:=I.sqv qx;have lx:=rx.length;refine En.nxt_end (I.ok.hd j) q hi px (by simp;lia) fun h1 L=>⟨rfl,I.turnedL (t':=s.toks) hf fun c o j e => ?_⟩
  simp only [r4,DY,or_false,not_or] at j;exact L c o j.2 e
 self:=fun A k s Q E ⟨⟨old,q⟩,_⟩ h=>KH q h
section
variable {X:Cx}
noncomputable def BV (K:Frag) (ta:TA):TI:=fun σ H R=>ta σ H fun vs H1 => ∃ a t xs,vs=[.ref a]/\SqV K t H1 a xs/\R (Ite K t a) H1
theorem yb {elts:List Expr} {cx} {pos p pos':Pos} {a:Expr} {ta:TA} (F:Gl X "enumerate") (hm:X.mg "enumerate" = none) (G:PA X [a] ta) (J:DN [a] X.env=[(false,eval a X.env)]) :
 PI X (.Tuple elts cx pos) (.Call (.Name "enumerate" p) [a] [] pos') (BV X.K ta):=by
 intro pins s σ H R I h;refine Call_ (cD I F hm (u := .type "enumerate") boot_enumerate (ER (thn (G pos' pins s σ H _ I h) fun us s1 ⟨vs,H1,j,L,O⟩ => ?_) J rfl));obtain ⟨a',t,xs,rfl,qx,q⟩:=O
 cases L with
 | cons r rr =>
   cases rr
   cases r
   obtain ⟨is,rx,px⟩:=j.sqv qx;refine En.call_enum px fun h1 z U Y => ?_;refine KH z ?_;refine ⟨_,_,_,_,H1,rfl,j.kept (t':=s1.toks) Y,sk (t:=t) (a:=a') (by simp),⟨⟨_,z⟩,U⟩,fun c B => ?_,q⟩
   have hle:s1.heap.objs.size<=c:=by
    simp only [r4,DY,or_false] at B
    rcases B with rfl | rfl <;> lia
   exact j.fpOk hle (j.hok.fresh hle)
end
end L2
namespace L2
namespace Rv
open PySem PySem.Spec PyProof.Rows
end Rv
open PySem PySem.Spec PyProof.Rows
end L2
namespace L2
open PySem PySem.Spec PyProof.Rows
section
noncomputable abbrev NK:=List (Int ⊕ List Int)
noncomputable def BW (ks:List Int):Int:=LR (Ew (ks.map hashInt))
noncomputable def eB:Int ⊕ List Int->Int
 | .inl i=>hashInt i
 | .inr ks=>BW ks
noncomputable def kz (ks:NK):Int:=LR (Ew (ks.map eB))
noncomputable def xq:Int ⊕ List Int->Nat
 | .inl _ => 1
 | .inr ks=>ks.length+1
noncomputable def iw (ks:NK):Nat:=(ks.map xq).sum
section
variable (prog:DQ) (w:E4)
noncomputable def Is1 (h:Heap):Int ⊕ List Int->e6->Prop
 | .inl i,v=>(Gz prog w).is i v=true
 | .inr ks,v => ∃ b,v = .ref b/\IsTupleKey (Gz prog w) h ks b
inductive IsN (h:Heap):NK->List e6->Prop
 | nil:IsN h [] []
 | cons {k:Int ⊕ List Int} {v:e6} {ks:NK} {vs:List e6}:Is1 prog w h k v->IsN h ks vs->IsN h (k::ks) (v::vs)
def IsNest (h:Heap) (ks:NK) (a:Addr):Prop := ∃ o items n,h.get? a=some o/\o.cls = .type "tuple" /\ o.data = .seq items n/\IsN prog w h ks items.toList
variable {prog w}
theorem Is1.inj {h:Heap} {x y:Int ⊕ List Int} {v:e6} (hx:Is1 prog w h x v) (q:Is1 prog w h y v):x=y:=by
 cases x with
 | inl i =>
   cases y with
   | inl j=>rw [(Gz prog w).inj _ _ _ hx q]
   | inr ks =>
     obtain ⟨b,rfl,_⟩:=q;have:=(Gz prog w).byValue _ _ hx;simp [Jr] at this
 | inr ks =>
   cases y with
   | inl j =>
     obtain ⟨b,rfl,_⟩:=hx;have:=(Gz prog w).byValue _ _ q;simp [Jr] at this
   | inr ls =>
     obtain ⟨b,rfl,z⟩:=hx;obtain ⟨c,e,B⟩:=q
     cases e
     rw [z.inj B]
theorem IsN.inj {h:Heap} {x y:NK} {vs:List e6} (hx:IsN prog w h x vs) (j:IsN prog w h y vs):x=y:=by
 induction hx generalizing y with
 | nil=>cases j;rfl
 | cons h1 _ ih =>
   cases j with
   | cons h2 q=>rw [h1.inj h2,ih q]
theorem IsNest.typeIs {s:h6} {ks:NK} {a:Addr} (x:IsNest prog w s.heap ks a):s.TypeIs (.ref a) "tuple" := let ⟨o,_,_,ho,j,_⟩:=x; ⟨o,ho,j⟩
theorem IsNest.inj {h:Heap} {a:Addr} {x y:NK} (hx:IsNest prog w h x a) (B:IsNest prog w h y a):x=y:=by
 obtain ⟨o,items,n,ho,_,hd,hi⟩:=hx;obtain ⟨o',items',n',q,_,j,z⟩:=B;obtain rfl:o=o':=EB.inj (ho.symm.trans q);rw [hd] at j
 injection j with h1 _
 subst h1;exact hi.inj z
theorem IsN.imp {h h':Heap} {ks:NK} {vs:List e6} (x:IsN prog w h ks vs) (f:∀ k v,Is1 prog w h k v->Is1 prog w h' k v):IsN prog w h' ks vs:=by
 induction x with
 | nil=>exact .nil
 | cons h1 _ ih=>exact .cons (f _ _ h1) ih
theorem IsNest.keeps {h h':Heap} {ks:NK} {a d:Addr} {o:Obj} {es ep} (x:IsNest prog w h ks a) (ho:h.get? d=some o) (hd:o.data = .dict es ep) (F:EG d h h'):IsNest prog w h' ks a:=by
 obtain ⟨o',items,n,z,G,j,hi⟩:=x;have B:a≠d:=by
  rintro rfl;obtain rfl:o'=o:=EB.inj (z.symm.trans ho);rw [hd] at j;exact nomatch j
 refine ⟨o',items,n,(F.2 a B).trans z,G,j,hi.imp fun k v q => ?_⟩
 cases k with
 | inl i=>exact q
 | inr ks=>obtain ⟨b,e,J⟩:=q;exact ⟨b,e,J.keeps ho hd F⟩
variable {A:Ea} {E:e6->h6->Prop} {s:h6}
theorem oj {k:Int ⊕ List Int} {v:e6} {Q:Int->h6->Prop} (q:A.units < F8) (j:Is1 prog w s.heap k v) (h:Q (eB k) { s with toks:=s.toks+xq k }):DJ (model prog w) A (pyHash v) Q E s:=by
 cases k with
 | inl i=>exact (Gz prog w).pyHash j h
 | inr ks=>obtain ⟨b,rfl,z⟩:=j;exact wpAny_pyHash_tuple q z h
theorem gq {ks:NK} {a:Addr} {Q:Int->h6->Prop} (J:A.units+1 < F8) (G:IsNest prog w s.heap ks a) (h:Q (kz ks) { s with toks:=s.toks+(iw ks+1) }) :
 DJ (model prog w) A (pyHash (.ref a)) Q E s:=by
 have q:=G.typeIs;obtain ⟨o,items,n,ho,_,hd,hi⟩:=G;unfold pyHash
 first | unfold pyHashByItsType | skip
 first | refine b0 (wpAny_cRoomFor_or (.inr (by lia)) ?_) | skip
 refine b0 (Hs q F.slot_tuple_hash.lookup ?_);show DJ _ _ (if (some (Value.builtin "tuple.__hash__")==some Ga)=true then _ else _) Q E s
 rw [if_neg (by rw [beq_builtin_none];exact hB)]
 refine b0 (Hs q F.slot_tuple_hash.lookup ?_);show DJ _ _ (callSpecialIfBoundUnlessNone? (.ref a) "__hash__" _ >>= _) Q E s;refine b0 (wpAny_callSpecialIfBoundUnlessNone?_slot q KI (Eh KI q F.entry_tuple_hash ?_ (F.args_tuple_hash_1 _)));show DJ _ _ (Gd (.ref a) >>= _) _ _ s;refine b0 (wpAny_tupleItemsOf ho hd ?_);refine b0 ?_;rw [<- HP];refine Gm _
  (fun rest (b:Array Int) s' => ∃ done left,ks=done++left/\IsN prog w s.heap left rest/\b.toList=done.map eB/\s' = { s with toks:=s.toks+iw done })
  _ ?_ ?_ _ _ ⟨[],ks,rfl,hi,rfl,rfl⟩
 ·rintro x rest b s' ⟨done,left,rfl,B,z,rfl⟩
  cases B with
  | @cons k _ ks' _ h1 j =>
   refine b0 (oj (by exact J) h1 ?_)
   first
    | exact h7 ⟨done++[k],ks',by simp,j,by simp [z],by simp [iw,Ii]⟩
    | exact b0 (h7 (h7 ⟨done++[k],ks',by simp,j,by simp [z],by simp [iw,Ii]⟩))
 ·rintro b s' ⟨done,left,rfl,B,z,rfl⟩
  cases B
  rw [Fg] at h;show DJ _ _ (retInt (Ew b.toList)) _ _ _;rw [z];refine wpAny_ret_mkInt ?_;show DJ _ _ (if (decide (-(2:Int) ^ 63<=Ew (done.map eB))&&decide (Ew (done.map eB) < 2 ^ 63))=true then _ else _) Q E _
  unfold kz LR at h
  by_cases hr:(decide (-(2:Int) ^ 63<=Ew (done.map eB))&&decide (Ew (done.map eB) < 2 ^ 63))=true
  ·rw [if_pos hr];rw [if_pos hr] at h;exact h7 (by simpa [Ii] using h)
  ·rw [if_neg hr];rw [if_neg hr] at h;exact b0 (Fn (h7 (by simpa [Ii] using h)))
noncomputable def br:Int ⊕ List Int->Kg
 | .inl i => .int i
 | .inr ks => .tuple (ks.map .int)
noncomputable def kW (ks:NK):Kg := .tuple (ks.map br)
theorem qg {h:Heap} {ks:List Int} {vs:List e6} (x:ItemsAre (Gz prog w) ks vs):ReadsAll h vs (ks.map GF) []:=by
 induction x with
 | nil=>exact .nil
 | @cons k v ks vs h1 _ ih =>
  obtain ⟨t,rfl⟩:=HZ h1;exact ReadsAll.cons (as := []) (.int _ _) ih
theorem yc {h:Heap} {k:Int ⊕ List Int} {v:e6} (x:Is1 prog w h k v):Reads h v (br k) []:=by
 cases k with
 | inl i=>obtain ⟨t,rfl⟩:=HZ x;exact .int _ _
 | inr ks =>
   obtain ⟨b,rfl,o,its,n,h1,h2,j,q⟩:=x;exact .tuple h1 h2 j (qg q)
theorem yd {h:Heap} {ks:NK} {vs:List e6} (x:IsN prog w h ks vs):ReadsAll h vs (ks.map br) []:=by
 induction x with
 | nil=>exact .nil
 | cons h1 _ ih=>exact ReadsAll.cons (as := []) (yc h1) ih
theorem iy {h:Heap} {ks:NK} {a:Addr} (x:IsNest prog w h ks a):Reads h (.ref a) (kW ks) []:=by
 obtain ⟨o,its,n,h1,h2,j,q⟩:=x;exact .tuple h1 h2 j (yd q)
theorem eqv_ints:∀ (x y:List Int),Ey (x.map GF) (y.map GF)=decide (x=y)
 | [],[] => rfl
 | [],_::_=>rfl
 | _::_,[] => rfl
 | a::x,b::y=>by
   rw [DM,DM,Ey,eqv_ints x y,Ep];by_cases h1:a=b <;> by_cases h2:x=y <;> simp [h1,h2]
theorem BX:∀ (x y:Int ⊕ List Int),Ep (br x) (br y)=decide (x=y)
 | .inl a, .inl b=>by rw [br,br,Ep];simp;rfl
 | .inl a, .inr b=>by simp [br,Ep]
 | .inr a, .inl b=>by simp [br,Ep]
 | .inr a, .inr b=>by rw [br,br,Ep,eqv_ints];simp
theorem xr:∀ (x y:NK),Ey (x.map br) (y.map br)=decide (x=y)
 | [],[] => rfl
 | [],_::_=>rfl
 | _::_,[] => rfl
 | a::x,b::y=>by
   rw [DM,DM,Ey,xr x y,BX];by_cases h1:a=b <;> by_cases h2:x=y <;> simp [h1,h2]
theorem kX:∀ (x:List Int),Fu (x.map GF)=true
 | [] => rfl
 | _::x=>by rw [DM,Fu,kX x];rfl
theorem BY:∀ (x:Int ⊕ List Int),PyData.canLay0 (br x)=true
 | .inl _=>rfl
 | .inr x=>kX x
theorem qh:∀ (x:NK),Fu (x.map br)=true
 | [] => rfl
 | a::x=>by rw [DM,Fu,BY,qh x];rfl
theorem iz:∀ (x:List Int),Fi (x.map GF)<=1
 | [] => by simp [Fi]
 | _::x=>by have:=iz x;simp [Fi,GX];lia
theorem ye:∀ (x:Int ⊕ List Int),GX (br x)<=2
 | .inl _=>by simp [br,GX]
 | .inr x=>by have:=iz x;simp [br,GX];lia
theorem oK:∀ (x:NK),Fi (x.map br)<=2
 | [] => by simp [Fi]
 | a::x=>by have:=oK x;have:=ye a;simp only [DM,Fi];lia
theorem gu {x y:NK} {a b:Addr} {Q:Bool->h6->Prop} (q:A.units+8 < F8) (hx:IsNest prog w s.heap x a) (j:IsNest prog w s.heap y b) (h:Q (decide (x=y)) s) :
 DJ (model prog w) A (eqBool (.ref a) (.ref b)) Q E s:=by
 refine SeqAt.eqBoolOverData prog w A E s _ _ (kW x) (kW y) [] [] Q (iy hx) (iy j) (qh x) (qh y) ?_ ?_
 ·have:=oK x;have:GX (kW x)<=3:=by simp only [kW,GX];lia
  lia
 ·show Q (Ey _ _) s;rw [xr];exact h
theorem kY {n:Nat} {ks:List Int} {a:Addr} {Q:Bool->h6->Prop} (B:IsTupleKey (Gz prog w) s.heap ks a) (h:Q true s):DJ (model prog w) A (JH (n+1) (.ref a)) Q E s:=by
 have G:=B.typeIs;obtain ⟨o,items,m,ho,_,hd,hi⟩:=B;unfold JH;refine b0 (Hs G F.slot_tuple_eq.lookup ?_);show DJ _ _ (isInstance (.ref a) (.type "tuple") >>= _) _ _ s;refine b0 (F7 G Ja ?_);simp only [G1,Ec,if_false];refine b0 (Ei ho hd ?_);refine b0 ?_;show DJ _ _ (forIn items _ _) _ _ s;rw [<- HP];refine Gm _ (fun rest r s'=>r.1=none/\s'=s /\ ∀ v∈rest,Jr v=true) _ ?_ ?_ _ _ ⟨rfl,rfl,hi.byValue⟩
 ·rintro v rest r s' ⟨q,rfl,j⟩;rw [KJ _ (j v Eb)];refine b0 (h7 ?_);simp only [G1,Ec,if_false];exact h7 ⟨rfl,rfl,fun u z=>j u (DR _ z)⟩
 ·rintro ⟨J,L⟩ s' ⟨q,rfl,_⟩;simp only at q;subst q;exact h7 h
theorem kZ {n:Nat} {ks:NK} {a:Addr} {Q:Bool->h6->Prop} (B:IsNest prog w s.heap ks a) (h:Q true s):DJ (model prog w) A (JH (n+2) (.ref a)) Q E s:=by
 have G:=B.typeIs;obtain ⟨o,items,m,ho,_,hd,hi⟩:=B;unfold JH;refine b0 (Hs G F.slot_tuple_eq.lookup ?_);show DJ _ _ (isInstance (.ref a) (.type "tuple") >>= _) _ _ s;refine b0 (F7 G Ja ?_);simp only [G1,Ec,if_false];refine b0 (Ei ho hd ?_);refine b0 ?_;show DJ _ _ (forIn items _ _) _ _ s;rw [<- HP];refine Gm _ (fun rest r s'=>r.1=none/\s'=s /\ ∃ ks,IsN prog w s.heap ks rest) _ ?_ ?_ _ _ ⟨rfl,rfl,ks,hi⟩
 ·rintro v rest r s' ⟨z,rfl,ks,j⟩
  cases j with
  | @cons k _ ks' _ h1 J =>
   have fin:∀ Q':Bool->h6->Prop,Q' true s'->DJ (model prog w) A (JH (n+1) v) Q' E s':=by
    intro Q' q
    cases k with
    | inl i =>
      rw [KJ _ ((Gz prog w).byValue _ _ h1)];exact h7 q
    | inr ls=>obtain ⟨b,rfl,L⟩:=h1;exact kY L q
   refine b0 (fin _ ?_);simp only [G1,Ec,if_false];exact h7 ⟨rfl,rfl,ks',J⟩
 ·rintro ⟨O,U⟩ s' ⟨z,rfl,_⟩;simp only at z;subst z;exact h7 h
end
noncomputable def lc (prog:DQ) (w:E4):HeapKind prog w NK where
 is:=IsNest prog w
 hash:=kz
 draws:=fun ks=>iw ks+1
 room:=fun A=>A.units+8 < F8
 inj:=fun hx hy=>hx.inj hy
 keeps:=fun x ho hd hs=>x.keeps ho hd hs
 pyHash:=fun hu hk h=>gq (Nat.lt_of_le_of_lt (Nat.add_le_add_left (by decide) _) hu) hk h
 eqBool:=fun hu hx hy h=>gu hu hx hy h
 quiet:=fun hk h=>kZ hk h
noncomputable def NDict (a:Addr) (xs:List (NK×Addr×e6)):Heap->Prop:=fun h=>xs.length<=p4/\(a==Em)=false /\
 ∃ o es ep,h.get? a=some o/\o.ExactDict/\o.data = .dict es ep/\es.toList=xs.map (fun x=>(⟨kz x.1, .ref x.2.1,x.2.2⟩:Gq))/\(xs.map (·.1)).Nodup
theorem NDict.stay {a:Addr} {xs:List (NK×Addr×e6)} (h1 h2:Heap) (x:NDict a xs h1) (k:∀ o,h1.get? a=some o->h2.get? a=some o):NDict a xs h2:=by
 obtain ⟨z,y,o,es,ep,e,r⟩:=x;exact ⟨z,y,o,es,ep,k _ e,r⟩
noncomputable def Kt1 (H:Hp):Int ⊕ List Int->V->Prop
 | .inl i,v=>v = .int i
 | .inr ks,v => ∃ b,v = .ref b/\H b=some (.tup (ks.map V.int))
def Kt (H:Hp) (k:NK) (b:Addr):Prop := ∃ vs,H b=some (.tup vs)/\E1 (Kt1 H) k vs
theorem Kt.keeps {H H':Hp} {k:NK} {b:Addr} (x:Kt H k b) (j:∀ b ys,H b=some (.tup ys)->H' b=some (.tup ys)):Kt H' k b:=by
 obtain ⟨vs,e,p⟩:=x;refine ⟨vs,j _ _ e,Mn p fun q v z => ?_⟩
 cases q with
 | inl i=>exact z
 | inr ks=>obtain ⟨c,e,q⟩:=z;exact ⟨c,e,j _ _ q⟩
section
variable {P:DQ} {w:E4} {H:Hp} {h:Heap} {a b:Addr}
theorem ld:∀ {ks:List Int} {its:List e6},Vals (ks.map V.int) its->ItemsAre (Gz P w) ks its
 | [],_,r=>by cases r;exact .nil
 | k::ks,_,r=>by
   cases r with
   | cons j q =>
     obtain ⟨t,rfl⟩:=(show ∃ t,_=Hc k t from j);exact .cons (by simp [Gz,HY]) (ld q)
theorem iA (ok:HOk P w H h):∀ {k:NK} {vs:List V} {its:List e6},E1 (Kt1 H) k vs->Vals vs its->IsN P w h k its
 | [],_,_,p,r=>by cases p;cases r;exact .nil
 | k::ks,_,_,p,r=>by
   cases p with
   | cons j p2 =>
     cases r with
     | cons q z =>
       refine .cons ?_ (iA ok p2 z)
       cases k with
       | inl i =>
         cases (show _=V.int i from j)
         obtain ⟨t,rfl⟩:=(show ∃ t,_=Hc i t from q);exact (by simp [Gz,HY]:HY i (.int i t)=true)
       | inr ls =>
         obtain ⟨c,rfl,e⟩:=j
         cases (show _=E8 c from q)
         obtain ⟨_,its,r,o,h1,h2,n,B⟩:=(show ObjOk P w H h c (.tup (ls.map V.int)) from ok c _ e);exact ⟨c,rfl,o,its.toArray,n,h1,h2,B,by simpa using ld r⟩
theorem fR {k:NK} (ok:HOk P w H h) (x:Kt H k b):IsNest P w h k b:=by
 obtain ⟨vs,e,p⟩:=x;obtain ⟨_,its,r,o,h1,h2,n,j⟩:=(show ObjOk P w H h b (.tup vs) from ok b _ e);exact ⟨o,its.toArray,n,h1,h2,j,by simpa using iA ok p r⟩
theorem fS {xs:List (NK×Addr×e6)} (ok:HOk P w H h) (e:H a=some (.ext (NDict a xs))) (ks:∀ x∈xs,Kt H x.1 x.2.1):xs.length<=p4/\(a==Em)=false/\h.DictOfH (lc P w) a xs:=by
 obtain ⟨⟨z,y,o,es,ep,h1,h2,j,q,B⟩,_⟩:=(show ObjOk P w H h a (.ext (NDict a xs)) from ok a _ e);exact ⟨z,y,o,es,ep,h1,h2,j,q,fun x hx=>fR ok (ks x hx),B⟩
end
theorem qi {P:DQ} {w:E4} {A:Ea} (j:A.units+16 < F8):(lc P w).room A.in1:=show A.units+1+8 < F8 by lia
section
variable {X:Cx} {pins:List (Addr×Obj)} {σ:St} {H:Hp} {s:h6} {a b:Addr} {v:V} {r:e6} {A:Ea} {E:e6->h6->Prop} {xs:List (NK×Addr×e6)} {k:NK}
theorem so {p:Addr×e6} {Q:e6->h6->Prop} (j:A.units+16 < F8) (I:Inv X pins σ H s) (e:H a=some (.ext (NDict a xs))) (ks:∀ x∈xs,Kt H x.1 x.2.1) (kb:Kt H k b) (q:GL xs k=some p)
 (h:∀ s',Inv X pins σ H s'->Q p.2 s'):DJ (model X.prog X.w) A (I8 (.ref a) (.ref b)) Q E s:=by
 obtain ⟨z,hd,dd⟩:=fS I.hok e ks;exact Kd (qi j) (fR I.hok kb) dd q (h _ (I.tok _))
theorem CQ {Q:e6->h6->Prop} (j:A.units+16 < F8) (I:Inv X pins σ H s) (e:H a=some (.ext (NDict a xs))) (ks:∀ x∈xs,Kt H x.1 x.2.1) (kb:Kt H k b)
 (h:∀ s',Inv X pins σ H s'->Q (.bool (GL xs k).isSome) s'):DJ (model X.prog X.w) A (Eg .In (.ref b) (.ref a)) Q E s:=by
 obtain ⟨z,hd,dd⟩:=fS I.hok e ks;exact wpAny_in_heap (qi j) (fR I.hok kb) hd dd (h _ (I.tok _))
theorem ol (xs:List (NK×Addr×e6)) (k:NK) (b:Addr) (u:e6):(Hy xs k b u).length<=xs.length+1:=by
 unfold Hy;split <;> simp
theorem sr {Q:Unit->h6->Prop} (B:A.units+16 < F8) (I:Inv X pins σ H s) (e:H a=some (.ext (NDict a xs))) (ks:∀ x∈xs,Kt H x.1 x.2.1) (kb:Kt H k b) (O:xs.length < p4)
 (h:∀ s',Inv X pins σ (upd H a (.ext (NDict a (Hy xs k b r)))) s'->Q () s'):DJ (model X.prog X.w) A (IG (.ref a) (.ref b) r) Q E s:=by
 obtain ⟨z,hd,dd⟩:=fS I.hok e ks;refine Ke (hsz:=z) (qi B) (fR I.hok kb) dd fun h' dd' F=>h _ ?_;obtain ⟨q,es,ep,j,h2,G,J,_,L⟩:=dd';refine dQ I (by rw [e];exact EC) F ⟨q,j⟩ ⟨⟨?_,hd,q,es,ep,j,h2,G,J,L⟩,⟨q,j⟩,NDict.stay⟩
 have:=ol xs k b r;lia
theorem vc (I:Inv X pins σ H s) (e:H a=some (.ext (NDict a xs))):s.TypeIs (.ref a) "dict" := by
 obtain ⟨⟨z,y,o,es,ep,h1,h2,_⟩,_⟩:=(show ObjOk X.prog X.w H s.heap a (.ext (NDict a xs)) from I.hok a _ e);exact ⟨o,h1,h2.1⟩
end
end
end L2
namespace L2
namespace Mi
open PySem PySem.Spec PyProof.Rows
section
inductive D where
 | non | bl (b:Bool) | int (i:Int) | str (x:Str) | tup (ds:List D) | con (ds:List D) | ref (a:Addr) | fn (x:Str)
inductive O where
 | lst (ds:List D)
 | dct (t:Bool) (kvs:List (D×D))
 | fdc (kvs:List (D×D))
 | dcn (kvs:List (NK×D))
noncomputable abbrev Mem:=Addr->Option O
noncomputable def fz:Option O->Bool
 | some (.lst _)=>false
 | some (.dct _ _)=>false
 | some (.dcn _)=>false
 | _=>true
noncomputable abbrev ak:=List (Option D)
noncomputable def ae (M:Mem) (a:Addr) (o:O):Mem:=fun b=>if b=a then some o else M b
theorem aa {M:Mem} {a:Addr} {o:O}:ae M a o a=some o:=by unfold ae;rw [if_pos rfl]
theorem aj {M:Mem} {a b:Addr} {o:O} (h:b≠a):ae M a o b=M b:=by unfold ae;rw [if_neg h]
def SqF (K:Frag) (H:Hp) (a:Addr) (xs:List V):Prop :=
 (∃ o,H a=some (.frz o (.lst xs))) ∨
  ∃ (o:Obj) (its:Array e6) (n:Nat),K.lookup a=some o/\o.cls = .type "list" /\ o.dict=none/\o.data = .seq its n/\its.size<=p4/\Vals xs its.toList
theorem SqF.sq {K:Frag} {H:Hp} {a:Addr} {xs:List V} (h:SqF K H a xs):SqL K H a xs:=by
 rcases h with ⟨o,h⟩ | h
 ·exact .inl (.inr ⟨o,h⟩)
 ·exact .inr h
noncomputable def fk2:Bool:=true
noncomputable def fk3:Bool:=true
noncomputable def fk:List D->Bool
 | [.int _, .int _, .int _] => true
 | [.tup _,_] => true
 | [.int _,_] => fk2
 | [] => false
 | _=>fk3
def TupR (K:Frag) (H:Hp) (ds:List D) (a:Addr) (vs:List V):Prop:=H a=some (.tup vs)∨(fk ds=false/\SqT K H a vs)
theorem TupR.sq {K:Frag} {H:Hp} {ds:List D} {a:Addr} {vs:List V} (h:TupR K H ds a vs):SqT K H a vs:=h.elim SqT.of (·.2)
mutual
noncomputable def RD (K:Frag) (H:Hp):D->V->Prop
 | .non,v=>v = .non
 | .bl b,v=>v = .bl b
 | .int i,v=>v = .int i
 | .str x,v=>v = .str x
 | .tup ds,v => ∃ a vs,v = .ref a/\TupR K H ds a vs/\RDs K H ds vs
 | .con ds,v => ∃ a vs,v = .ref a/\SqF K H a vs/\RDs K H ds vs
 | .ref a,v=>v = .ref a
 | .fn x,v => ∃ f,v = .ref f/\GY K Ez x=some (some (.ref f))
noncomputable def RDs (K:Frag) (H:Hp):List D->List V->Prop
 | [],vs=>vs=[]
 | d::ds,vs => ∃ v r,vs=v::r/\RD K H d v/\RDs K H ds r
end
structure Stab (H H':Hp):Prop where
 tup:∀ a xs,H a=some (.tup xs)->H' a=some (.tup xs)
 frz:∀ a o u,H a=some (.frz o u)->H' a=some (.frz o u)
theorem Stab.sqT {K:Frag} {H H':Hp} (st:Stab H H') {a:Addr} {xs:List V} (h:SqT K H a xs):SqT K H' a xs:=by
 rcases h with (h | ⟨o,h⟩) | h
 ·exact .inl (.inl (st.tup _ _ h))
 ·exact .inl (.inr ⟨o,st.frz _ _ _ h⟩)
 ·exact .inr h
theorem Stab.sqF {K:Frag} {H H':Hp} (st:Stab H H') {a:Addr} {xs:List V} (h:SqF K H a xs):SqF K H' a xs:=by
 rcases h with ⟨o,h⟩ | h
 ·exact .inl ⟨o,st.frz _ _ _ h⟩
 ·exact .inr h
mutual
theorem RD.mono {K:Frag} {H H':Hp} (st:Stab H H'):∀ {d:D} {v:V},RD K H d v->RD K H' d v
 | .non,_,h=>h
 | .bl _,_,h=>h
 | .int _,_,h=>h
 | .str _,_,h=>h
 | .tup ds,v,h=>by
  unfold RD at h ⊢;obtain ⟨a,vs,e,q,r⟩:=h;exact ⟨a,vs,e,q.imp (st.tup _ _) (fun z=>⟨z.1,st.sqT z.2⟩),RDs.mono st r⟩
 | .con ds,v,h=>by
  unfold RD at h ⊢;obtain ⟨a,vs,e,q,r⟩:=h;exact ⟨a,vs,e,st.sqF q,RDs.mono st r⟩
 | .ref _,_,h=>h
 | .fn _,_,h=>by unfold RD at h ⊢;exact h
theorem RDs.mono {K:Frag} {H H':Hp} (st:Stab H H'):∀ {ds:List D} {vs:List V},RDs K H ds vs->RDs K H' ds vs
 | [],_,h=>h
 | d::ds,vs,h=>by
   unfold RDs at h ⊢;obtain ⟨v,r,e,h1,h2⟩:=h;exact ⟨v,r,e,RD.mono st h1,RDs.mono st h2⟩
end
section
variable {K:Frag} {H H':Hp}
theorem Mj {i:Int} {v:V}:RD K H (.int i) v↔v = .int i:=by unfold RD;exact LG
theorem Ml {b:Bool} {v:V}:RD K H (.bl b) v↔v = .bl b:=by unfold RD;exact LG
theorem Mq {v:V}:RD K H .non v↔v = .non:=by unfold RD;exact LG
theorem Mr {x:Str} {v:V}:RD K H (.str x) v↔v = .str x:=by unfold RD;exact LG
theorem Mk {a:Addr} {v:V}:RD K H (.ref a) v↔v = .ref a:=by unfold RD;exact LG
theorem MA {x:Str} {v:V}:RD K H (.fn x) v ↔ ∃ f,v = .ref f/\GY K Ez x=some (some (.ref f)):=by rw [RD]
theorem Mw {ds:List D} {v:V}:RD K H (.tup ds) v ↔ ∃ a vs,v = .ref a/\TupR K H ds a vs/\RDs K H ds vs:=by rw [RD]
theorem Mu {ds:List D} {v:V} (h:∃ a vs,v = .ref a/\H a=some (.tup vs)/\RDs K H ds vs):RD K H (.tup ds) v:=Mw.mpr (let ⟨a,vs,e,h,r⟩:=h; ⟨a,vs,e, .inl h,r⟩)
theorem Mo {ds:List D} {v:V} (h:RD K H (.tup ds) v):∃ a vs,v = .ref a/\SqT K H a vs/\RDs K H ds vs:=let ⟨a,vs,e,h,r⟩:=Mw.mp h; ⟨a,vs,e,h.sq,r⟩
theorem Mt {ds:List D} {v:V} (f:fk ds=true) (h:RD K H (.tup ds) v):∃ a vs,v = .ref a/\H a=some (.tup vs)/\RDs K H ds vs:=let ⟨a,vs,e,h,r⟩:=Mw.mp h; ⟨a,vs,e,h.elim id fun z=>(by rw [f] at z;cases z.1),r⟩
theorem Mp {ds:List D} {v:V}:RD K H (.con ds) v ↔ ∃ a vs,v = .ref a/\SqF K H a vs/\RDs K H ds vs:=by rw [RD]
theorem RDs.nil_iff {vs:List V}:RDs K H [] vs↔vs=[]:=by rw [RDs]
theorem Mm {d:D} {ds:List D} {vs:List V}:RDs K H (d::ds) vs ↔ ∃ v r,vs=v::r/\RD K H d v/\RDs K H ds r:=by rw [RDs]
theorem RDs.nil:RDs K H [] []:=RDs.nil_iff.mpr rfl
theorem RDs.cons {d:D} {ds:List D} {v:V} {vs:List V} (h:RD K H d v) (r:RDs K H ds vs):RDs K H (d::ds) (v::vs):=Mm.mpr ⟨v,vs,rfl,h,r⟩
theorem RDs.length:∀ {ds:List D} {vs:List V},RDs K H ds vs->vs.length=ds.length
 | [],_,h=>by rw [RDs.nil_iff.mp h];rfl
 | d::ds,_,h=>by
   obtain ⟨v,r,rfl,_,h2⟩:=Mm.mp h;simp [RDs.length h2]
theorem RDs.get:∀ {ds:List D} {vs:List V} {i:Nat} {d:D},RDs K H ds vs->ds[i]? = some d -> ∃ v,vs[i]? = some v/\RD K H d v
 | [],_,_,_,_,e=>by simp at e
 | d::ds,_,0,d',h,e=>by
   obtain ⟨v,r,rfl,h1,h2⟩:=Mm.mp h;simp at e;subst e;exact ⟨v,rfl,h1⟩
 | d::ds,_,i+1,d',h,e=>by
   obtain ⟨v,r,rfl,h1,h2⟩:=Mm.mp h;obtain ⟨u,j,q⟩:=RDs.get (i:=i) (d:=d') h2 (by simpa using e)
   exact ⟨u,by simpa using j,q⟩
theorem RDs.getV {ds:List D} {vs:List V} {i:Nat} {v:V} (h:RDs K H ds vs) (e:vs[i]? = some v):∃ d,ds[i]? = some d/\RD K H d v:=by
 have z:=h.length;have hi:i < vs.length:=(hD.mp e).1;obtain ⟨d,hd⟩:∃ d,ds[i]? = some d:=⟨ds[i]'(by lia),hh (by lia)⟩
 obtain ⟨u,j,q⟩:=h.get hd;rw [e] at j;cases j;exact ⟨d,hd,q⟩
theorem RDs.append:∀ {ds es:List D} {vs us:List V},RDs K H ds vs->RDs K H es us->RDs K H (ds++es) (vs++us)
 | [],_,_,_,h,q=>by rw [RDs.nil_iff.mp h];exact q
 | d::ds,_,_,_,h,q=>by
   obtain ⟨v,r,rfl,h1,h2⟩:=Mm.mp h;exact RDs.cons h1 (RDs.append h2 q)
theorem RDs.take:∀ {ds:List D} {vs:List V} (n:Nat),RDs K H ds vs->RDs K H (ds.take n) (vs.take n)
 | [],_,n,h=>by rw [RDs.nil_iff.mp h];simp;exact RDs.nil
 | _::_,_,0,h=>by simp;exact RDs.nil
 | d::ds,_,n+1,h=>by
   obtain ⟨v,r,rfl,h1,h2⟩:=Mm.mp h;exact RDs.cons h1 (RDs.take n h2)
theorem RDs.drop:∀ {ds:List D} {vs:List V} (n:Nat),RDs K H ds vs->RDs K H (ds.drop n) (vs.drop n)
 | [],_,n,h=>by rw [RDs.nil_iff.mp h];simp;exact RDs.nil
 | d::ds,_,0,h=>h
 | d::ds,_,n+1,h=>by
   obtain ⟨v,r,rfl,h1,h2⟩:=Mm.mp h;exact RDs.drop n h2
theorem RDs.set:∀ {ds:List D} {vs:List V} (n:Nat) {d:D} {v:V},RD K H d v->RDs K H ds vs->RDs K H (ds.set n d) (vs.set n v)
 | [],_,n,_,_,_,h=>by rw [RDs.nil_iff.mp h];exact RDs.nil
 | d::ds,_,0,_,_,q,h=>by
   obtain ⟨v,r,rfl,h1,h2⟩:=Mm.mp h;exact RDs.cons q h2
 | d::ds,_,n+1,_,_,q,h=>by
   obtain ⟨v,r,rfl,h1,h2⟩:=Mm.mp h;exact RDs.cons h1 (RDs.set n q h2)
theorem RDs.reverse {ds:List D} {vs:List V} (h:RDs K H ds vs):RDs K H ds.reverse vs.reverse:=by
 induction ds generalizing vs with
 | nil=>rw [RDs.nil_iff.mp h];exact RDs.nil
 | cons d ds ih =>
   obtain ⟨v,r,rfl,h1,h2⟩:=Mm.mp h;rw [G9,G9];exact (ih h2).append (RDs.cons h1 RDs.nil)
theorem RDs.rep {ds:List D} {vs:List V} (h:RDs K H ds vs):∀ k:Nat,RDs K H (DK k ds).flatten (DK k vs).flatten
 | 0=>RDs.nil
 | k+1=>by
   rw [El,El,Ff,Ff];exact h.append (h.rep k)
theorem MD:∀ (ns:List Int),RDs K H (ns.map D.int) (ns.map V.int)
 | [] => RDs.nil
 | n::ns=>RDs.cons (Mj.mpr rfl) (MD ns)
end
mutual
noncomputable def D.eqb:D->D->Bool
 | .non, .non=>true
 | .bl a, .bl b=>a==b
 | .int a, .int b=>decide (a=b)
 | .str a, .str b=>decide (a=b)
 | .tup a, .tup b=>D.eqbs a b
 | .con a, .con b=>D.eqbs a b
 | .ref a, .ref b=>decide (a=b)
 | .fn a, .fn b=>decide (a=b)
 | _,_=>false
noncomputable def D.eqbs:List D->List D->Bool
 | [],[] => true
 | a::r,b::s=>D.eqb a b&&D.eqbs r s
 | _,_=>false
end
mutual
theorem MB:∀ (a b:D),D.eqb a b=true->a=b
 | .non, .non,_=>rfl
 | .bl a, .bl b,h=>by simp [D.eqb] at h;rw [h]
 | .int a, .int b,h=>by simp [D.eqb] at h;rw [h]
 | .str a, .str b,h=>by simp [D.eqb] at h;rw [h]
 | .tup a, .tup b,h=>by simp [D.eqb] at h;rw [My a b h]
 | .con a, .con b,h=>by simp [D.eqb] at h;rw [My a b h]
 | .ref a, .ref b,h=>by simp [D.eqb] at h;rw [h]
 | .fn a, .fn b,h=>by simp [D.eqb] at h;rw [h]
 | .non, .bl _,h=>by simp [D.eqb] at h
 | .non, .int _,h=>by simp [D.eqb] at h
 | .non, .str _,h=>by simp [D.eqb] at h
 | .non, .tup _,h=>by simp [D.eqb] at h
 | .non, .con _,h=>by simp [D.eqb] at h
 | .non, .ref _,h=>by simp [D.eqb] at h
 | .non, .fn _,h=>by simp [D.eqb] at h
 | .bl _, .non,h=>by simp [D.eqb] at h
 | .bl _, .int _,h=>by simp [D.eqb] at h
 | .bl _, .str _,h=>by simp [D.eqb] at h
 | .bl _, .tup _,h=>by simp [D.eqb] at h
 | .bl _, .con _,h=>by simp [D.eqb] at h
 | .bl _, .ref _,h=>by simp [D.eqb] at h
 | .bl _, .fn _,h=>by simp [D.eqb] at h
 | .int _, .non,h=>by simp [D.eqb] at h
 | .int _, .bl _,h=>by simp [D.eqb] at h
 | .int _, .str _,h=>by simp [D.eqb] at h
 | .int _, .tup _,h=>by simp [D.eqb] at h
 | .int _, .con _,h=>by simp [D.eqb] at h
 | .int _, .ref _,h=>by simp [D.eqb] at h
 | .int _, .fn _,h=>by simp [D.eqb] at h
 | .str _, .non,h=>by simp [D.eqb] at h
 | .str _, .bl _,h=>by simp [D.eqb] at h
 | .str _, .int _,h=>by simp [D.eqb] at h
 | .str _, .tup _,h=>by simp [D.eqb] at h
 | .str _, .con _,h=>by simp [D.eqb] at h
 | .str _, .ref _,h=>by simp [D.eqb] at h
 | .str _, .fn _,h=>by simp [D.eqb] at h
 | .tup _, .non,h=>by simp [D.eqb] at h
 | .tup _, .bl _,h=>by simp [D.eqb] at h
 | .tup _, .int _,h=>by simp [D.eqb] at h
 | .tup _, .str _,h=>by simp [D.eqb] at h
 | .tup _, .con _,h=>by simp [D.eqb] at h
 | .tup _, .ref _,h=>by simp [D.eqb] at h
 | .tup _, .fn _,h=>by simp [D.eqb] at h
 | .con _, .non,h=>by simp [D.eqb] at h
 | .con _, .bl _,h=>by simp [D.eqb] at h
 | .con _, .int _,h=>by simp [D.eqb] at h
 | .con _, .str _,h=>by simp [D.eqb] at h
 | .con _, .tup _,h=>by simp [D.eqb] at h
 | .con _, .ref _,h=>by simp [D.eqb] at h
 | .con _, .fn _,h=>by simp [D.eqb] at h
 | .ref _, .non,h=>by simp [D.eqb] at h
 | .ref _, .bl _,h=>by simp [D.eqb] at h
 | .ref _, .int _,h=>by simp [D.eqb] at h
 | .ref _, .str _,h=>by simp [D.eqb] at h
 | .ref _, .tup _,h=>by simp [D.eqb] at h
 | .ref _, .con _,h=>by simp [D.eqb] at h
 | .ref _, .fn _,h=>by simp [D.eqb] at h
 | .fn _, .non,h=>by simp [D.eqb] at h
 | .fn _, .bl _,h=>by simp [D.eqb] at h
 | .fn _, .int _,h=>by simp [D.eqb] at h
 | .fn _, .str _,h=>by simp [D.eqb] at h
 | .fn _, .tup _,h=>by simp [D.eqb] at h
 | .fn _, .con _,h=>by simp [D.eqb] at h
 | .fn _, .ref _,h=>by simp [D.eqb] at h
theorem My:∀ (a b:List D),D.eqbs a b=true->a=b
 | [],[],_=>rfl
 | a::r,b::s,h=>by
   simp [D.eqbs] at h;rw [MB a b h.1,My r s h.2]
 | [],_::_,h=>by simp [D.eqbs] at h
 | _::_,[],h=>by simp [D.eqbs] at h
end
mutual
theorem Mz:∀ (a:D),D.eqb a a=true
 | .non=>rfl
 | .bl _=>by simp [D.eqb]
 | .int _=>by simp [D.eqb]
 | .str _=>by simp [D.eqb]
 | .tup a=>by simp [D.eqb,Mv a]
 | .con a=>by simp [D.eqb,Mv a]
 | .ref _=>by simp [D.eqb]
 | .fn _=>by simp [D.eqb]
theorem Mv:∀ (a:List D),D.eqbs a a=true
 | [] => rfl
 | a::r=>by simp [D.eqbs,Mz a,Mv r]
end
noncomputable instance:DecidableEq D:=fun a b=>if h:D.eqb a b=true then isTrue (MB a b h) else isFalse fun e=>h (by rw [e];exact Mz b)
noncomputable def RKey:D->Key->Prop
 | .int i,k=>k = .inl i
 | .str x,k=>k = .inr x
 | _,_=>False
noncomputable def RKeys:D->List Key->Prop
 | .tup ds,ks=>E1 RKey ds ks
 | _,_=>False
noncomputable def dget (kvs:List (D×D)) (k:D):Option D:=(kvs.find? fun p=>decide (p.1=k)).map (·.2)
noncomputable def bS (kvs:List (D×D)) (k v:D):List (D×D):=if (kvs.any fun p=>decide (p.1=k))=true then kvs.map (fun p=>if p.1=k then (p.1,v) else p) else kvs++[(k,v)]
noncomputable def eC:D->Bool
 | .int _=>true
 | .str _=>true
 | _=>false
noncomputable def bD:D->Bool
 | .tup ds=>ds.all eC&&fk ds
 | _=>false
noncomputable def iB (t:Bool) (k:D):Bool:=if t then bD k else eC k
theorem lf {k:D} (h:eC k=true):∃ q,RKey k q:=by
 cases k <;> first | (simp [eC] at h;done) | exact ⟨_,rfl⟩
theorem oM:∀ {ds:List D},ds.all eC=true -> ∃ ks,E1 RKey ds ks
 | [],_=>⟨[], .nil⟩
 | d::ds,h=>by
   simp only [Ex,e7] at h;obtain ⟨k,j⟩:=lf h.1;obtain ⟨ks,q⟩:=oM h.2;exact ⟨k::ks, .cons j q⟩
theorem jh {k:D} (h:bD k=true):∃ q,RKeys k q:=by
 cases k <;> first | (simp [bD] at h;done) | exact oM (Hl.mp h).1
theorem ji {ds:List D} (h:bD (.tup ds)=true):fk ds=true:=(Hl.mp h).2
noncomputable def RO (K:Frag) (H:Hp) (a:Addr):O->Prop
 | .lst ds => ∃ vs,H a=some (.lst vs)/\RDs K H ds vs
 | .dct false kvs => ∃ ps,H a=some (.dK ps)/\E1 (fun (p:D×D) (q:Key×V)=>RKey p.1 q.1/\RD K H p.2 q.2) kvs ps
 | .dct true kvs => ∃ ps,H a=some (.dT ps)/\E1 (fun (p:D×D) (q:List Key×V)=>RKeys p.1 q.1/\RD K H p.2 q.2) kvs ps
 | .fdc kvs => ∃ o ps,H a=some (.frz o (.dT ps))/\E1 (fun (p:D×D) (q:List Key×V)=>RKeys p.1 q.1/\RD K H p.2 q.2) kvs ps
 | .dcn kvs => ∃ xs,H a=some (.ext (NDict a xs))/\E1 (fun (p:NK×D) (q:NK×Addr×e6)=>p.1=q.1/\Kt H q.1 q.2.1 /\ ∃ v,RelV v q.2.2/\RD K H p.2 v) kvs xs
def RM (K:Frag) (M:Mem) (H:Hp):Prop := ∀ a o,M a=some o->RO K H a o
def RS (K:Frag) (H:Hp) (σ:St) (ρ:ak):Prop := σ.length = ρ.length /\ ∀ (i:Nat) (d:D), ρ[i]? = some (some d) -> ∃ v, σ[i]? = some (some v)/\RD K H d v
structure Ext (M:Mem) (H:Hp) (M':Mem) (H':Hp):Prop where
 kp:∀ a o,fz (M a)=true->H a=some o->H' a=some o
 nw:∀ a o,fz (M a)=true->H a=some o->M' a=M a
section
variable {K:Frag} {M M' M'':Mem} {H H' H'':Hp}
theorem Ext.keep (x:Ext M H M' H') (a:Addr) (o:HO) (n:M a=none) (e:H a=some o):H' a=some o:=x.kp a o (by rw [n];rfl) e
theorem Ext.new (x:Ext M H M' H') (a:Addr) (o:HO) (n:M a=none) (e:H a=some o):M' a=none:=(x.nw a o (by rw [n];rfl) e).trans n
theorem Ext.refl:Ext M H M H:=⟨fun _ _ _ h=>h,fun _ _ _ _=>rfl⟩
theorem Ext.trans (a:Ext M H M' H') (b:Ext M' H' M'' H''):Ext M H M'' H'' :=
 ⟨fun c o n h=>b.kp c o (by rw [a.nw c o n h];exact n) (a.kp c o n h),fun c o n h=>(b.nw c o (by rw [a.nw c o n h];exact n) (a.kp c o n h)).trans (a.nw c o n h)⟩
theorem RM.mut (r:RM K M H) {a:Addr} {o:O} (h:M a=some o):∃ ho,H a=some ho/\(∀ xs,ho ≠ .tup xs)/\(fz (some o)=false->Mut (some ho) /\ ∀ ob u,ho ≠ .frz ob u):=by
 have q:=r a o h
 cases o with
 | lst ds =>
   obtain ⟨vs,e,_⟩:=q;exact ⟨_,e,fun _ z=>(by cases z),fun _=>⟨trivial,fun _ _ z=>(by cases z)⟩⟩
 | dct t kvs =>
   cases t with
   | false=>obtain ⟨ps,e,_⟩:=q;exact ⟨_,e,fun _ z=>(by cases z),fun _=>⟨trivial,fun _ _ z=>(by cases z)⟩⟩
   | true=>obtain ⟨ps,e,_⟩:=q;exact ⟨_,e,fun _ z=>(by cases z),fun _=>⟨trivial,fun _ _ z=>(by cases z)⟩⟩
 | fdc kvs=>obtain ⟨ob,ps,e,_⟩:=q;exact ⟨_,e,fun _ z=>(by cases z),fun z=>(by cases z)⟩
 | dcn kvs=>obtain ⟨xs,e,_⟩:=q;exact ⟨_,e,fun _ z=>(by cases z),fun _=>⟨trivial,fun _ _ z=>(by cases z)⟩⟩
theorem RM.fzT (r:RM K M H) {a:Addr} {xs:List V} (e:H a=some (.tup xs)):M a=none:=by
 cases q:M a with
 | none=>rfl
 | some o =>
   obtain ⟨ho,j,z,_⟩:=r.mut q;rw [e] at j;cases j;exact absurd rfl (z xs)
theorem RM.fzF (r:RM K M H) {a:Addr} {ob:Obj} {u:HO} (e:H a=some (.frz ob u)):fz (M a)=true:=by
 cases q:M a with
 | none=>rfl
 | some o =>
   obtain ⟨ho,j,_,B⟩:=r.mut q;rw [e] at j;cases j
   cases z:fz (some o) with
   | true=>rfl
   | false=>exact absurd rfl ((B z).2 ob u)
theorem RM.out (r:RM K M H) {a:Addr} (h:H a=none):M a=none:=by
 cases e:M a with
 | none=>rfl
 | some o =>
   obtain ⟨ho,q,_⟩:=r.mut e;rw [h] at q;cases q
theorem Ext.stab (r:RM K M H) (x:Ext M H M' H'):Stab H H' where
 tup:=fun a xs e=>x.keep a _ (r.fzT e) e
 frz:=fun a o u e=>x.kp a _ (r.fzF e) e
theorem RS.mono (st:Stab H H') {σ:St} {ρ:ak} (h:RS K H σ ρ):RS K H' σ ρ :=
 ⟨h.1,fun i d e=>let ⟨v,q,r⟩:=h.2 i d e; ⟨v,q,r.mono st⟩⟩
theorem RS.set {σ:St} {ρ:ak} (h:RS K H σ ρ) (i:Nat) {d:D} {v:V} (r:RD K H d v):RS K H (σ.set i (some v)) (ρ.set i (some d)):=by
 refine ⟨by simp [h.1],fun j e q => ?_⟩
 by_cases hij:i=j
 ·subst hij;have hi:i < ρ.length:=by
   have:=(hD.mp q).1;simpa using this
  rw [FN hi] at q
  cases q
  exact ⟨v,by rw [FN (by rw [h.1];exact hi)],r⟩
 ·rw [Hj hij] at q ⊢;exact h.2 j e q
noncomputable def jj (fr:List (Option Nat)) (ρ:ak):ak:=fr.map fun o=>o.bind fun j=>(ρ[j]?).join
theorem RS.inh {σ:St} {ρ:ak} (h:RS K H σ ρ) (fr:List (Option Nat)):RS K H (inh fr σ) (jj fr ρ):=by
 refine ⟨by simp [L2.inh,jj],fun i d e => ?_⟩
 unfold jj at e;unfold L2.inh;rw [DL] at e ⊢
 cases q:fr[i]? with
 | none=>rw [q] at e;cases e
 | some o =>
   rw [q] at e
   cases o with
   | none=>cases e
   | some j =>
     have e':some ((ρ[j]?).join)=some (some d):=e
     cases q' : ρ[j]? with
     | none=>rw [q'] at e';cases e'
     | some w =>
       rw [q'] at e'
       cases e'
       obtain ⟨v,v1,v2⟩:=h.2 j d q';exact ⟨v,by simp [v1],v2⟩
theorem RO.mono (st:Stab H H') {a:Addr} {o:O} (h:RO K H a o) (e:∀ ho,H a=some ho->H' a=some ho):RO K H' a o:=by
 cases o with
 | lst ds=>obtain ⟨vs,q,r⟩:=h;exact ⟨vs,e _ q,r.mono st⟩
 | dct t kvs =>
   cases t with
   | false=>obtain ⟨ps,q,r⟩:=h;exact ⟨ps,e _ q,Mn r fun _ _ z=>⟨z.1,z.2.mono st⟩⟩
   | true=>obtain ⟨ps,q,r⟩:=h;exact ⟨ps,e _ q,Mn r fun _ _ z=>⟨z.1,z.2.mono st⟩⟩
 | fdc kvs=>obtain ⟨ob,ps,q,r⟩:=h;exact ⟨ob,ps,e _ q,Mn r fun _ _ z=>⟨z.1,z.2.mono st⟩⟩
 | dcn kvs=>obtain ⟨xs,q,r⟩:=h;exact ⟨xs,e _ q,Mn r fun _ _ ⟨j,B,v,F,G⟩=>⟨j,B.keeps st.tup,v,F,G.mono st⟩⟩
theorem RM.new {p:Addr} {ho:HO} (r:RM K M H) (n:H p=none):RM K M (upd H p ho):=fun a o e=>by
 have ne:a≠p:=fun z=>by subst z;obtain ⟨_,q,_⟩:=r.mut e;rw [n] at q;cases q
 refine (r a o e).mono ⟨fun b xs q => ?_,fun b o u q => ?_⟩ fun j q=>by rw [ah ne];exact q
 ·rw [ah (aS q n)];exact q
 ·rw [ah (aS q n)];exact q
theorem Ms {p:Addr} {ho:HO} (n:H p=none):Ext M H M (upd H p ho):=⟨fun a o _ e=>by rw [ah (aS e n)];exact e,fun _ _ _ _=>rfl⟩
theorem RM.lay {p:Addr} {ho:HO} {o:O} (r:RM K M H) (n:H p=none) (h:RO K (upd H p ho) p o):RM K (ae M p o) (upd H p ho):=fun a o' e=>by
 by_cases z:a=p
 ·subst z;rw [aa] at e;cases e;exact h
 ·rw [aj z] at e;exact r.new n a o' e
theorem Ext.lay {p:Addr} {ho:HO} {o:O} (n:H p=none):Ext M H (ae M p o) (upd H p ho) :=
 ⟨fun a u _ e=>by rw [ah (aS e n)];exact e,fun a u m e=>by rw [aj (aS e n)]⟩
theorem RM.put {p:Addr} {ho:HO} {o o0:O} (r:RM K M H) (m:M p=some o0) (h:RO K (upd H p ho) p o) (w:fz (some o0)=false:=by rfl):RM K (ae M p o) (upd H p ho):=fun a o' e=>by
 by_cases z:a=p
 ·subst z;rw [aa] at e;cases e;exact h
 ·rw [aj z] at e;obtain ⟨J,j,B,F⟩:=r.mut m;refine (r a o' e).mono ⟨fun b xs q => ?_,fun b o u q => ?_⟩ fun G q=>by rw [ah z];exact q
  ·rw [ah (fun z=>by subst z;rw [j] at q;cases q;exact B xs rfl)];exact q
  ·rw [ah (fun z=>by subst z;rw [j] at q;cases q;exact (F w).2 o u rfl)];exact q
theorem Ext.put {p:Addr} {ho:HO} {o o0:O} (m:M p=some o0) (w:fz (some o0)=false:=by rfl):Ext M H (ae M p o) (upd H p ho) :=
 ⟨fun a u n e=>by rw [ah (fun z=>by subst z;rw [m,w] at n;cases n)];exact e,fun a u n e=>aj (fun z=>by subst z;rw [m,w] at n;cases n)⟩
theorem RM.stabPut {p:Addr} {ho:HO} {o0:O} (r:RM K M H) (m:M p=some o0) (w:fz (some o0)=false:=by rfl):Stab H (upd H p ho):=(Ext.put (o:=o0) (ho:=ho) m w).stab r
end
noncomputable abbrev QD:=D->Mem->Prop
noncomputable abbrev TEd:=ak->Mem->QD->Prop
noncomputable abbrev TTd:=ak->Mem->(Bool->Mem->Prop)->Prop
noncomputable abbrev TAd:=ak->Mem->(List D->Mem->Prop)->Prop
structure bb where
 nx:ak->Mem->Prop
 rt:QD
 bk:ak->Mem->Prop:=fun _ _=>False
 ct:ak->Mem->Prop:=fun _ _=>False
noncomputable abbrev TSd:=bb->ak->Mem->Prop
def ab (T:TEd):Prop := ∀ ρ M Q Q',(∀ d M',Q d M'->Q' d M')->T ρ M Q->T ρ M Q'
def aA (T:TTd):Prop := ∀ ρ M Q Q',(∀ d M',Q d M'->Q' d M')->T ρ M Q->T ρ M Q'
def aV (T:TAd):Prop := ∀ ρ M Q Q',(∀ d M',Q d M'->Q' d M')->T ρ M Q->T ρ M Q'
structure LeD (a b:bb):Prop where
 nx:∀ ρ M,a.nx ρ M->b.nx ρ M
 rt:∀ d M,a.rt d M->b.rt d M
 bk:∀ ρ M,a.bk ρ M->b.bk ρ M
 ct:∀ ρ M,a.ct ρ M->b.ct ρ M
def az (T:TSd):Prop := ∀ a b ρ M,LeD a b->T a ρ M->T b ρ M
noncomputable def KE' (K:Frag) (M:Mem) (H:Hp) (Q:VK):QD:=fun d M' => ∀ v H',Ext M H M' H'->RM K M' H'->RD K H' d v->Q v H'
noncomputable def KT' (K:Frag) (M:Mem) (H:Hp) (Q:Bool->Hp->Prop):Bool->Mem->Prop:=fun b M' => ∀ H',Ext M H M' H'->RM K M' H'->Q b H'
noncomputable def KA' (K:Frag) (M:Mem) (H:Hp) (Q:List V->Hp->Prop):List D->Mem->Prop:=fun ds M' => ∀ vs H',Ext M H M' H'->RM K M' H'->RDs K H' ds vs->Q vs H'
noncomputable def lE (K:Frag) (T:TEd):TE:=fun σ H Q => ∃ ρ M,RS K H σ ρ /\ RM K M H/\T ρ M (KE' K M H Q)
noncomputable def lT (K:Frag) (T:TTd):TT:=fun σ H Q => ∃ ρ M,RS K H σ ρ /\ RM K M H/\T ρ M (KT' K M H Q)
noncomputable def lA (K:Frag) (T:TAd):TA:=fun σ H Q => ∃ ρ M,RS K H σ ρ /\ RM K M H/\T ρ M (KA' K M H Q)
structure Link (K:Frag) (M:Mem) (H:Hp) (a:bb) (b:bq):Prop where
 nx:∀ ρ M' σ H',Ext M H M' H'->RS K H' σ ρ -> RM K M' H'->a.nx ρ M'->b.nx σ H'
 rt:∀ d M' v H',Ext M H M' H'->RM K M' H'->RD K H' d v->a.rt d M'->b.rt v H'
 bk:∀ ρ M' σ H',Ext M H M' H'->RS K H' σ ρ -> RM K M' H'->a.bk ρ M'->b.bk σ H'
 ct:∀ ρ M' σ H',Ext M H M' H'->RS K H' σ ρ -> RM K M' H'->a.ct ρ M'->b.ct σ H'
noncomputable def lS (K:Frag) (T:TSd):TS:=fun D σ H => ∃ ρ M A,RS K H σ ρ /\ RM K M H/\Link K M H A D/\T A ρ M
theorem Link.ext {K:Frag} {M M':Mem} {H H':Hp} {a:bb} {b:bq} (l:Link K M H a b) (x:Ext M H M' H'):Link K M' H' a b :=
 ⟨fun ρ M2 σ H2 y=>l.nx ρ M2 σ H2 (x.trans y),fun d M2 v H2 y=>l.rt d M2 v H2 (x.trans y),fun ρ M2 σ H2 y=>l.bk ρ M2 σ H2 (x.trans y),fun ρ M2 σ H2 y=>l.ct ρ M2 σ H2 (x.trans y)⟩
theorem PE.imp {X:Cx} {e:Expr} {t t':TE} (h:PE X e t) (i:∀ σ H Q,t' σ H Q->t σ H Q):PE X e t':=fun pins s σ H Q I q=>h pins s σ H Q I (i _ _ _ q)
theorem PT.imp {X:Cx} {e:Expr} {t t':TT} (h:PT X e t) (i:∀ σ H Q,t' σ H Q->t σ H Q):PT X e t':=fun pins s σ H Q I q=>h pins s σ H Q I (i _ _ _ q)
theorem PW.imp {X:Cx} {e:Expr} {t t':TT} (h:PW X e t) (i:∀ σ H Q,t' σ H Q->t σ H Q):PW X e t':=fun wh pins s σ H Q I q=>h wh pins s σ H Q I (i _ _ _ q)
theorem PA.imp {X:Cx} {e:List Expr} {t t':TA} (h:PA X e t) (i:∀ σ H Q,t' σ H Q->t σ H Q):PA X e t':=fun p pins s σ H Q I q=>h p pins s σ H Q I (i _ _ _ q)
theorem PS.imp {X:Cx} {e:Stmt} {t t':TS} (h:PS X e t) (i:∀ D σ H,t' D σ H->t D σ H):PS X e t':=fun pins s σ H D I q=>h pins s σ H D I (i _ _ _ q)
theorem PSs.imp {X:Cx} {e:List Stmt} {t t':TS} (h:PSs X e t) (i:∀ D σ H,t' D σ H->t D σ H):PSs X e t':=fun pins s σ H D I q=>h pins s σ H D I (i _ _ _ q)
end
section
theorem KE'.ext {K:Frag} {M M2 M':Mem} {H H2:Hp} {Q:VK} {d:D} (x:Ext M H M2 H2) (h:KE' K M H Q d M'):KE' K M2 H2 Q d M':=fun v H' y=>h v H' (x.trans y)
theorem KT'.ext {K:Frag} {M M2 M':Mem} {H H2:Hp} {Q:Bool->Hp->Prop} {d:Bool} (x:Ext M H M2 H2) (h:KT' K M H Q d M'):KT' K M2 H2 Q d M':=fun H' y=>h H' (x.trans y)
theorem KA'.ext {K:Frag} {M M2 M':Mem} {H H2:Hp} {Q:List V->Hp->Prop} {d:List D} (x:Ext M H M2 H2) (h:KA' K M H Q d M'):KA' K M2 H2 Q d M':=fun v H' y=>h v H' (x.trans y)
noncomputable abbrev R2d:=D->D->Mem->QD->Prop
noncomputable abbrev R1d:=D->Mem->QD->Prop
noncomputable abbrev RAd:=List D->Mem->QD->Prop
def aG (r:R2d):Prop := ∀ x y M Q Q',(∀ d M',Q d M'->Q' d M')->r x y M Q->r x y M Q'
def qj (r:R1d):Prop := ∀ x M Q Q',(∀ d M',Q d M'->Q' d M')->r x M Q->r x M Q'
def aU (r:RAd):Prop := ∀ x M Q Q',(∀ d M',Q d M'->Q' d M')->r x M Q->r x M Q'
noncomputable def l2 (K:Frag) (rd:R2d):R2:=fun v u H Q => ∃ x y M,RM K M H/\RD K H x v/\RD K H y u/\rd x y M (KE' K M H Q)
noncomputable def l1 (K:Frag) (rd:R1d):V->Hp->VK->Prop:=fun v H Q => ∃ x M,RM K M H/\RD K H x v/\rd x M (KE' K M H Q)
noncomputable def lR (K:Frag) (rd:RAd):List V->Hp->VK->Prop:=fun vs H Q => ∃ ds M,RM K M H/\RDs K H ds vs/\rd ds M (KE' K M H Q)
noncomputable def lMt (K:Frag) (rd:D->List D->Mem->QD->Prop):V->List V->Hp->VK->Prop:=fun v vs H Q => ∃ x ds M,RM K M H/\RD K H x v/\RDs K H ds vs/\rd x ds M (KE' K M H Q)
noncomputable def aI (i:Nat):TEd:=fun ρ M Q => ∃ d, ρ[i]? = some (some d)/\Q d M
noncomputable def wC (d:D):TEd:=fun _ M Q=>Q d M
noncomputable def wOp (rd:R2d) (ta tb:TEd):TEd:=fun ρ M Q=>ta ρ M fun x M1=>tb ρ M1 fun y M2=>rd x y M2 Q
noncomputable def wUn (rd:R1d) (ta:TEd):TEd:=fun ρ M Q=>ta ρ M fun x M1=>rd x M1 Q
noncomputable def ba:TAd:=fun _ M Q=>Q [] M
noncomputable def ax (ta:TEd) (tr:TAd):TAd:=fun ρ M Q=>ta ρ M fun x M1=>tr ρ M1 fun xs M2=>Q (x::xs) M2
noncomputable def wAr (rd:RAd) (t:TAd):TEd:=fun ρ M Q=>t ρ M fun ds M1=>rd ds M1 Q
theorem vd {i:Nat}:ab (aI i):=fun _ _ _ _ h ⟨d,e,q⟩=>⟨d,e,h _ _ q⟩
theorem lg {d:D}:ab (wC d):=fun _ _ _ _ h q=>h _ _ q
theorem df {rd:R2d} {ta tb:TEd} (j:aG rd) (z:ab ta) (B:ab tb):ab (wOp rd ta tb):=fun ρ M Q Q' h q =>
 z _ _ _ _ (fun x J F=>B _ _ _ _ (fun y M2 G=>j _ _ _ _ _ h G) F) q
theorem yf {rd:R1d} {ta:TEd} (j:qj rd) (z:ab ta):ab (wUn rd ta):=fun ρ M Q Q' h q=>z _ _ _ _ (fun x F B=>j _ _ _ _ h B) q
theorem aw:aV ba:=fun _ _ _ _ h q=>h _ _ q
theorem ar {ta:TEd} {tr:TAd} (j:ab ta) (z:aV tr):aV (ax ta tr):=fun ρ M Q Q' h q =>
 j _ _ _ _ (fun x G B=>z _ _ _ _ (fun xs M2 F=>h _ _ F) B) q
theorem fT {rd:RAd} {t:TAd} (j:aU rd) (z:aV t):ab (wAr rd t):=fun ρ M Q Q' h q=>z _ _ _ _ (fun ds F B=>j _ _ _ _ h B) q
section
variable {X:Cx} {a b:Expr} {ta tb:TEd} {pos:Pos}
theorem Ax {i:Nat} {x:Str} (B:X.N[i]? = some x) (j:Vis X.env.scope x) (hd:(x==("__debug__":Str))=false) (z:(x==("__classdict__":Str))=false):PE X (.Name x pos) (lE X.K (aI i)):=by
 refine PE.imp (zW B j hd z) fun σ H Q h => ?_;obtain ⟨ρ,M,rs,rm,d,e,q⟩:=h;obtain ⟨v,j,rd⟩:=rs.2 i d e;exact ⟨v,j,q v H Ext.refl rm rd⟩
theorem Ay {i:Int} {j:Nat}:PE X (.Constant (.int i) j pos) (lE X.K (wC (.int i))) :=
 PE.imp zX fun σ H Q ⟨ρ,M,rs,rm,q⟩=>q _ H Ext.refl rm (Mj.mpr rfl)
theorem BZ {i:Bool} {j:Nat}:PE X (.Constant (.bool i) j pos) (lE X.K (wC (.bl i))) :=
 PE.imp Bz fun σ H Q ⟨ρ,M,rs,rm,q⟩=>q _ H Ext.refl rm (Ml.mpr rfl)
theorem Az {j:Nat}:PE X (.Constant .none j pos) (lE X.K (wC .non)) :=
 PE.imp zY fun σ H Q ⟨ρ,M,rs,rm,q⟩=>q _ H Ext.refl rm (Mq.mpr rfl)
theorem fU {K:Frag} {rd:R2d} (L:aG rd) (ma:ab ta) (mb:ab tb) (σ:St) (H:Hp) (Q:VK) (h:lE K (wOp rd ta tb) σ H Q):tOp (l2 K rd) (lE K ta) (lE K tb) σ H Q:=by
 obtain ⟨ρ,M,rs,rm,q⟩:=h;refine ⟨ρ,M,rs,rm,ma _ _ _ _ (fun x O U v H1 G j z => ?_) q⟩;refine ⟨ρ,O,rs.mono (G.stab rm),j,mb _ _ _ _ (fun y M2 Y u H2 J B F => ?_) U⟩;exact ⟨x,y,M2,B,z.mono (J.stab j),F,L _ _ _ _ _ (fun d M' k=>k.ext (G.trans J)) Y⟩
theorem C0 {op:Kn} {rd:R2d} (ho:OpR X (EL op) (l2 X.K rd)) (j:aG rd) (ma:ab ta) (mb:ab tb) (q:PE X a (lE X.K ta)) (z:PE X b (lE X.K tb)):PE X (.BinOp a op b pos) (lE X.K (wOp rd ta tb)) :=
 PE.imp (BJ ho q z) (fU j ma mb)
theorem AA {op:CmpOp} {rd:R2d} (ho:OpR X (Eg op) (l2 X.K rd)) (j:aG rd) (ma:ab ta) (mb:ab tb) (q:PE X a (lE X.K ta)) (z:PE X b (lE X.K tb)) (hm:Gw op b=false) :
 PE X (.Compare a [op] [b] pos) (lE X.K (wOp rd ta tb)):=PE.imp (xU ho q z hm) (fU j ma mb)
noncomputable def cb (t:TEd):TTd:=fun ρ M Q=>t ρ M fun x M1 => ∃ k,x = .bl k/\Q k M1
theorem ve {t:TEd} (h:ab t):aA (cb t):=fun ρ M Q Q' i q=>h _ _ _ _ (fun x z ⟨k,e,j⟩=>⟨k,e,i _ _ j⟩) q
theorem vf {K:Frag} {t:TEd} (m:ab t) (σ:St) (H:Hp) (Q:Bool->Hp->Prop) (h:lT K (cb t) σ H Q):xf (lE K t) σ H Q:=by
 obtain ⟨ρ,M,rs,rm,q⟩:=h;refine ⟨ρ,M,rs,rm,m _ _ _ _ (fun x G ⟨k,e,B⟩ v H1 F j z => ?_) q⟩;subst e;exact ⟨k,Ml.mp z,B H1 F j⟩
theorem AB {op:CmpOp} {rd:R2d} (ho:OpR X (Eg op) (l2 X.K rd)) (j:aG rd) (ma:ab ta) (mb:ab tb) (q:PE X a (lE X.K ta)) (z:PE X b (lE X.K tb)) (hm:Gw op b=false) :
 PT X (.Compare a [op] [b] pos) (lT X.K (cb (wOp rd ta tb))) :=
 PT.imp (xV ho q z hm) fun σ H Q h=>by
  have h1:=vf (df j ma mb) σ H Q h;exact fU j ma mb σ H _ h1
theorem C1 {op:UnaryOp} {rd:R1d} (ho:UnR X (unaryOp op) (l1 X.K rd)) (B:qj rd) (ma:ab ta) (F:PE X a (lE X.K ta)):PE X (.UnaryOp op a pos) (lE X.K (wUn rd ta)) :=
 PE.imp (BK ho F) fun σ H Q ⟨ρ,M,rs,rm,q⟩=>⟨ρ,M,rs,rm,ma _ _ _ _ (fun x G J v H1 L j z=>⟨x,G,j,z,B _ _ _ _ (fun d M' k=>k.ext L) J⟩) q⟩
theorem xt {rd:R2d} (ho:IxR X (l2 X.K rd)) (j:aG rd) (ma:ab ta) (mb:ab tb) (q:PE X a (lE X.K ta)) (z:PE X b (lE X.K tb)) (B:je b):PE X (.Subscript a b pos) (lE X.K (wOp rd ta tb)) :=
 PE.imp (BQ ho q z B) (fU j ma mb)
theorem cE:PA X [] (lA X.K ba):=PA.imp ie fun σ H Q ⟨ρ,M,rs,rm,q⟩=>q _ H Ext.refl rm RDs.nil
theorem su {K:Frag} {tr:TAd} (ma:ab ta) (mr:aV tr) (σ:St) (H:Hp) (Q:List V->Hp->Prop) (h:lA K (ax ta tr) σ H Q):xg (lE K ta) (lA K tr) σ H Q:=by
 obtain ⟨ρ,M,rs,rm,q⟩:=h;refine ⟨ρ,M,rs,rm,ma _ _ _ _ (fun x L O v H1 G j z => ?_) q⟩;refine ⟨ρ,L,rs.mono (G.stab rm),j,mr _ _ _ _ (fun xs M2 U vs H2 J B F => ?_) O⟩;exact U (v::vs) H2 (G.trans J) B (RDs.cons (z.mono (J.stab j)) F)
theorem bm {e:Expr} {es:List Expr} {tr:TAd} (ma:ab ta) (mr:aV tr) (j:PE X e (lE X.K ta)) (q:PA X es (lA X.K tr)) (z:DN (e::es) X.env=(false,eval e X.env)::DN es X.env) :
 PA X (e::es) (lA X.K (ax ta tr)):=PA.imp (cn j q z) (su ma mr)
theorem bA {K:Frag} {rd:RAd} {t:TAd} (B:aU rd) (mt:aV t) (σ:St) (H:Hp) (Q:VK) (h:lE K (wAr rd t) σ H Q):tCB (lR K rd) (lA K t) σ H Q:=by
 obtain ⟨ρ,M,rs,rm,q⟩:=h;exact ⟨ρ,M,rs,rm,mt _ _ _ _ (fun ds F G vs H1 J j z=>⟨ds,F,j,z,B _ _ _ _ (fun d M' k=>k.ext J) G⟩) q⟩
noncomputable def jk:RAd:=fun ds M Q=>ds.length<=p4/\Q (.tup ds) M
noncomputable def gG:RAd:=fun ds M Q=>ds.length<=p4 /\ ∀ p,M p=none->Q (.ref p) (ae M p (.lst ds))
theorem sv:aU jk:=fun _ _ _ _ h ⟨z,q⟩=>⟨z,h _ _ q⟩
theorem sx:aU gG:=fun _ _ _ _ h ⟨z,q⟩=>⟨z,fun p n=>h _ _ (q p n)⟩
theorem dg {K:Frag} {M:Mem} {H:Hp} {Q:VK} {ds:List D} {vs:List V} {p:Addr} (rm:RM K M H) (rd:RDs K H ds vs) (q:KE' K M H Q (.tup ds) M) (n:H p=none):Q (.ref p) (upd H p (.tup vs)):=by
 have x:Ext M H M (upd H p (.tup vs)):=Ms n;exact q (.ref p) _ x (rm.new n) (Mu ⟨p,vs,rfl,ao,rd.mono (x.stab rm)⟩)
theorem cq {K:Frag} {M:Mem} {H:Hp} {Q:VK} {ds:List D} {vs:List V} {p:Addr} (rm:RM K M H) (rd:RDs K H ds vs) (q:∀ p,M p=none->KE' K M H Q (.ref p) (ae M p (.lst ds))) (n:H p=none):Q (.ref p) (upd H p (.lst vs)):=by
 have x:Ext M H (ae M p (.lst ds)) (upd H p (.lst vs)):=Ext.lay n;have x0:Ext M H M (upd H p (.lst vs)):=Ms n;exact q p (rm.out n) (.ref p) _ x (rm.lay n ⟨vs,ao,rd.mono (x0.stab rm)⟩) (Mk.mpr rfl)
theorem AC {es:List Expr} {t:TAd} {k:Nat} (mt:aV t) (h:PA X es (lA X.K t)):PE X (.Tuple es k pos) (lE X.K (wAr jk t)) :=
 PE.imp (rW h) fun σ H Q ⟨ρ,M,rs,rm,q⟩=>⟨ρ,M,rs,rm,mt _ _ _ _ (fun ds J ⟨z,F⟩ vs H1 G B j=>⟨by rw [j.length];exact z,fun p n=>dg B j (F.ext G) n⟩) q⟩
theorem AD {es:List Expr} {t:TAd} (mt:aV t) (h:PA X es (lA X.K t)):PE X (.List es pos) (lE X.K (wAr gG t)) :=
 PE.imp (Ak h) fun σ H Q ⟨ρ,M,rs,rm,q⟩=>⟨ρ,M,rs,rm,mt _ _ _ _ (fun ds J ⟨z,F⟩ vs H1 G B j=>⟨by rw [j.length];exact z,fun p n=>cq B j (fun p' n'=>(F p' n').ext G) n⟩) q⟩
end
end
end Mi
end L2
namespace L2
open PySem PySem.Spec PyProof.Rows
namespace Mi
end Mi
end L2
namespace L2
open PySem PySem.Spec PyProof.Rows
section
theorem gH:fillsNumberSlot (.type "tuple") "mul" = pure false :=
 PyProof.Rows.fillsNumberSlot_seq (id := "tuple.__mul__") (r:=some (.builtin "tuple.__rmul__")) F.slot_tuple_mul.lookup (by decide +kernel) F.slot_tuple_rmul.lookup (by decide +kernel)
theorem lh:seqRepeat? (.type "tuple")=pure (some (.builtin "tuple.__mul__")):=by
 unfold seqRepeat?;rw [Iv (T := "tuple") (name := "__mul__") (id := "tuple.__mul__") F.slot_tuple_mul.lookup (by decide +kernel),Iv (T := "tuple") (name := "__rmul__") (id := "tuple.__rmul__") F.slot_tuple_rmul.lookup (by decide +kernel)]
 rfl
theorem jl (a:Int) (t:Tok) (l:Addr) (items:Array e6) (n:Nat) (d:Option Addr) (sl:Array (Option e6)) :
 Meets (FH.«int.__rmul__» ⟨[.int a t, .ref l],[]⟩) (fun _ R s=>s.heap.get? l=some { cls := .type "tuple",dict:=d,data := .seq items n,slots:=sl }/\R (.ok (.ret Jk)) s) :=
 .of_wp fun prog w A R s h=>by obtain ⟨j,g,d,tk,os⟩:=s;obtain ⟨q,h⟩:=h;wp_walk;exact ⟨_,rfl,h⟩
open AutoSeq1 (wpAny_loadPart') in
theorem sy (l:Addr) (items:Array e6) (n:Nat) (dd:Option Addr) (sl:Array (Option e6)) (x:Int) (u:Tok) (h1 : -(2 ^ 63)<=x) (h2:x < 2 ^ 63) (B:items.size*x.toNat<=p4) :
 Meets (FH.«tuple.__mul__» ⟨[.ref l, .int x u],[]⟩) (fun _ R s=>s.heap.get? l=some { cls := .type "tuple",dict:=dd,data := .seq items n,slots:=sl } /\
  (if items.isEmpty || x==1 then R (.ok (.ret (.ref l))) s else R (.ok (.ret (.ref s.heap.objs.size))) { s with heap:=s.heap.push { cls := .type "tuple",data := .seq ((DK x.toNat items).foldl (· ++ ·) #[]) } })) :=
 .of_wp fun prog w A R s h=>by
  obtain ⟨U,g,d,tk,os⟩:=s;obtain ⟨q,h⟩:=h;have f1:=AutoSeq1.idx_int;have F:(decide (x < -(2 ^ 63)) || decide (x≥2 ^ 63))=false:=by
   rw [decide_eq_false (by lia),decide_eq_false (by lia)];rfl
  wp_walk using Fh q
  refine J4 (decide_eq_false (by rw [F];decide)) ?_
  dsimp only
  by_cases j:(items.isEmpty || x==1)=true
  ·rw [if_pos j] at h
   wp_walk using Fh q
   exact ⟨_,rfl,h⟩
  ·rw [if_neg j] at h
   wp_walk using Fh q
   simp only [J6,not_or] at j
   by_cases e2:x<=0
   ·have z:(decide (x<=0) || items.isEmpty)=true:=by rw [decide_eq_true e2];rfl
    rw [if_pos z];have G:x.toNat=0:=by lia
    rw [G] at h
    wp_walk
    exact ⟨_,rfl,h⟩
   ·have z : ¬ (decide (x<=0) || items.isEmpty)=true:=by simp;exact ⟨by lia,by simpa using j.1⟩
    rw [if_neg z];have hx:((items.size:Nat):Int)*x=((items.size*x.toNat:Nat):Int):=by
     rw [LC,Int.toNat_of_nonneg (by lia)]
    have Y:p4=16777216:=h8;have J : ¬ ((items.size:Nat):Int)*x > (2 ^ 63 - 1) / 8:=by rw [hx];lia
    rw [if_neg J];have L : ¬ HQ (((items.size:Nat):Int)*x)=true:=by
     rw [hx];unfold HQ;intro O;have Z:=of_decide_eq_true O;lia
    rw [if_neg L]
    wp_walk
    have hsz:((DK x.toNat items).foldl (· ++ ·) #[]).size<=p4:=by
     have:∀ (k:Nat) (a:Array e6),((DK k items).foldl (· ++ ·) a).size=a.size+items.size*k:=by
      intro k;induction k with
      | zero=>intro a;simp
      | succ k ih=>intro a;rw [El,Hn,ih,Array.size_append,Nat.mul_succ];lia
     rw [this];simpa using B
    refine J4 (decide_eq_false (LQ.mpr hsz)) ?_
    wp_walk
    exact ⟨_,rfl,h⟩
end
section
section
variable {X:Cx}
noncomputable def xu (K:Frag):R2:=fun x y H Q => ∃ l k xs,x = .ref l/\y = .int k/\SqT K H l xs /\ -(2 ^ 63)<=k/\k < 2 ^ 63/\xs.length*k.toNat<=p4 /\
 ((xs=[]∨k=1)->Q (.ref l) H)/\(¬ (xs=[]∨k=1) -> ∀ p,H p=none->Q (.ref p) (upd H p (.tup (DK k.toNat xs).flatten)))
theorem yg:OpR X (EL .Mult) (xu X.K):=by
 intro pins s σ H x y v u Q I rx ry h;obtain ⟨l,k,xs,rfl,rfl,G,h1,h2,j,J,L⟩:=h
 cases rx
 obtain ⟨t,rfl⟩:=ry;obtain ⟨its,r,O,_⟩:=I.tuple G;have Y:=r.length;obtain ⟨⟨cls,dd,dat,sl⟩,e,B,n,hd⟩:=O;dsimp only at B hd;subst B hd;have hlen:its.toArray.size*k.toNat<=p4:=by rw [r3, <- Y];exact j
 have f0:∀ m:Nat,Kb (fun Z x2=>Z++x2) #[] (DK m its.toArray)=(DK m its).flatten.toArray:=fun m=>by
  have:=eT its m [];rw [J1] at this;exact this
 refine HU (T := "tuple") (U := "int") (by decide) ⟨_,e,rfl⟩ (fun s'=>IM s' k t) gH LA Ho lh F.slot_int_index.lookup
  (IS Ho (IM s k t) L5 (Kx _ _) (jl k t l its.toArray n dd sl)
    ⟨e,rfl,⟨_,e,rfl⟩,IS F.slot_tuple_mul ⟨_,e,rfl⟩ F.entry_tuple_mul (F.args_tuple_mul_2 _ _) (sy l its.toArray n dd sl k t h1 h2 hlen) ⟨e, ?_⟩⟩)
 have hi:(its.toArray.isEmpty || k==1)=true↔(xs=[]∨k=1):=by
  rw [<- r.nil_iff];simp
 split
 ·next c=>exact ⟨.ref l,H,I,rfl,J (hi.mp c)⟩
 ·next c =>
  rw [f0];refine ⟨.ref s.heap.objs.size,_,I.laid (t':=s.toks) (o := .tup (DK k.toNat xs).flatten) (fun b ob q=>gV _ q) (hQ _) ?_,rfl,L (fun z=>c (hi.mpr z)) _ (I.hok.fresh (hQ _))⟩;exact ⟨by rw [oJ,Nat.mul_comm];exact j,_,r.rep k.toNat,HD _ _⟩
end
end
section
section
variable {X:Cx}
theorem yh:OpR X (EL .Add) (fun x y H Q => ∃ a b ys,x = .ref a/\y = .ref b/\SqT X.K H a []/\SqT X.K H b ys/\Q (.ref b) H):=by
 intro pins s σ H x y v u Q I rx ry h;obtain ⟨a,b,ys,rfl,rfl,U,Y,q⟩:=h
 cases rx
 cases ry
 obtain ⟨its,Z,p1,_⟩:=I.tuple U;obtain ⟨j,r2,p2,_⟩:=I.tuple Y;have e0:its=[]:=Z.nil_iff.mpr rfl;obtain ⟨⟨cls,dd,data,sl⟩,ho,L,n,hd⟩:=id p1;obtain ⟨⟨O,G,data2,J⟩,z,B,n2,hd2⟩:=id p2;simp only at L hd B hd2;subst L hd B hd2;exact Ku ⟨_,ho,rfl⟩ ⟨_,z,rfl⟩ Io JO GU GK (Gx _ _)
  (tuple_addW0 a b its.toArray j.toArray n n2 dd G sl J (by simp [e0])) ⟨ho,z,⟨.ref b,H,I,rfl,q⟩⟩
end
end
end L2
namespace L2
namespace Mi
open PySem PySem.Spec PyProof.Rows
section
def MulOk (i j:Int):Prop:=(-(2 ^ 64) < i/\i < 2 ^ 64)∨(-(2 ^ 64) < j/\j < 2 ^ 64)∨(JL i<=2 ^ 20/\JL j<=2 ^ 20)
theorem MulOk.ok {i j:Int} (h:MulOk i j):IntMulOk i j:=by
 rcases h with h | h | h
 ·exact IntMulOk.of_left (intBits_le_64 h.1 h.2)
 ·exact IntMulOk.of_right (intBits_le_64 h.1 h.2)
 ·exact IntMulOk.of_bits h.1 h.2
noncomputable def eW:R2d
 | .int i, .int j,M,Q=>Q (.int (i+j)) M
 | .tup a, .tup b,M,Q=>(a≠[]∨True)/\a.length+b.length<=p4/\Q (.tup (a++b)) M
 | .ref a, .ref b,M,Q => ∃ xs ys,M a=some (.lst xs)/\M b=some (.lst ys)/\xs.length+ys.length<=p4 /\ ∀ p,M p=none->Q (.ref p) (ae M p (.lst (xs++ys)))
 | .str x, .str y,M,Q=>x.length+y.length<=p4/\Q (.str (x++y)) M
 | _,_,_,_=>False
noncomputable def qk:R2d
 | .int i, .int j,M,Q=>Q (.int (i - j)) M
 | _,_,_,_=>False
noncomputable def gI:R2d
 | .int i, .int j,M,Q=>MulOk i j/\Q (.int (i*j)) M
 | .ref a, .int k,M,Q => ∃ xs,M a=some (.lst xs) /\ -(2 ^ 63)<=k/\k < 2 ^ 63/\xs.length*k.toNat<=p4 /\ ∀ p,M p=none->Q (.ref p) (ae M p (.lst (DK k.toNat xs).flatten))
 | .tup ds, .int k,M,Q => -(2 ^ 63)<=k/\k < 2 ^ 63/\ds.length*k.toNat<=p4/\Q (.tup (DK k.toNat ds).flatten) M
 | _,_,_,_=>False
noncomputable def kA:R2d
 | .int i, .int j,M,Q => 0 < j/\j < 2 ^ 256/\Q (.int (i / j)) M
 | _,_,_,_=>False
noncomputable def ql:R2d
 | .int i, .int j,M,Q => 0 < j/\Q (.int (i % j)) M
 | _,_,_,_=>False
noncomputable def qm:R2d
 | .int i, .int j,M,Q => 0<=j/\j<=1000000/\i.natAbs < 2 ^ 64/\Q (.int (i ^ j.toNat)) M
 | _,_,_,_=>False
theorem vg:aG eW:=by
 intro x y M Q Q' h q
 cases x <;> cases y <;> first
  | exact q.elim
  | exact h _ _ q
  | exact ⟨q.1,h _ _ q.2⟩
  | exact ⟨q.1,q.2.1,h _ _ q.2.2⟩
  | (obtain ⟨xs,ys,j,B,z,q⟩:=q;exact ⟨xs,ys,j,B,z,fun p n=>h _ _ (q p n)⟩)
theorem vh:aG qk:=by
 intro x y M Q Q' h q
 cases x <;> cases y <;> first | exact q.elim | exact h _ _ q
theorem vj:aG gI:=by
 intro x y M Q Q' h q
 cases x <;> cases y <;> first
  | exact q.elim
  | exact ⟨q.1,h _ _ q.2⟩
  | exact ⟨q.1,q.2.1,q.2.2.1,h _ _ q.2.2.2⟩
  | (obtain ⟨xs,j,z,B,F,q⟩:=q;exact ⟨xs,j,z,B,F,fun p n=>h _ _ (q p n)⟩)
theorem sB:aG kA:=by
 intro x y M Q Q' h q
 cases x <;> cases y <;> first | exact q.elim | exact ⟨q.1,q.2.1,h _ _ q.2.2⟩
theorem vk:aG ql:=by
 intro x y M Q Q' h q
 cases x <;> cases y <;> first | exact q.elim | exact ⟨q.1,h _ _ q.2⟩
theorem vm:aG qm:=by
 intro x y M Q Q' h q
 cases x <;> cases y <;> first | exact q.elim | exact ⟨q.1,q.2.1,q.2.2.1,h _ _ q.2.2.2⟩
section
variable {X:Cx}
theorem OpR.of {f:e6->e6->Sem e6} {r r':R2} (h:OpR X f r) (i:∀ v u H Q,r' v u H Q->r v u H Q):OpR X f r':=fun pins s σ H x y v u Q I rx ry q=>h pins s σ H x y v u Q I rx ry (i _ _ _ _ q)
theorem IxR.of {r r':R2} (h:IxR X r) (i:∀ v u H Q,r' v u H Q->r v u H Q):IxR X r':=fun a b pins s σ H x y v u Q I rx ry q=>h a b pins s σ H x y v u Q I rx ry (i _ _ _ _ q)
theorem CallR.of {f:e6} {r r':List V->Hp->VK->Prop} (h:CallR X f r) (i:∀ vs H Q,r' vs H Q->r vs H Q):CallR X f r':=fun pins s σ H xs us Q I rx q=>h pins s σ H xs us Q I rx (i _ _ _ q)
theorem C2 {K:Frag} {M:Mem} {H:Hp} {Q:VK} {a b:List D} {v u:V} (rm:RM K M H) (rx:RD K H (.tup a) v) (ry:RD K H (.tup b) u) (q:eW (.tup a) (.tup b) M (KE' K M H Q)):xi K v u H Q ∨ ∃ a b ys,v = .ref a/\u = .ref b/\SqT K H a []/\SqT K H b ys/\Q (.ref b) H:=by
 obtain ⟨a',vs,rfl,z,j⟩:=Mo rx;obtain ⟨b',us,rfl,B,F⟩:=Mo ry;obtain ⟨_,J,q⟩:=q;have l1:=j.length;have l2:=F.length
 by_cases G:a=[]
 ·subst G;have:vs=[]:=RDs.nil_iff.mp j;subst this;exact .inr ⟨a',b',us,rfl,rfl,z,B,q _ H Ext.refl rm ry⟩
 refine .inl ⟨a',b',vs,us,rfl,rfl,z,B,fun e=>G (FK.mp (by rw [<- l1,e];rfl)),by lia,fun e => ?_,fun _ p n=>dg rm (j.append F) q n⟩
 have eb:b=[]:=FK.mp (by rw [<- l2,e];rfl)
 subst eb;rw [Fg] at q;exact q _ H Ext.refl rm rx
theorem vn:OpR X (EL .Add) (l2 X.K eW):=by
 refine OpR.of (op_add.or ((op_catT.or yh).or (op_cat.or pX))) fun v u H Q h => ?_;obtain ⟨x,y,M,rm,rx,ry,q⟩:=h
 cases x <;> cases y <;> first
  | exact q.elim
  | (cases Mj.mp rx;cases Mj.mp ry;exact .inl ⟨_,_,rfl,rfl,q _ H Ext.refl rm (Mj.mpr rfl)⟩)
  | exact .inr (.inl (C2 rm rx ry q))
  | (cases Mk.mp rx;cases Mk.mp ry
     obtain ⟨xs,ys,F,G,z,q⟩:=q;obtain ⟨vs,h1,j⟩:=rm _ _ F;obtain ⟨us,h2,B⟩:=rm _ _ G;have l1:=j.length;have l2:=B.length;refine .inr (.inr (.inl ⟨_,_,vs,us,rfl,rfl,h1,h2,by lia,fun p n=>cq rm (j.append B) q n⟩)))
  | (cases Mr.mp rx;cases Mr.mp ry;exact .inr (.inr (.inr ⟨_,_,rfl,rfl,q.1,q.2 _ H Ext.refl rm (Mr.mpr rfl)⟩)))
theorem vp:OpR X (EL .Sub) (l2 X.K qk):=by
 refine OpR.of Ae fun v u H Q h => ?_;obtain ⟨x,y,M,rm,rx,ry,q⟩:=h
 cases x <;> cases y <;> first
  | exact q.elim
  | (cases Mj.mp rx;cases Mj.mp ry;exact ⟨_,_,rfl,rfl,q _ H Ext.refl rm (Mj.mpr rfl)⟩)
theorem op_mul_i:OpR X (EL .Mult) (rI MulOk fun i j => .int (i*j)):=opI fun _ _ _ _ _ _ _ z q=>mul_int q z.ok
theorem C3 {K:Frag} {M:Mem} {H:Hp} {Q:VK} {a:List D} {k:Int} {v u:V} (rm:RM K M H) (rx:RD K H (.tup a) v) (ry:RD K H (.int k) u) (q:gI (.tup a) (.int k) M (KE' K M H Q)):xu K v u H Q:=by
 obtain ⟨a',vs,rfl,z,j⟩:=Mo rx
 cases Mj.mp ry
 obtain ⟨B,F,G,q⟩:=q;have l1:=j.length;refine ⟨a',k,vs,rfl,rfl,z,B,F,by rw [l1];exact G,fun e => ?_,fun _ p n=>dg rm (j.rep _) q n⟩
 have ea:(DK k.toNat a).flatten=a:=by
  rcases e with e | e
  ·have:a=[]:=FK.mp (by rw [<- l1,e];rfl)
   subst this;simp
  ·subst e;simp
 rw [ea] at q;exact q _ H Ext.refl rm rx
theorem vq:OpR X (EL .Mult) (l2 X.K gI):=by
 refine OpR.of (op_mul_i.or (op_rep.or yg)) fun v u H Q h => ?_;obtain ⟨x,y,M,rm,rx,ry,q⟩:=h
 cases x <;> cases y <;> first
  | exact q.elim
  | (cases Mj.mp rx;cases Mj.mp ry;exact .inl ⟨_,_,rfl,rfl,q.1,q.2 _ H Ext.refl rm (Mj.mpr rfl)⟩)
  | (cases Mk.mp rx;cases Mj.mp ry
     obtain ⟨xs,z,B,F,G,q⟩:=q;obtain ⟨vs,h1,j⟩:=rm _ _ z;have l1:=j.length;exact .inr (.inl ⟨_,_,vs,rfl,rfl,h1,B,F,by rw [l1];exact G,fun p n=>cq rm (j.rep _) q n⟩))
  | exact .inr (.inr (C3 rm rx ry q))
theorem vt:OpR X (EL .FloorDiv) (rI (fun _ j => 0 < j/\j < 2 ^ 256) fun i j => .int (i / j)):=L2.opI fun i j _ _ _ _ _ z q=>by
 have h1:(0:Int) < j:=z.1;have h2:j < 2 ^ 256:=z.2;have B:j.natAbs.log2 < 256:=(Nat.log2_lt (by lia)).mpr (by lia)
 exact floordiv_int (by lia) (by rw [Int.fdiv_eq_ediv_of_nonneg i (by lia)];exact q) (.inl (PyProof.noPylong_of_log2 (by lia)))
theorem sC:OpR X (EL .FloorDiv) (l2 X.K kA):=by
 refine OpR.of vt fun v u H Q h => ?_;obtain ⟨x,y,M,rm,rx,ry,q⟩:=h
 cases x <;> cases y <;> first
  | exact q.elim
  | (cases Mj.mp rx;cases Mj.mp ry;exact ⟨_,_,rfl,rfl,⟨q.1,q.2.1⟩,q.2.2 _ H Ext.refl rm (Mj.mpr rfl)⟩)
theorem vw:OpR X (EL .Mod) (l2 X.K ql):=by
 refine OpR.of Af fun v u H Q h => ?_;obtain ⟨x,y,M,rm,rx,ry,q⟩:=h
 cases x <;> cases y <;> first
  | exact q.elim
  | (cases Mj.mp rx;cases Mj.mp ry;exact ⟨_,_,rfl,rfl,q.1,q.2 _ H Ext.refl rm (Mj.mpr rfl)⟩)
theorem vx:OpR X (EL .Pow) (l2 X.K qm):=by
 refine OpR.of Ag fun v u H Q h => ?_;obtain ⟨x,y,M,rm,rx,ry,q⟩:=h
 cases x <;> cases y <;> first
  | exact q.elim
  | (cases Mj.mp rx;cases Mj.mp ry;exact ⟨_,_,rfl,rfl,⟨q.1,q.2.1,q.2.2.1⟩,q.2.2.2 _ H Ext.refl rm (Mj.mpr rfl)⟩)
noncomputable def jm:R1d
 | .int i,M,Q=>Q (.int (-i)) M
 | _,_,_=>False
theorem lj:qj jm:=by
 intro x M Q Q' h q
 cases x <;> first | exact q.elim | exact h _ _ q
theorem UnR.of {f:e6->Sem e6} {r r':V->Hp->VK->Prop} (h:UnR X f r) (i:∀ v H Q,r' v H Q->r v H Q):UnR X f r':=fun pins s σ H x v Q I rx q=>h pins s σ H x v Q I rx (i _ _ _ q)
theorem vy:UnR X (unaryOp .USub) (l1 X.K jm):=by
 refine UnR.of Ah fun v H Q h => ?_;obtain ⟨x,M,rm,rx,q⟩:=h
 cases x <;> first
  | exact q.elim
  | (cases Mj.mp rx;exact ⟨_,rfl,q _ H Ext.refl rm (Mj.mpr rfl)⟩)
noncomputable def aC {α β:Type} (f : α -> Option β):List α -> Option (List β)
 | [] => some []
 | x::xs=>(f x).bind fun y=>(aC f xs).map (y :: ·)
noncomputable def rb:Nat->Mem->D->Option Kg
 | _,_, .non=>some .none
 | _,_, .bl b=>some (.bool b)
 | _,_, .int i=>some (.int i)
 | _,_, .str x=>if PyData.strOk x=true then some (.str x) else none
 | n+1,M, .tup ds=>(aC (rb n M) ds).map PyData.tuple
 | n+1,M, .con ds=>(aC (rb n M) ds).map Lv
 | n+1,M, .ref a=>match M a with
   | some (.lst ds)=>(aC (rb n M) ds).map Lv
   | _=>none
 | 0,_, .tup _=>none
 | 0,_, .con _=>none
 | 0,_, .ref _=>none
 | _,_, .fn _=>none
theorem cU {n:Nat} {M:Mem} (ih:∀ d p,rb n M d=some p->p.depth<=n/\p.canLay0=true):∀ {ds:List D} {ps:List Kg},aC (rb n M) ds=some ps->Fi ps<=n/\Fu ps=true
 | [],ps,h=>by
  simp [aC] at h;subst h;exact ⟨EN _,rfl⟩
 | d::ds,ps,h=>by
   simp only [aC] at h
   cases e1:rb n M d with
   | none=>rw [e1] at h;cases h
   | some p =>
     rw [e1] at h
     cases e2:aC (rb n M) ds with
     | none=>simp [e2] at h
     | some qs =>
       simp [e2] at h;subst h;obtain ⟨a1,a2⟩:=ih d p e1;obtain ⟨b1,b2⟩:=cU ih e2;refine ⟨?_, ?_⟩
       ·show max p.depth (Fi qs)<=n;lia
       ·show (p.canLay0&&Fu qs)=true;rw [a2,b2];rfl
theorem bT {M:Mem}:∀ (n:Nat) (d:D) (p:Kg),rb n M d=some p->p.depth<=n/\p.canLay0=true
 | n, .non,p,h=>by simp [rb] at h;subst h;exact ⟨EN _,rfl⟩
 | n, .bl b,p,h=>by simp [rb] at h;subst h;exact ⟨EN _,rfl⟩
 | n, .int b,p,h=>by simp [rb] at h;subst h;exact ⟨EN _,rfl⟩
 | n, .str x,p,h=>by
   simp [rb] at h;obtain ⟨h1,h2⟩:=h;subst h2;exact ⟨EN _,h1⟩
 | 0, .tup _,p,h=>by simp [rb] at h
 | 0, .con _,p,h=>by simp [rb] at h
 | 0, .ref _,p,h=>by simp [rb] at h
 | n, .fn _,p,h=>by simp [rb] at h
 | n+1, .tup ds,p,h=>by
   simp only [rb] at h
   cases e:aC (rb n M) ds with
   | none=>rw [e] at h;cases h
   | some ps =>
     rw [e] at h;cases h;obtain ⟨a,b⟩:=cU (bT n) e;exact ⟨Iw a,b⟩
 | n+1, .con ds,p,h=>by
   simp only [rb] at h
   cases e:aC (rb n M) ds with
   | none=>rw [e] at h;cases h
   | some ps =>
     rw [e] at h;cases h;obtain ⟨a,b⟩:=cU (bT n) e;exact ⟨Iw a,b⟩
 | n+1, .ref a,p,h=>by
   simp only [rb] at h
   cases e0:M a with
   | none=>rw [e0] at h;cases h
   | some o =>
     rw [e0] at h
     cases o with
     | dct _ _=>cases h
     | fdc _=>cases h
     | dcn _=>cases h
     | lst ds =>
       simp only at h
       cases e:aC (rb n M) ds with
       | none=>rw [e] at h;cases h
       | some ps =>
         rw [e] at h;cases h;obtain ⟨a,b⟩:=cU (bT n) e;exact ⟨Iw a,b⟩
theorem cV {K:Frag} {H:Hp} {n:Nat} {M:Mem} {h:Heap} (ih:∀ d p v u,rb n M d=some p->RD K H d v->RelV v u -> ∃ as,Reads h u p as) :
 ∀ {ds:List D} {ps:List Kg} {vs:List V} {us:List e6},aC (rb n M) ds=some ps->RDs K H ds vs->Vals vs us -> ∃ as,ReadsAll h us ps as
 | [],ps,vs,us,hm,r,rv=>by
  simp [aC] at hm;subst hm;rw [RDs.nil_iff.mp r] at rv
  cases rv
  exact ⟨_, .nil⟩
 | d::ds,ps,vs,us,hm,r,rv=>by
   obtain ⟨v,vr,rfl,j,q⟩:=Mm.mp r
   cases rv with
   | cons z B =>
     simp only [aC] at hm
     cases e1:rb n M d with
     | none=>rw [e1] at hm;cases hm
     | some p =>
       rw [e1] at hm
       cases e2:aC (rb n M) ds with
       | none=>simp [e2] at hm
       | some qs =>
         simp [e2] at hm;subst hm;obtain ⟨as,ra⟩:=ih d p v _ e1 j z;obtain ⟨bs,rbs⟩:=cV ih e2 q B;exact ⟨_, .cons ra rbs⟩
theorem bU {pins:List (Addr×Obj)} {σ:St} {H:Hp} {s:h6} {M:Mem} (I:Inv X pins σ H s) (rm:RM X.K M H):∀ (n:Nat) (d:D) (p:Kg) (v:V) (u:e6),rb n M d=some p->RD X.K H d v->RelV v u -> ∃ as,Reads s.heap u p as
 | n, .non,p,v,u,h,r,q=>by simp [rb] at h;subst h;cases Mq.mp r;cases q;exact ⟨_, .none⟩
 | n, .bl b,p,v,u,h,r,q=>by simp [rb] at h;subst h;cases Ml.mp r;cases q;exact ⟨_, .bool b⟩
 | n, .int b,p,v,u,h,r,q=>by simp [rb] at h;subst h;cases Mj.mp r;obtain ⟨t,rfl⟩:=q;exact ⟨_, .int b t⟩
 | n, .str x,p,v,u,h,r,q=>by
   simp [rb] at h;obtain ⟨_,h2⟩:=h;subst h2;cases Mr.mp r;obtain ⟨t,rfl⟩:=q;exact ⟨_, .str x t⟩
 | 0, .tup _,p,_,_,h,_,_=>by simp [rb] at h
 | 0, .con _,p,_,_,h,_,_=>by simp [rb] at h
 | 0, .ref _,p,_,_,h,_,_=>by simp [rb] at h
 | n, .fn _,p,_,_,h,_,_=>by simp [rb] at h
 | n+1, .tup ds,p,v,u,h,r,q=>by
   simp only [rb] at h
   cases e:aC (rb n M) ds with
   | none=>rw [e] at h;cases h
   | some ps =>
     rw [e] at h;cases h;obtain ⟨a,vs,rfl,j,rs⟩:=Mo r
     cases q
     obtain ⟨its,rv,⟨o,ho,z,k,hd⟩,_⟩:=I.tuple j;obtain ⟨as,ra⟩:=cV (bU I rm n) e rs rv;exact ⟨_, .tuple ho z hd (by simpa using ra)⟩
 | n+1, .con ds,p,v,u,h,r,q=>by
   simp only [rb] at h
   cases e:aC (rb n M) ds with
   | none=>rw [e] at h;cases h
   | some ps =>
     rw [e] at h;cases h;obtain ⟨a,vs,rfl,j,rs⟩:=Mp.mp r
     cases q
     obtain ⟨its,rv,⟨o,k,ho,z,_,hd⟩,_⟩:=I.list j.sq;obtain ⟨as,ra⟩:=cV (bU I rm n) e rs rv;exact ⟨_, .list ho z hd (by simpa using ra)⟩
 | n+1, .ref a,p,v,u,h,r,q=>by
   simp only [rb] at h
   cases e0:M a with
   | none=>rw [e0] at h;cases h
   | some o =>
     rw [e0] at h
     cases o with
     | dct _ _=>cases h
     | fdc _=>cases h
     | dcn _=>cases h
     | lst ds =>
       simp only at h
       cases e:aC (rb n M) ds with
       | none=>rw [e] at h;cases h
       | some ps =>
         rw [e] at h;cases h
         cases Mk.mp r
         cases q
         obtain ⟨vs,j,rs⟩:=rm _ _ e0;obtain ⟨its,rv,⟨o,k,ho,z,_,hd⟩,_⟩:=I.list (SqL.of j);obtain ⟨as,ra⟩:=cV (bU I rm n) e rs rv;exact ⟨_, .list ho z hd (by simpa using ra)⟩
noncomputable def wEq:R2d:=fun x y M Q => ∃ p q,rb 16 M x=some p/\rb 16 M y=some q/\Q (.bl (Ep p q)) M
noncomputable def wNe:R2d:=fun x y M Q => ∃ p q,rb 16 M x=some p/\rb 16 M y=some q/\Q (.bl (!PyData.eqv p q)) M
theorem yi:aG wEq:=fun _ _ _ _ _ h ⟨p,q,a,b,c⟩=>⟨p,q,a,b,h _ _ c⟩
theorem yj:aG wNe:=fun _ _ _ _ _ h ⟨p,q,a,b,c⟩=>⟨p,q,a,b,h _ _ c⟩
theorem yk (F:X.A.units+16 < F8):OpR X (Eg .Eq) (l2 X.K wEq):=by
 intro pins s σ H x y v u Q I rx ry h;obtain ⟨d,e,M,rm,rd,re,p,q,j,z,k⟩:=h;obtain ⟨as,ra⟩:=bU I rm _ _ _ _ _ j rd rx;obtain ⟨bs,rb'⟩:=bU I rm _ _ _ _ _ z re ry;obtain ⟨G,p2⟩:=bT _ _ _ j;obtain ⟨J,B⟩:=bT _ _ _ z;exact SeqAt.compareEq_reads ra rb' p2 B (by lia) ⟨.bl _,H,I,rfl,k _ H Ext.refl rm (Ml.mpr rfl)⟩
theorem ym (F:X.A.units+16 < F8):OpR X (Eg .NotEq) (l2 X.K wNe):=by
 intro pins s σ H x y v u Q I rx ry h;obtain ⟨d,e,M,rm,rd,re,p,q,j,z,k⟩:=h;obtain ⟨as,ra⟩:=bU I rm _ _ _ _ _ j rd rx;obtain ⟨bs,rb'⟩:=bU I rm _ _ _ _ _ z re ry;obtain ⟨G,p2⟩:=bT _ _ _ j;obtain ⟨J,B⟩:=bT _ _ _ z;exact SeqAt.compareNe_reads ra rb' p2 B (by lia) ⟨.bl _,H,I,rfl,k _ H Ext.refl rm (Ml.mpr rfl)⟩
noncomputable def wLt:R2d
 | .int i, .int j,M,Q=>Q (.bl (decide (i < j))) M
 | _,_,_,_=>False
noncomputable def wLe:R2d
 | .int i, .int j,M,Q=>Q (.bl (decide (i<=j))) M
 | _,_,_,_=>False
noncomputable def wGt:R2d
 | .int i, .int j,M,Q=>Q (.bl (decide (j < i))) M
 | _,_,_,_=>False
noncomputable def wGe:R2d
 | .int i, .int j,M,Q=>Q (.bl (decide (j<=i))) M
 | _,_,_,_=>False
theorem yn:aG wLt:=by
 intro x y M Q Q' h q
 cases x <;> cases y <;> first | exact q.elim | exact h _ _ q
theorem yo:aG wGt:=by
 intro x y M Q Q' h q
 cases x <;> cases y <;> first | exact q.elim | exact h _ _ q
theorem yp:aG wGe:=by
 intro x y M Q Q' h q
 cases x <;> cases y <;> first | exact q.elim | exact h _ _ q
theorem yq:OpR X (Eg .Lt) (l2 X.K wLt):=by
 refine OpR.of BL fun v u H Q h => ?_;obtain ⟨x,y,M,rm,rx,ry,q⟩:=h
 cases x <;> cases y <;> first
  | exact q.elim
  | (cases Mj.mp rx;cases Mj.mp ry;exact ⟨_,_,rfl,rfl,q _ H Ext.refl rm (Ml.mpr rfl)⟩)
theorem yr:OpR X (Eg .Gt) (l2 X.K wGt):=by
 refine OpR.of BM fun v u H Q h => ?_;obtain ⟨x,y,M,rm,rx,ry,q⟩:=h
 cases x <;> cases y <;> first
  | exact q.elim
  | (cases Mj.mp rx;cases Mj.mp ry;exact ⟨_,_,rfl,rfl,q _ H Ext.refl rm (Ml.mpr rfl)⟩)
theorem yt:OpR X (Eg .GtE) (l2 X.K wGe):=by
 refine OpR.of BN fun v u H Q h => ?_;obtain ⟨x,y,M,rm,rx,ry,q⟩:=h
 cases x <;> cases y <;> first
  | exact q.elim
  | (cases Mj.mp rx;cases Mj.mp ry;exact ⟨_,_,rfl,rfl,q _ H Ext.refl rm (Ml.mpr rfl)⟩)
end
end
section
noncomputable def wIx:R2d:=fun x y M Q=>match x with
 | .tup ds => ∃ i d,y = .int i/\atI ds i=some d/\Q d M
 | .con ds => ∃ i d,y = .int i/\atI ds i=some d/\Q d M
 | .ref a=>(∃ ds i d,M a=some (.lst ds)/\y = .int i/\atI ds i=some d/\Q d M)∨(∃ t kvs d,M a=some (.dct t kvs)/\iB t y=true/\dget kvs y=some d/\Q d M) ∨ ∃ kvs d,M a=some (.fdc kvs)/\bD y=true/\dget kvs y=some d/\Q d M
 | _=>False
theorem oO:aG wIx:=by
 intro x y M Q Q' h q
 cases x with
 | tup ds=>obtain ⟨i,d,e,j,q⟩:=q;exact ⟨i,d,e,j,h _ _ q⟩
 | con ds=>obtain ⟨i,d,e,j,q⟩:=q;exact ⟨i,d,e,j,h _ _ q⟩
 | ref a =>
   rcases q with ⟨ds,i,d,z,j,B,q⟩ | ⟨t,kvs,d,z,j,B,q⟩ | ⟨kvs,d,z,j,B,q⟩
   ·exact .inl ⟨ds,i,d,z,j,B,h _ _ q⟩
   ·exact .inr (.inl ⟨t,kvs,d,z,j,B,h _ _ q⟩)
   ·exact .inr (.inr ⟨kvs,d,z,j,B,h _ _ q⟩)
 | _=>exact q.elim
theorem ll {K:Frag} {H:Hp} {ds:List D} {vs:List V} {i:Int} {d:D} (r:RDs K H ds vs) (e:atI ds i=some d):∃ v,atI vs i=some v/\RD K H d v:=by
 unfold atI at e ⊢;rw [r.length]
 cases q:ixN ds.length i with
 | none=>rw [q] at e;cases e
 | some j =>
   rw [q] at e;exact r.get e
theorem jn {K:Frag} {H:Hp} {k:D} {q:Key} {v:V} (r:RKey k q) (h:RD K H k v):v=kV q:=by
 cases k <;> first
  | exact r.elim
  | (cases (show q=_ from r);first | exact Mj.mp h | exact Mr.mp h)
theorem eD {K:Frag} {H:Hp}:∀ {ds:List D} {ks:List Key} {vs:List V},E1 RKey ds ks->RDs K H ds vs->vs=ks.map kV
 | _,_,vs, .nil,h=>by rw [RDs.nil_iff.mp h];rfl
 | _,_,vs, .cons r t,h=>by
   obtain ⟨v,vr,rfl,h1,h2⟩:=Mm.mp h;rw [jn r h1,eD t h2];rfl
theorem RKey.inj {d e:D} {k:Key} (a:RKey d k) (b:RKey e k):d=e:=by
 cases d <;> first
  | exact a.elim
  | (cases e <;> first | exact b.elim | (cases (show k=_ from a);injection (show _=_ from b) with z;rw [z]) | (cases (show k=_ from a);cases (show _=_ from b)))
theorem RKeysP.inj:∀ {d e:List D} {k:List Key},E1 RKey d k->E1 RKey e k->d=e
 | _,_,_, .nil, .nil=>rfl
 | _,_,_, .cons r t, .cons r' t'=>by rw [r.inj r',RKeysP.inj t t']
theorem RKeys.inj {d e:D} {k:List Key} (a:RKeys d k) (b:RKeys e k):d=e:=by
 cases d <;> first
  | exact a.elim
  | (cases e <;> first | exact b.elim | exact congrArg D.tup (RKeysP.inj a b))
theorem RKey.fun {d:D} {k k':Key} (a:RKey d k) (b:RKey d k'):k=k':=by
 cases d <;> first
  | exact a.elim
  | (cases (show k=_ from a);cases (show k'=_ from b);rfl)
theorem RKeysP.fun:∀ {d:List D} {k k':List Key},E1 RKey d k->E1 RKey d k'->k=k'
 | _,_,_, .nil, .nil=>rfl
 | _,_,_, .cons r t, .cons r' t'=>by rw [r.fun r',RKeysP.fun t t']
theorem RKeys.fun {d:D} {k k':List Key} (a:RKeys d k) (b:RKeys d k'):k=k':=by
 cases d <;> first
  | exact a.elim
  | exact RKeysP.fun a b
section
variable {κ:Type} [DecidableEq κ] {K:Frag} {H:Hp} {RK:D -> κ -> Prop} (inj:∀ {d e:D} {k : κ},RK d k->RK e k->d=e) (fn:∀ {d:D} {k k' : κ},RK d k->RK d k'->k=k')
include inj fn
theorem eE {k:D} {q : κ} (j:RK k q):∀ {kvs:List (D×D)} {ps:List (κ × V)},E1 (fun p r=>RK p.1 r.1/\RD K H p.2 r.2) kvs ps ->
 (∀ d,dget kvs k=some d -> ∃ v,bB ps q=some v/\RD K H d v)/\(dget kvs k=none->bB ps q=none)
 | _,_, .nil=>⟨fun d e=>by simp [dget] at e,fun _=>rfl⟩
 | _,_, .cons (a:=p) (b:=r) (l₂ := ps) B t=>by
   obtain ⟨F,G⟩:=eE j t
   by_cases e:p.1=k
   ·have e':r.1=q:=by
     have h1:=B.1;rw [e] at h1;exact fn h1 j
    refine ⟨fun d he => ?_,fun he => ?_⟩
    ·simp [dget,EZ,e] at he;subst he;exact ⟨r.2,eh e',B.2⟩
    ·simp [dget,EZ,e] at he
   ·have e' : ¬ r.1=q:=fun z=>e (by
     have h1:=B.1;rw [z] at h1;exact inj h1 j)
    have eq1:∀ l:List (D×D),dget (p::l) k=dget l k:=fun l=>by simp [dget,EZ,e]
    have eq2:bB (r::ps) q=bB ps q:=en e';refine ⟨fun d he => ?_,fun he => ?_⟩
    ·rw [eq1] at he;rw [eq2];exact F d he
    ·rw [eq1] at he;rw [eq2];exact G he
end
section
variable {X:Cx}
theorem sD {K:Frag} {H:Hp} {a:Addr} {ps:List (List Key×V)} {kvs:List (D×D)} {k:D} {v:V} (B:Rd H a (.dT ps)) (pr:E1 (fun (p:D×D) (q:List Key×V)=>RKeys p.1 q.1/\RD K H p.2 q.2) kvs ps) (ok:bD k=true) (rk:RD K H k v) :
 ∃ o,DGet H a v o/\(∀ d,dget kvs k=some d -> ∃ w,o=some w/\RD K H d w)/\(dget kvs k=none->o=none):=by
 obtain ⟨q,j⟩:=jh ok;obtain ⟨g1,g2⟩:=eE (RK:=RKeys) RKeys.inj RKeys.fun j pr;refine ⟨bB ps q, ?_,g1,g2⟩
 cases k <;> first
  | exact j.elim
  | (obtain ⟨b,us,rfl,z,ru⟩:=Mt (ji ok) rk
     rw [eD j ru] at z;exact .inr ⟨ps,q,b,B,rfl,z,rfl⟩)
theorem oP {K:Frag} {M:Mem} {H:Hp} {a:Addr} {t:Bool} {kvs:List (D×D)} {k:D} {v:V} (rm:RM K M H) (e:M a=some (.dct t kvs)) (ok:iB t k=true) (rk:RD K H k v) :
 ∃ o,DGet H a v o/\(∀ d,dget kvs k=some d -> ∃ w,o=some w/\RD K H d w)/\(dget kvs k=none->o=none):=by
 have ro:=rm a _ e
 cases t with
 | false =>
   obtain ⟨ps,j,pr⟩:=ro;obtain ⟨q,z⟩:=lf (show eC k=true from ok);obtain ⟨g1,g2⟩:=eE (RK:=RKey) RKey.inj RKey.fun z pr;refine ⟨bB ps q, ?_,g1,g2⟩;rw [jn z rk];exact DGet.k j
 | true =>
   obtain ⟨ps,j,pr⟩:=ro;exact sD (.inl j) pr ok rk
theorem yu (j:X.A.units+1 < F8):IxR X (fun x y H Q => ∃ a v,x = .ref a/\DGet H a y (some v)/\Q v H):=by
 intro value slice pins s σ H x y v u Q I rx ry h hs;obtain ⟨a,w,rfl,g,q⟩:=h
 cases rx
 have hd:IsD H a:=by
  rcases g with ⟨kvs,k,e,_⟩ | ⟨kvs,k,b,e,_⟩
  ·exact .inl ⟨kvs,e⟩
  ·exact .inr ⟨kvs,e⟩
 obtain ⟨z,_⟩:=kR I hd;exact LO z PySem.F.slot_dict_getitem.lookup (sf j I g ry fun w' s' I' r'=>⟨w,H,I',r',q⟩) hs
theorem CS (G:X.A.units+1 < F8):IxR X (l2 X.K wIx):=by
 refine IxR.of (ix_list.or (ix_tup.or (yu G))) fun v u H Q h => ?_;obtain ⟨x,y,M,rm,rx,ry,q⟩:=h
 cases x with
 | tup ds =>
   obtain ⟨i,d,rfl,e,q⟩:=q;obtain ⟨a,vs,rfl,j,rs⟩:=Mo rx
   cases Mj.mp ry
   obtain ⟨w,hw,rw'⟩:=ll rs e;exact .inr (.inl ⟨a,vs,i,w,rfl,rfl,j,hw,q w H Ext.refl rm rw'⟩)
 | con ds =>
   obtain ⟨i,d,rfl,e,q⟩:=q;obtain ⟨a,vs,rfl,j,rs⟩:=Mp.mp rx
   cases Mj.mp ry
   obtain ⟨w,hw,rw'⟩:=ll rs e;exact .inl ⟨a,vs,i,w,rfl,rfl,j.sq,hw,q w H Ext.refl rm rw'⟩
 | ref a =>
   cases Mk.mp rx
   rcases q with ⟨ds,i,d,z,rfl,B,q⟩ | ⟨t,kvs,d,z,F,B,q⟩ | ⟨kvs,d,z,F,B,q⟩
   ·cases Mj.mp ry
    obtain ⟨vs,j,rs⟩:=rm _ _ z;obtain ⟨w,hw,rw'⟩:=ll rs B;exact .inl ⟨a,vs,i,w,rfl,rfl,SqL.of j,hw,q w H Ext.refl rm rw'⟩
   ·obtain ⟨o,g,g1,_⟩:=oP rm z F ry;obtain ⟨w,rfl,rw'⟩:=g1 d B;exact .inr (.inr ⟨a,w,rfl,g,q w H Ext.refl rm rw'⟩)
   ·obtain ⟨ob,ps,J,pr⟩:=rm _ _ z;obtain ⟨o,g,g1,_⟩:=sD (.inr ⟨ob,J⟩) pr F ry;obtain ⟨w,rfl,rw'⟩:=g1 d B;exact .inr (.inr ⟨a,w,rfl,g,q w H Ext.refl rm rw'⟩)
 | _=>exact q.elim
noncomputable def gJ (M:Mem):D->Option Nat
 | .tup ds=>some ds.length
 | .con ds=>some ds.length
 | .ref a=>match M a with
  | some (.lst ds)=>some ds.length
  | _=>none
 | _=>none
noncomputable def du:RAd:=fun xs M Q => ∃ x n,xs=[x]/\gJ M x=some n/\Q (.int n) M
theorem lm:aU du:=fun _ _ _ _ h ⟨x,n,e,l,q⟩=>⟨x,n,e,l,h _ _ q⟩
theorem RDs.one {K:Frag} {H:Hp} {d:D} {vs:List V} (h:RDs K H [d] vs):∃ v,vs=[v]/\RD K H d v:=by
 obtain ⟨v,r,rfl,h1,h2⟩:=Mm.mp h;rw [RDs.nil_iff.mp h2];exact ⟨v,rfl,h1⟩
theorem RDs.two {K:Frag} {H:Hp} {d e:D} {vs:List V} (h:RDs K H [d,e] vs):∃ v u,vs=[v,u]/\RD K H d v/\RD K H e u:=by
 obtain ⟨v,r,rfl,h1,h2⟩:=Mm.mp h;obtain ⟨u,rfl,j⟩:=RDs.one h2;exact ⟨v,u,rfl,h1,j⟩
theorem qo:CallR X (.builtin "len") (lR X.K du):=by
 refine CallR.of uQ fun vs H Q h => ?_;obtain ⟨ds,M,rm,rs,x,n,rfl,l,q⟩:=h;obtain ⟨v,rfl,r⟩:=rs.one;refine ⟨v,n,rfl, ?_,q _ H Ext.refl rm (Mj.mpr rfl)⟩
 cases x with
 | tup ds =>
   cases l
   obtain ⟨a,us,rfl,j,ru⟩:=Mo r;exact .inr ⟨us,j,ru.length.symm⟩
 | con ds =>
   cases l
   obtain ⟨a,us,rfl,j,ru⟩:=Mp.mp r;exact .inl ⟨us,j.sq,ru.length.symm⟩
 | ref a =>
   cases Mk.mp r
   simp only [gJ] at l
   cases e:M a with
   | none=>rw [e] at l;cases l
   | some o =>
     rw [e] at l
     cases o with
     | dct _ _=>cases l
     | fdc _=>cases l
     | dcn _=>cases l
     | lst ds =>
       cases l
       obtain ⟨us,j,ru⟩:=rm _ _ e;exact .inl ⟨us,SqL.of j,ru.length.symm⟩
 | _=>cases l
noncomputable def ln:RAd:=fun xs M Q => ∃ i,xs=[.int i]/\Q (.int (if i < 0 then -i else i)) M
noncomputable def kB:RAd:=fun xs M Q => ∃ i j,xs=[.int i, .int j]/\Q (.int (if j < i then j else i)) M
noncomputable def jo:RAd:=fun xs M Q=>(∃ i,xs=[.int i]/\Q (.int i) M) ∨ ∃ k,xs=[.bl k]/\Q (.int (if k then 1 else 0)) M
theorem lq:aU ln:=fun _ _ _ _ h ⟨i,e,q⟩=>⟨i,e,h _ _ q⟩
theorem jR:aU kB:=fun _ _ _ _ h ⟨i,j,e,q⟩=>⟨i,j,e,h _ _ q⟩
theorem lu:aU jo:=fun _ _ _ _ h q=>q.elim (fun ⟨i,e,q⟩ => .inl ⟨i,e,h _ _ q⟩) fun ⟨i,e,q⟩ => .inr ⟨i,e,h _ _ q⟩
theorem qq:CallR X (.builtin "abs") (lR X.K ln):=by
 refine CallR.of uP fun vs H Q h => ?_;obtain ⟨ds,M,rm,rs,i,rfl,q⟩:=h;obtain ⟨v,rfl,r⟩:=rs.one
 cases Mj.mp r
 exact ⟨i,rfl,q _ H Ext.refl rm (Mj.mpr rfl)⟩
theorem om (z:X.calm=true):CallR X (.builtin "min") (lR X.K kB):=by
 refine CallR.of (rR z) fun vs H Q h => ?_;obtain ⟨ds,M,rm,rs,i,j,rfl,q⟩:=h;obtain ⟨v,u,rfl,B,F⟩:=rs.two
 cases Mj.mp B
 cases Mj.mp F
 exact ⟨i,j,rfl,q _ H Ext.refl rm (Mj.mpr rfl)⟩
theorem qr:CallR X (.type "int") (lR X.K jo):=by
 refine CallR.of rS fun vs H Q h => ?_;obtain ⟨ds,M,rm,rs,⟨i,rfl,q⟩ | ⟨i,rfl,q⟩⟩:=h
 ·obtain ⟨v,rfl,r⟩:=rs.one
  cases Mj.mp r
  exact .inl ⟨i,rfl,q _ H Ext.refl rm (Mj.mpr rfl)⟩
 ·obtain ⟨v,rfl,r⟩:=rs.one
  cases Ml.mp r
  exact .inr ⟨i,rfl,q _ H Ext.refl rm (Mj.mpr rfl)⟩
noncomputable def av (M:Mem):D->Option (List D)
 | .tup ds=>some ds
 | .con ds=>some ds
 | .ref a=>match M a with
  | some (.lst ds)=>some ds
  | _=>none
 | _=>none
theorem lw {K:Frag} {M:Mem} {H:Hp} {x:D} {ds:List D} {v:V} (rm:RM K M H) (r:RD K H x v) (e:av M x=some ds):∃ p vs,v = .ref p/\(SqL K H p vs∨SqT K H p vs)/\RDs K H ds vs:=by
 cases x with
 | tup es =>
   cases e
   obtain ⟨a,us,rfl,j,ru⟩:=Mo r;exact ⟨a,us,rfl, .inr j,ru⟩
 | con es =>
   cases e
   obtain ⟨a,us,rfl,j,ru⟩:=Mp.mp r;exact ⟨a,us,rfl, .inl j.sq,ru⟩
 | ref a =>
   cases Mk.mp r
   simp only [av] at e
   cases e0:M a with
   | none=>rw [e0] at e;cases e
   | some o =>
     rw [e0] at e
     cases o with
     | dct _ _=>cases e
     | fdc _=>cases e
     | dcn _=>cases e
     | lst es =>
       cases e
       obtain ⟨us,j,ru⟩:=rm _ _ e0;exact ⟨a,us,rfl, .inl (SqL.of j),ru⟩
 | _=>cases e
noncomputable def qt:RAd:=fun xs M Q => ∃ x ds,xs=[x]/\av M x=some ds /\ ∀ p,M p=none->Q (.ref p) (ae M p (.lst ds))
noncomputable def lB:RAd:=fun xs M Q => ∃ x ds,xs=[x]/\av M x=some ds/\Q (.tup ds) M
theorem jS:aU qt:=fun _ _ _ _ h ⟨x,ds,e,l,q⟩=>⟨x,ds,e,l,fun p n=>h _ _ (q p n)⟩
theorem iC:aU lB:=fun _ _ _ _ h ⟨x,ds,e,l,q⟩=>⟨x,ds,e,l,h _ _ q⟩
theorem oo:CallR X (.type "list") (lR X.K qt):=by
 refine CallR.of kN fun vs H Q h => ?_;obtain ⟨ds,M,rm,rs,x,es,rfl,l,q⟩:=h;obtain ⟨v,rfl,r⟩:=rs.one;obtain ⟨p,us,rfl,sq,ru⟩:=lw rm r l;exact ⟨p,us,rfl,sq,fun l' n=>cq rm ru q n⟩
theorem lD:CallR X (.type "tuple") (lR X.K lB):=by
 refine CallR.of km fun vs H Q h => ?_;obtain ⟨ds,M,rm,rs,x,es,rfl,l,q⟩:=h;obtain ⟨v,rfl,r⟩:=rs.one
 cases x with
 | tup ds' =>
   cases l
   obtain ⟨a,us,rfl,j,ru⟩:=Mo r;exact ⟨a,us,rfl, .inr ⟨j,q _ H Ext.refl rm r⟩⟩
 | con ds' =>
   cases l
   obtain ⟨a,us,rfl,j,ru⟩:=Mp.mp r;exact ⟨a,us,rfl, .inl ⟨j.sq,fun l' n=>dg rm ru q n⟩⟩
 | ref a =>
   cases Mk.mp r
   simp only [av] at l
   cases e0:M a with
   | none=>rw [e0] at l;cases l
   | some o =>
     rw [e0] at l
     cases o with
     | dct _ _=>cases l
     | fdc _=>cases l
     | dcn _=>cases l
     | lst es' =>
       cases l
       obtain ⟨us,j,ru⟩:=rm _ _ e0;exact ⟨a,us,rfl, .inl ⟨SqL.of j,fun l' n=>dg rm ru q n⟩⟩
 | _=>cases l
end
end
section
section
variable {X:Cx}
theorem RDs.ints_eq {K:Frag} {H:Hp}:∀ {ns:List Int} {vs:List V},RDs K H (ns.map D.int) vs->vs=ns.map V.int
 | [],_,h=>RDs.nil_iff.mp h
 | n::ns,_,h=>by
   obtain ⟨v,r,rfl,h1,h2⟩:=Mm.mp h;rw [Mj.mp h1,RDs.ints_eq h2];rfl
noncomputable def lF (M:Mem):D->Option Bool
 | .non=>some false
 | .bl b=>some b
 | .int i=>some (i != 0)
 | .tup ds=>some (!ds.isEmpty)
 | .con ds=>some (!ds.isEmpty)
 | .ref a=>match M a with
  | some (.lst ds)=>some (!ds.isEmpty)
  | _=>none
 | _=>none
noncomputable def lH (t:TEd):TTd:=fun ρ M Q=>t ρ M fun x M1 => ∃ b,lF M1 x=some b/\Q b M1
theorem vz {t:TEd} (h:ab t):aA (lH t):=fun ρ M Q Q' i q=>h _ _ _ _ (fun x z ⟨k,e,j⟩=>⟨k,e,i _ _ j⟩) q
theorem AE {K:Frag} {M:Mem} {H:Hp} {x:D} {b:Bool} {v:V} (rm:RM K M H) (r:RD K H x v) (e:lF M x=some b):uN K v H b:=by
 have emp:∀ {ds:List D} {vs:List V},RDs K H ds vs->(!ds.isEmpty) = !vs.isEmpty:=fun {ds vs} h=>by
  have l:=h.length
  cases ds <;> cases vs <;> first | rfl | (simp at l)
 cases x with
 | non=>cases e;cases Mq.mp r;rfl
 | bl k=>cases e;cases Ml.mp r;rfl
 | int i=>cases e;cases Mj.mp r;rfl
 | tup ds =>
   cases e
   obtain ⟨a,vs,rfl,j,rs⟩:=Mo r;exact .inr (.inl ⟨vs,j,emp rs⟩)
 | con ds =>
   cases e
   obtain ⟨a,vs,rfl,j,rs⟩:=Mp.mp r;exact .inl ⟨vs,j.sq,emp rs⟩
 | ref a =>
   cases Mk.mp r
   simp only [lF] at e
   cases e0:M a with
   | none=>rw [e0] at e;cases e
   | some o =>
     rw [e0] at e
     cases o with
     | dct _ _=>cases e
     | fdc _=>cases e
     | dcn _=>cases e
     | lst ds =>
       cases e
       obtain ⟨vs,j,rs⟩:=rm _ _ e0;exact .inl ⟨vs,SqL.of j,emp rs⟩
 | str _=>cases e
 | fn _=>cases e
variable {a b:Expr} {ta tb:TEd} {pos:Pos}
theorem AF (m:ab ta) (B:PE X a (lE X.K ta)) (he:∀ whole,isTrue a X.env whole=(do let v <- whole;GP a.pos;holding [v] (truthy v))):PT X a (lT X.K (lH ta)):=by
 refine PT.imp (uO B he) fun σ H Q h => ?_;obtain ⟨ρ,M,rs,rm,q⟩:=h;exact ⟨ρ,M,rs,rm,m _ _ _ _ (fun x J ⟨k,e,F⟩ v H1 G j z=>⟨k,AE j z e,F H1 G j⟩) q⟩
noncomputable def iD (t:TTd):TTd:=fun ρ M Q=>t ρ M fun c M1=>Q (!c) M1
theorem sF {t:TTd} (h:aA t):aA (iD t):=fun ρ M Q Q' i q=>h _ _ _ _ (fun c z j=>i _ _ j) q
theorem AG {tA:TTd} (m:aA tA) (j:PT X a (lT X.K tA)):PT X (.UnaryOp .Not a pos) (lT X.K (iD tA)):=by
 refine PT.imp (A1 j) fun σ H Q h => ?_;obtain ⟨ρ,M,rs,rm,q⟩:=h;exact ⟨ρ,M,rs,rm,m _ _ _ _ (fun c B z=>z) q⟩
noncomputable def iE (t u:TTd):TTd:=fun ρ M Q=>t ρ M fun c M1=>if c=true then u ρ M1 Q else Q false M1
noncomputable def jp (t u:TTd):TTd:=fun ρ M Q=>t ρ M fun c M1=>if c=true then Q true M1 else u ρ M1 Q
theorem sH {t u:TTd} (h:aA t) (k:aA u):aA (iE t u):=fun ρ M Q Q' i q=>h _ _ _ _ (fun c z j=>by
 cases c with
 | true=>rw [if_pos rfl] at j ⊢;exact k _ _ _ _ i j
 | false=>rw [if_neg hB] at j ⊢;exact i _ _ j) q
theorem vA {t u:TTd} (h:aA t) (k:aA u):aA (jp t u):=fun ρ M Q Q' i q=>h _ _ _ _ (fun c z j=>by
 cases c with
 | true=>rw [if_pos rfl] at j ⊢;exact i _ _ j
 | false=>rw [if_neg hB] at j ⊢;exact k _ _ _ _ i j) q
theorem yv {tA:TTd} (j:PT X a (lT X.K tA)):PW X (.BoolOp .And [a] pos) (lT X.K tA):=xQ j
theorem AH {tA:TTd} (j:PT X a (lT X.K tA)):PW X (.BoolOp .Or [a] pos) (lT X.K tA):=zZ j
theorem AI {tA tB:TTd} {rest:List Expr} (mA:aA tA) (mB:aA tB) (F:PT X a (lT X.K tA)) (G:PW X (.BoolOp .And (b::rest) pos) (lT X.K tB)):PW X (.BoolOp .And (a::b::rest) pos) (lT X.K (iE tA tB)):=by
 refine PW.imp (A0 F G) fun σ H Q h => ?_;obtain ⟨ρ,M,rs,rm,q⟩:=h;refine ⟨ρ,M,rs,rm,mA _ _ _ _ (fun c J z H1 B j => ?_) q⟩
 cases c with
 | true=>rw [if_pos rfl] at z ⊢;exact ⟨ρ,J,rs.mono (B.stab rm),j,mB _ _ _ _ (fun d M2 k=>k.ext B) z⟩
 | false=>rw [if_neg hB] at z ⊢;exact z H1 B j
theorem C4 {tA tB:TTd} {rest:List Expr} (mA:aA tA) (mB:aA tB) (F:PT X a (lT X.K tA)) (G:PW X (.BoolOp .Or (b::rest) pos) (lT X.K tB)):PW X (.BoolOp .Or (a::b::rest) pos) (lT X.K (jp tA tB)):=by
 refine PW.imp (BA F G) fun σ H Q h => ?_;obtain ⟨ρ,M,rs,rm,q⟩:=h;refine ⟨ρ,M,rs,rm,mA _ _ _ _ (fun c J z H1 B j => ?_) q⟩
 cases c with
 | true=>rw [if_pos rfl] at z ⊢;exact z H1 B j
 | false=>rw [if_neg hB] at z ⊢;exact ⟨ρ,J,rs.mono (B.stab rm),j,mB _ _ _ _ (fun d M2 k=>k.ext B) z⟩
noncomputable def iF (ta tb:TEd):TEd:=fun ρ M Q=>ta ρ M fun x M1 => ∃ c,x = .bl c/\if c=true then tb ρ M1 Q else Q (.bl false) M1
noncomputable def lJ (ta tb:TEd):TEd:=fun ρ M Q=>ta ρ M fun x M1 => ∃ c,x = .bl c/\if c=true then Q (.bl true) M1 else tb ρ M1 Q
noncomputable def iG (ta:TEd):TEd:=fun ρ M Q=>ta ρ M fun x M1 => ∃ c,x = .bl c/\Q (.bl (!c)) M1
theorem sJ (h:ab ta) (k:ab tb):ab (iF ta tb):=fun ρ M Q Q' i q=>h _ _ _ _ (fun x z ⟨c,e,j⟩=>⟨c,e,by
 cases c with
 | true=>rw [if_pos rfl] at j ⊢;exact k _ _ _ _ i j
 | false=>rw [if_neg hB] at j ⊢;exact i _ _ j⟩) q
theorem vB (h:ab ta) (k:ab tb):ab (lJ ta tb):=fun ρ M Q Q' i q=>h _ _ _ _ (fun x z ⟨c,e,j⟩=>⟨c,e,by
 cases c with
 | true=>rw [if_pos rfl] at j ⊢;exact i _ _ j
 | false=>rw [if_neg hB] at j ⊢;exact k _ _ _ _ i j⟩) q
theorem sK (h:ab ta):ab (iG ta):=fun ρ M Q Q' i q=>h _ _ _ _ (fun x z ⟨c,e,j⟩=>⟨c,e,i _ _ j⟩) q
theorem sL {op:BoolOp} {t:TEd} (h:PE X a (lE X.K t)):PE X (.BoolOp op [a] pos) (lE X.K t):=A2 h
theorem AJ {rest:List Expr} (ma:ab ta) (mb:ab tb) (G:PE X a (lE X.K ta)) (J:PE X (.BoolOp .And (b::rest) pos) (lE X.K tb)):PE X (.BoolOp .And (a::b::rest) pos) (lE X.K (iF ta tb)):=by
 refine PE.imp (A3 G J) fun σ H Q h => ?_;obtain ⟨ρ,M,rs,rm,q⟩:=h;refine ⟨ρ,M,rs,rm,ma _ _ _ _ (fun x L ⟨c,e,z⟩ v H1 B j F => ?_) q⟩;subst e;refine ⟨c,Ml.mp F, ?_⟩
 cases c with
 | true=>rw [if_pos rfl] at z ⊢;exact ⟨ρ,L,rs.mono (B.stab rm),j,mb _ _ _ _ (fun d M2 k=>k.ext B) z⟩
 | false=>rw [if_neg hB] at z ⊢;exact z _ H1 B j (Ml.mpr rfl)
theorem C5 {rest:List Expr} (ma:ab ta) (mb:ab tb) (G:PE X a (lE X.K ta)) (J:PE X (.BoolOp .Or (b::rest) pos) (lE X.K tb)):PE X (.BoolOp .Or (a::b::rest) pos) (lE X.K (lJ ta tb)):=by
 refine PE.imp (BD G J) fun σ H Q h => ?_;obtain ⟨ρ,M,rs,rm,q⟩:=h;refine ⟨ρ,M,rs,rm,ma _ _ _ _ (fun x L ⟨c,e,z⟩ v H1 B j F => ?_) q⟩;subst e;refine ⟨c,Ml.mp F, ?_⟩
 cases c with
 | true=>rw [if_pos rfl] at z ⊢;exact z _ H1 B j (Ml.mpr rfl)
 | false=>rw [if_neg hB] at z ⊢;exact ⟨ρ,L,rs.mono (B.stab rm),j,mb _ _ _ _ (fun d M2 k=>k.ext B) z⟩
theorem AK (ma:ab ta) (B:PE X a (lE X.K ta)):PE X (.UnaryOp .Not a pos) (lE X.K (iG ta)):=by
 refine PE.imp (A4 B) fun σ H Q h => ?_;obtain ⟨ρ,M,rs,rm,q⟩:=h;refine ⟨ρ,M,rs,rm,ma _ _ _ _ (fun x J ⟨c,e,F⟩ v H1 G j z => ?_) q⟩;subst e;exact ⟨c,Ml.mp z,F _ H1 G j (Ml.mpr rfl)⟩
noncomputable def wIf (t:TTd) (ta tb:TEd):TEd:=fun ρ M Q=>t ρ M fun c M1=>if c=true then ta ρ M1 Q else tb ρ M1 Q
theorem yw {t:TTd} (h:aA t) (z:ab ta) (B:ab tb):ab (wIf t ta tb):=fun ρ M Q Q' i q=>h _ _ _ _ (fun c F j=>by
 cases c with
 | true=>rw [if_pos rfl] at j ⊢;exact z _ _ _ _ i j
 | false=>rw [if_neg hB] at j ⊢;exact B _ _ _ _ i j) q
theorem C6 {c:Expr} {t:TTd} (mt:aA t) (ma:ab ta) (mb:ab tb) (G:PT X c (lT X.K t)) (J:PE X a (lE X.K ta)) (L:PE X b (lE X.K tb)):PE X (.IfExp c a b pos) (lE X.K (wIf t ta tb)):=by
 refine PE.imp (uH G J L) fun σ H Q h => ?_;obtain ⟨ρ,M,rs,rm,q⟩:=h;refine ⟨ρ,M,rs,rm,mt _ _ _ _ (fun x F z H1 B j => ?_) q⟩
 cases x with
 | true=>rw [if_pos rfl] at z ⊢;exact ⟨ρ,F,rs.mono (B.stab rm),j,ma _ _ _ _ (fun d M2 k=>k.ext B) z⟩
 | false=>rw [if_neg hB] at z ⊢;exact ⟨ρ,F,rs.mono (B.stab rm),j,mb _ _ _ _ (fun d M2 k=>k.ext B) z⟩
noncomputable def bc (xs:List D) (lo hi:Option Int):List D:=(xs.drop (HT.sIx xs.length 0 lo)).take (HT.sIx xs.length xs.length hi - HT.sIx xs.length 0 lo)
theorem lK {K:Frag} {H:Hp} {ds:List D} {vs:List V} (r:RDs K H ds vs) (lo hi:Option Int):RDs K H (bc ds lo hi) (eS vs lo hi):=by
 unfold bc eS;rw [r.length];exact (r.drop _).take _
noncomputable abbrev TOd:=ak->Mem->(Option Int->Mem->Prop)->Prop
def cc (T:TOd):Prop := ∀ ρ M Q Q',(∀ d M',Q d M'->Q' d M')->T ρ M Q->T ρ M Q'
noncomputable def dR:TOd:=fun _ M Q=>Q none M
noncomputable def fV (t:TEd):TOd:=fun ρ M Q=>t ρ M fun x M1 => ∃ i,x = .int i/\Q (some i) M1
theorem ot:cc dR:=fun _ _ _ _ h q=>h _ _ q
theorem eX (h:ab ta):cc (fV ta):=fun ρ M Q Q' i q=>h _ _ _ _ (fun x z ⟨c,e,j⟩=>⟨c,e,i _ _ j⟩) q
noncomputable def lO (K:Frag) (T:TOd):TO:=fun σ H Q => ∃ ρ M,RS K H σ ρ /\ RM K M H/\T ρ M (fun o M' => ∀ H',Ext M H M' H'->RM K M' H'->Q o H')
theorem yz:PO X none (lO X.K dR):=fun pins s σ H Q I h=>by
 obtain ⟨ρ,M,rs,rm,q⟩:=h;exact xZ pins s σ H Q I (q H Ext.refl rm)
theorem oQ {e:Expr} (m:ab ta) (h:PE X e (lE X.K ta)):PO X (some e) (lO X.K (fV ta)):=fun pins s σ H Q I hq=>by
 obtain ⟨ρ,M,rs,rm,q⟩:=hq;refine y0 h pins s σ H Q I ⟨ρ,M,rs,rm,m _ _ _ _ (fun x G ⟨i,e,B⟩ v H1 F j z => ?_) q⟩;subst e;exact ⟨i,Mj.mp z,B H1 F j⟩
noncomputable def ce:D->Option Int->Option Int->Mem->QD->Prop:=fun x lo hi M Q=>match x with
 | .tup ds=>Q (.tup (bc ds lo hi)) M
 | .ref a => ∃ ds,M a=some (.lst ds) /\ ∀ p,M p=none->Q (.ref p) (ae M p (.lst (bc ds lo hi)))
 | .con ds => ∀ p,M p=none->Q (.ref p) (ae M p (.lst (bc ds lo hi)))
 | _=>False
noncomputable def wSl (te:TEd) (tl th:TOd):TEd:=fun ρ M Q=>te ρ M fun x M1=>tl ρ M1 fun l M2=>th ρ M2 fun u M3=>ce x l u M3 Q
theorem qu {x:D} {lo hi:Option Int} {M:Mem} {Q Q':QD} (h:∀ d M',Q d M'->Q' d M') (q:ce x lo hi M Q):ce x lo hi M Q':=by
 cases x with
 | tup ds=>exact h _ _ q
 | ref a=>obtain ⟨ds,e,q⟩:=q;exact ⟨ds,e,fun p n=>h _ _ (q p n)⟩
 | con ds=>exact fun p n=>h _ _ (q p n)
 | _=>exact q.elim
theorem yA {tl th:TOd} (m:ab ta) (ml:cc tl) (mh:cc th):ab (wSl ta tl th):=fun ρ M Q Q' i q =>
 m _ _ _ _ (fun x F j=>ml _ _ _ _ (fun l M2 z=>mh _ _ _ _ (fun u G B=>qu i B) z) j) q
theorem C7 {e:Expr} {lo hi:Option Expr} {tl th:TOd} {p2:Pos} (m:ab ta) (ml:cc tl) (mh:cc th) (he:PE X e (lE X.K ta)) (hl:PO X lo (lO X.K tl)) (hu:PO X hi (lO X.K th)) :
 PE X (.Subscript e (.Slice lo hi none p2) pos) (lE X.K (wSl ta tl th)):=by
 refine PE.imp (uV (sl_tup.or (sl_list.or uY)) he hl hu) fun σ H Q h => ?_;obtain ⟨ρ,M,rs,rm,q⟩:=h;refine ⟨ρ,M,rs,rm,m _ _ _ _ (fun x M1 q1 v H1 O G U => ?_) q⟩;refine ⟨ρ,M1,rs.mono (O.stab rm),G,ml _ _ _ _ (fun l M2 q2 H2 Y L => ?_) q1⟩;refine ⟨ρ,M2,(rs.mono (O.stab rm)).mono (Y.stab G),L,mh _ _ _ _ (fun u M3 z H3 Z j => ?_) q2⟩;have B:=O.trans (Y.trans Z);have F:=(U.mono (Y.stab G)).mono (Z.stab L)
 cases x with
 | tup ds =>
   obtain ⟨a,vs,rfl,J,r⟩:=Mo F
   by_cases hw:HT.sIx vs.length 0 l=0/\HT.sIx vs.length vs.length u=vs.length
   ·refine .inr (.inr ⟨a,vs,rfl,J,hw, ?_⟩);have e:bc ds l u=ds:=by
     unfold bc;rw [<- r.length,hw.1,hw.2,r.length];simp
    simp only [ce] at z;rw [e] at z;exact z.ext B _ H3 Ext.refl j F
   ·simp only [ce] at z;exact .inl ⟨a,vs,rfl,J,hw,fun p n=>dg j (lK r l u) (z.ext B) n⟩
 | ref a =>
   cases Mk.mp F
   obtain ⟨ds,e,z⟩:=z;obtain ⟨vs,J,r⟩:=j _ _ e;exact .inr (.inl ⟨a,vs,rfl,SqL.of J,fun p n=>cq j (lK r l u) (fun p' n'=>(z p' n').ext B) n⟩)
 | con ds =>
   obtain ⟨a,vs,rfl,J,r⟩:=Mp.mp F;exact .inr (.inl ⟨a,vs,rfl,J.sq,fun p n=>cq j (lK r l u) (fun p' n'=>(z p' n').ext B) n⟩)
 | _=>exact z.elim
end
end
section
section
variable {X:Cx}
noncomputable def tyN (M:Mem):D->Option String
 | .non=>some "NoneType"
 | .bl _=>some "bool"
 | .int _=>some "int"
 | .str _=>some "str"
 | .tup _=>some "tuple"
 | .ref a=>match M a with
  | some (.lst _)=>some "list"
  | some (.dct _ _)=>some "dict"
  | _=>none
 | .con _=>none
 | .fn _=>none
noncomputable def dv (T t:String):Bool:=t==T || (t == "bool" && T == "int")
theorem xv {K:Frag} {M:Mem} {H:Hp} {x:D} {t:String} {v:V} (rm:RM K M H) (r:RD K H x v) (e:tyN M x=some t):bM K H v (.type t):=by
 cases x with
 | non=>cases e;cases Mq.mp r;exact .non
 | bl k=>cases e;cases Ml.mp r;exact .bl k
 | int i=>cases e;cases Mj.mp r;exact .int i
 | str i=>cases e;cases Mr.mp r;exact .str i
 | tup ds =>
   cases e
   obtain ⟨a,vs,rfl,j,rs⟩:=Mo r;exact .tup j
 | con ds=>cases e
 | fn _=>cases e
 | ref a =>
   cases Mk.mp r
   simp only [tyN] at e
   cases e0:M a with
   | none=>rw [e0] at e;cases e
   | some o =>
     rw [e0] at e
     cases o with
     | lst ds =>
       cases e
       obtain ⟨vs,j,rs⟩:=rm _ _ e0;exact .lst j
     | dct t kvs =>
       cases e
       have ro:=rm _ _ e0
       cases t with
       | false=>obtain ⟨ps,j,_⟩:=ro;exact .dK j
       | true=>obtain ⟨ps,j,_⟩:=ro;exact .dT j
     | fdc kvs=>cases e
     | dcn _=>cases e
noncomputable def bW:List String := ["NoneType", "bool", "int", "str", "tuple", "list", "dict"]
theorem jq (K:Frag):∀ T∈["bool", "int", "str", "tuple", "list", "dict"], ∀ t∈bW,PySem.W.kitOne K (.type t) (.type T)=some (dv T t):=by
 intro T j t q;simp only [bW,r4,DY,or_false] at j q
 rcases j with rfl | rfl | rfl | rfl | rfl | rfl <;> rcases q with rfl | rfl | rfl | rfl | rfl | rfl | rfl <;> rfl
noncomputable def iH (T:String) (ta:TEd):TEd:=fun ρ M Q=>ta ρ M fun x M1 => ∃ t,tyN M1 x=some t/\Q (.bl (dv T t)) M1
theorem sM {T:String} {ta:TEd} (h:ab ta):ab (iH T ta):=fun ρ M Q Q' i q=>h _ _ _ _ (fun x z ⟨t,e,j⟩=>⟨t,e,i _ _ j⟩) q
theorem oR {M:Mem} {x:D} {t:String} (e:tyN M x=some t):t∈bW:=by
 cases x with
 | ref a =>
   simp only [tyN] at e
   cases e0:M a with
   | none=>rw [e0] at e;cases e
   | some o=>rw [e0] at e;cases o <;> cases e <;> simp [bW]
 | con _=>cases e
 | fn _=>cases e
 | _=>cases e;simp [bW]
theorem sN (T:String) (j:T∈["bool", "int", "str", "tuple", "list", "dict"]):CallR X (.builtin "isinstance") (fun vs H Q => ∃ v t,vs=[v, .ty T]/\bM X.K H v (.type t)/\t∈bW/\Q (.bl (dv T t)) H):=by
 intro pins s σ H xs us Q I r h;obtain ⟨v,t,rfl,ty,z,q⟩:=h;obtain ⟨u,c,rfl,ru,rc⟩:=pY r
 cases rc
 exact rV I ru ty (jq X.K T j t z) fun tk=>⟨.bl _,H,I.tok tk,rfl,q⟩
theorem yB {e:Expr} {ta:TEd} {T:String} {y:Str} {p p2 pos:Pos} (O:T∈["bool", "int", "str", "tuple", "list", "dict"]) (m:ab ta) (he:PE X e (lE X.K ta)) (U:Gl X "isinstance") (hm:X.mg "isinstance" = none)
 (z:Gl X y) (B:X.mg y=none) (Y:Fj y=some (.type T)) (Z:y ≠ "__name__") (F:(y==("__debug__":Str))=false)
 (L:DN [e, .Name y p2] X.env=(false,eval e X.env)::DN [.Name y p2] X.env) (G:(G3 pos (DN [.Name y p2] X.env)).any (·.1)=false) :
 PE X (.Call (.Name "isinstance" p) [e, .Name y p2] [] pos) (lE X.K (iH T ta)):=by
 have h2:PE X (.Name y p2) (tC (.ty T)):=ja z B Y rfl Z F;refine PE.imp (bR (sN T O) U hm (by decide +kernel) (cn he (cn h2 ie rfl) L) (by decide) (by decide) L G) fun σ H Q h => ?_
 obtain ⟨ρ,M,rs,rm,q⟩:=h;exact ⟨ρ,M,rs,rm,m _ _ _ _ (fun x M1 ⟨t,e,q1⟩ v H1 x1 j J=>⟨v,t,rfl,xv j J e,oR e,q1 _ H1 x1 j (Ml.mpr rfl)⟩) q⟩
noncomputable def wBM (rd:D->List D->Mem->QD->Prop) (to:TEd) (t:TAd):TEd:=fun ρ M Q=>to ρ M fun x M1=>(∃ a xs,x = .ref a/\M1 a=some (.lst xs))/\t ρ M1 fun ds M2=>rd x ds M2 Q
def kC (rd:D->List D->Mem->QD->Prop):Prop := ∀ x ds M Q Q',(∀ d M',Q d M'->Q' d M')->rd x ds M Q->rd x ds M Q'
theorem yC {rd:D->List D->Mem->QD->Prop} {to:TEd} {t:TAd} (j:kC rd) (mo:ab to) (mt:aV t):ab (wBM rd to t):=fun ρ M Q Q' i q =>
 mo _ _ _ _ (fun x F ⟨e,z⟩=>⟨e,mt _ _ _ _ (fun ds M2 B=>j _ _ _ _ _ i B) z⟩) q
theorem C8 {K:Frag} {M:Mem} {H:Hp} {x:D} {v:V} (rm:RM K M H) (r:RD K H x v) (h:∃ a xs,x = .ref a/\M a=some (.lst xs)):tyV K "list" v H:=by
 obtain ⟨a,xs,rfl,e⟩:=h
 cases Mk.mp r
 obtain ⟨vs,j,_⟩:=rm _ _ e;exact .inl ⟨rfl,vs,SqL.of j⟩
theorem yD {K:Frag} {rd:D->List D->Mem->QD->Prop} {r:V->List V->Hp->VK->Prop} {to:TEd} {t:TAd} (L:kC rd) (mo:ab to) (mt:aV t)
 (O:∀ v vs H Q,lMt K rd v vs H Q->r v vs H Q) (σ:St) (H:Hp) (Q:VK) (h:lE K (wBM rd to t) σ H Q):tBM K "list" r (lE K to) (lA K t) σ H Q:=by
 obtain ⟨ρ,M,rs,rm,q⟩:=h;refine ⟨ρ,M,rs,rm,mo _ _ _ _ (fun x U ⟨e,Y⟩ v H1 G j z=>⟨C8 j z e, ?_⟩) q⟩;refine ⟨ρ,U,rs.mono (G.stab rm),j,mt _ _ _ _ (fun ds M2 Z vs H2 J B F => ?_) Y⟩;exact O v vs H2 Q ⟨x,ds,M2,B,z.mono (J.stab j),F,L _ _ _ _ _ (fun d M' k=>k.ext (G.trans J)) Z⟩
noncomputable def jr:D->List D->Mem->QD->Prop:=fun x ds M Q => ∃ a xs y,x = .ref a/\ds=[y]/\M a=some (.lst xs)/\xs.length < p4/\Q .non (ae M a (.lst (xs++[y])))
noncomputable def AL:D->List D->Mem->QD->Prop:=fun x ds M Q => ∃ a xs,x = .ref a/\ds=[]/\M a=some (.lst xs)/\Q .non (ae M a (.lst []))
theorem gy:kC jr:=fun _ _ _ _ _ h ⟨a,xs,y,j,B,F,z,q⟩=>⟨a,xs,y,j,B,F,z,h _ _ q⟩
theorem yE {K:Frag} {M:Mem} {H:Hp} {Q:VK} {d:D} {v:V} {a:Addr} {o0:O} {ds:List D} {vs:List V} (rm:RM K M H) (m:M a=some o0) (rd:RDs K H ds vs) (r:RD K H d v) (q:KE' K M H Q d (ae M a (.lst ds))) (w:fz (some o0)=false:=by rfl) :
 Q v (upd H a (.lst vs)):=by
 have st:Stab H (upd H a (.lst vs)):=rm.stabPut m w;exact q v _ (Ext.put m w) (rm.put m ⟨vs,ao,rd.mono st⟩ w) (r.mono st)
theorem vC {K:Frag} (v:V) (vs:List V) (H:Hp) (Q:VK) (h:lMt K jr v vs H Q):oI v vs H Q:=by
 obtain ⟨x,ds,M,rm,rx,rs,a,xs,y,rfl,rfl,e,z,q⟩:=h
 cases Mk.mp rx
 obtain ⟨w,rfl,rw'⟩:=rs.one;obtain ⟨us,j,ru⟩:=rm _ _ e;exact ⟨a,us,w,rfl,rfl,j,by rw [ru.length];exact z,yE rm e (ru.append (RDs.cons rw' RDs.nil)) (Mq.mpr rfl) q⟩
noncomputable abbrev BT:=D->ak->Option ak
noncomputable abbrev BTs:=List D->ak->Option ak
noncomputable def aW (i:Nat):BT:=fun d ρ => some (ρ.set i (some d))
noncomputable def eY:BTs:=fun ds ρ => match ds with | [] => some ρ | _=>none
noncomputable def bF (b:BT) (bs:BTs):BTs:=fun ds ρ => match ds with | d::r=>(b d ρ).bind fun ρ'=>bs r ρ' | [] => none
noncomputable def lL (bs:BTs):BT:=fun d ρ => match d with | .tup ds=>bs ds ρ | _=>none
noncomputable def lG (K:Frag) (b:BT):TG:=fun v σ H Q => ∃ d ρ ρ',RD K H d v/\RS K H σ ρ /\ b d ρ = some ρ' /\ ∀ σ',RS K H σ' ρ'->Q σ' H
noncomputable def lGs (K:Frag) (b:BTs):TGs:=fun vs σ H Q => ∃ ds ρ ρ',RDs K H ds vs/\RS K H σ ρ /\ b ds ρ = some ρ' /\ ∀ σ',RS K H σ' ρ'->Q σ' H
theorem PG.imp {e:Expr} {t t':TG} (h:PG X e t) (i:∀ v σ H Q,t' v σ H Q->t v σ H Q):PG X e t':=fun pins s σ H v u Q I r q=>h pins s σ H v u Q I r (i _ _ _ _ q)
theorem PGs.imp {e:List Expr} {t t':TGs} (h:PGs X e t) (i:∀ v σ H Q,t' v σ H Q->t v σ H Q):PGs X e t':=fun pins s σ H v u Q I r q=>h pins s σ H v u Q I r (i _ _ _ _ q)
theorem yF {i:Nat} {x:Str} {pos:Pos} (j:X.N.Nodup) (hi:X.N[i]? = some x) (hx:Loc X.env.scope x) (hf:X.fn x=true∨X.env.scope.names.lookup x=some .local):PG X (.Name x pos) (lG X.K (aW i)) :=
 PG.imp (oE j hi hx hf) fun v σ H Q ⟨d, ρ, ρ',r,rs,e,q⟩=>by
  cases e
  exact q _ (rs.set i r)
theorem yG:PGs X [] (lGs X.K eY):=PGs.imp oF fun vs σ H Q ⟨ds, ρ, ρ',r,rs,e,q⟩=>by
 cases ds with
 | nil=>cases e;exact ⟨RDs.nil_iff.mp r,q σ rs⟩
 | cons _ _=>cases e
theorem vD {e:Expr} {es:List Expr} {b:BT} {bs:BTs} (h1:PG X e (lG X.K b)) (h2:PGs X es (lGs X.K bs)) (z:(F5 (e::es) X.env).map (·.2)=assign e X.env::(F5 es X.env).map (·.2)) :
 PGs X (e::es) (lGs X.K (bF b bs)):=PGs.imp (gD h1 h2 z) fun vs σ H Q ⟨ds, ρ, ρ',r,rs,e,q⟩=>by
 cases ds with
 | nil=>cases e
 | cons d ds =>
   obtain ⟨v,vr,rfl,B,F⟩:=Mm.mp r;simp only [bF] at e
   cases j:b d ρ with
   | none=>rw [j] at e;cases e
   | some ρ1 =>
     rw [j] at e;exact ⟨v,vr,rfl,d, ρ, ρ1,B,rs,j,fun σ' rs'=>⟨ds, ρ1, ρ',F,rs',e,q⟩⟩
theorem AM {es:List Expr} {k:Nat} {bs:BTs} {n:Nat} {pos:Pos} (z:X.calm=true) (hlen:∀ ds ρ ρ',bs ds ρ = some ρ'->ds.length=n) (h:PGs X es (lGs X.K bs)) (B:(F5 es X.env).length=n) (j:(F5 es X.env).findIdx? (·.1)=none) :
 PG X (.Tuple es k pos) (lG X.K (lL bs)):=PG.imp (rL z h B j) fun v σ H Q ⟨d, ρ, ρ',r,rs,e,q⟩=>by
 cases d with
 | tup ds =>
   obtain ⟨a,vs,rfl,F,rv⟩:=Mo r;exact ⟨a,vs,rfl,F,by rw [rv.length];exact hlen _ _ _ e,ds, ρ, ρ',rv,rs,e,q⟩
 | _=>cases e
noncomputable abbrev TId:=ak->Mem->(List D->(Mem->Prop)->Mem->Prop)->Prop
def bH (T:TId):Prop := ∀ ρ M Q Q',(∀ xs c M',Q xs c M'->Q' xs c M')->T ρ M Q->T ρ M Q'
def Yl (H H':Hp):Prop:=H'=H ∨ ∃ q vs,H q=none/\H'=upd H q (.tup vs)
def eZ (K:Frag) (H1:Hp) (xs:List D) (chk:Mem->Prop) (J:It):Prop := ∀ M H,Stab H1 H->RM K M H->chk M -> ∀ i,(xs.length<=i->J.stop i H)/\(i < xs.length->J.go i H /\
 ∀ x H',J.yld i H x H'->Yl H H' /\ ∃ d,xs[i]? = some d/\RD K H' d x)
noncomputable def lI (K:Frag) (T:TId):TI:=fun σ H R => ∃ ρ M,RS K H σ ρ /\ RM K M H/\T ρ M (fun xs chk M1 => ∀ J H1,Ext M H M1 H1->RM K M1 H1->eZ K H1 xs chk J->R J H1)
theorem PI.imp {tg e:Expr} {t t':TI} (h:PI X tg e t) (i:∀ σ H Q,t' σ H Q->t σ H Q):PI X tg e t':=fun pins s σ H Q I q=>h pins s σ H Q I (i _ _ _ q)
theorem Yl.ext {K:Frag} {M:Mem} {H H':Hp} (rm:RM K M H) (y:Yl H H'):Ext M H M H'/\RM K M H':=by
 rcases y with rfl | ⟨q,vs,n,rfl⟩
 ·exact ⟨Ext.refl,rm⟩
 ·exact ⟨Ms n,rm.new n⟩
noncomputable def CT (K:Frag) (tl:TE):TI:=fun σ H R=>tl σ H fun x H1 => ∃ a,x = .ref a/\(((∃ xs,SqL K H1 a xs)/\R (Itl K a) H1)∨((∃ xs,SqT K H1 a xs)/\R (Itt K a) H1))
theorem AN {tg l:Expr} {tl:TE} (F:PE X l tl):PI X tg l (CT X.K tl):=by
 intro pins s σ H R I h;refine thn (F pins s σ H _ I h) fun v s1 ⟨x,H1,j,G,J⟩ => ?_;obtain ⟨a,e,q⟩:=J;subst e
 cases G
 rcases q with ⟨⟨xs,z⟩,q⟩ | ⟨⟨xs,z⟩,q⟩
 ·obtain ⟨its,rv,p,L⟩:=j.list z;refine EU p.isList ?_;refine ⟨s1.heap.objs.size,[s1.heap.objs.size],_,_,H1,rfl,j.kept (t':=s1.toks) fun b o e=>gV _ e,rN a _,⟨_,hH _ rfl,rfl,rfl⟩,fun b B => ?_,q⟩;have e:b=s1.heap.objs.size:=by simpa using B
  subst e;exact j.fpOk (hQ _) (j.hok.fresh (hQ _))
 ·obtain ⟨its,rv,p,L⟩:=j.tuple z;refine EM (show s1.heap.IsTuple a its.toArray from p) ?_;refine ⟨s1.heap.objs.size,[s1.heap.objs.size],_,_,H1,rfl,j.kept (t':=s1.toks) fun b o e=>gV _ e,pU a _,⟨_,hH _ rfl,rfl,rfl⟩,fun b B => ?_,q⟩;have e:b=s1.heap.objs.size:=by simpa using B
  subst e;exact j.fpOk (hQ _) (j.hok.fresh (hQ _))
noncomputable def lM (ta:TEd):TId:=fun ρ M R=>ta ρ M fun x M1 => ∃ ds,av M1 x=some ds/\R ds (fun M=>av M x=some ds) M1
theorem vE {ta:TEd} (h:ab ta):bH (lM ta):=fun ρ M Q Q' i q=>h _ _ _ _ (fun x z ⟨ds,e,j⟩=>⟨ds,e,i _ _ _ j⟩) q
theorem sP {K:Frag} {H1:Hp} {a:Addr} {ds:List D} {chk:Mem->Prop} (h:∀ M H,Stab H1 H->RM K M H->chk M -> ∃ vs,SqL K H a vs/\RDs K H ds vs):eZ K H1 ds chk (Itl K a):=fun M H st rm c i=>by
 obtain ⟨vs,sq,r⟩:=h M H st rm c;have l:=r.length;refine ⟨fun hi=>⟨vs,sq,by lia⟩,fun hi=>⟨⟨vs,vs[i]'(by lia),sq,hh (by lia)⟩,fun x H' y => ?_⟩⟩
 obtain ⟨e,y⟩:=y;subst e;exact ⟨.inl rfl,r.getV (y vs sq)⟩
theorem AO {K:Frag} {H1:Hp} {a:Addr} {ds:List D} {chk:Mem->Prop} (h:∀ M H,Stab H1 H->RM K M H->chk M -> ∃ vs,SqT K H a vs/\RDs K H ds vs):eZ K H1 ds chk (Itt K a):=fun M H st rm c i=>by
 obtain ⟨vs,sq,r⟩:=h M H st rm c;have l:=r.length;refine ⟨fun hi=>⟨vs,sq,by lia⟩,fun hi=>⟨⟨vs,vs[i]'(by lia),sq,hh (by lia)⟩,fun x H' y => ?_⟩⟩
 obtain ⟨e,y⟩:=y;subst e;exact ⟨.inl rfl,r.getV (y vs sq)⟩
theorem AQ {tg l:Expr} {ta:TEd} (m:ab ta) (G:PE X l (lE X.K ta)):PI X tg l (lI X.K (lM ta)):=by
 refine PI.imp (AN G) fun σ H R h => ?_;obtain ⟨ρ,M,rs,rm,q⟩:=h;refine ⟨ρ,M,rs,rm,m _ _ _ _ (fun x L ⟨ds,e,B⟩ v H1 F j rd1 => ?_) q⟩
 cases x with
 | tup es =>
   cases e
   obtain ⟨a,vs,rfl,z,rv⟩:=Mo rd1;exact ⟨a,rfl, .inr ⟨⟨vs,z⟩,B _ H1 F j (AO fun M' H' st _ _=>⟨vs,st.sqT z,rv.mono st⟩)⟩⟩
 | con es =>
   cases e
   obtain ⟨a,vs,rfl,z,rv⟩:=Mp.mp rd1;exact ⟨a,rfl, .inl ⟨⟨vs,z.sq⟩,B _ H1 F j (sP fun M' H' st _ _=>⟨vs,(st.sqF z).sq,rv.mono st⟩)⟩⟩
 | ref a =>
   cases Mk.mp rd1
   have get:∀ {M':Mem} {es:List D},av M' (.ref a)=some es->M' a=some (.lst es):=fun {M' es} e=>by
    simp only [av] at e
    cases e0:M' a with
    | none=>rw [e0] at e;cases e
    | some o =>
      rw [e0] at e
      cases o with
      | dct _ _=>cases e
      | fdc _=>cases e
      | dcn _=>cases e
      | lst es'=>cases e;rfl
   obtain ⟨vs,z,rv⟩:=j _ _ (get e);exact ⟨a,rfl, .inl ⟨⟨vs,SqL.of z⟩,B _ H1 F j (sP fun M' H' st rm' c=>by
    obtain ⟨us,J,ru⟩:=rm' _ _ (get c);exact ⟨us,SqL.of J,ru⟩)⟩⟩
 | _=>cases e
noncomputable def aL (lo:Int) (n:Nat):List D:=(Eo n).map fun i => .int (lo+(i:Nat))
theorem sQ {K:Frag} {H1:Hp} {lo:Int} {n:Nat}:eZ K H1 (aL lo n) (fun _=>True) (Itr lo n):=fun M H st rm c i=>by
 have l:(aL lo n).length=n:=by simp [aL]
 refine ⟨fun hi=>by show n<=i;lia,fun hi=>⟨by show i < n;lia,fun x H' y => ?_⟩⟩
 obtain ⟨e,y⟩:=y;subst e y;refine ⟨.inl rfl, .int (lo+i), ?_,Mj.mpr rfl⟩;simp only [aL,DL,Hw (show i < n by lia),GD]
noncomputable def iI (ta:TAd):TId:=fun ρ M R=>ta ρ M fun ds M1 => ∃ j:Int,ds=[.int j] /\ -(2 ^ 62)<=j/\j < 2 ^ 62/\R (aL 0 j.toNat) (fun _=>True) M1
noncomputable def iJ (ta:TAd):TId:=fun ρ M R=>ta ρ M fun ds M1 => ∃ i j:Int,ds=[.int i, .int j]/\(-(2 ^ 62)<=i/\i < 2 ^ 62 /\ -(2 ^ 62)<=j/\j < 2 ^ 62)/\R (aL i (j - i).toNat) (fun _=>True) M1
theorem sR {ta:TAd} (h:aV ta):bH (iI ta):=fun ρ M Q Q' i q=>h _ _ _ _ (fun x B ⟨j,e,a,b,z⟩=>⟨j,e,a,b,i _ _ _ z⟩) q
theorem sU {ta:TAd} (h:aV ta):bH (iJ ta):=fun ρ M Q Q' i q=>h _ _ _ _ (fun x B ⟨k,j,e,a,z⟩=>⟨k,j,e,a,i _ _ _ z⟩) q
theorem yH {tg a:Expr} {ta:TAd} {p pos:Pos} (m:aV ta) (B:Gl X "range") (hm:X.mg "range" = none) (F:PA X [a] (lA X.K ta)) (G:DN [a] X.env=[(false,eval a X.env)]):PI X tg (.Call (.Name "range" p) [a] [] pos) (lI X.K (iI ta)):=by
 refine PI.imp (rO B hm F G) fun σ H R h => ?_;obtain ⟨ρ,M,rs,rm,q⟩:=h;refine ⟨ρ,M,rs,rm,m _ _ _ _ (fun ds Y ⟨j,e,J,L,O⟩ vs H1 U z rd1 => ?_) q⟩;subst e;obtain ⟨v,rfl,r⟩:=rd1.one
 cases Mj.mp r
 exact ⟨j,rfl,J,L,O _ H1 U z sQ⟩
theorem yI {tg a b:Expr} {ta:TAd} {p pos:Pos} (m:aV ta) (G:Gl X "range") (hm:X.mg "range" = none) (J:PA X [a,b] (lA X.K ta)) (L:DN [a,b] X.env=[(false,eval a X.env),(false,eval b X.env)]) (B:DN [b] X.env=[(false,eval b X.env)]) :
 PI X tg (.Call (.Name "range" p) [a,b] [] pos) (lI X.K (iJ ta)):=by
 refine PI.imp (rP G hm J L B) fun σ H R h => ?_;obtain ⟨ρ,M,rs,rm,q⟩:=h;refine ⟨ρ,M,rs,rm,m _ _ _ _ (fun ds M1 ⟨i,j,e,z,O⟩ vs H1 U F rd1 => ?_) q⟩;subst e;obtain ⟨v,u,rfl,Y,Z⟩:=rd1.two
 cases Mj.mp Y
 cases Mj.mp Z
 exact ⟨i,j,rfl,z,O _ H1 U F sQ⟩
end
end
section
section
variable {X:Cx}
noncomputable def isT:D->Bool | .tup _=>true | _=>false
theorem dS {K:Frag} {M:Mem} {H:Hp} {x:D} {ds:List D} {v:V} (rm:RM K M H) (r:RD K H x v) (e:av M x=some ds):∃ p vs,v = .ref p/\SqV K (isT x) H p vs/\RDs K H ds vs:=by
 cases x with
 | tup es =>
   cases e
   obtain ⟨a,vs,rfl,j,rv⟩:=Mo r;exact ⟨a,vs,rfl,j,rv⟩
 | con es =>
   cases e
   obtain ⟨a,vs,rfl,j,rv⟩:=Mp.mp r;exact ⟨a,vs,rfl,j.sq,rv⟩
 | ref a =>
   cases Mk.mp r
   simp only [av] at e
   cases e0:M a with
   | none=>rw [e0] at e;cases e
   | some o =>
     rw [e0] at e
     cases o with
     | dct _ _=>cases e
     | fdc _=>cases e
     | dcn _=>cases e
     | lst es =>
       cases e
       obtain ⟨vs,j,rv⟩:=rm _ _ e0;exact ⟨a,vs,rfl,SqL.of j,rv⟩
 | _=>cases e
noncomputable def iK (x y:D):D := .tup [x,y]
noncomputable def lN (ta tb:TEd):TId:=fun ρ M R=>ax ta (ax tb ba) ρ M fun ds M1 => ∃ x y xs ys,ds=[x,y]/\av M1 x=some xs/\av M1 y=some ys/\R (Gr iK xs ys) (fun M=>av M x=some xs/\av M y=some ys) M1
theorem vF {ta tb:TEd} (j:ab ta) (z:ab tb):bH (lN ta tb):=fun ρ M Q Q' i q=>ar j (ar z aw) _ _ _ _ (fun ds J ⟨x,y,xs,ys,e,B,F,G⟩=>⟨x,y,xs,ys,e,B,F,i _ _ _ G⟩) q
theorem lP {H:Hp} {p:Addr} {o:HO} (n:H p=none):Stab H (upd H p o):=⟨fun a xs e=>by rw [ah (fun z=>by rw [z,n] at e;cases e)];exact e,fun a o u e=>by rw [ah (fun z=>by rw [z,n] at e;cases e)];exact e⟩
theorem AR {K:Frag} {H1:Hp} {x y:D} {xs ys:List D} {a b:Addr} (rx:RD K H1 x (.ref a)) (ry:RD K H1 y (.ref b)):eZ K H1 (Gr iK xs ys) (fun M=>av M x=some xs/\av M y=some ys) (Itz K (isT x) (isT y) a b):=fun M H st rm c i=>by
 obtain ⟨Y,vs,L,j,G⟩:=dS rm (rx.mono st) c.1;obtain ⟨p2,us,O,q,J⟩:=dS rm (ry.mono st) c.2
 cases L
 cases O
 have l1:=G.length;have l2:=J.length;have lz:(Gr iK xs ys).length=min xs.length ys.length:=List.length_zipWith;refine ⟨fun hi=>⟨vs,us,j,q,by lia⟩,fun hi=>⟨⟨vs,us,vs[i]'(by lia),us[i]'(by lia),j,q,hh (by lia),hh (by lia)⟩,fun v H' U => ?_⟩⟩
 obtain ⟨p,v1,v2,n,rfl,rfl,g⟩:=U;obtain ⟨g1,g2⟩:=g vs us j q;obtain ⟨d1,z,B⟩:=G.getV g1;obtain ⟨d2,hd2,F⟩:=J.getV g2;have sb:=lP (o := .tup [v1,v2]) n;refine ⟨.inr ⟨p,[v1,v2],n,rfl⟩, .tup [d1,d2], ?_,Mu ⟨p,[v1,v2],rfl,ao,RDs.cons (B.mono sb) (RDs.cons (F.mono sb) RDs.nil)⟩⟩;rw [Jb,z,hd2];rfl
theorem AS {elts:List Expr} {cx} {pos p pos':Pos} {a b:Expr} {ta tb:TEd} (ma:ab ta) (mb:ab tb) (G:Gl X "zip") (hm:X.mg "zip" = none) (J:PA X [a,b] (lA X.K (ax ta (ax tb ba)))) (L:DN [a,b] X.env=[(false,eval a X.env),(false,eval b X.env)]) (z:DN [b] X.env=[(false,eval b X.env)]) :
 PI X (.Tuple elts cx pos) (.Call (.Name "zip" p) [a,b] [] pos') (lI X.K (lN ta tb)):=by
 refine PI.imp (Av G hm J L z) fun σ H R h => ?_;obtain ⟨ρ,M,rs,rm,q⟩:=h;refine ⟨ρ,M,rs,rm,ar ma (ar mb aw) _ _ _ _ (fun ds M1 ⟨x,y,xs,ys,e,O,U,Y⟩ vs H1 Z j rd1 => ?_) q⟩;subst e;obtain ⟨v,u,rfl,B,F⟩:=rd1.two;obtain ⟨p1,vs,rfl,s1,_⟩:=dS j B O;obtain ⟨p2,us,rfl,s2,_⟩:=dS j F U;exact ⟨p1,p2,isT x,isT y,vs,us,rfl,s1,s2,Y _ H1 Z j (AR B F)⟩
end
end
section
section
variable {X:Cx}
noncomputable def cW (xs:List D):List D:=xs.mapIdx fun i x => .tup [.int (i:Nat),x]
noncomputable def iL (ta:TEd):TId:=fun ρ M R=>ta ρ M fun x M1 => ∃ xs,av M1 x=some xs/\R (cW xs) (fun M=>av M x=some xs) M1
theorem sV {ta:TEd} (h:ab ta):bH (iL ta):=fun ρ M Q Q' i q=>h _ _ _ _ (fun x z ⟨ds,e,j⟩=>⟨ds,e,i _ _ _ j⟩) q
theorem AT {K:Frag} {H1:Hp} {x:D} {xs:List D} {a:Addr} (rx:RD K H1 x (.ref a)):eZ K H1 (cW xs) (fun M=>av M x=some xs) (Ite K (isT x) a):=fun M H st rm c i=>by
 obtain ⟨J,vs,F,j,B⟩:=dS rm (rx.mono st) c
 cases F
 have l1:=B.length;have lz:(cW xs).length=xs.length:=by simp [cW]
 refine ⟨fun hi=>⟨vs,j,by lia⟩,fun hi=>⟨⟨vs,vs[i]'(by lia),j,hh (by lia)⟩,fun v H' G => ?_⟩⟩
 obtain ⟨p,v1,n,rfl,rfl,g⟩:=G;obtain ⟨d1,q,z⟩:=B.getV (g vs j);have sb:=lP (o := .tup [.int (i:Nat),v1]) n;refine ⟨.inr ⟨p,[.int (i:Nat),v1],n,rfl⟩, .tup [.int (i:Nat),d1], ?_,Mu ⟨p,[.int (i:Nat),v1],rfl,ao,RDs.cons (Mj.mpr rfl) (RDs.cons (z.mono sb) RDs.nil)⟩⟩;simp [cW,Fb,q]
theorem yJ {elts:List Expr} {cx} {pos p pos':Pos} {a:Expr} {ta:TEd} (ma:ab ta) (B:Gl X "enumerate") (hm:X.mg "enumerate" = none) (F:PA X [a] (lA X.K (ax ta ba))) (G:DN [a] X.env=[(false,eval a X.env)]) :
 PI X (.Tuple elts cx pos) (.Call (.Name "enumerate" p) [a] [] pos') (lI X.K (iL ta)):=by
 refine PI.imp (yb B hm F G) fun σ H R h => ?_;obtain ⟨ρ,M,rs,rm,q⟩:=h;refine ⟨ρ,M,rs,rm,ma _ _ _ _ (fun x Y ⟨xs,J,L⟩ vs H1 O j rd1 => ?_) q⟩;obtain ⟨v,rfl,z⟩:=rd1.one;obtain ⟨U,us,rfl,s1,_⟩:=dS j z J;exact ⟨U,isT x,us,rfl,s1,L _ H1 O j (AT z)⟩
end
end
section
noncomputable abbrev NC:=ak->Mem->List D->Prop
noncomputable abbrev TCd:=ak->Mem->List D->NC->Prop
def bI (T:TCd):Prop := ∀ ρ M acc N N',(∀ ρ' M' acc',N ρ' M' acc'->N' ρ' M' acc')->T ρ M acc N->T ρ M acc N'
structure ExtP (p:Addr) (M:Mem) (H:Hp) (M':Mem) (H':Hp):Prop where
 kp:∀ a o,a≠p->fz (M a)=true->H a=some o->H' a=some o
 nw:∀ a o,fz (M a)=true->H a=some o->M' a=M a
section
variable {K:Frag} {M M' M'':Mem} {H H' H'':Hp} {p:Addr}
theorem ExtP.new (x:ExtP p M H M' H') (a:Addr) (o:HO) (n:M a=none) (e:H a=some o):M' a=none:=(x.nw a o (by rw [n];rfl) e).trans n
theorem Ext.toP (x:Ext M H M' H'):ExtP p M H M' H':=⟨fun a o _=>x.kp a o,x.nw⟩
theorem ExtP.refl:ExtP p M H M H:=⟨fun _ _ _ _ h=>h,fun _ _ _ _=>rfl⟩
theorem ExtP.trans {vs:List V} (a:ExtP p M H M' H') (q:H p=some (.lst vs)) (j:∃ vs',H' p=some (.lst vs')) (b:ExtP p M' H' M'' H''):ExtP p M H M'' H'' :=
 ⟨fun c o ne n h=>b.kp c o ne (by rw [a.nw c o n h];exact n) (a.kp c o ne n h),fun c o n h=>by
   have n':fz (M' c)=true:=by rw [a.nw c o n h];exact n
   refine Eq.trans ?_ (a.nw c o n h)
   by_cases z:c=p
   ·subst z;obtain ⟨vs',e⟩:=j;exact b.nw c _ n' e
   ·exact b.nw c o n' (a.kp c o z n h)⟩
theorem ExtP.stab {vs:List V} (r:RM K M H) (j:H p=some (.lst vs)) (x:ExtP p M H M' H'):Stab H H' where
 tup:=fun a xs e=>x.kp a _ (fun z=>by subst z;rw [j] at e;cases e) (by rw [r.fzT e];rfl) e
 frz:=fun a o u e=>x.kp a _ (fun z=>by subst z;rw [j] at e;cases e) (r.fzF e) e
theorem lQ {vs:List V} {ho:HO} (j:H p=some (.lst vs)):Stab H (upd H p ho) :=
 ⟨fun a xs e=>by rw [ah (fun z=>by subst z;rw [j] at e;cases e)];exact e,fun a o u e=>by rw [ah (fun z=>by subst z;rw [j] at e;cases e)];exact e⟩
theorem RM.side {vs:List V} {ho:HO} (r:RM K M H) (n:M p=none) (j:H p=some (.lst vs)):RM K M (upd H p ho):=fun a o e=>by
 have ne:a≠p:=fun z=>by subst z;rw [n] at e;cases e
 exact (r a o e).mono (lQ j) fun B q=>by rw [ah ne];exact q
end
def fW (K:Frag) (H:Hp) (p:Addr) (acc:List D):Prop := ∃ vs,H p=some (.lst vs)/\RDs K H acc vs
noncomputable def KC (K:Frag) (p:Addr) (M:Mem) (H:Hp) (N:St->Hp->Prop):NC:=fun ρ' M' acc' => ∀ σ' H',ExtP p M H M' H'->RS K H' σ' ρ'->RM K M' H'->fW K H' p acc'->N σ' H'
noncomputable def lC (K:Frag) (p:Addr) (T:TCd):TC:=fun σ H N => ∃ ρ M acc,RS K H σ ρ /\ RM K M H/\M p=none/\fW K H p acc/\T ρ M acc (KC K p M H N)
theorem KC.ext {K:Frag} {p:Addr} {M M2 M':Mem} {H H2:Hp} {N:St->Hp->Prop} {ρ:ak} {acc:List D} {vs:List V} (q:H p=some (.lst vs)) (j:∃ vs',H2 p=some (.lst vs')) (x:ExtP p M H M2 H2) (h:KC K p M H N ρ M' acc):KC K p M2 H2 N ρ M' acc :=
 fun σ' H' y=>h σ' H' (x.trans q j y)
noncomputable def bh (te:TEd):TCd:=fun ρ M acc N=>te ρ M fun x M1=>acc.length < p4/\N ρ M1 (acc++[x])
noncomputable def aP:List TTd->TCd->TCd
 | [],tb=>tb
 | t::r,tb=>fun ρ M acc N=>t ρ M fun b M1=>if b=true then aP r tb ρ M1 acc N else N ρ M1 acc
noncomputable def aJ (b:BT) (tb:TCd) (chk:Mem->Prop) (N:NC):List D->NC
 | [] => fun ρ M acc=>chk M/\N ρ M acc
 | x::xs=>fun ρ M acc=>chk M /\ ∃ ρ',b x ρ = some ρ'/\tb ρ' M acc (aJ b tb chk N xs)
noncomputable def dh (src:TId) (b:BT) (tb:TCd):TCd:=fun ρ M acc N=>src ρ M fun xs chk M1=>aJ b tb chk N xs ρ M1 acc
noncomputable def fX (fr:List (Option Nat)) (src:TId) (b:BT) (tb:TCd):TEd:=fun ρ M Q=>src ρ M fun xs chk M1=>aJ b tb chk (fun _ M' acc => ∀ p,M' p=none->Q (.ref p) (ae M' p (.lst acc))) xs (jj fr ρ) M1 []
theorem bp {te:TEd} (h:ab te):bI (bh te):=fun ρ M acc N N' i q=>h _ _ _ _ (fun x B ⟨z,j⟩=>⟨z,i _ _ _ j⟩) q
theorem aK {tb:TCd} (z:bI tb):∀ {ts:List TTd},(∀ t∈ts,aA t)->bI (aP ts tb)
 | [],_=>z
 | t::r,h=>fun ρ M acc N N' i q=>h t Eb _ _ _ _ (fun b F j=>by
   cases b with
   | true=>rw [if_pos rfl] at j ⊢;exact aK z (fun t' B=>h t' (DR _ B)) _ _ _ _ _ i j
   | false=>rw [if_neg hB] at j ⊢;exact i _ _ _ j) q
theorem fe {b:BT} {tb:TCd} (z:bI tb) {chk:Mem->Prop} {N N':NC} (i:∀ ρ' M' acc',N ρ' M' acc'->N' ρ' M' acc'):∀ (xs:List D) (ρ:ak) (M:Mem) (acc:List D),aJ b tb chk N xs ρ M acc->aJ b tb chk N' xs ρ M acc
 | [], ρ,M,acc,h=>⟨h.1,i _ _ _ h.2⟩
 | x::xs, ρ,M,acc,⟨c, ρ',e,q⟩=>⟨c, ρ',e,z _ _ _ _ _ (fun ρ2 M2 j B=>fe z i xs ρ2 M2 j B) q⟩
theorem gA {src:TId} {b:BT} {tb:TCd} (j:bH src) (z:bI tb):bI (dh src b tb):=fun ρ M acc N N' i q=>j _ _ _ _ (fun xs c F B=>fe z i xs _ _ _ B) q
theorem jT {fr:List (Option Nat)} {src:TId} {b:BT} {tb:TCd} (j:bH src) (z:bI tb):ab (fX fr src b tb):=fun ρ M Q Q' i q =>
 j _ _ _ _ (fun xs c G B=>fe z (fun _ M' acc F p n=>i _ _ (F p n)) xs _ _ _ B) q
section
variable {K:Frag} {p:Addr}
theorem ff {te:TEd} (m:ab te) (σ:St) (H:Hp) (N:St->Hp->Prop) (h:lC K p (bh te) σ H N):xo p (lE K te) σ H N:=by
 obtain ⟨ρ,M,acc,rs,rm,n,⟨vs,L,ra⟩,q⟩:=h;refine ⟨ρ,M,rs,rm,m _ _ _ _ (fun x Y ⟨z,O⟩ v H1 F G J => ?_) q⟩;have j:=F.keep p _ n L;have U:=F.new p _ n L;have st:=F.stab rm;have B:Stab H1 (upd H1 p (.lst (vs++[v]))):=lQ j;refine ⟨vs,j,by rw [ra.length];exact z,O σ _ ⟨fun a o ne m' e => ?_,F.nw⟩ ((rs.mono st).mono B) (G.side U j) ⟨vs++[v],ao,((ra.mono st).mono B).append (RDs.cons (J.mono B) RDs.nil)⟩⟩
 rw [ah ne];exact F.kp a o m' e
theorem iM {tb:TCd} (mb:bI tb):∀ {ts:List TTd},(∀ t∈ts,aA t) -> ∀ (σ:St) (H:Hp) (N:St->Hp->Prop),lC K p (aP ts tb) σ H N->im (ts.map (lT K)) (lC K p tb) σ H N
 | [],_, σ,H,N,h=>h
 | t::r,hm, σ,H,N,h=>by
   obtain ⟨ρ,M,acc,rs,rm,n,⟨vs,G,ra⟩,q⟩:=h;refine ⟨ρ,M,rs,rm,hm t Eb _ _ _ _ (fun b L F H1 z B => ?_) q⟩;have j:=z.keep p _ n G;have O:=z.new p _ n G;have st:=z.stab rm
   cases b with
   | false =>
     rw [if_neg hB] at F;dsimp only;rw [if_neg hB];exact F σ H1 z.toP (rs.mono st) B ⟨vs,j,ra.mono st⟩
   | true =>
     rw [if_pos rfl] at F;dsimp only;rw [if_pos rfl];exact iM mb (fun t' J=>hm t' (DR _ J)) σ H1 N ⟨ρ,L,acc,rs.mono st,B,O,⟨vs,j,ra.mono st⟩,
      aK mb (fun t' J=>hm t' (DR _ J)) _ _ _ _ _ (fun ρ' M' acc' k=>k.ext G ⟨vs,j⟩ z.toP) F⟩
theorem jU {b:BT} {tb:TCd} (mb:bI tb) {xs:List D} {chk:Mem->Prop} {J:It} {H1:Hp} {B:Mem} {Nd:NC} {N:St->Hp->Prop} {σ:St} {ρ:ak} {acc:List D} (it:eZ K H1 xs chk J) (rs:RS K H1 σ ρ) (rm:RM K B H1) (n:B p=none)
 (ac:fW K H1 p acc) (q:aJ b tb chk Nd xs ρ B acc) (hN:∀ ρ' M' acc' σ' H',ExtP p B H1 M' H'->RS K H' σ' ρ'->RM K M' H'->fW K H' p acc'->Nd ρ' M' acc'->N σ' H') :
 fQ J (lG K b) (lC K p tb) N σ H1:=by
 obtain ⟨CY,F,_⟩:=id ac;refine ⟨fun i m σ H=>m=xs.length - i/\i<=xs.length /\ ∃ ρ M acc,RS K H σ ρ /\ RM K M H/\M p=none/\fW K H p acc/\ExtP p B H1 M H/\aJ b tb chk Nd (xs.drop i) ρ M acc,⟨xs.length,by simp,EN _, ρ,B,acc,rs,rm,n,ac,ExtP.refl,q⟩, ?_⟩
 rintro i m σ H ⟨rfl,hi, ρ,M,acc,rs,j,n,ac,x,q⟩;have st:=x.stab rm F;obtain ⟨vs,hp,ra⟩:=id ac
 by_cases z:i < xs.length
 ·rw [EI z] at q;obtain ⟨c, ρ',hb,q⟩:=q;obtain ⟨go,yl⟩:=(it M H st j c i).2 z;refine .inr ⟨go,fun σ' H' => ∃ m',m' < xs.length - i/\(m'=xs.length - (i+1)/\i+1<=xs.length /\ ∃ ρ M acc,RS K H' σ' ρ /\ RM K M H'/\M p=none/\fW K H' p acc/\ExtP p B H1 M H'/\aJ b tb chk Nd (xs.drop (i+1)) ρ M acc),fun σ' H' h=>h,fun x' H' y => ?_⟩;obtain ⟨yy,d,hd,rd⟩:=yl x' H' y;rw [hh z] at hd
  cases hd
  obtain ⟨xy,rmy⟩:=yy.ext j;have sty:=xy.stab j;have G:=xy.keep p _ n hp;refine ⟨_, ρ, ρ',rd,rs.mono sty,hb,fun σ2 O => ?_⟩;refine ⟨ρ',M,acc,O,rmy,n,⟨vs,G,ra.mono sty⟩,mb _ _ _ _ _ (fun ρ3 M3 L q3 σ3 H3 x3 U Y Z => ?_) q⟩;have n3:M3 p=none:=x3.new p _ n G;exact ⟨xs.length - (i+1),by lia,rfl,z, ρ3,M3,L,U,Y,n3,Z,(x.trans F ⟨vs,hp⟩ xy.toP).trans F ⟨vs,G⟩ x3,q3⟩
 ·have e:i=xs.length:=by lia
  subst e;rw [Iy] at q;exact .inl ⟨(it M H st j q.1 _).1 (hQ _),hN ρ M acc σ H x rs j ac q.2⟩
theorem gB {src:TId} {b:BT} {tb:TCd} (ms:bH src) (mb:bI tb) (σ:St) (H:Hp) (N:St->Hp->Prop) (h:lC K p (dh src b tb) σ H N):(lI K src) σ H fun J H1=>fQ J (lG K b) (lC K p tb) N σ H1:=by
 obtain ⟨ρ,M,acc,rs,rm,n,⟨vs,B,ra⟩,q⟩:=h;refine ⟨ρ,M,rs,rm,ms _ _ _ _ (fun xs chk O G J H1 z F it => ?_) q⟩;have j:=z.keep p _ n B;have L:=z.new p _ n B;have st:=z.stab rm;exact jU mb it (rs.mono st) F L ⟨vs,j,ra.mono st⟩ G fun ρ' M' acc' σ' H' x2 rs' rm' ac' k=>k σ' H' (z.toP.trans B ⟨vs,j⟩ x2) rs' rm' ac'
theorem dE {fr:List (Option Nat)} {src:TId} {b:BT} {tb:TCd} (ms:bH src) (mb:bI tb) (σ:St) (H:Hp) (Q:VK) (h:lE K (fX fr src b tb) σ H Q):qf (lI K src) (lG K b) (fun p=>lC K p tb) fr σ H Q:=by
 obtain ⟨ρ,M,rs,rm,q⟩:=h;refine ⟨ρ,M,rs,rm,ms _ _ _ _ (fun xs chk G U J H1 F j it p n => ?_) q⟩;have st:=F.stab rm;have xn:Ext G H1 G (upd H1 p (.lst [])):=Ms n;have stn:=xn.stab j;have O:G p=none:=j.out n;refine jU (p:=p) mb (xs:=xs) (chk:=chk) (fun M' H' st'=>it M' H' ⟨fun a xs e=>st'.tup _ _ (stn.tup _ _ e),fun a o u e=>st'.frz _ _ _ (stn.frz _ _ _ e)⟩) (((rs.mono st).mono stn).inh fr) (j.new n) O ⟨[],ao,RDs.nil⟩ U fun ρ' M' acc' σ' H' L rs' rm' ac' k => ?_;obtain ⟨vs,Y,ra⟩:=ac';have n':M' p=none:=L.new p _ O ao;refine k p n' (.ref p) H' ⟨fun a o m e => ?_,fun a o m e => ?_⟩ (fun a o e => ?_) (Mk.mpr rfl)
 ·have B:=F.kp a o m e;have ne:a≠p:=fun z=>by subst z;rw [n] at B;cases B
  exact L.kp a o ne (by rw [F.nw a o m e];exact m) (by rw [ah ne];exact B)
 ·have B:=F.kp a o m e;have ne:a≠p:=fun z=>by subst z;rw [n] at B;cases B
  rw [aj ne];exact (L.nw a o (by rw [F.nw a o m e];exact m) (by rw [ah ne];exact B)).trans (F.nw a o m e)
 ·by_cases z:a=p
  ·subst z;rw [aa] at e;cases e;exact ⟨vs,Y,ra⟩
  ·rw [aj z] at e;exact rm' a o e
end
end
section
noncomputable def fY:TSd:=fun D ρ M=>D.nx ρ M
noncomputable def lU (t u:TSd):TSd:=fun D ρ M=>t { D with nx:=u D } ρ M
noncomputable def fg:TSd:=fun D ρ M=>D.bk ρ M
noncomputable def iN:TSd:=fun D ρ M=>D.ct ρ M
noncomputable def iO (te:TEd):TSd:=fun D ρ M=>te ρ M fun _ M1=>D.nx ρ M1
noncomputable def lV (te:TEd):TSd:=fun D ρ M=>te ρ M D.rt
noncomputable def sIf (c:TTd) (t u:TSd):TSd:=fun D ρ M=>c ρ M fun b M1=>if b=true then t D ρ M1 else u D ρ M1
noncomputable def gK (te:TEd) (b:BT):TSd:=fun D ρ M=>te ρ M fun x M1 => ∃ ρ',b x ρ = some ρ'/\D.nx ρ' M1
noncomputable def lW (ta:TAd) (bs:BTs):TSd:=fun D ρ M=>ta ρ M fun xs M1 => ∃ ρ',bs xs ρ = some ρ'/\D.nx ρ' M1
noncomputable def bn (b:BT) (tb:TSd) (chk:Mem->Prop) (D:bb):List Mi.D->ak->Mem->Prop
 | [] => fun ρ M=>chk M/\D.nx ρ M
 | x::xs=>fun ρ M=>chk M /\ ∃ ρ',b x ρ = some ρ'/\tb { D with nx:=bn b tb chk D xs,ct:=bn b tb chk D xs,bk:=D.nx } ρ' M
noncomputable def lX (src:TId) (b:BT) (tb:TSd):TSd:=fun D ρ M=>src ρ M fun xs chk M1=>bn b tb chk D xs ρ M1
noncomputable def aB (c:TTd) (tb:TSd) (D:bb):Nat->ak->Mem->Prop
 | 0=>fun _ _=>False
 | n+1=>fun ρ M=>c ρ M fun b M1=>if b=true then tb { D with nx:=aB c tb D n,ct:=aB c tb D n,bk:=D.nx } ρ M1 else D.nx ρ M1
noncomputable def fh (c:TTd) (tb:TSd):TSd:=fun D ρ M => ∃ n,aB c tb D n ρ M
theorem jV:az fY:=fun _ _ _ _ h q=>h.nx _ _ q
theorem qw:az fg:=fun _ _ _ _ h q=>h.bk _ _ q
theorem sW:az iN:=fun _ _ _ _ h q=>h.ct _ _ q
theorem sX {t u:TSd} (j:az t) (z:az u):az (lU t u):=fun a b ρ M h q=>j { a with nx:=u a } { b with nx:=u b } _ _ ⟨fun ρ' M' q'=>z _ _ _ _ h q',h.rt,h.bk,h.ct⟩ q
theorem sY {te:TEd} (h:ab te):az (iO te):=fun a b ρ M i q=>h _ _ _ _ (fun _ z j=>i.nx _ _ j) q
theorem vG {te:TEd} (h:ab te):az (lV te):=fun a b ρ M i q=>h _ _ _ _ (fun d z j=>i.rt _ _ j) q
theorem vH {c:TTd} {t u:TSd} (z:aA c) (B:az t) (F:az u):az (sIf c t u):=fun a b ρ M i q=>z _ _ _ _ (fun k G j=>by
 cases k with
 | true=>rw [if_pos rfl] at j ⊢;exact B _ _ _ _ i j
 | false=>rw [if_neg hB] at j ⊢;exact F _ _ _ _ i j) q
theorem vI {te:TEd} {bt:BT} (h:ab te):az (gK te bt):=fun a b ρ M i q=>h _ _ _ _ (fun d z ⟨ρ',e,j⟩=>⟨ρ',e,i.nx _ _ j⟩) q
theorem vJ {ta:TAd} {bs:BTs} (h:aV ta):az (lW ta bs):=fun a b ρ M i q=>h _ _ _ _ (fun d z ⟨ρ',e,j⟩=>⟨ρ',e,i.nx _ _ j⟩) q
theorem fj {bt:BT} {tb:TSd} (j:az tb) {chk:Mem->Prop} {a b:bb} (i:LeD a b):∀ (xs:List D) (ρ:ak) (M:Mem),bn bt tb chk a xs ρ M->bn bt tb chk b xs ρ M
 | [], ρ,M,h=>⟨h.1,i.nx _ _ h.2⟩
 | x::xs, ρ,M,⟨c, ρ',e,q⟩=>⟨c, ρ',e,j { a with nx:=bn bt tb chk a xs,ct:=bn bt tb chk a xs,bk:=a.nx } { b with nx:=bn bt tb chk b xs,ct:=bn bt tb chk b xs,bk:=b.nx } _ _ ⟨fun ρ2 M2 z=>fj j i xs ρ2 M2 z,i.rt,i.nx,fun ρ2 M2 z=>fj j i xs ρ2 M2 z⟩ q⟩
theorem vK {src:TId} {bt:BT} {tb:TSd} (j:bH src) (z:az tb):az (lX src bt tb):=fun a b ρ M i q=>j _ _ _ _ (fun xs c F B=>fj z i xs _ _ B) q
theorem dN {c:TTd} {tb:TSd} (q:aA c) (z:az tb) {a b:bb} (i:LeD a b):∀ (n:Nat) (ρ:ak) (M:Mem),aB c tb a n ρ M->aB c tb b n ρ M
 | 0, ρ,M,h=>h
 | n+1, ρ,M,h=>q _ _ _ _ (fun k F j=>by
   cases k with
   | true=>rw [if_pos rfl] at j ⊢;exact z { a with nx:=aB c tb a n,ct:=aB c tb a n,bk:=a.nx } { b with nx:=aB c tb b n,ct:=aB c tb b n,bk:=b.nx } _ _ ⟨fun ρ2 M2 B=>dN q z i n ρ2 M2 B,i.rt,i.nx,fun ρ2 M2 B=>dN q z i n ρ2 M2 B⟩ j
   | false=>rw [if_neg hB] at j ⊢;exact i.nx _ _ j) h
theorem qz {c:TTd} {tb:TSd} (j:aA c) (z:az tb):az (fh c tb):=fun a b ρ M i ⟨n,q⟩=>⟨n,dN j z i n _ _ q⟩
section
variable {K:Frag}
theorem jW (D:bq) (σ:St) (H:Hp) (h:lS K fY D σ H):pR D σ H:=by
 obtain ⟨ρ,M,A,rs,rm,l,q⟩:=h;exact l.nx ρ M σ H Ext.refl rs rm q
theorem qA (D:bq) (σ:St) (H:Hp) (h:lS K fg D σ H):rK D σ H:=by
 obtain ⟨ρ,M,A,rs,rm,l,q⟩:=h;exact l.bk ρ M σ H Ext.refl rs rm q
theorem sZ (D:bq) (σ:St) (H:Hp) (h:lS K iN D σ H):wZ D σ H:=by
 obtain ⟨ρ,M,A,rs,rm,l,q⟩:=h;exact l.ct ρ M σ H Ext.refl rs rm q
theorem vL {t u:TSd} (mt:az t) (mu:az u) (D:bq) (σ:St) (H:Hp) (h:lS K (lU t u) D σ H):A5 (lS K t) (lS K u) D σ H:=by
 obtain ⟨ρ,M,A,rs,rm,l,q⟩:=h;exact ⟨ρ,M, { A with nx:=u A },rs,rm,⟨fun ρ' M' σ' H' x rs' rm' q'=>⟨ρ',M',A,rs',rm',l.ext x,q'⟩,l.rt,l.bk,l.ct⟩,q⟩
theorem t3 {te:TEd} (m:ab te) (D:bq) (σ:St) (H:Hp) (h:lS K (iO te) D σ H):xc (lE K te) D σ H:=by
 obtain ⟨ρ,M,A,rs,rm,l,q⟩:=h;exact ⟨ρ,M,rs,rm,m _ _ _ _ (fun d B F v H1 z j G=>l.nx ρ B σ H1 z (rs.mono (z.stab rm)) j F) q⟩
theorem vM {te:TEd} (m:ab te) (D:bq) (σ:St) (H:Hp) (h:lS K (lV te) D σ H):A6 (lE K te) D σ H:=by
 obtain ⟨ρ,M,A,rs,rm,l,q⟩:=h;exact ⟨ρ,M,rs,rm,m _ _ _ _ (fun d B F v H1 G j z=>l.rt d B v H1 G j z F) q⟩
theorem yK {c:TTd} {t u:TSd} (mc:aA c) (D:bq) (σ:St) (H:Hp) (h:lS K (sIf c t u) D σ H):A8 (lT K c) (lS K t) (lS K u) D σ H:=by
 obtain ⟨ρ,M,A,rs,rm,l,q⟩:=h;refine ⟨ρ,M,rs,rm,mc _ _ _ _ (fun k F z H1 B j => ?_) q⟩
 cases k with
 | true=>rw [if_pos rfl] at z ⊢;exact ⟨ρ,F,A,rs.mono (B.stab rm),j,l.ext B,z⟩
 | false=>rw [if_neg hB] at z ⊢;exact ⟨ρ,F,A,rs.mono (B.stab rm),j,l.ext B,z⟩
theorem vN {te:TEd} {b:BT} (m:ab te) (D:bq) (σ:St) (H:Hp) (h:lS K (gK te b) D σ H):pT (lE K te) (lG K b) D σ H:=by
 obtain ⟨ρ,M,A,rs,rm,l,q⟩:=h;refine ⟨ρ,M,rs,rm,m _ _ _ _ (fun d F ⟨ρ',e,G⟩ v H1 B j z => ?_) q⟩;exact ⟨d, ρ, ρ',z,rs.mono (B.stab rm),e,fun σ' rs'=>l.nx ρ' F σ' H1 B rs' j G⟩
theorem jX {te:TEd} {i:Nat} (m:ab te) (D:bq) (σ:St) (H:Hp) (h:lS K (gK te (aW i)) D σ H):pT (lE K te) (i6 i) D σ H:=by
 obtain ⟨ρ,M,A,rs,rm,l,q⟩:=h;refine ⟨ρ,M,rs,rm,m _ _ _ _ (fun d z ⟨ρ',e,B⟩ v H1 j rm1 rd1 => ?_) q⟩
 cases e
 exact l.nx _ z _ H1 j ((rs.mono (j.stab rm)).set i rd1) rm1 B
theorem vO {src:TId} {b:BT} {tb:TSd} (ms:bH src) (mb:az tb) (D:bq) (σ:St) (H:Hp) (h:lS K (lX src b tb) D σ H):Ab (lI K src) (lG K b) (lS K tb) D σ H:=by
 obtain ⟨ρ,M,A,rs,rm,l,q⟩:=h;refine ⟨ρ,M,rs,rm,ms _ _ _ _ (fun xs chk M1 q1 J H1 x1 G it => ?_) q⟩;refine ⟨fun i m σ H'=>m=xs.length - i/\i<=xs.length /\ ∃ ρ M2,RS K H' σ ρ /\ RM K M2 H'/\Ext M1 H1 M2 H'/\bn b tb chk A (xs.drop i) ρ M2,⟨xs.length,by simp,EN _, ρ,M1,rs.mono (x1.stab rm),G,Ext.refl,q1⟩, ?_⟩
 rintro i m σ2 H2 ⟨rfl,hi, ρ2,M2,L,j,x2,O⟩;have U:=x2.stab G
 by_cases B:i < xs.length
 ·rw [EI B] at O;obtain ⟨c, ρ',hb,q3⟩:=O;obtain ⟨go,yl⟩:=(it M2 H2 U j c i).2 B;refine .inr ⟨go,fun σ' H' => ∃ m',m' < xs.length - i/\(m'=xs.length - (i+1)/\i+1<=xs.length /\ ∃ ρ M,RS K H' σ' ρ /\ RM K M H'/\Ext M1 H1 M H'/\bn b tb chk A (xs.drop (i+1)) ρ M),fun σ' H' h=>h,fun x' H' y => ?_⟩;obtain ⟨yy,d,hd,rd⟩:=yl x' H' y;rw [hh B] at hd
  cases hd
  obtain ⟨xy,rmy⟩:=yy.ext j;have Y:=x1.trans (x2.trans xy);refine ⟨_, ρ2, ρ',rd,L.mono (xy.stab j),hb,fun σ3 CY => ?_⟩;have nx:∀ ρ5 F σ5 z,Ext M2 H' F z->RS K z σ5 ρ5->RM K F z->bn b tb chk A (xs.drop (i+1)) ρ5 F -> ∃ m',m' < xs.length - i/\(m'=xs.length - (i+1)/\i+1<=xs.length /\ ∃ ρ M,RS K z σ5 ρ /\ RM K M z/\Ext M1 H1 M z/\bn b tb chk A (xs.drop (i+1)) ρ M) :=
   fun ρ5 F σ5 z Z CZ D0 q5=>⟨xs.length - (i+1),by lia,rfl,B, ρ5,F,CZ,D0,(x2.trans xy).trans Z,q5⟩
  refine ⟨ρ',M2, { A with nx:=bn b tb chk A (xs.drop (i+1)),ct:=bn b tb chk A (xs.drop (i+1)),bk:=A.nx },CY,rmy,⟨nx,fun d F v z Z=>l.rt d F v z (Y.trans Z),fun ρ5 F σ5 z Z=>l.nx ρ5 F σ5 z (Y.trans Z),nx⟩,q3⟩
 ·have e:i=xs.length:=by lia
  subst e;rw [Iy] at O;exact .inl ⟨(it M2 H2 U j O.1 _).1 (hQ _),l.nx ρ2 M2 σ2 H2 (x1.trans x2) L j O.2⟩
theorem qB {c:TTd} {tb:TSd} (mc:aA c) (mb:az tb) (D:bq) (σ:St) (H:Hp) (h:lS K (fh c tb) D σ H):rM (lT K c) (lS K tb) D σ H:=by
 obtain ⟨ρ,M,A,rs,rm,l,n,q⟩:=h;refine ⟨fun m σ' H' => ∃ ρ' M',RS K H' σ' ρ'/\RM K M' H'/\Ext M H M' H'/\aB c tb A m ρ' M',⟨n, ρ,M,rs,rm,Ext.refl,q⟩, ?_⟩;rintro m σ1 H1 ⟨ρ1,M1,J,L,x1,q1⟩
 cases m with
 | zero=>exact q1.elim
 | succ m =>
   refine ⟨ρ1,M1,J,L,mc _ _ _ _ (fun k M2 Z H2 x2 O => ?_) q1⟩;have j:=x1.trans x2;have U:=J.mono (x2.stab L)
   cases k with
   | false=>rw [if_neg hB] at Z;dsimp only;rw [if_neg hB];exact l.nx ρ1 M2 σ1 H2 j U O Z
   | true =>
     rw [if_pos rfl] at Z;dsimp only;rw [if_pos rfl];refine ⟨fun σ' H' => ∃ ρ' M',RS K H' σ' ρ'/\RM K M' H'/\Ext M H M' H'/\aB c tb A m ρ' M',fun σ' H' h=>⟨m,Ld m,h⟩, ρ1,M2, { A with nx:=aB c tb A m,ct:=aB c tb A m,bk:=A.nx },U,O,⟨?_,fun d z v Y B=>l.rt d z v Y (j.trans B),fun ρ5 z σ5 Y B=>l.nx ρ5 z σ5 Y (j.trans B), ?_⟩,Z⟩
     ·exact fun ρ5 z σ5 Y B F G q5=>⟨ρ5,z,F,G,j.trans B,q5⟩
     ·exact fun ρ5 z σ5 Y B F G q5=>⟨ρ5,z,F,G,j.trans B,q5⟩
end
noncomputable def dF:D->D->D->Mem->(Mem->Prop)->Prop:=fun o i v M Q => ∃ a,o = .ref a /\
 ((∃ xs k j,i = .int k/\M a=some (.lst xs)/\ixN xs.length k=some j/\Q (ae M a (.lst (xs.set j v)))) ∨
  ∃ t kvs,M a=some (.dct t kvs)/\iB t i=true/\kvs.length < p4/\Q (ae M a (.dct t (bS kvs i v))))
noncomputable def lY (te to ti:TEd):TSd:=fun D ρ M=>te ρ M fun v M1=>to ρ M1 fun o M2=>ti ρ M2 fun i M3=>dF o i v M3 fun M4=>D.nx ρ M4
theorem fq {o i v:D} {M:Mem} {Q Q':Mem->Prop} (h:∀ M',Q M'->Q' M') (q:dF o i v M Q):dF o i v M Q':=by
 obtain ⟨a,e,⟨xs,k,j,z,B,F,q⟩ | ⟨t,kvs,z,B,F,q⟩⟩:=q
 ·exact ⟨a,e, .inl ⟨xs,k,j,z,B,F,h _ q⟩⟩
 ·exact ⟨a,e, .inr ⟨t,kvs,z,B,F,h _ q⟩⟩
theorem vP {te to ti:TEd} (he:ab te) (ho:ab to) (hi:ab ti):az (lY te to ti):=fun a b ρ M i q =>
 he _ _ _ _ (fun v F j=>ho _ _ _ _ (fun o M2 z=>hi _ _ _ _ (fun k G B=>fq (fun M' q'=>i.nx _ _ q') B) z) j) q
section
variable {X:Cx} {K:Frag}
theorem lZ (j:X.A.units+1 < F8):PSet X (fun o i v H Q => ∃ a H',o = .ref a/\DPut H a i v H'/\Q H'):=by
 intro pins s σ H o i v ov iv u Q I ro ri rv h;obtain ⟨a,H',rfl,g,q⟩:=h
 cases ro
 exact sh j I g ri rv fun s' I'=>⟨H',I',q⟩
theorem PSet.or {t t':pS} (h:PSet X t) (h':PSet X t'):PSet X (fun o i v H Q=>t o i v H Q∨t' o i v H Q):=by
 intro pins s σ H o i v ov iv u Q I ro ri rv q
 rcases q with q | q
 ·exact h pins s σ H o i v ov iv u Q I ro ri rv q
 ·exact h' pins s σ H o i v ov iv u Q I ro ri rv q
section
variable {κ:Type} [DecidableEq κ] {H:Hp} {RK:D -> κ -> Prop} (inj:∀ {d e:D} {k : κ},RK d k->RK e k->d=e) (fn:∀ {d:D} {k k' : κ},RK d k->RK d k'->k=k')
include inj fn
theorem oS {k:D} {q : κ} (j:RK k q):∀ {kvs:List (D×D)} {ps:List (κ × V)},E1 (fun p r=>RK p.1 r.1/\RD K H p.2 r.2) kvs ps ->
 (kvs.any fun p=>decide (p.1=k))=(ps.any fun p=>decide (p.1=q))
 | _,_, .nil=>rfl
 | _,_, .cons (a:=p) (b:=r) hr t=>by
   rw [ES,ES,oS j t];congr 1
   by_cases e:p.1=k
   ·have e':r.1=q:=by have h1:=hr.1;rw [e] at h1;exact fn h1 j
    rw [decide_eq_true e,decide_eq_true e']
   ·have e' : ¬ r.1=q:=fun z=>e (by have h1:=hr.1;rw [z] at h1;exact inj h1 j)
    rw [decide_eq_false e,decide_eq_false e']
theorem oT {k:D} {q : κ} (B:RK k q) {d:D} {v:V} (F:RD K H d v):∀ {kvs:List (D×D)} {ps:List (κ × V)},E1 (fun p r=>RK p.1 r.1/\RD K H p.2 r.2) kvs ps ->
 E1 (fun p r=>RK p.1 r.1/\RD K H p.2 r.2) (kvs.map fun p=>if p.1=k then (p.1,d) else p) (ps.map fun p=>if p.1=q then (p.1,v) else p)
 | _,_, .nil => .nil
 | _,_, .cons (a:=p) (b:=r) j t=>by
   refine .cons ?_ (oT B F t)
   by_cases e:p.1=k
   ·have e':r.1=q:=by have h1:=j.1;rw [e] at h1;exact fn h1 B
    dsimp only;rw [if_pos e,if_pos e'];exact ⟨j.1,F⟩
   ·have e' : ¬ r.1=q:=fun z=>e (by have h1:=j.1;rw [z] at h1;exact inj h1 B)
    dsimp only;rw [if_neg e,if_neg e'];exact j
theorem gL {k:D} {q : κ} (j:RK k q) {d:D} {v:V} (z:RD K H d v) {kvs:List (D×D)} {ps:List (κ × V)} (r:E1 (fun p r=>RK p.1 r.1/\RD K H p.2 r.2) kvs ps) :
 E1 (fun p r=>RK p.1 r.1/\RD K H p.2 r.2) (bS kvs k d) (b8 ps q v):=by
 unfold bS b8;rw [oS (K:=K) (H:=H) (RK:=RK) inj fn j r]
 by_cases e:(ps.any fun p=>decide (p.1=q))=true
 ·rw [if_pos e,if_pos e];exact oT (RK:=RK) inj fn j z r
 ·rw [if_neg e,if_neg e];exact r.snoc ⟨j,z⟩
end
theorem gM {M:Mem} {H:Hp} {o i v:D} {ov iv vv:V} {Qd:Mem->Prop} {Q:Hp->Prop} (rm:RM K M H) (ro:RD K H o ov) (ri:RD K H i iv) (rv:RD K H v vv) (h:dF o i v M Qd) (O:∀ M' H',Ext M H M' H'->RM K M' H'->Qd M'->Q H') :
 xj ov iv vv H Q ∨ ∃ a H',ov = .ref a/\DPut H a iv vv H'/\Q H':=by
 obtain ⟨a,rfl,⟨xs,k,j,rfl,B,L,q⟩ | ⟨t,kvs,F,B,L,q⟩⟩:=h
 ·cases Mk.mp ro
  cases Mj.mp ri
  obtain ⟨vs,Z,rs⟩:=rm _ _ B;have st:Stab H (upd H a (.lst (vs.set j vv))):=rm.stabPut B;exact .inl ⟨a,vs,k,j,rfl,rfl,Z,by rw [rs.length];exact L,O _ _ (Ext.put B) (rm.put (o := .lst (xs.set j v)) B ⟨_,ao,(rs.set j rv).mono st⟩) q⟩
 ·cases Mk.mp ro
  have ro':=rm _ _ F
  cases t with
  | false =>
    obtain ⟨ps,U,pr⟩:=ro';obtain ⟨kq,J⟩:=lf (show eC i=true from B);have st:Stab H (upd H a (.dK (b8 ps kq vv))):=rm.stabPut F;have G:=gL (RK:=RKey) RKey.inj RKey.fun J rv pr;rw [jn J ri];refine .inr ⟨a,_,rfl,DPut.k U (by rw [<- Fl pr];exact L),O _ _ (Ext.put F) (rm.put (o := .dct false (bS kvs i v)) F ⟨_,ao,Mn G fun _ _ z=>⟨z.1,z.2.mono st⟩⟩) q⟩
  | true =>
    obtain ⟨ps,U,pr⟩:=ro';obtain ⟨kq,J⟩:=jh (show bD i=true from B);have st:Stab H (upd H a (.dT (b8 ps kq vv))):=rm.stabPut F;have G:=gL (RK:=RKeys) RKeys.inj RKeys.fun J rv pr
    cases i <;> first
     | exact J.elim
     | (obtain ⟨b,us,rfl,Y,ru⟩:=Mt (ji B) ri
        rw [eD J ru] at Y;exact .inr ⟨a,_,rfl,DPut.t U Y (by rw [<- Fl pr];exact L),O _ _ (Ext.put F) (rm.put (o := .dct true (bS kvs _ v)) F ⟨_,ao,Mn G fun _ _ z=>⟨z.1,z.2.mono st⟩⟩) q⟩)
theorem AU {o i e:Expr} {te to ti:TEd} {pos tpos:Pos} (hu:X.A.units+1 < F8) (me:ab te) (mo:ab to) (mi:ab ti) (he:PE X e (lE X.K te)) (ho:PE X o (lE X.K to)) (hi:PE X i (lE X.K ti))
 (hs:Fy [.Subscript o i tpos] e pos.line X.env=pure false) (hw:EK [.Subscript o i tpos] e X.env=pure none)
 (ha:∀ v,assign (.Subscript o i tpos) X.env v=(do
   let ov <- holding [v] (eval o X.env)
   let iv <- holding [v,ov] (eval i X.env)
   GP tpos
   holding [v,ov,iv] (IG ov iv v)
   release [v,ov,iv] [])):PS X (.Assign [.Subscript o i tpos] e pos) (lS X.K (lY te to ti)):=by
 refine PS.imp (i8 he (i7 ho hi (PSet.or kK (lZ hu)) ha) hs hw rfl) fun D σ H h => ?_;obtain ⟨ρ,M,A,rs,rm,l,q⟩:=h;refine ⟨ρ,M,rs,rm,me _ _ _ _ (fun v M1 q1 vv H1 F j G => ?_) q⟩;refine ⟨ρ,M1,rs.mono (F.stab rm),j,mo _ _ _ _ (fun ov M2 q2 vo H2 J z L => ?_) q1⟩;refine ⟨ρ,M2,(rs.mono (F.stab rm)).mono (J.stab j),z,mi _ _ _ _ (fun iv M3 q3 vi H3 O U Y => ?_) q2⟩;have B:=F.trans (J.trans O);exact gM U (L.mono (O.stab z)) Y ((G.mono (J.stab j)).mono (O.stab z)) q3 fun M' H' x4 Z q4=>l.nx ρ M' σ H' (B.trans x4) (rs.mono ((B.trans x4).stab rm)) Z q4
end
end
end Mi
end L2
namespace L2
open PySem PySem.Spec PyProof.Rows
namespace Mi
variable {K:Frag}
theorem t4 {ta:TAd} {i j:Nat} (m:aV ta) (D:bq) (σ:St) (H:Hp) (h:lS K (lW ta (bF (aW i) (bF (aW j) eY))) D σ H):A9 i j (lA K ta) D σ H:=by
 obtain ⟨ρ,M,A,rs,rm,l,q⟩:=h;refine ⟨ρ,M,rs,rm,m _ _ _ _ (fun ds G ⟨ρ',e,J⟩ vs H1 F B z => ?_) q⟩
 match ds,e,z with
 | [d1,d2],e,z =>
  obtain ⟨v,u,rfl,L,O⟩:=z.two;simp only [bF,aW,eY,Hg,KL] at e;subst e;exact ⟨v,u,rfl,l.nx _ G _ H1 F (((rs.mono (F.stab rm)).set i L).set j O) B J⟩
end Mi
end L2
namespace L2
open PySem PySem.Spec PyProof.Rows
namespace Mi
end Mi
end L2
namespace L2
namespace Mi
open PySem PySem.Spec PyProof.Rows
section
section
variable {X:Cx}
noncomputable def isD:D->D->Option Bool
 | x, .non=>some (match x with | .non=>true | _=>false)
 | x, .bl b=>some (match x with | .bl c=>c==b | _=>false)
 | _,_=>none
noncomputable def wIs:R2d:=fun x y M Q => ∃ k,isD x y=some k/\Q (.bl k) M
noncomputable def m5:R2d:=fun x y M Q => ∃ k,isD x y=some k/\Q (.bl (!k)) M
theorem yL:aG wIs:=fun _ _ _ _ _ h ⟨k,e,q⟩=>⟨k,e,h _ _ q⟩
theorem vQ:aG m5:=fun _ _ _ _ _ h ⟨k,e,q⟩=>⟨k,e,h _ _ q⟩
theorem yM {M:LI} {A:Ea} {E:e6->h6->Prop} {s:h6} {Q:e6->h6->Prop} {v:e6} {b:Bool} (j:∀ id,v ≠ .builtin id) (h:Q (.bool (v == .bool b)) s):DJ M A (Eg .Is v (.bool b)) Q E s:=by
 cases v <;> first | exact h7 h | exact absurd rfl (j _)
theorem vR {M:LI} {A:Ea} {E:e6->h6->Prop} {s:h6} {Q:e6->h6->Prop} {v:e6} {b:Bool} (j:∀ id,v ≠ .builtin id) (h:Q (.bool (!(v == .bool b))) s):DJ M A (Eg .IsNot v (.bool b)) Q E s:=by
 cases v <;> first | exact h7 h | exact absurd rfl (j _)
theorem t5 {K:Frag} {H:Hp} {x y:D} {v w:V} {u t:e6} {k:Bool} (e:isD x y=some k) (rx:RD K H x v) (ry:RD K H y w) (ru:RelV v u) (rt:RelV w t):(t = .none/\(u == .none)=k) ∨ ∃ b,t = .bool b/\(u == .bool b)=k /\ ∀ id,u ≠ .builtin id:=by
 cases y with
 | non =>
   cases Mq.mp ry
   cases rt
   refine .inl ⟨rfl, ?_⟩
   cases x with
   | non=>cases Mq.mp rx;cases ru;cases e;rfl
   | bl c=>cases Ml.mp rx;cases ru;cases e;rfl
   | int i=>cases Mj.mp rx;obtain ⟨tk,rfl⟩:=ru;cases e;rfl
   | str z=>cases Mr.mp rx;obtain ⟨tk,rfl⟩:=ru;cases e;rfl
   | tup ds=>obtain ⟨a,vs,rfl,_⟩:=Mo rx;cases ru;cases e;rfl
   | con ds=>obtain ⟨a,vs,rfl,_⟩:=Mp.mp rx;cases ru;cases e;rfl
   | ref a=>cases Mk.mp rx;cases ru;cases e;rfl
   | fn z=>obtain ⟨a,rfl,_⟩:=MA.mp rx;cases ru;cases e;rfl
 | bl b =>
   cases Ml.mp ry
   cases rt
   refine .inr ⟨b,rfl, ?_⟩
   cases x with
   | non=>cases Mq.mp rx;cases ru;cases e;exact ⟨rfl,fun _ z=>by cases z⟩
   | bl c=>cases Ml.mp rx;cases ru;cases e;exact ⟨by cases b <;> cases c <;> rfl,fun _ z=>by cases z⟩
   | int i=>cases Mj.mp rx;obtain ⟨tk,rfl⟩:=ru;cases e;exact ⟨rfl,fun _ z=>by cases z⟩
   | str z=>cases Mr.mp rx;obtain ⟨tk,rfl⟩:=ru;cases e;exact ⟨rfl,fun _ z=>by cases z⟩
   | tup ds=>obtain ⟨a,vs,rfl,_⟩:=Mo rx;cases ru;cases e;exact ⟨rfl,fun _ z=>by cases z⟩
   | con ds=>obtain ⟨a,vs,rfl,_⟩:=Mp.mp rx;cases ru;cases e;exact ⟨rfl,fun _ z=>by cases z⟩
   | ref a=>cases Mk.mp rx;cases ru;cases e;exact ⟨rfl,fun _ z=>by cases z⟩
   | fn z=>obtain ⟨a,rfl,_⟩:=MA.mp rx;cases ru;cases e;exact ⟨rfl,fun _ z=>by cases z⟩
 | _=>cases e
theorem yN:OpR X (Eg .Is) (l2 X.K wIs):=by
 intro pins s σ H v w u t Q I ru rt h;obtain ⟨x,y,M,rm,rx,ry,k,e,q⟩:=h;have fin:EP X pins σ Q (.bool k) s:=⟨.bl k,H,I,rfl,q _ H Ext.refl rm (Ml.mpr rfl)⟩
 rcases t5 e rx ry ru rt with ⟨rfl,j⟩ | ⟨b,rfl,j,nb⟩
 ·exact is_none_gen (by rw [j];exact fin)
 ·exact yM nb (by rw [j];exact fin)
theorem vS:OpR X (Eg .IsNot) (l2 X.K m5):=by
 intro pins s σ H v w u t Q I ru rt h;obtain ⟨x,y,M,rm,rx,ry,k,e,q⟩:=h;have fin:EP X pins σ Q (.bool (!k)) s:=⟨.bl (!k),H,I,rfl,q _ H Ext.refl rm (Ml.mpr rfl)⟩
 rcases t5 e rx ry ru rt with ⟨rfl,j⟩ | ⟨b,rfl,j,nb⟩
 ·exact isnot_none_gen (by rw [j];exact fin)
 ·exact vR nb (by rw [j];exact fin)
noncomputable def gN:D->Option Bool
 | .bl b=>some b
 | .int i=>some (i != 0)
 | _=>none
noncomputable def qC:RAd:=fun xs M Q => ∃ x ds ts,xs=[x]/\av M x=some ds/\aC gN ds=some ts/\Q (.bl (ts.all id)) M
noncomputable def vT:RAd:=fun xs M Q => ∃ x ds ts,xs=[x]/\av M x=some ds/\aC gN ds=some ts/\Q (.bl (ts.any id)) M
theorem m6:aU qC:=fun _ _ _ _ h ⟨x,ds,ts,e,j,z,q⟩=>⟨x,ds,ts,e,j,z,h _ _ q⟩
theorem m7:aU vT:=fun _ _ _ _ h ⟨x,ds,ts,e,j,z,q⟩=>⟨x,ds,ts,e,j,z,h _ _ q⟩
theorem m8 {α β:Type} {f : α -> Option β}:∀ {xs:List α} {ys:List β},aC f xs=some ys->ys.length=xs.length /\ ∀ (i:Nat) x,xs[i]? = some x -> ∃ y,ys[i]? = some y/\f x=some y
 | [],ys,h=>by cases h;exact ⟨rfl,fun i x e=>by simp at e⟩
 | x::xs,ys,h=>by
   simp only [aC] at h
   cases j:f x with
   | none=>rw [j] at h;cases h
   | some y =>
     rw [j] at h;simp only [Hg] at h
     cases e2:aC f xs with
     | none=>rw [e2] at h;cases h
     | some r =>
       rw [e2] at h;cases h;obtain ⟨l,g⟩:=m8 e2;refine ⟨by simp [l],fun i z e => ?_⟩
       cases i with
       | zero=>simp at e;subst e;exact ⟨y,rfl,j⟩
       | succ i=>simp at e;simpa using g i z e
theorem yO {P:DQ} {w:E4} {A:Ea} {E:e6->h6->Prop} {s:h6} {K:Frag} {H:Hp} {d:D} {v:V} {u:e6} {b:Bool} {Q:Bool->h6->Prop} (e:gN d=some b) (rd:RD K H d v) (ru:RelV v u) (q:Q b s):DJ (model P w) A (truthy u) Q E s:=by
 cases d with
 | bl c=>cases Ml.mp rd;cases ru;cases e;exact Fc q
 | int i=>cases Mj.mp rd;obtain ⟨t,rfl⟩:=ru;cases e;exact PyProof.Rows.truthy_int q
 | _=>cases e
theorem range_all {ts:List Bool}:(Eo ts.length).all (fun i=>ts.getD i false)=ts.all id/\(Eo ts.length).any (fun i=>ts.getD i false)=ts.any id:=by
 have e:(Eo ts.length).map (fun i=>ts.getD i false)=ts:=by
  apply List.ext_getElem
  ·simp
  ·intro i h1 h2;simp [Er,hh h2]
 constructor
 ·conv=>rhs;rw [<- e]
  rw [List.all_map];rfl
 ·conv=>rhs;rw [<- e]
  rw [List.any_map];rfl
theorem m9 (J:X.calm=true) {pins:List (Addr×Obj)} {s:h6} {σ:St} {H:Hp} {M:Mem} {x:D} {ds:List D} {ts:List Bool} {v:V} {u:e6} {Q:e6->h6->Prop} {g:List Bool->Bool} (I:Inv X pins σ H s) (rm:RM X.K M H) (rd:RD X.K H x v) (ru:RelV v u) (U:av M x=some ds) (Y:aC gN ds=some ts)
 (fin:∀ h' tk,Inv X pins σ H { s with heap:=h',toks:=tk }->Q (.bool (g ts)) { s with heap:=h',toks:=tk })
 (gg:Nat->(Nat->Bool)->Bool) (L:gg ts.length (fun i=>ts.getD i false)=g ts) :
 DJ (model X.prog X.w) X.A.in1 (Jg u) (fun it s₂ => ∃ I fp wr n P St tr,it = .ref I/\Walks X.prog X.w X.A.in1 I fp wr n P St/\St 0 s₂.heap/\TruthOf X.prog X.w X.A.in1 P tr /\
  ∀ h' tk,(∀ b o,b∉wr->s₂.heap.get? b=some o->h'.get? b=some o)->Q (.bool (gg n tr)) { s₂ with heap:=h',toks:=tk }) X.xe s:=by
 obtain ⟨p,vs,rfl,sq,O⟩:=lw rm rd U
 cases ru
 obtain ⟨lt,get⟩:=m8 Y;have lv:=O.length;have tr:∀ (its:List e6),Vals vs its->TruthOf X.prog X.w X.A.in1 (fun i w=>its.toArray[i]? = some w) (fun i=>ts.getD i false):=by
  intro its rv i w s' Q' E' Z B;have q:its[i]? = some w:=by simpa using Z
  have li:=rv.length;have hi:i < its.length:=(hD.mp q).1;obtain ⟨d,hd⟩:∃ d,ds[i]? = some d:=⟨ds[i]'(by lia),hh (by lia)⟩
  obtain ⟨v',F,rd'⟩:=O.get hd;obtain ⟨u',z,ru'⟩:=rv.get F;rw [q] at z;cases z;obtain ⟨b,hb,eb⟩:=get i d hd;have:ts.getD i false=b:=by rw [Er,hb];rfl
  have B:Q' (ts.getD i false) s':=B;rw [this] at B;exact yO eb rd' ru' B
 rcases sq with sq | sq
 ·obtain ⟨its,rv,pl,hz⟩:=I.list sq;have li:=rv.length;have j:p < s.heap.objs.size:=by obtain ⟨o,n,e,_⟩:=pl;exact v5 e
  refine EU pl.isList ⟨s.heap.objs.size,_,_,_,_,_,_,rfl,Walks.list (by rw [Kh];exact I.ok.hd J) s.heap.objs.size p (E3 j) its.toArray,⟨⟨_,hH _ rfl,rfl,rfl⟩,pl.isList.at fun o e=>gV _ e⟩,tr its rv,fun h' tk k => ?_⟩
  have G:its.toArray.size=ts.length:=by rw [r3];lia
  rw [G,L];exact fin h' tk (I.kept (t':=tk) fun b o e=>k b o (by simp;exact E3 (v5 e)) (gV _ e))
 ·obtain ⟨its,rv,pl,hz⟩:=I.tuple sq;have li:=rv.length;have j:p < s.heap.objs.size:=by obtain ⟨o,e,_⟩:=pl;exact v5 e
  have pt:s.heap.IsTuple p its.toArray:=pl;refine EM pt ⟨s.heap.objs.size,_,_,_,_,_,_,rfl,Walks.tuple (by rw [Kh];exact I.ok.hd J) s.heap.objs.size p (E3 j) its.toArray,⟨⟨_,hH _ rfl,rfl,rfl⟩,pt.push _⟩,tr its rv,fun h' tk k => ?_⟩
  have G:its.toArray.size=ts.length:=by rw [r3];lia
  rw [G,L];exact fin h' tk (I.kept (t':=tk) fun b o e=>k b o (by simp;exact E3 (v5 e)) (gV _ e))
theorem qD (j:X.calm=true):CallR X (.builtin "all") (lR X.K qC):=by
 intro pins s σ H xs us Q I rv h;obtain ⟨ds,M,rm,rs,x,es,ts,rfl,z,B,q⟩:=h;obtain ⟨v,rfl,r⟩:=rs.one;obtain ⟨u,rfl,ru⟩:=cQ rv;exact call_all_walk (m9 j I rm r ru z B (g:=fun ts=>ts.all id) (fun h' tk I'=>⟨.bl _,H,I',rfl,q _ H Ext.refl rm (Ml.mpr rfl)⟩) (fun n tr=>(Eo n).all tr) range_all.1)
theorem qE (j:X.calm=true):CallR X (.builtin "any") (lR X.K vT):=by
 intro pins s σ H xs us Q I rv h;obtain ⟨ds,M,rm,rs,x,es,ts,rfl,z,B,q⟩:=h;obtain ⟨v,rfl,r⟩:=rs.one;obtain ⟨u,rfl,ru⟩:=cQ rv;exact call_any_walk (m9 j I rm r ru z B (g:=fun ts=>ts.any id) (fun h' tk I'=>⟨.bl _,H,I',rfl,q _ H Ext.refl rm (Ml.mpr rfl)⟩) (fun n tr=>(Eo n).any tr) range_all.2)
noncomputable def iP (t:Bool):TEd:=fun _ M Q => ∀ p,M p=none->Q (.ref p) (ae M p (.dct t []))
theorem t6 {t:Bool}:ab (iP t):=fun _ _ _ _ i q p n=>i _ _ (q p n)
theorem yP {t:Bool} {pos:Pos}:PE X (.Dict [] [] pos) (lE X.K (iP t)):=by
 cases t with
 | false =>
   refine PE.imp v6 fun σ H Q ⟨ρ,M,rs,rm,q⟩ p n => ?_;exact q p (rm.out n) (.ref p) _ (Ext.lay n) (rm.lay n ⟨[],ao, .nil⟩) (Mk.mpr rfl)
 | true =>
   refine PE.imp v7 fun σ H Q ⟨ρ,M,rs,rm,q⟩ p n => ?_;exact q p (rm.out n) (.ref p) _ (Ext.lay n) (rm.lay n ⟨[],ao, .nil⟩) (Mk.mpr rfl)
end
end
end Mi
end L2
namespace L2
namespace Srt
open PySem PySem.Spec PyProof.Rows
noncomputable def bey (lt:F0->F0->Bool) (left:Bool) (key x:F0):Bool:=if left=true then lt x key else !(lt key x)
structure Same (st st':LS):Prop where
 arr:arrOf st'=arrOf st
 kind:G5 st'=G5 st
 pend:JI st'=JI st
 fail:KN st'=KN st
section
variable {prog:DQ} {w:E4} {A:Ea} {E:e6->h6->Prop} {s:h6} {kd:LU} {P:F0->Prop} {lt:F0->F0->Bool}
structure Gal (lt:F0->F0->Bool) (left:Bool) (key:F0) (xs:List F0) (lo hi:Nat):Prop where
 le:lo<=hi
 len:hi<=xs.length
 up:∀ i x,i < lo->xs[i]? = some x->bey lt left key x=true
 dn:∀ i x,hi<=i->xs[i]? = some x->bey lt left key x=false
theorem Gal.out {left:Bool} {key:F0} {xs:List F0} {k:Nat} (g:Gal lt left key xs k k):∃ X Y,xs=X++Y/\X.length=k/\(∀ x∈X,bey lt left key x=true)/\(∀ x∈Y,bey lt left key x=false):=by
 refine ⟨xs.take k,xs.drop k,(G8 k xs).symm,by rw [F6];exact FX g.len,fun x hx => ?_,fun x hx => ?_⟩
 ·obtain ⟨i,hi,e⟩:=Js.mp hx;rw [F6] at hi;exact g.up i x (by lia) (by rw [List.getElem_take] at e;rw [<- e];exact hh _)
 ·obtain ⟨i,hi,e⟩:=Js.mp hx;rw [Hd] at hi;refine g.dn (k+i) x (by lia) ?_
  rw [List.getElem_drop] at e;rw [<- e];exact hh _
noncomputable abbrev Ord (lt:F0->F0->Bool) (l:List F0):Prop:=l.Pairwise fun x y=>lt y x=false
structure ML (lt:F0->F0->Bool) (la lb out:List F0) (ia ib:Nat):Prop where
 pa:Ord lt (out++la.drop ia)
 pb:Ord lt (out++lb.drop ib)
 pm:(out++(la.drop ia++lb.drop ib)).Perm (la++lb)
theorem ML.size {la lb out:List F0} {ia ib:Nat} (m:ML lt la lb out ia ib) (j:ia<=la.length) (q:ib<=lb.length):out.length=ia+ib:=by
 have:=m.pm.length_eq;simp only [DP,Hd] at this;lia
theorem Same.trans {a b c:LS} (h:Same a b) (g:Same b c):Same a c:=⟨g.arr.trans h.arr,g.kind.trans h.kind,g.pend.trans h.pend,g.fail.trans h.fail⟩
structure MH (lt:F0->F0->Bool) (la lb out:List F0) (na nb:Nat):Prop where
 pa:Ord lt (la.take na++out.reverse)
 pb:Ord lt (lb.take nb++out.reverse)
 pm:(la.take na++lb.take nb++out.reverse).Perm (la++lb)
theorem MH.size {la lb out:List F0} {na nb:Nat} (m:MH lt la lb out na nb) (j:na<=la.length) (q:nb<=lb.length):out.length+na+nb=la.length+lb.length:=by
 have:=m.pm.length_eq;simp only [DP,F6,List.length_reverse] at this;lia
end
end Srt
end L2
namespace L2
namespace Srt
open PySem PySem.Spec PyProof.Rows
section
variable {prog:DQ} {w:E4} {A:Ea} {E:e6->h6->Prop} {s:h6} {kd:LU} {P:F0->Prop} {lt:F0->F0->Bool}
structure Kp (st st':LS):Prop where
 kind:G5 st'=G5 st
 pend:JI st'=JI st
 fail:KN st'=KN st
theorem Kp.trans {a b c:LS} (h:Kp a b) (g:Kp b c):Kp a c:=⟨g.kind.trans h.kind,g.pend.trans h.pend,g.fail.trans h.fail⟩
end
end Srt
end L2
namespace L2
namespace Srt
open PySem PySem.Spec PyProof.Rows
section
variable {prog:DQ} {w:E4} {A:Ea} {E:e6->h6->Prop} {s:h6} {kd:LU} {P:F0->Prop} {lt:F0->F0->Bool}
noncomputable def Pd:Nat->List (List F0)->List (Nat×Nat×Nat)->Prop
 | _,[],ps=>ps=[]
 | s,r::rs,ps => ∃ p t,ps=(s,r.length,p)::t/\Pd (s+r.length) rs t
theorem Pd.length:∀ {l:List (List F0)} {s:Nat} {ps:List (Nat×Nat×Nat)},Pd s l ps->ps.length=l.length
 | [],_,_,h=>by rw [show _=[] from h];rfl
 | r::l,s,ps,h=>by
   obtain ⟨p,q,e,h⟩:=h;rw [e];simp [h.length]
structure Rn (lt:F0->F0->Bool) (kd:LU) (a₀:List F0) (st:LS) (rs:List (List F0)) (R:List F0):Prop where
 arr:(arrOf st).toList=rs.flatten++R
 perm:(rs.flatten++R).Perm a₀
 ord:∀ r∈rs,r≠[]/\Ord lt r
 pend:Pd 0 rs (JI st).toList
 kind:G5 st=kd
 fail:KN st=none
theorem Rn.size {a₀:List F0} {st:LS} {rs:List (List F0)} {R:List F0} (h:Rn lt kd a₀ st rs R):rs.flatten.length+R.length=a₀.length:=by
 have:=h.perm.length_eq;rw [DP] at this;exact this
end
end Srt
end L2
namespace L2
namespace Srt
open PySem PySem.Spec PyProof.Rows
end Srt
end L2
namespace L2
namespace Srt
open PySem PySem.Spec PyProof.Rows
end Srt
end L2
namespace L2
namespace Srt
open PySem PySem.Spec PyProof.Rows
end Srt
end L2
namespace L2
namespace Srt
open PySem PySem.Spec PyProof.Rows
end Srt
end L2
namespace L2
namespace Srt
open PySem PySem.Spec PyProof.Rows
end Srt
end L2
namespace L2
namespace It
open PySem PySem.Spec PyProof.Rows
end It
end L2
namespace L2
namespace It
open PySem PySem.Spec PyProof.Rows
end It
end L2
namespace L2
namespace It
open PySem PySem.Spec PyProof.Rows
end It
end L2
namespace L2
open PySem PySem.Spec PyProof.Rows
section
section
variable {P:DQ} {w:E4} {H:Hp} {h:Heap} {a:Addr} {o:HO}
theorem ObjOk.there (x:ObjOk P w H h a o):∃ ob,h.get? a=some ob:=by
 cases o with
 | lst xs=>obtain ⟨_,_,_,_,e⟩:=x;exact ⟨_,e⟩
 | tup xs=>obtain ⟨_,_,_,_,e,_⟩:=x;exact ⟨_,e⟩
 | dK kvs=>obtain ⟨_,_,_,_,o,_,_,e,_⟩:=x;exact ⟨_,e⟩
 | dT kvs=>obtain ⟨_,_,_,_,o,_,_,e,_⟩:=x;exact ⟨_,e⟩
 | set S n=>obtain ⟨o,_,_,_,e,_⟩:=x;exact ⟨_,e⟩
 | ins C dx fs=>obtain ⟨_,_,_,e,_⟩:=x;exact ⟨_,e⟩
 | own y=>obtain ⟨_,e⟩:=x;exact ⟨_,e⟩
 | xd fs=>obtain ⟨_,⟨_,_,_,e,_⟩,_⟩:=x;exact ⟨_,e⟩
 | rng lo hi=>obtain ⟨_,_,_,e⟩:=x;exact ⟨_,e⟩
 | frz ob u=>obtain ⟨e,_⟩:=x;exact ⟨_,e⟩
 | tbl ps=>exact ⟨_,show h.get? a=some _ from x⟩
 | met f y=>exact ⟨_,show h.get? a=some _ from x⟩
 | ext φ => obtain ⟨_,⟨_,e⟩,_⟩:=x;exact ⟨_,e⟩
end
namespace Mi
open L2.Srt
end Mi
end
end L2
namespace L2
namespace Mi
open PySem PySem.Spec PyProof.Rows L2.Srt
def vU (K:Frag) (H:Hp) (kv:D×D) (e:Gq):Prop := ∃ kV vV,RD K H kv.1 kV/\RelV kV e.key/\RD K H kv.2 vV/\RelV vV e.val
theorem yQ {K:Frag} {H:Hp} {d:D} {k:Key} (h:RKey d k):RD K H d (kV k):=by
 cases d <;> first
  | exact h.elim
  | (cases h;first | exact Mj.mpr rfl | exact Mr.mpr rfl)
theorem jY {K:Frag} {H:Hp}:∀ {ds:List D} {ks:List Key},E1 RKey ds ks->RDs K H ds (ks.map kV)
 | _,_, .nil=>RDs.nil
 | _,_, .cons r t=>RDs.cons (yQ r) (jY t)
theorem xw {P:DQ} {w:E4} {K:Frag} {H:Hp}:∀ {kvs:List (D×D)} {ps:List (List Key×V)} {xs:List (List Key×Addr×e6)},E1 (fun (p:D×D) (q:List Key×V)=>RKeys p.1 q.1/\RD K H p.2 q.2) kvs ps->E1 (fun (p:List Key×V) (q:List Key×Addr×e6)=>p.1=q.1/\H q.2.1=some (.tup (p.1.map kV))/\RelV p.2 q.2.2) ps xs->E1 (vU K H) kvs (xs.map (entryOfKey (GI (aE P w))))
 | _,_,_, .nil, .nil => .nil
 | kv::_,_,_, .cons z t1, .cons B F=>by
   refine .cons ?_ (xw t1 F);obtain ⟨d,v⟩:=kv;have j:=z.1
   cases d <;> first
    | exact j.elim
    | exact ⟨.ref _,_,Mu ⟨_,_,rfl,B.2.1,jY j⟩,rfl,z.2,B.2.2⟩
theorem bf {α β:Type} {R : α -> β -> Prop}:∀ {l:List α} {m:List β},E1 R l m->l.length=m.length
 | _,_, .nil=>rfl
 | _,_, .cons _ t=>by simp [bf t]
section
variable {X:Cx}
theorem t7 {H:Hp} {h:Heap} {P:DQ} {w:E4} {K:Frag} {a:Addr} {ps:List (List Key×V)} {kvs:List (D×D)} (ok:ObjOk P w H h a (.dT ps)) (pr:E1 (fun (p:D×D) (q:List Key×V)=>RKeys p.1 q.1/\RD K H p.2 q.2) kvs ps) :
 ∃ cd dd sl es ep,h.get? a=some { cls:=cd,dict:=dd,data := .dict es ep,slots:=sl }/\es.size<=p4/\E1 (vU K H) kvs es.toList:=by
 obtain ⟨G,B,xs,j,o,es,ep,h1,h2,z,F,J⟩:=ok;obtain ⟨cd,dd,dat,sl⟩:=o;dsimp only at z;subst z;have pp:=xw (P:=P) (w:=w) pr j;rw [<- F] at pp;refine ⟨cd,dd,sl,es,ep,h1, ?_,pp⟩;have:=bf pp;have:=bf pr;simp at *;lia
end
section
noncomputable def iQ (to tk tx:TEd):TEd:=fun ρ M Q=>to ρ M fun x M1 => ∃ a t kvs,x = .ref a/\M1 a=some (.dct t kvs)/\tk ρ M1 fun k M2=>tx ρ M2 fun z M3 => ∃ t' kvs',M3 a=some (.dct t' kvs')/\iB t' k=true/\Q ((dget kvs' k).getD z) M3
theorem t8 {to tk tx:TEd} (h1:ab to) (h2:ab tk) (j:ab tx):ab (iQ to tk tx):=fun ρ M Q Q' i q=>h1 _ _ _ _ (fun x O ⟨a,t,kvs,e,B,F⟩=>⟨a,t,kvs,e,B,h2 _ _ _ _ (fun k M2 G=>j _ _ _ _ (fun z U ⟨t',kvs',J,ok,L⟩=>⟨t',kvs',J,ok,i _ _ L⟩) G) F⟩) q
section
variable {X:Cx}
theorem AV {K:Frag} {M:Mem} {H:Hp} (rm:RM K M H) {a:Addr} {t:Bool} {kvs:List (D×D)} (e:M a=some (.dct t kvs)):IsD H a:=by
 have ro:=rm a _ e
 cases t with
 | false=>obtain ⟨ps,j,_⟩:=ro;exact .inl ⟨_,Rd.of j⟩
 | true=>obtain ⟨ps,j,_⟩:=ro;exact .inr ⟨_,Rd.of j⟩
theorem yR {o e f:Expr} {to tk tx:TEd} {apos cpos:Pos} (Y:X.A.units+1 < F8) (mo:ab to) (mk:ab tk) (mx:ab tx) (ho:PE X o (lE X.K to)) (he:PE X e (lE X.K tk)) (hf:PE X f (lE X.K tx)) (m:M2 X o "get" apos e f cpos) :
 PE X (.Call (.Attribute o "get" apos) [e,f] [] cpos) (lE X.K (iQ to tk tx)):=by
 refine PE.imp (v8 Y ho he hf m) fun σ H Q h => ?_;obtain ⟨ρ,M,rs,rm,q⟩:=h;refine ⟨ρ,M,rs,rm,mo _ _ _ _ (fun x Z ⟨a,t,kvs,e,e1,q1⟩ v H1 L j rd1 => ?_) q⟩;subst e
 cases Mk.mp rd1
 have B:=rs.mono (L.stab rm);refine ⟨a,rfl,AV j e1, ρ,Z,B,j,mk _ _ _ _ (fun k M2 q2 v2 H2 O F G => ?_) q1⟩;have J:=B.mono (O.stab j);refine ⟨ρ,M2,J,F,mx _ _ _ _ (fun z M3 ⟨t',kvs',e3,ok,q3⟩ v3 H3 U rm3 rd3 => ?_) q2⟩;obtain ⟨w,g,g1,g2⟩:=oP rm3 e3 ok (G.mono (U.stab F));refine ⟨w,g, ?_⟩;refine q3 _ H3 (L.trans (O.trans U)) rm3 ?_
 cases e4:dget kvs' k with
 | none=>rw [g2 e4];exact rd3
 | some d =>
   obtain ⟨w',e5,r5⟩:=g1 d e4;rw [e5];exact r5
end
end
end Mi
end L2
namespace L2
open PySem PySem.Spec PyProof.Rows
namespace Mi
end Mi
end L2
namespace L2
open PySem PySem.Spec PyProof.Rows
section
noncomputable def cB {α:Type} (xs:List α) (c p:Nat):List α := (Eo ((xs.length - c+p - 1) / p)).filterMap fun k=>xs[c+p*k]?
theorem jt (its:List e6) (c p:Nat) (B : 0 < p):L4 its.toArray (some (c:Int)) none (some (p:Int))=(cB its c p).toArray:=by
 have j:(EY (some (c:Int)) none (some (p:Int)) its.toArray.size).fst=((min c its.length:Nat):Int):=by
  simp only [EY,Iz,r3];rw [if_neg (show ¬ ((c:Int) < 0) by lia),if_pos (show (p:Int) > 0 by lia)];lia
 have q:(EY (some (c:Int)) none (some (p:Int)) its.toArray.size).snd.fst=(its.length:Int):=by
  simp only [EY,Iz,r3];rw [if_pos (by lia)]
 have z:(EY (some (c:Int)) none (some (p:Int)) its.toArray.size).snd.snd=(p:Int):=by
  simp only [EY,Iz]
 unfold L4;rw [j,q,z];congr 1;simp only [sliceRange,cB];rw [if_pos (by lia),K8]
 by_cases h:c < its.length
 ·rw [if_pos (by lia),FX (by lia)]
  have ec:(((its.length:Int) - (c:Nat)+p - 1) / p).toNat=(its.length - c+p - 1) / p:=by
   rw [show ((its.length:Int) - (c:Nat)+p - 1)=((its.length - c+p - 1:Nat):Int) by lia, <- Int.natCast_ediv,E5]
  rw [ec];congr 1
  funext k
  show its.toArray[((c:Int)+p*k).toNat]? = its[c+p*k]?;rw [show ((c:Int)+(p:Int)*(k:Int)).toNat=c+p*k by rw [<- LC];lia]
  simp
 ·rw [if_neg (by lia)]
  have ec:(its.length - c+p - 1) / p=0:=by rw [show its.length - c+p - 1=p - 1 by lia];exact Le (by lia)
  rw [ec];rfl
theorem mj {α:Type} (xs:List α) (c p:Nat) (j : 0 < p):(cB xs c p).length<=xs.length:=by
 unfold cB;refine Ej (List.length_filterMap_le _ _) ?_;rw [Fv]
 by_cases h:c < xs.length
 ·refine Ej (Nat.div_le_of_le_mul ?_) (hQ _);have:xs.length<=p*xs.length:=IW _ j;have h2:p<=p*xs.length:=IA _ (by lia)
  have z:(xs.length - c)+(p - 1)<=p*xs.length:=by
   obtain ⟨q,rfl⟩:∃ q,p=q+1:=⟨p - 1,by lia⟩
   rw [Gp];have:q<=q*xs.length:=IA _ (by lia)
   lia
  lia
 ·rw [show xs.length - c+p - 1=p - 1 by lia,Le (by lia)];lia
theorem Vals.pick {xs:List V} {us:List e6} (r:Vals xs us) (f:Nat->Nat):∀ ks:List Nat,Vals (ks.filterMap fun k=>xs[f k]?) (ks.filterMap fun k=>us[f k]?)
 | [] => .nil
 | k::ks=>by
   cases e:xs[f k]? with
   | none =>
     have j:us[f k]? = none:=by rw [HV] at e ⊢;rw [<- r.length];exact e
     rw [FF (f:=fun k=>xs[f k]?) (a:=k) e,FF (f:=fun k=>us[f k]?) (a:=k) j];exact Vals.pick r f ks
   | some x =>
     obtain ⟨u,j,rx⟩:=r.get e;rw [FG (f:=fun k=>xs[f k]?) (a:=k) e,FG (f:=fun k=>us[f k]?) (a:=k) j];exact .cons rx (Vals.pick r f ks)
section
variable {X:Cx}
noncomputable def C9 (K:Frag) (te:TE) (tl ts:TO):TE:=fun σ H Q=>te σ H fun x H1=>tl σ H1 fun l H2=>ts σ H2 fun st H3 => ∃ a xs, ∃ c p:Nat,x = .ref a/\SqL K H3 a xs/\l=some (c:Int)/\st=some (p:Int)/\0 < p /\ ∀ q,H3 q=none->Q (.ref q) (upd H3 q (.lst (cB xs c p)))
theorem yS {e:Expr} {lo:Option Expr} {st:Expr} {te:TE} {tl ts:TO} {p2 pos:Pos} (he:PE X e te) (G:PO X lo tl) (J:PO X (some st) ts):PE X (.Subscript e (.Slice lo none (some st) p2) pos) (C9 X.K te tl ts):=by
 intro pins s σ H Q I h;refine LN (thn (he pins s σ H _ I h) fun v s1 ⟨x,H1,L,O,U⟩ => ?_);refine wpAny_Slice (thn (G pins s1 σ H1 _ L U) fun vl s2 ⟨l,H2,Y,pl,Z⟩ => ?_);rw [JP];refine h7 (thn (J pins s2 σ H2 _ Y Z) fun vs s3 ⟨u,H3,I3,ps,q3⟩ => ?_);have j:Inv X pins σ H3 { s3 with heap:=s3.heap.push { cls := .type "slice",data := .fields #[vl, .none,vs] } }:=I3.kept (t':=s3.toks) fun b ob q=>gV _ q
 obtain ⟨a,xs,c,p,rfl,sq,rfl,rfl,B,q⟩:=q3
 cases O
 obtain ⟨its,r,F,hz⟩:=j.list sq;have hlen:=r.length;show DJ (model X.prog X.w) X.A (JQ e (.Slice lo none (some st) p2) (.ref a) (.ref s3.heap.objs.size)) (EP X pins σ Q) X.xe { s3 with heap:=s3.heap.push { cls := .type "slice",data := .fields #[vl, .none,vs] } }
 refine LO (ops := [.ref a, .ref s3.heap.objs.size]) F.isList.typeIs slot_list_getitem.lookup ?_ (by with_unfolding_all rfl)
 refine Ie F.isList (Ka ..) pl .none ps (by intro z;have:=EB.inj z;lia) ?_ (by rw [r3] <;> lia)
 rw [jt _ _ _ B];refine ⟨.ref _,_,j.laid (t':=s3.toks) (o := .lst (cB xs c p)) (fun b ob q=>gV _ q) (hQ _) ?_,rfl,q _ (j.hok.fresh (hQ _))⟩;refine ⟨Ej (mj xs c p B) hz,_,0, ?_,hH _ rfl⟩;unfold cB;rw [hlen];exact r.pick (fun k=>c+p*k) _
end
namespace Mi
section
variable {X:Cx}
theorem RDs.pick {K:Frag} {H:Hp} {ds:List D} {vs:List V} (r:RDs K H ds vs) (f:Nat->Nat):∀ ks:List Nat,RDs K H (ks.filterMap fun k=>ds[f k]?) (ks.filterMap fun k=>vs[f k]?)
 | [] => .nil
 | k::ks=>by
   cases e:vs[f k]? with
   | none =>
     have j:ds[f k]? = none:=by rw [HV] at e ⊢;rw [<- r.length];exact e
     rw [FF (f:=fun k=>vs[f k]?) (a:=k) e,FF (f:=fun k=>ds[f k]?) (a:=k) j];exact RDs.pick r f ks
   | some x =>
     obtain ⟨u,j,rx⟩:=r.getV e;rw [FG (f:=fun k=>vs[f k]?) (a:=k) e,FG (f:=fun k=>ds[f k]?) (a:=k) j];exact .cons rx (RDs.pick r f ks)
noncomputable def iR (te:TEd) (tl ts:TOd):TEd:=fun ρ M Q=>te ρ M fun x M1=>tl ρ M1 fun l M2=>ts ρ M2 fun u M3 => ∃ a ds, ∃ c p:Nat,x = .ref a/\M3 a=some (.lst ds)/\l=some (c:Int)/\u=some (p:Int)/\0 < p /\ ∀ q,M3 q=none->Q (.ref q) (ae M3 q (.lst (cB ds c p)))
theorem t9 {ta:TEd} {tl th:TOd} (m:ab ta) (ml:cc tl) (mh:cc th):ab (iR ta tl th):=fun ρ M Q Q' i q =>
 m _ _ _ _ (fun x U j=>ml _ _ _ _ (fun l M2 z=>mh _ _ _ _ (fun u Y ⟨a,ds,c,p,B,F,G,J,L,O⟩=>⟨a,ds,c,p,B,F,G,J,L,fun p n=>i _ _ (O p n)⟩) z) j) q
theorem yT {e:Expr} {ta:TEd} {lo:Option Expr} {hi:Expr} {tl th:TOd} {p2 pos:Pos} (m:ab ta) (ml:cc tl) (mh:cc th) (he:PE X e (lE X.K ta)) (Z:PO X lo (lO X.K tl)) (hu:PO X (some hi) (lO X.K th)) :
 PE X (.Subscript e (.Slice lo none (some hi) p2) pos) (lE X.K (iR ta tl th)):=by
 refine PE.imp (yS he Z hu) fun σ H Q h => ?_;obtain ⟨ρ,M,rs,rm,q⟩:=h;refine ⟨ρ,M,rs,rm,m _ _ _ _ (fun x M1 q1 v H1 F j G => ?_) q⟩;refine ⟨ρ,M1,rs.mono (F.stab rm),j,ml _ _ _ _ (fun l M2 q2 H2 J z => ?_) q1⟩;refine ⟨ρ,M2,(rs.mono (F.stab rm)).mono (J.stab j),z,mh _ _ _ _ (fun u M3 L H3 Y B => ?_) q2⟩;have O:=F.trans (J.trans Y);have U:=(G.mono (J.stab j)).mono (Y.stab z);obtain ⟨a,ds,c,p,rfl,e,rfl,rfl,hp,L⟩:=L
 cases Mk.mp U
 obtain ⟨vs,ha,r⟩:=B _ _ e;refine ⟨a,vs,c,p,rfl,SqL.of ha,rfl,rfl,hp,fun p' n=>cq B (ds:=cB ds c p) ?_ (fun p' n'=>(L p' n').ext O) n⟩;unfold cB;rw [<- r.length];exact r.pick (fun k=>c+p*k) _
end
end Mi
end
end L2
namespace L2
open PySem PySem.Spec PyProof.Rows
namespace Mi
end Mi
end L2
namespace L2
open PySem PySem.Spec PyProof.Rows
section
section
variable {prog:DQ} {w:E4} {A:Ea} {E:e6->h6->Prop} {s:h6}
theorem yU:typeLookup (.type "list") "keys" = pure none:=by rw [typeLookup_type,Jc];kernel_rfl
theorem yV {l:Addr} {o:Obj} {xs:Array e6} {k:Nat} {Q:Option e6->h6->Prop} (B:A.handled=none) (ho:s.heap.get? l=some o) (z:o.cls = .type "list") (hd:o.data = .seq xs k) (j:o.dict=none)
 (q:∀ h' tk,(∀ b o,s.heap.get? b=some o->h'.get? b=some o)->Q none { s with heap:=h',toks:=tk }):DJ (model prog w) A (getAttr? (.ref l) "keys") Q E s:=by
 have ty:s.TypeIs (.ref l) "list" := ⟨_,ho,z⟩;unfold getAttr?;unfold mkText;refine b0 ?_;refine b0 (wpAny_fresh ?_);refine h7 ?_;unfold getAttrBy?;refine b0 (FE ?_);unfold getAttrBy;refine Et ?_;refine b0 (Gn (s := { s with toks:=s.toks+1 }) ty ?_)
 refine b0 (GN F.slot_list_getattribute.lookup ?_);refine J4 (by decide) ?_
 unfold getAttrByItsOwn hookBefore;rw [if_neg (by decide)]
 refine b0 (h7 ?_);refine b0 (FE (Et ?_));unfold callGetattribute boundAndCalled;rw [if_neg (by decide)]
 refine b0 (GN (F.slot_list_getattribute.bind _) ?_);dsimp only;obtain ⟨cls,dd,dat,sl⟩:=o;dsimp only at z hd j;subst z hd j;refine Kz F.slot_list_getattribute (s := { s with toks:=s.toks+1 }) ty am_entry_list_getattribute (F.args_list_getattribute_2 _ _) ((meets_getattribute_miss_list l xs k sl "keys" s.toks yU (by decide) (by decide)).inModel prog w) ⟨ho,B,fun h' tk a ne => ?_⟩
 ·have ne:s.heap.NewAttrErr h' a (.ref l) "keys" := ne;obtain ⟨t,u,he⟩:=ne.there;unfold getattributeRaised;refine b0 (F7 (T := "AttributeError") (b:=true) ⟨_,he,rfl⟩ (by rw [Jt];kernel_rfl) ?_)
  rw [if_pos rfl];unfold hookBehind;rw [if_neg (by decide)]
  refine b0 (GN am_list_getattr_none ?_);unfold hookOrError attributeErrorLeaves;dsimp only;rw [if_pos (by decide)]
  refine b0 (Lu ?_);refine b0 (F7 (T := "AttributeError") (b:=true) ⟨_,he,rfl⟩ (by rw [Jt];kernel_rfl) ?_)
  rw [if_pos rfl];exact h7 (q h' tk ne.keeps)
end
end
section
theorem mn:entryFor table "dict.update.loop" = some FH.«dict.update.loop» := Lf (by kernel_rfl)
theorem mv:plainId "dict.update.loop" = true:=by decide +kernel
section
variable {X:Cx} {pins:List (Addr×Obj)} {σ:St} {H:Hp}
def PrV (H:Hp) (v:V) (kv:List Key×V):Prop := ∃ t b,v = .ref t/\H t=some (.tup [.ref b,kv.2])/\H b=some (.tup (kv.1.map kV))
noncomputable abbrev bw (kvs:List (List Key×V)):List (List Key×V):=kvs.foldl (fun a kv=>b8 a kv.1 kv.2) []
theorem qF (kvs:List (List Key×V)):(bw kvs).length<=kvs.length:=by
 have g:∀ (r:List (List Key×V)) (a:List (List Key×V)),(r.foldl (fun a kv=>b8 a kv.1 kv.2) a).length<=a.length+r.length:=by
  intro r
  induction r with
  | nil=>intro a;simp
  | cons x r ih =>
    intro a;have h1:=ih (b8 a x.1 x.2);have h2:=cA a x.1 x.2;simp only [Hn,E9];lia
 have:=g kvs [];simpa using this
theorem iS {α β:Type} {R : α -> β -> Prop}:∀ {l:List α} {m:List β} {i:Nat} {x : α},E1 R l m->l[i]? = some x -> ∃ y,m[i]? = some y/\R x y
 | _,_,_,_, .nil,e=>by simp at e
 | _,_,0,_, .cons r _,e=>by simp at e;subst e;exact ⟨_,rfl,r⟩
 | _,_,i+1,x, .cons _ t,e=>by
   simp at e;obtain ⟨y,h1,h2⟩:=iS t e;exact ⟨y,by simpa using h1,h2⟩
theorem yW {A:Ea} (hu:A.units+1 < F8) (hn:A.handled=none) {l it p:Addr} {vs:List V} {kvs:List (List Key×V)} (Z:H p=none) (Y:H l=some (.lst vs)) (G:E1 (PrV H) vs kvs) (hz:vs.length < p4) {R:KZ->h6->Prop} (hf:bL X pins H it) (j:it≠p) :
 ∀ (k i:Nat) (s:h6),vs.length - i=k->i<=vs.length->Inv X pins σ (upd H p (.dT (bw (kvs.take i)))) s->s.heap.IsListIter it l i ->
  (∀ s',Inv X pins σ (upd H p (.dT (bw kvs))) s'->R (.ok (.ret .none)) s') ->
  Gk (model X.prog X.w) A (.builtin "dict.update.loop" ⟨[.ref p, .ref it,Ic i, .none],[]⟩) R s:=by
 have J:l≠p:=fun z=>by rw [z,Z] at Y;cases Y
 have hlen:vs.length=kvs.length:=Fl G;obtain ⟨f0,f1,f2,f3,f4,f5⟩:=hf;intro k
 induction k with
 | zero =>
   intro i s hk hi I st q;have CY:i=vs.length:=by lia
   obtain ⟨its,rv,pl,_⟩:=I.list (SqL.of (K:=X.K) ((ah J).trans Y));refine FY mn ?_;unfold FH.«dict.update.loop»;dsimp only;refine b0 (J9 hn st pl.isList (by have:=rv.length;simp;lia) fun h' eb => ?_)
   refine b0 ?_;unfold Builtin.Dict.addKeywords;refine b0 ?_;have B:=I.turned (t':=s.toks) (h':=h') (fun b o F e=>eb b o F e) ((ah j).trans f0) f1 f3 f4 f5;rw [CY,hlen,List.take_length] at B;exact h7 (h7 (h7 (q _ B)))
 | succ k ih =>
   intro i s hk hi I st q;have L:i < vs.length:=by lia
   obtain ⟨its,rv,pl,_⟩:=I.list (SqL.of (K:=X.K) ((ah J).trans Y));obtain ⟨u,CZ,ru⟩:=rv.get (hh L);obtain ⟨kv,D0,t,b,hv,ht,F⟩:=iS G (hh L);rw [hv] at ru
   cases (show u=E8 t from ru)
   refine FY mn ?_;rw [Around.under_plain (by rfl) (by rfl)]
   unfold FH.«dict.update.loop»;dsimp only;refine b0 (IH st pl.isList (x := .ref t) (by simpa using CZ) fun h' st' sb => ?_)
   have B:=I.turned (t':=s.toks) (h':=h') (fun b o F e=>(sb.2 b F).trans e) ((ah j).trans f0) f1 f3 f4 f5;dsimp only;have D1:t≠p:=fun z=>by rw [z,Z] at ht;cases ht
   have D2:b≠p:=fun z=>by rw [z,Z] at F;cases F
   obtain ⟨tits,rt,tt,_⟩:=B.tuple (SqT.of (K:=X.K) ((ah D1).trans ht));obtain ⟨ob,O,D3,nt,D4⟩:=id tt
   cases rt with
   | cons r1 rt =>
     cases rt with
     | cons r2 rt =>
       cases rt
       cases (show _=E8 b from r1)
       rename_i uv;refine b0 (Et ?_);refine b0 (Gg ?_);unfold Builtin.Dict.pairItems;refine b0 (Gn (T := "tuple") (s := { s with heap:=h' }) ⟨ob,O,D3⟩ ?_)
       rw [if_pos (by decide)]
       refine b0 (Ei (s := { s with heap:=h' }) O D4 ?_)
       refine h7 ?_;refine Et ?_;obtain ⟨z,hd,xs,rel,dd⟩:=xm (a:=p) B.hok ao;have D5:xs.length<=p4:=by rw [<- Fl rel];exact z
       have U:upd H p (.dT (bw (kvs.take i))) b=some (.tup (kv.1.map kV)):=(ah D2).trans F;have D6:(b8 (bw (kvs.take i)) kv.1 kv.2).length<=p4:=by
        have h1:=cA (bw (kvs.take i)) kv.1 kv.2;have h2:=qF (kvs.take i);rw [F6] at h2;lia
       have etk:b8 (bw (kvs.take i)) kv.1 kv.2=bw (kvs.take (i+1)):=by
        unfold bw;rw [Ju,D0,KO];rfl
       refine wpAny_dictSet_heap (hsz:=D5) (knd:=GI (aE X.prog X.w)) (FT hu) (eU B.hok U) dd fun h2 dd' hs => ?_;obtain ⟨q',es,ep,hq,g2,g3,g4,_,g5⟩:=dd';have I2:=dQ (t':=s.toks+(GI (aE X.prog X.w)).draws kv.1) B (a:=p) (ob := .dT (b8 (bw (kvs.take i)) kv.1 kv.2)) (by rw [ao];exact EC) hs ⟨q',hq⟩ ⟨D6,hd,_,(rel.put kv.1 U r2).keeps fun c ys ec => ?_,q',es,ep,hq,g2,g3,g4,g5⟩
       ·rw [xN,etk] at I2;refine h7 ⟨G2 mv _,ih (i+1) _ (by lia) (by lia) I2 ?_ q⟩
        exact st'.at fun o e=>(hs.2 it j).trans e
       ·rw [ah (wY ec ao (fun z=>nomatch z))];exact ec
end
section
variable {X:Cx}
theorem iT (hu:X.A.units+16 < F8) (hc:X.calm=true):CallR X (.type "dict") (fun xs H Q => ∃ l vs kvs,xs=[V.ref l]/\H l=some (.lst vs)/\E1 (PrV H) vs kvs/\vs.length < p4 /\ ∀ p,H p=none->Q (.ref p) (upd H p (.dT (bw kvs)))):=by
 intro pins s σ H xs us Q I r h;obtain ⟨l,vs,kvs,rfl,J,L,hz,q⟩:=h
 cases r with
 | cons r1 rr =>
 cases rr
 cases (show _=E8 l from r1)
 have Z:=I.ok.hd hc;have O:H s.heap.objs.size=none:=I.hok.fresh (hQ _);have I1:=I.laid (a:=s.heap.objs.size) (o := .dT []) (t':=s.toks) (fun _ _ q=>gV _ q) (hQ _) (kQ s.heap I.big);have U:l≠s.heap.objs.size:=fun z=>by rw [z,O] at J;cases J
 refine callType_codes (Q₁ := fun obj s₁ => obj = .ref s.heap.objs.size/\s₁ = { s with heap:=s.heap.push { cls := .type "dict",data := .dict #[] } }) F.kt_called_dict (F.kt_typeCall_dict_1 _) F.entry_dict_init (kt_code_dict_new _ ⟨rfl,rfl⟩) fun obj s₁ h₁ => ?_
 obtain ⟨rfl,rfl⟩:=h₁;refine ⟨⟨_,hH _ rfl,rfl⟩,F.args_dict_init_2 _ _, ?_⟩;unfold FH.«dict.__init__»;refine b0 ?_;unfold Builtin.Dict.selfAndRest;unfold Builtin.Dict.notOrdered;rw [if_pos (by decide)]
 have tyd:Shared.TypeIs { s with heap:=s.heap.push { cls := .type "dict",data := .dict #[] } } (.ref s.heap.objs.size) "dict" := ⟨_,hH _ rfl,rfl⟩
 refine b0 (b0 (Gn tyd ?_));rw [if_neg (by decide)]
 refine h7 ?_;refine b0 (h7 (h7 ?_));unfold Builtin.Dict.updateCommon Builtin.Dict.updateFrom;dsimp only;obtain ⟨its,rv,pl,_⟩:=I1.list (SqL.of (K:=X.K) ((ah U).trans J));have il:=pl.isList;refine b0 (Gn il.typeIs ?_);rw [if_pos (by decide)]
 obtain ⟨ob,nn,e1,j,B,G⟩:=id pl;refine b0 (yV Z e1 j G B fun h1 tk kp => ?_);rw [if_pos (show (none:Option e6).isNone=true from rfl)];refine b0 (Fn ?_);have Y:=I1.kept (t':=tk) kp;refine b0 (EU (s := { s with heap:=h1,toks:=tk }) (PlainL.isList (⟨ob,nn,kp _ _ e1,j,B,G⟩)) ?_)
 have I3:=Y.kept (t':=tk) (h':=h1.push { cls := .type "list_iterator",data := .fields #[.ref l, .int 0 0] }) fun b o e=>gV _ e;refine h7 ⟨G2 mv _, ?_⟩;have hle:s.heap.objs.size < h1.objs.size:=v5 (kp _ _ (hH _ rfl));have hf:bL X pins H h1.objs.size:=by
  have:=Y.fpOk (H':=upd H s.heap.objs.size (.dT [])) (hQ _) (Y.hok.fresh (hQ _));exact ⟨by rw [<- this.1,ah (FP hle)],this.2⟩
 refine yW (A:=X.A.in1) (X:=X) (pins:=pins) (σ := σ) (H:=H) (p:=s.heap.objs.size) (kvs:=kvs) (by have:X.A.in1.units=X.A.units+1:=rfl;lia) Z O J L hz hf (FP hle) vs.length 0 _ (by lia) (by lia) I3 ⟨_,hH _ rfl,rfl,rfl⟩ fun s' I' => ?_
 exact ⟨rfl, .ref s.heap.objs.size,_,I',rfl,q _ O⟩
end
end
end L2
namespace L2
namespace Mi
open PySem PySem.Spec PyProof.Rows
section
section
variable {X:Cx}
noncomputable def qG (kvs:List (D×D)):List (D×D):=kvs.foldl (fun a kv=>bS a kv.1 kv.2) []
noncomputable def qH:RAd:=fun ds M Q => ∃ a kvs,ds=[.ref a]/\M a=some (.lst (kvs.map fun kv:D×D => .tup [kv.1,kv.2]))/\(∀ kv∈kvs,bD kv.1=true)/\kvs.length < p4 /\ ∀ p,M p=none->Q (.ref p) (ae M p (.dct true (qG kvs)))
theorem jZ:aU qH:=fun _ _ _ _ h ⟨a,kvs,e,j,z,B,q⟩=>⟨a,kvs,e,j,z,B,fun p n=>h _ _ (q p n)⟩
theorem mw {K:Frag} {H:Hp}:∀ {kvs:List (D×D)} {vs:List V},RDs K H (kvs.map fun kv:D×D => .tup [kv.1,kv.2]) vs->(∀ kv∈kvs,bD kv.1=true) ->
 ∃ ps:List (List Key×V),E1 (PrV H) vs ps/\E1 (fun (p:D×D) (q:List Key×V)=>RKeys p.1 q.1/\RD K H p.2 q.2) kvs ps
 | [],vs,r,_=>by rw [RDs.nil_iff.mp r];exact ⟨[], .nil, .nil⟩
 | kv::kvs,vs,r,h=>by
   rw [DM] at r;obtain ⟨v,vr,rfl,G,J⟩:=Mm.mp r;obtain ⟨ps,h1,h2⟩:=mw J fun x hx=>h x (DR _ hx);have z:=h kv (Eb ..);obtain ⟨k,v⟩:=kv;obtain ⟨ks,j⟩:=jh z
   cases k <;> first
    | exact j.elim
    | (obtain ⟨t,us,rfl,B,ru⟩:=Mt rfl G
       obtain ⟨Z,ur,rfl,L,ru⟩:=Mm.mp ru;obtain ⟨O,U,rfl,Y,ru⟩:=Mm.mp ru;rw [RDs.nil_iff.mp ru] at B;obtain ⟨b,ws,rfl,F,rw'⟩:=Mt (ji z) L;rw [eD j rw'] at F;exact ⟨(ks,O)::ps, .cons ⟨t,b,rfl,B,F⟩ h1, .cons ⟨j,Y⟩ h2⟩)
theorem my {K:Frag} {H:Hp}:∀ {kvs:List (D×D)} {ps:List (List Key×V)} {a:List (D×D)} {b:List (List Key×V)},E1 (fun (p:D×D) (q:List Key×V)=>RKeys p.1 q.1/\RD K H p.2 q.2) kvs ps->E1 (fun (p:D×D) (q:List Key×V)=>RKeys p.1 q.1/\RD K H p.2 q.2) a b ->
 E1 (fun (p:D×D) (q:List Key×V)=>RKeys p.1 q.1/\RD K H p.2 q.2) (kvs.foldl (fun a kv=>bS a kv.1 kv.2) a) (ps.foldl (fun a kv=>b8 a kv.1 kv.2) b)
 | _,_,_,_, .nil,h=>h
 | _,_,_,_, .cons r t,h=>by
   have g:=my t (gL (RK:=RKeys) RKeys.inj RKeys.fun r.1 r.2 h);exact g
theorem ou (j:X.A.units+16 < F8) (B:X.calm=true):CallR X (.type "dict") (lR X.K qH):=by
 refine CallR.of (iT j B) fun vs H Q h => ?_;obtain ⟨ds,M,rm,rs,a,kvs,rfl,e,F,G,q⟩:=h;obtain ⟨v,rfl,r⟩:=rs.one
 cases Mk.mp r
 obtain ⟨us,J,ru⟩:=rm _ _ e;obtain ⟨ps,h1,h2⟩:=mw ru F;refine ⟨a,us,ps,rfl,J,h1,by rw [ru.length,hG];exact G,fun p n => ?_⟩
 have st:Stab H (upd H p (.dT (bw ps))):=(Ms (M:=M) n).stab rm;exact q p (rm.out n) (.ref p) _ (Ext.lay n) (rm.lay n ⟨_,ao,Mn (my h2 .nil) fun _ _ z=>⟨z.1,z.2.mono st⟩⟩) (Mk.mpr rfl)
end
end
section
section
variable {K:Frag} {p:Addr}
theorem Paired.len {α β:Type} {R : α -> β -> Prop}:∀ {a:List α} {b:List β},E1 R a b->a.length=b.length
 | _,_, .nil=>rfl
 | _,_, .cons _ t=>by rw [E9,E9,Paired.len t]
end
end
end Mi
end L2
namespace L2
namespace Dk
open PySem PySem.Spec PyProof.Rows
section
variable {prog:DQ} {w:E4} {A:Ea} {E:e6->h6->Prop} {s:h6}
noncomputable def kO (d:Addr) (i n ep:Nat):Obj := { cls := .type "dict_keyiterator",data := .fields #[.ref d, .int i 0, .int n 0, .int ep 0] }
theorem slot_next:Slot "dict_keyiterator" "__next__" "dict_keyiterator.__next__" := .of (owner := "dict_keyiterator") (n := "__next__") (by rw [typeLookup_type,Jc];kernel_rfl) (by decide +kernel) (by decide +kernel) (by decide +kernel) (.inl (by decide +kernel)) (by rw [Jt];kernel_rfl)
theorem iU:entryFor table "dict_keyiterator.__next__" = some FH.«dict_keyiterator.__next__» := Lf (by kernel_rfl)
theorem ka (a:e6):LV "dict_keyiterator.__next__" ⟨[a],[]⟩:=by unfold LV;kernel_rfl
theorem tf {it:Addr} (ty:s.TypeIs (.ref it) "dict_keyiterator") {types:List String} {Q:Bool->h6->Prop} (q:Q (types.any fun t => [HE "dict_keyiterator",HE "object"].contains (HE t)) s):DJ (model prog w) A (HR (.ref it) types) Q E s:=by
 have hm:=JS;unfold HR
 wp_walk
 exact q
theorem nx_item {it d:Addr} {i ep:Nat} {cd:e6} {dd:Option Addr} {sl:Array (Option e6)} {es:Array Gq} {e:Gq} {Q:Option e6->h6->Prop} (hi:s.heap.get? it=some (kO d i es.size ep)) (hd:s.heap.get? d=some { cls:=cd,dict:=dd,data := .dict es ep,slots:=sl }) (he:es[i]? = some e)
 (q:∀ h',h'.get? it=some (kO d (i+1) es.size ep)->EG it s.heap h'->Q (some e.key) { s with heap:=h' }):DJ (model prog w) A (G4 (.ref it)) Q E s:=by
 have ty:s.TypeIs (.ref it) "dict_keyiterator" := ⟨_,hi,rfl⟩;unfold G4;refine b0 (FE (E6 (name:=Ek "__next__") ty slot_next (Eh slot_next ty iU ?_ (ka _))));unfold FH.«dict_keyiterator.__next__»;have hm:=JS
 wp_walk
 dsimp only;rw [if_neg (by simp)]
 simp only [E5,he];refine b0 (FO (Q:=fun n s'=>n=0/\s'=s) ?_ (fun n s' F => ?_) fun _ _ z=>z)
 ·wp_walk
  exact ⟨by kernel_rfl,rfl⟩
 obtain ⟨rfl,rfl⟩:=F;refine b0 (tf ty ?_);refine b0 (E7 hi (by simp) fun h1 j s1 => ?_)
 rw [if_neg (by decide +kernel)] at j
 have j:h1.get? it=some (kO d (i+1) es.size ep):=j;have B:Shared.TypeIs { s' with heap:=h1 } (.ref it) "dict_keyiterator" := ⟨_,j,rfl⟩
 refine b0 (Et ?_);refine b0 (tf B ?_);refine wpAny_ite_true (by decide +kernel) ?_
 refine h7 (h7 ⟨_,rfl,h7 ?_⟩);exact q h1 j s1
theorem nx_end {it d:Addr} {ep:Nat} {cd:e6} {dd:Option Addr} {sl:Array (Option e6)} {es:Array Gq} {Q:Option e6->h6->Prop} (j:A.handled=none) (hi:s.heap.get? it=some (kO d es.size es.size ep)) (hd:s.heap.get? d=some { cls:=cd,dict:=dd,data := .dict es ep,slots:=sl })
 (q:∀ h',(∀ b o,b≠it->s.heap.get? b=some o->h'.get? b=some o)->Q none { s with heap:=h' }):DJ (model prog w) A (G4 (.ref it)) Q E s:=by
 have ty:s.TypeIs (.ref it) "dict_keyiterator" := ⟨_,hi,rfl⟩;unfold G4;refine b0 (FE (E6 (name:=Ek "__next__") ty slot_next (Eh slot_next ty iU ?_ (ka _))));unfold FH.«dict_keyiterator.__next__»;have hm:=JS
 wp_walk
 dsimp only;rw [if_neg (by simp)]
 have he:es[es.size]? = none:=Array.getElem?_eq_none (hQ _);simp only [E5,he];refine b0 (FO (Q:=fun n s'=>n=0/\s'=s) ?_ (fun n s' B => ?_) fun _ _ z=>z)
 ·wp_walk
  exact ⟨by kernel_rfl,rfl⟩
 obtain ⟨rfl,rfl⟩:=B;refine b0 (E7 hi (by simp) fun h1 G s1 => ?_)
 refine b0 (m:=newExc (.type "StopIteration") []) ?_;simp only [newExc,newTuple];refine b0 (EA ?_ (by size_fits))
 refine b0 (m:=HN _ _) (GN (a:=Ga) (by first | rfl | (simp only [HN];rfl)) (EA ?_ (by size_fits)))
 simp only [raiseNew];refine b0 (wpAny_handled ?_)
 first | rw [show A.in1.handled=none from j] | rw [j]
 refine b0 (h7 (Lu ?_));exact b0 (F7 (T := "StopIteration") (b:=true) ⟨_,hH _ rfl,rfl⟩ Jo (h7 (q _ fun b o F e=>gV _ (gV _ (s1.extBut b o F e)))))
theorem it_dict {d:Addr} {es:Array Gq} {ep:Nat} {dd:Option Addr} {sl:Array (Option e6)} {Q:e6->h6->Prop} (j:(d==Em)=false) (hd:s.heap.get? d=some { cls := .type "dict",dict:=dd,data := .dict es ep,slots:=sl })
 (q:Q (.ref s.heap.objs.size) { s with heap:=s.heap.push (kO d 0 es.size ep) }):DJ (model prog w) A (Jg (.ref d)) Q E s:=by
 have ty:s.TypeIs (.ref d) "dict" := ⟨_,hd,rfl⟩;refine wpAny_pyIter_slot ty Lg (Eh Lg ty F.entry_dict_iter ?_ (F.args_dict_iter_1 _));unfold FH.«dict.__iter__»
 wp_walk
 exact ⟨_,rfl, "dict_keyiterator",_,⟨_,hH _ rfl,rfl⟩,slot_next.lookup,q⟩
end
end Dk
end L2
namespace L2
namespace Mi
open PySem PySem.Spec PyProof.Rows L2.Srt
end Mi
end L2
namespace L2
open PySem PySem.Spec PyProof.Rows
section
section
variable {X:Cx} {pins:List (Addr×Obj)} {σ:St} {H:Hp} {s:h6}
theorem yX {x:V} {u:e6} {t:String} (I:Inv X pins σ H s) (rx:RelV x u) (ty:bM X.K H x (.type t)):∃ P,PySem.W.KitX X.K u (.type t) P/\P s.heap/\u≠Value.builtin "__main__.__loader__#opaque" := by
 generalize j:HE t=T at ty
 cases ty with
 | non=>cases (show u=Ga from rx);exact ⟨_,Ko,EC,fun z=>nomatch z⟩
 | bl y=>cases (show u=IF y from rx);exact ⟨_,Kq,EC,fun z=>nomatch z⟩
 | int i=>obtain ⟨t,rfl⟩:=(show ∃ t,u=Hc i t from rx);exact ⟨_,KW,EC,fun z=>nomatch z⟩
 | str y=>obtain ⟨t,rfl⟩:=(show ∃ t,u=JD y t from rx);exact ⟨_,KY,EC,fun z=>nomatch z⟩
 | flt y=>obtain ⟨t,rfl⟩:=(show ∃ t,u=Ln y t from rx);exact ⟨_,K5,EC,fun z=>nomatch z⟩
 | @lst a xs ea =>
  cases (show u=E8 a from rx)
  obtain ⟨_,_,n,_,h1⟩:=(show ObjOk X.prog X.w H s.heap a (.lst xs) from I.hok a _ ea);exact ⟨_,GQ,⟨_,h1,rfl⟩,fun z=>nomatch z⟩
 | @frz a ob xs ea =>
  cases (show u=E8 a from rx)
  obtain ⟨_,_,_,n,_,h1⟩:=(show ObjOk X.prog X.w H s.heap a (.frz ob (.lst xs)) from I.hok a _ ea);exact ⟨_,GQ,⟨_,h1,rfl⟩,fun z=>nomatch z⟩
 | @tup a xs ea =>
  cases (show u=E8 a from rx)
  obtain ⟨_,_,⟨o,h1,h2,_⟩,_⟩:=I.tuple ea;exact ⟨_,K6,⟨o,h1,h2⟩,fun z=>nomatch z⟩
 | @dK a kvs ea =>
  cases (show u=E8 a from rx)
  obtain ⟨_,_,vs,_,o,es,ep,h1,h2,_⟩:=(show ObjOk X.prog X.w H s.heap a (.dK kvs) from I.hok a _ ea);exact ⟨_,GR,⟨o,h1,h2.1⟩,fun z=>nomatch z⟩
 | @dT a kvs ea =>
  cases (show u=E8 a from rx)
  obtain ⟨_,_,xs,_,o,es,ep,h1,h2,_⟩:=(show ObjOk X.prog X.w H s.heap a (.dT kvs) from I.hok a _ ea);exact ⟨_,GR,⟨o,h1,h2.1⟩,fun z=>nomatch z⟩
 | ins=>cases j
end
namespace Mi
section
variable {X:Cx}
theorem yY (K:Frag) {T U:String} (q:T∈["bool", "int", "str", "tuple", "list", "dict"]) (z:U∈["bool", "int", "str", "tuple", "list", "dict"]) {t:String} (j:t∈bW):Jv K (.type t) [.type T, .type U]=some (dv T t || dv U t):=by
 have h1:=jq K T q t j;have h2:=jq K U z t j;unfold Jv;rw [h1]
 cases e1:dv T t with
 | true=>rfl
 | false =>
   dsimp only;unfold Jv;rw [h2]
   cases dv U t <;> rfl
theorem qI {T U:String} (z:T∈["bool", "int", "str", "tuple", "list", "dict"]) (B:U∈["bool", "int", "str", "tuple", "list", "dict"]):CallR X (.builtin "isinstance") (fun vs H Q => ∃ v t p,vs=[v, .ref p]/\H p=some (.tup [.ty T, .ty U])/\bM X.K H v (.type t)/\t∈bW/\Q (.bl (dv T t || dv U t)) H):=by
 intro pins s σ H xs us Q I r h;obtain ⟨v,t,p,rfl,F,ty,G,q⟩:=h;obtain ⟨u,c,rfl,ru,rc⟩:=pY r
 cases (show c=E8 p from rc)
 obtain ⟨P,g1,g2,g3⟩:=yX I ru ty;obtain ⟨_,its,rv,⟨cls,dd,dat,sl⟩,h1,h2,n,j⟩:=(show ObjOk X.prog X.w H s.heap p (.tup [.ty T, .ty U]) from I.hok p _ F);dsimp only at h2 j;subst h2 j
 cases rv with
 | cons J rv =>
 cases rv with
 | cons L rv =>
 cases rv
 cases J
 cases L
 exact PySem.W.kia_tup g1 I.kIn g2 h1 (yY X.K z B G) g3 fun tk=>⟨.bl _,H,I.tok tk,rfl,q⟩
noncomputable def fu (T U:String) (ta:TEd):TEd:=fun ρ M Q=>ta ρ M fun x M1 => ∃ t,tyN M1 x=some t/\Q (.bl (dv T t || dv U t)) M1
theorem qJ {T U:String} {ta:TEd} (h:ab ta):ab (fu T U ta):=fun ρ M Q Q' i q=>h _ _ _ _ (fun x z ⟨t,e,j⟩=>⟨t,e,i _ _ j⟩) q
theorem vW {e:Expr} {ta:TEd} {T U:String} {y z:Str} {k:Nat} {p p2 j G pos:Pos} (hT:T∈["bool", "int", "str", "tuple", "list", "dict"]) (hU:U∈["bool", "int", "str", "tuple", "list", "dict"]) (m:ab ta) (he:PE X e (lE X.K ta)) (hg:Gl X "isinstance") (hm:X.mg "isinstance" = none)
 (J:Gl X y) (L:X.mg y=none) (hv:Fj y=some (.type T)) (hn:y ≠ "__name__") (O:(y==("__debug__":Str))=false)
 (Y:Gl X z) (Z:X.mg z=none) (CY:Fj z=some (.type U)) (CZ:z ≠ "__name__") (B:(z==("__debug__":Str))=false)
 (hs:DN [e, .Tuple [.Name y p2, .Name z j] k G] X.env=(false,eval e X.env)::DN [.Tuple [.Name y p2, .Name z j] k G] X.env) :
 PE X (.Call (.Name "isinstance" p) [e, .Tuple [.Name y p2, .Name z j] k G] [] pos) (lE X.K (fu T U ta)):=by
 have h2:PE X (.Name y p2) (tC (.ty T)):=ja J L hv rfl hn O;have h3:PE X (.Name z j) (tC (.ty U)):=ja Y Z CY rfl CZ B;have h4:PE X (.Tuple [.Name y p2, .Name z j] k G) _:=rW (cn h2 (cn h3 ie rfl) rfl);refine PE.imp (bR (qI hT hU) hg hm (by decide +kernel) (cn he (cn h4 ie rfl) hs) (by decide) (by decide) hs rfl) fun σ H Q h => ?_
 obtain ⟨ρ,M,rs,rm,q⟩:=h;refine ⟨ρ,M,rs,rm,m _ _ _ _ (fun x M1 ⟨t,e,q1⟩ v H1 x1 rm1 D0 => ?_) q⟩;refine ⟨by simp;decide,fun pp n => ?_⟩
 have st:=(Ms (M:=M1) (ho := .tup [.ty T, .ty U]) n).stab rm1;have F:=rm1.new (ho := .tup [.ty T, .ty U]) n;exact ⟨v,t,pp,rfl,ao,xv F (D0.mono st) e,oR e,q1 _ _ (x1.trans (Ms n)) F (Ml.mpr rfl)⟩
end
end Mi
end
section
section
variable {X:Cx} {pins:List (Addr×Obj)} {σ:St} {H:Hp} {s:h6}
theorem Inv.freeze (I:Inv X pins σ H s) {a:Addr} {ps:List (List Key×V)} (e:H a=some (.dT ps)):∃ o,Inv X pins σ (upd H a (.frz o (.dT ps))) s:=by
 obtain ⟨B,j,xs,pr,o,es,ep,h1,h2,F,G,J⟩:=id (I.hok a _ e);have mu:Mut (H a):=by rw [e];exact EC
 have u:Un X.fs [] H (upd H a (.frz o (.dT ps))) s.heap s.heap:=Un.write mu (.inl rfl) (fun b u _ q=>q) ⟨_,h1⟩;have ok:HOk X.prog X.w (upd H a (.frz o (.dT ps))) s.heap:=HOk.write I.hok mu (.inl rfl) (fun b u _ q=>q) ⟨_,h1⟩
  ⟨h1,(I.hok a _ e).stay (fun b u _ q=>q) (fun b q=>by rw [ah (fun z=>by subst z;rw [e] at q;cases q)];exact q) (fun b xs q=>by rw [ah (fun z=>by subst z;rw [e] at q;cases q)];exact q)⟩
 exact ⟨o,I.un (t':=s.toks) u ok⟩
end
noncomputable def Itk (n:Nat) (G:Hp->Prop) (yl:Nat->V->Hp->Prop):It:=⟨fun i H=>i < n/\G H,fun i H x H'=>H'=H/\yl i x H,fun i H=>n<=i/\G H⟩
theorem tj {P:DQ} {w:E4} {K:Frag} {tg:Expr} (a it:Addr) {cd:e6} {dd:Option Addr} {sl:Array (Option e6)} {es:Array Gq} {ep:Nat} {G:Hp->Prop} {yl:Nat->V->Hp->Prop}
 (U:∀ H,G H -> ∃ u,H a=some (.frz { cls:=cd,dict:=dd,data := .dict es ep,slots:=sl } u)) (Z:∀ i H h,HOk P w H h->G H -> ∀ e,es[i]? = some e -> ∃ x,RelV x e.key/\yl i x H) :
 eQ P w K tg (Itk es.size G yl) [it] it (fun i h=>i<=es.size/\h.get? it=some (Dk.kO a i es.size ep)) where
 mem:=by simp
 obj:=fun i h st b q=>by
  have e:b=it:=by simpa using q
  subst e;exact ⟨_,st.2,fun v z=>by cases z⟩
 keep:=fun i h h' st k=>⟨st.1,k it (by simp) _ st.2⟩
 item:=by
  intro X B hw F Y i pins s σ H E I hf st j;subst B hw F;obtain ⟨hi,j⟩:=j;obtain ⟨u,J⟩:=U H j;obtain ⟨f0,f1,f2,L,f4,O⟩:=hf it (by simp)
  obtain ⟨x,rx,yx⟩:=Z i H s.heap I.hok j es[i] (HW hi);refine Dk.nx_item (e:=es[i]) st.2 (I.hok a _ J).1 (HW hi) fun h' st' sb => ?_;have I1:Inv X pins σ H { s with heap:=h' }:=I.turned (t':=s.toks) (fun b o q e=>(sb.2 b q).trans e) f0 f1 L f4 O
  exact ⟨_,rfl,ko (s := { s with heap:=h' }) (n := "dict_keyiterator") st' rfl rfl (by decide) ⟨x,H,I1,rx,⟨rfl,yx⟩,⟨hi,st'⟩,fun b q=>(hf b q).1⟩⟩
 done:=by
  intro X B hw F Y i pins s σ H E I hf st j;subst B hw F;obtain ⟨hi,j⟩:=j;obtain ⟨u,J⟩:=U H j;obtain ⟨f0,f1,f2,L,f4,O⟩:=hf it (by simp)
  have e:i=es.size:=by have:=st.1;lia
  subst e;exact Dk.nx_end (I.ok.hd Y) st.2 (I.hok a _ J).1 fun h' k=>⟨rfl,I.turned (t':=s.toks) (fun b o q e=>k b o q e) f0 f1 L f4 O⟩
 self:=fun A i s Q E st h=>wpAny_pyIter_keyiter ⟨_,st.2,rfl,rfl⟩ h
namespace Mi
section
variable {X:Cx}
noncomputable def qK (i:Nat) (t:TSd):TSd:=fun A ρ M => ∃ a kvs, ρ[i]? = some (some (.ref a))/\((M a=some (.dct true kvs)/\t A ρ (ae M a (.fdc kvs)))∨(M a=some (.fdc kvs)/\t A ρ M))
theorem vX {i:Nat} {t:TSd} (h:az t):az (qK i t):=fun a b ρ M l ⟨p,kvs,e,q⟩=>⟨p,kvs,e,q.imp (fun q=>⟨q.1,h _ _ _ _ l q.2⟩) fun q=>⟨q.1,h _ _ _ _ l q.2⟩⟩
theorem AW {st:Stmt} {i:Nat} {t:TSd} (h:PS X st (lS X.K t)):PS X st (lS X.K (qK i t)):=by
 intro pins s σ H D I ⟨ρ,M,A,rs,rm,lk,a,kvs,e,q⟩
 rcases q with ⟨m,q⟩ | ⟨m,q⟩
 ·obtain ⟨ps,j,pr⟩:=rm a _ m;obtain ⟨o,I'⟩:=I.freeze j;have sb:Stab H (upd H a (.frz o (.dT ps))):=rm.stabPut m;exact h pins s σ _ D I' ⟨ρ,ae M a (.fdc kvs),A,rs.mono sb,rm.put m ⟨o,ps,ao,Mn pr fun _ _ z=>⟨z.1,z.2.mono sb⟩⟩,lk.ext (Ext.put m),q⟩
 ·exact h pins s σ H D I ⟨ρ,M,A,rs,rm,lk,q⟩
noncomputable def iV (ta:TEd):TId:=fun ρ M R=>ta ρ M fun x M1 => ∃ a kvs,x = .ref a/\M1 a=some (.fdc kvs)/\R (kvs.map (·.1)) (fun _=>True) M1
theorem tm {ta:TEd} (h:ab ta):bH (iV ta):=fun ρ M Q Q' i q=>h _ _ _ _ (fun x B ⟨a,ds,e,j,z⟩=>⟨a,ds,e,j,i _ _ _ z⟩) q
theorem oU {K:Frag} {H:Hp}:∀ {kvs:List (D×D)} {es:List Gq},E1 (vU K H) kvs es -> ∀ (i:Nat) (e:Gq),es[i]? = some e -> ∃ (kv:D×D) (v:V),kvs[i]? = some kv/\RD K H kv.1 v/\RelV v e.key
 | _,_, .nil,_,_,h=>by simp at h
 | _,_, .cons r t,0,_,h=>by
   simp at h;subst h;obtain ⟨kV,vV,g1,g2,_,_⟩:=r;exact ⟨_,kV,rfl,g1,g2⟩
 | _,_, .cons _ t,i+1,e,h=>by
   obtain ⟨kv,v,h1,h2⟩:=oU t i e (by simpa using h)
   exact ⟨kv,v,by simpa using h1,h2⟩
theorem yZ {tg e:Expr} {ta:TEd} (m:ab ta) (he:PE X e (lE X.K ta)):PI X tg e (lI X.K (iV ta)):=by
 intro pins s σ H R I h;obtain ⟨ρ,M,rs,rm,q⟩:=h;have hq:lE X.K ta σ H (fun v H1 => ∃ a kvs B,v = .ref a/\Ext M H B H1/\RM X.K B H1/\B a=some (.fdc kvs) /\ ∀ J,eZ X.K H1 (kvs.map (·.1)) (fun _=>True) J->R J H1) :=
  ⟨ρ,M,rs,rm,m _ _ _ _ (fun x B ⟨a,kvs,e,O,U⟩ v H1 Y j rd1=>by
    subst e
    cases Mk.mp rd1
    exact ⟨a,kvs,B,rfl,Y,j,O,fun J ij=>U J H1 Y j ij⟩) q⟩
 refine thn (he pins s σ H _ I hq) fun u s1 ⟨x,H1,F,r1,a,kvs,B,e0,Y,j,O,U⟩ => ?_;subst e0
 cases r1
 obtain ⟨o,ps,Z,pr⟩:=j _ _ O;obtain ⟨g0,ok⟩:=F.hok a _ Z;obtain ⟨cd,dd,sl,es,ep,g1,g2,g3⟩:=t7 ok pr;obtain ⟨ty,_,CY⟩:=kR F (.inr ⟨ps, .inr ⟨o,Z⟩⟩);rw [g0] at g1
 cases g1
 have CZ:cd = .type "dict" := by
  obtain ⟨o,h1,h2⟩:=ty;rw [g0] at h1;cases h1;exact h2
 subst CZ;have lz:kvs.length=es.size:=by have:=bf g3;simpa using this
 refine Dk.it_dict CY g0 ?_;refine ⟨s1.heap.objs.size,[s1.heap.objs.size],_,_,H1,rfl,F.kept (t':=s1.toks) fun b o e=>gV _ e,tj (G:=fun H=>H a=some (.frz { cls := .type "dict",dict:=dd,data := .dict es ep,slots:=sl } (.dT ps))/\E1 (fun (p:D×D) (q:List Key×V)=>RKeys p.1 q.1/\RD X.K H p.2 q.2) kvs ps) (yl:=fun i x H => ∃ kv,kvs[i]? = some kv/\RD X.K H kv.1 x) a _ (fun H h=>⟨_,h.1⟩) (fun i H h hok ⟨ha,pr'⟩ e he => ?_),⟨EN _,hH _ rfl⟩,fun b hb => ?_,U _ ?_⟩
 ·obtain ⟨z0,ok'⟩:=hok a _ ha;obtain ⟨cd,dd,sl',es',ep',z1,_,z3⟩:=t7 ok' pr';rw [z0] at z1
  cases z1
  obtain ⟨kv,v,y1,y2,y3⟩:=oU z3 i e (by simpa using he)
  exact ⟨v,y3,kv,y1,y2⟩
 ·have e:b=s1.heap.objs.size:=by simpa using hb
  subst e;exact F.fpOk (hQ _) (F.hok.fresh (hQ _))
 ·intro M' H' st rm' _ i;have L:=st.frz _ _ _ Z;have pr':E1 (fun (p:D×D) (q:List Key×V)=>RKeys p.1 q.1/\RD X.K H' p.2 q.2) kvs ps:=Mn pr fun _ _ z=>⟨z.1,z.2.mono st⟩;rw [hG,lz];refine ⟨fun hi=>⟨hi,L,pr'⟩,fun hi=>⟨⟨hi,L,pr'⟩,fun x H'' y => ?_⟩⟩;obtain ⟨e,kv,y1,y2⟩:=y;subst e;exact ⟨.inl rfl,kv.1,by rw [DL,y1];rfl,y2⟩
end
end Mi
end
section
section
variable {prog:DQ} {w:E4} {K:Type} [DecidableEq K] {knd:HeapKind prog w K} {A:Ea} {E:e6->h6->Prop} {s:h6}
noncomputable def cO (ev:e6->e6->Bool) (xb:List (K×Addr×e6)) (x:K×Addr×e6):Bool:=match GL xb x.1 with
 | some p=>ev x.2.2 p.2
 | none=>false
theorem AX {nm:String} {a b:Addr} {xa xb:List (K×Addr×e6)} {ev:e6->e6->Bool} {Q:Bool->h6->Prop} (hu:knd.room A) (ha:(a==Em)=false) (hb:(b==Em)=false)
 (da:s.heap.DictOfH knd a xa) (db:s.heap.DictOfH knd b xb) (D3:∀ x∈xa, ∀ y∈xb,II A s x.2.2 y.2.2 (ev x.2.2 y.2.2)) (h:Q (xa.length==xb.length&&xa.all (cO ev xb)) s) :
 DJ (model prog w) A (IX nm a b) Q E s:=by
 obtain ⟨oa,es,ep,F,_,G,D0,D4,Da⟩:=da;obtain ⟨ob,es',ep',L,_,O,U,D5,D1⟩:=db;have Y:xa.length=es.size:=(size_of_entries D0).symm;have D6:xb.length=es'.size:=(size_of_entries U).symm;rw [Y,D6] at h;unfold IX Builtin.Dict.showsAll;rw [if_neg (show ¬ (a==Em)=true by rw [ha];exact hB),if_neg (show ¬ (b==Em)=true by rw [hb];exact hB)]
 refine b0 (h7 (b0 (h7 ?_)));refine b0 (GZ F G ?_);dsimp only;refine b0 (GZ L O ?_)
 by_cases hsz:es.size=es'.size
 case neg =>
  rw [if_pos (by simpa using hsz)]
  have D7:(es.size==es'.size)=false:=by simpa using hsz
  rw [D7,HH] at h;exact b0 (Fn (h7 h))
 case pos =>
  have h':Q (xa.all (cO ev xb)) s:=by simpa [hsz] using h
  rw [if_neg (by rw [hsz];simp)]
  refine b0 (wpAny_dictEpoch F G ?_);refine b0 ?_;rw [Std.Legacy.Range.forIn_eq_forIn_range'];simp only [Std.Legacy.Range.size,Nat.sub_zero,Nat.add_sub_cancel,Nat.div_one];refine Gm _
   (fun rest q s'=>s'=s/\q=(none,()) /\ ∃ i,rest=List.range' i (es.size - i)/\i<=es.size/\xa.all (cO ev xb)=(xa.drop i).all (cO ev xb))
   _ ?_ ?_ _ _ ⟨rfl,rfl,0,by simp,EN _,by simp⟩
  ·rintro x rest q s' ⟨rfl,rfl,i,Z,hi,z⟩;have D2:i < es.size:=by
    rcases HB i es.size with h | h
    ·exact h
    ·rw [Nat.sub_eq_zero_of_le h] at Z;simp at Z
   obtain ⟨rfl,CY⟩:x=i/\rest=List.range' (i+1) (es.size - (i+1)):=by
    have e:es.size - i=(es.size - (i+1))+1:=by lia
    rw [e,Lh] at Z
    injection Z with h1 h2
    exact ⟨h1,h2⟩
   have B:x < xa.length:=by rw [Y];exact D2
   refine b0 (GZ F G ?_);rw [entry_at D0 x,hh B];have CZ:xa.drop x=xa[x]::xa.drop (x+1):=EI B;have J:xa[x]∈xa:=IB B;rw [CZ,Ex] at z;show DJ _ _ (holding [_,_] _ >>= _) _ _ _;refine b0 (Et (b0 (wpAny_dictFind_heap (k:=xa[x].1) (a:=xa[x].2.1) hu (D4 _ J) L O U D5 D1 (fun D8 => ?_) (fun j p hj => ?_))))
   ·have hn:cO ev xb xa[x]=false:=by unfold cO;rw [atKey_none_of_get D8]
    rw [z,hn,HH] at h';refine h7 ?_;show DJ _ _ (if (!false)=true then _ else _) _ _ _
    rw [if_pos (by decide)]
    exact h7 (h7 h')
   ·have hn:cO ev xb xa[x]=ev xa[x].2.2 p.2:=by unfold cO;rw [atKey_of_get D1 hj]
    refine b0 (GZ L O ?_);rw [entry_at U j,hj];refine Et (D3 _ J _ (DZ hj) prog w _ _ ?_);show DJ _ _ (if (!(ev xa[x].2.2 p.2))=true then _ else _) _ _ _
    rw [hn] at z
    cases e:ev xa[x].2.2 p.2 with
    | false =>
      rw [e,HH] at z;rw [z] at h';rw [if_pos (by decide)]
      exact h7 (h7 h')
    | true =>
      rw [e,Bool.true_and] at z;rw [if_neg (by decide)]
      refine b0 (wpAny_dictEpoch F G ?_);rw [if_neg (by simp)]
      exact h7 ⟨rfl,rfl,x+1,CY,D2,z⟩
  ·rintro q s' ⟨rfl,rfl,i,Z,hi,z⟩;have D9:i=es.size:=by
    rcases HB i es.size with h | h
    ·have e:es.size - i=(es.size - (i+1))+1:=by lia
     rw [e,Lh] at Z;exact nomatch Z
    ·exact Nat.le_antisymm hi h
   refine h7 ?_;rw [D9, <- Y,Iy] at z;rw [z] at h';exact h'
theorem Ca {a b:Addr} {xa xb:List (K×Addr×e6)} {ev:e6->e6->Bool} {Q:e6->h6->Prop} (q:A.units < F8) (z:knd.room A.in1) (B:(a==Em)=false) (G:(b==Em)=false)
 (da:s.heap.DictOfH knd a xa) (db:s.heap.DictOfH knd b xb) (j:∀ x∈xa, ∀ y∈xb,II A.in1 s x.2.2 y.2.2 (ev x.2.2 y.2.2)) (h:Q (.bool (!(xa.length==xb.length&&xa.all (cO ev xb)))) s) :
 DJ (model prog w) A (Eg .NotEq (.ref a) (.ref b)) Q E s:=by
 refine wpAny_richCompare_same_room (op := .NotEq) da.typeIs db.typeIs Jw (Eh Jw da.typeIs PySem.F.entry_dict_ne ?_ (PySem.F.args_dict_ne_2 _ _)) q;show DJ _ _ (HX "__ne__" ⟨[.ref a, .ref b],[]⟩ >>= _) _ _ s;refine b0 ?_;unfold HX;refine b0 (wpAny_notOrdered_dict da.typeIs ?_);show DJ _ _ (pure (E8 a,E8 b)) _ _ s;refine h7 ?_;refine b0 (F7 (T := "dict") db.typeIs PySem.F.sub_dict_dict ?_);simp only [G1,Ec,if_false];refine b0 (h7 (b0 (h7 ?_)));refine b0 (AX z B G da db j ?_);refine h7 ⟨_,rfl, ?_, ?_⟩
 ·exact fun x=>nomatch x
 ·simpa using h
end
namespace Mi
section
variable {X:Cx}
def dI (M:Mem) (a:Addr) (kvs:List (D×D)):Prop:=(M a=some (.dct true kvs)∨M a=some (.fdc kvs)) /\ ∀ kv∈kvs, ∃ i,kv.2 = .int i
noncomputable def eqD (ps qs:List (D×D)):Bool:=ps.length==qs.length&&ps.all fun kv=>decide (dget qs kv.1=some kv.2)
noncomputable def vY:R2d:=fun x y M Q => ∃ a b ps qs,x = .ref a/\y = .ref b/\dI M a ps/\dI M b qs/\Q (.bl (!eqD ps qs)) M
theorem vZ:aG vY:=fun _ _ _ _ _ h ⟨a,b,ps,qs,j,z,B,F,q⟩=>⟨a,b,ps,qs,j,z,B,F,h _ _ q⟩
noncomputable def evI:e6->e6->Bool
 | .int i _, .int j _=>i==j
 | _,_=>false
theorem dI.at {K:Frag} {M:Mem} {H:Hp} {a:Addr} {kvs:List (D×D)} (rm:RM K M H) (h:dI M a kvs):∃ ps,Rd H a (.dT ps)/\E1 (fun (p:D×D) (q:List Key×V)=>RKeys p.1 q.1/\RD K H p.2 q.2) kvs ps:=by
 rcases h.1 with e | e
 ·obtain ⟨ps,j,pr⟩:=rm a _ e;exact ⟨ps, .inl j,pr⟩
 ·obtain ⟨o,ps,j,pr⟩:=rm a _ e;exact ⟨ps, .inr ⟨o,j⟩,pr⟩
theorem mz {K:Frag} {H:Hp} {kvs:List (D×D)} {ps:List (List Key×V)} {xs:List (List Key×Addr×e6)} (pr:E1 (fun (p:D×D) (q:List Key×V)=>RKeys p.1 q.1/\RD K H p.2 q.2) kvs ps) (kt:KT H ps xs) (hi:∀ kv∈kvs, ∃ i,kv.2 = .int i):∀ x∈xs, ∃ i t,x.2.2 = .int i t:=by
 induction pr generalizing xs with
 | nil=>cases kt;intro x hx;exact nomatch hx
 | @cons p q ps qs h t ih =>
  cases kt with
  | cons g gt =>
    intro x hx
    rcases r4.mp hx with e | hx
    ·subst e;obtain ⟨i,ei⟩:=hi p (by simp)
     have:=h.2;rw [ei] at this;have z:=g.2.2;rw [Mj.mp this] at z;obtain ⟨t,B⟩:=z;exact ⟨i,t,B⟩
    ·exact ih gt (fun kv j=>hi kv (by simp [j])) x hx
theorem AY {K:Frag} {H:Hp} {kvs:List (D×D)} {ps:List (List Key×V)} {xs:List (List Key×Addr×e6)} (pr:E1 (fun (p:D×D) (q:List Key×V)=>RKeys p.1 q.1/\RD K H p.2 q.2) kvs ps) (kt:KT H ps xs) (hi:∀ kv∈kvs, ∃ i,kv.2 = .int i)
 {k:D} {q:List Key} (G:RKeys k q) (i:Int) (t:Tok) (b:Addr):cO evI xs (q,b, .int i t)=decide (dget kvs k=some (.int i)):=by
 obtain ⟨g1,g2⟩:=eE (RK:=RKeys) RKeys.inj RKeys.fun G pr;have B:=KT.val kt q;unfold cO;dsimp only
 cases e:dget kvs k with
 | none =>
   rw [g2 e] at B
   cases z:GL xs q with
   | none=>simp
   | some p=>rw [z] at B;exact B.elim
 | some d =>
   obtain ⟨v,J,L⟩:=g1 d e;rw [J] at B
   cases z:GL xs q with
   | none=>rw [z] at B;exact B.elim
   | some p =>
     rw [z] at B;obtain ⟨j,ej⟩:∃ j,d = .int j:=by
      unfold dget at e;obtain ⟨kv,h1,h2⟩:=Fk.mp e;obtain ⟨j,O⟩:=hi kv (List.mem_of_find?_eq_some h1);exact ⟨j,by rw [<- h2];exact O⟩
     subst ej
     cases Mj.mp L
     obtain ⟨t',U⟩:∃ t',p.2 = .int j t':=B;dsimp only;rw [U];show (i==j)=decide (some (D.int j)=some (D.int i))
     by_cases hij:i=j
     ·subst hij;simp
     ·have F : ¬ j=i:=fun z=>hij z.symm;simp [hij,F]
theorem AZ {K:Frag} {H:Hp} {kvs ls:List (D×D)} {ps us:List (List Key×V)} {xs ys:List (List Key×Addr×e6)} (pr:E1 (fun (p:D×D) (q:List Key×V)=>RKeys p.1 q.1/\RD K H p.2 q.2) kvs ps) (kt:KT H ps xs) (hi:∀ kv∈kvs, ∃ i,kv.2 = .int i)
 (pr':E1 (fun (p:D×D) (q:List Key×V)=>RKeys p.1 q.1/\RD K H p.2 q.2) ls us) (kt':KT H us ys) (j:∀ kv∈ls, ∃ i,kv.2 = .int i) :
 (xs.length==ys.length&&xs.all (cO evI ys))=eqD kvs ls:=by
 have l1:xs.length=kvs.length:=by rw [bf pr,bf kt]
 have l2:ys.length=ls.length:=by rw [bf pr',bf kt']
 unfold eqD;rw [l1,l2];congr 1;clear l1 l2
 induction pr generalizing xs with
 | nil=>cases kt;rfl
 | @cons p q ps qs h t ih =>
  cases kt with
  | @cons _ x _ xs g gt =>
   rw [Ex,Ex,ih gt (fun kv B=>hi kv (by simp [B]))]
   congr 1;obtain ⟨i,ei⟩:=hi p (by simp)
   have:=h.2;rw [ei] at this;have z:=g.2.2;rw [Mj.mp this] at z;obtain ⟨t,F⟩:∃ t',x.2.2 = .int i t':=z;obtain ⟨J,G,L⟩:=x;dsimp only at F g;subst F;rw [ei, <- g.1];exact AY pr' kt' j h.1 i t G
theorem w4 {pins:List (Addr×Obj)} {σ:St} {H:Hp} {s:h6} {M:Mem} {A:Ea} {E:e6->h6->Prop} {Q:e6->h6->Prop} {ps qs:List (D×D)} {a b:Addr} (J:A.units+2 < F8) (I:Inv X pins σ H s) (rm:RM X.K M H) (h1:dI M a ps) (h2:dI M b qs) (h:Q (.bool (!eqD ps qs)) s):DJ (model X.prog X.w) A (Eg .NotEq (.ref a) (.ref b)) Q E s:=by
 obtain ⟨us,z,pr⟩:=h1.at rm;obtain ⟨vs,q,pr'⟩:=h2.at rm;obtain ⟨_,sm,xs,kt,dd⟩:=fP I.hok z;obtain ⟨_,sm',ys,kt',dd'⟩:=fP I.hok q;have B:=mz pr kt h1.2;have F:=mz pr' kt' h2.2;refine Ca (ev:=evI) (by lia) (FT (by lia)) sm sm' dd dd' (fun x hx y G => ?_) (by rw [AZ pr kt h1.2 pr' kt' h2.2];exact h)
 obtain ⟨i,t,e⟩:=B x hx;obtain ⟨j,u,e'⟩:=F y G;rw [e,e'];exact HK i t j u
theorem w5 (j:X.A.units+2 < F8):OpR X (Eg .NotEq) (l2 X.K vY):=by
 intro pins s σ H x y v u Q I rx ry h;obtain ⟨x',y',M,rm,rdx,rdy,a,b,ps,qs,rfl,rfl,h1,h2,q⟩:=h
 cases Mk.mp rdx
 cases Mk.mp rdy
 cases rx
 cases ry
 exact w4 j I rm h1 h2 ⟨.bl (!eqD ps qs),H,I,rfl,q _ H Ext.refl rm (Ml.mpr rfl)⟩
end
section
section
variable {lt:Nat->Nat->Bool} {prog:DQ} {w:E4} {A:Ea} {R:KZ->h6->Prop} {I:Addr} {fp wr:List Addr} {n:Nat} {P:Nat->e6->Prop} {St:Nat->Heap->Prop} {h0:Heap} {S:Addr}
def Kpt (wr:List Addr) (S:Addr) (h h':Heap):Prop := ∀ b o,b∉wr->b≠S->h.get? b=some o->h'.get? b=some o
theorem Kpt.trans {wr:List Addr} {S:Addr} {a b c:Heap} (h:Kpt wr S a b) (g:Kpt wr S b c):Kpt wr S a c:=fun x o h1 h2 e=>g x o h1 h2 (h x o h1 h2 e)
noncomputable def lsO (vs:Array e6) (c:Nat):Obj := { cls := .type "list",dict:=none,data := .seq vs c,slots := #[] }
def w6 (lt:Nat->Nat->Bool) (prog:DQ) (w:E4) (A:Ea) (P:Nat->e6->Prop) (wr:List Addr) (S:Addr) (h0:Heap):Prop := ∀ (s:h6) (x y:e6) (i j:Nat) (Q:e6->h6->Prop) (E:e6->h6->Prop),Kpt wr S h0 s.heap->P i x->P j y->Q (.bool (lt i j)) s->DJ (model prog w) A (Lp .Lt x y) Q E s
def Lst (lt:Nat->Nat->Bool) (P:Nat->e6->Prop) (j:Nat) (u:e6):Prop := ∃ i,P i u /\ ∀ a,a<=j->lt a i=false
structure w8 (lt:Nat->Nat->Bool):Prop where
 tr:∀ a b c,lt a b=true->lt b c=true->lt a c=true
 ir:∀ a,lt a a=false
theorem B0 {kw:List (Str×e6)} (W:Walks prog w A.in1 I fp wr n P St) (U:S∉fp) (Y:w6 lt prog w A.in1 P wr S h0) (O:w8 lt):∀ (k j:Nat) (s:h6) (u:e6) (c:Nat),n - (j+1)=k->j+1<=n->St (j+1) s.heap->Lst lt P j u->s.heap.get? S=some (lsO #[u,u] c)->Kpt wr S h0 s.heap ->
 (∀ v h' tk,Lst lt P (n - 1) v->Kpt wr S s.heap h'->R (.ok (.ret v)) { s with heap:=h',toks:=tk })->Gk (model prog w) A (.builtin "min.loop" ⟨[.ref I, .none, .ref S],kw⟩) R s:=by
 have Z:S∉wr:=fun h=>U (W.sub _ h);have nm:(Jx "min" ++ Jx ".loop":String) = "min.loop" := by decide
 intro k
 induction k with
 | zero =>
   intro j s u c hk hj st L hS _ hR;have ej:j+1=n:=by lia
   refine FY Hh ?_;rw [Gh EO _];refine b0 (m:=Ir (.ref S)) (Ei hS rfl ?_);refine b0 (m:=KP (G4 (.ref I)) _) (Gg (W.done s _ _ (ej ▸ st) fun h' tk kk => ?_));have q:=kk S _ Z hS;refine b0 (m:=updateSeq S (fun _ => #[])) (J7 q rfl (b0 (Gf (h7 ?_))));exact hR u _ tk (by rw [<- ej];exact L) fun b o CZ D0 e=>(EH _ _ (Ne.symm D0)).trans (kk b o CZ e)
 | succ k ih =>
   intro j s u c hk hj st L hS hK hR;have B:j+1 < n:=by lia
   refine FY Hh ?_;rw [Gh EO _];refine b0 (m:=Ir (.ref S)) (Ei hS rfl ?_);refine b0 (m:=KP (G4 (.ref I)) _) (Gg (W.item (j+1) s _ _ B st fun v h' tk CY st' kk => ?_));have q:=kk S _ Z hS;obtain ⟨i,L,hle⟩:=L;have kk':Kpt wr S s.heap h':=fun b o h1 _ e=>kk b o h1 e;refine b0 (m:=KP (holding [v,v] (Lp .Lt v u >>= _)) _) (Gg (Et (b0 (Y _ v u (j+1) i _ _ (hK.trans kk') CY L ?_))));refine b0 (Et (Fc ?_));refine b0 (Gf (h7 ?_))
   cases hb:lt (j+1) i with
   | true =>
     simp only [if_true];refine b0 (J7 q rfl (b0 (Gf ?_)));rw [nm];have up:Kpt wr S s.heap (h'.update S (He fun _ => #[v,v])):=fun b o h1 h2 e=>(EH _ _ (Ne.symm h2)).trans (kk b o h1 e);refine h7 ⟨G2 EO _,ih (j+1) _ v _ (by lia) B (W.frame _ _ _ st' fun b D1 o e => ?_) ⟨j+1,CY,fun a ha => ?_⟩ (G6 _ q rfl) (hK.trans up) fun v' G tk'' J z=>hR v' G tk'' J (up.trans z)⟩
     rotate_left
     ·by_cases e:a=j+1
      ·rw [e];exact O.ir _
      ·cases hx:lt a (j+1) with
       | false=>rfl
       | true =>
         have:=O.tr _ _ _ hx hb;rw [hle a (by lia)] at this;cases this
     exact (EH _ _ (fun h:S=b=>U (by rw [h];exact D1))).trans e
   | false =>
     simp only [Ec,if_false];refine b0 (Gf ?_);rw [nm];exact h7 ⟨G2 EO _,ih (j+1) _ u c (by lia) B st' ⟨i,L,fun a ha=>by
      by_cases e:a=j+1
      ·rw [e];exact hb
      ·exact hle a (by lia)⟩ q (hK.trans kk') fun v' G tk'' J z=>hR v' G tk'' J (kk'.trans z)⟩
theorem tu {kw:List (Str×e6)} (W:Walks prog w A.in1 I fp wr n P St) (j:S∉fp) (q:w6 lt prog w A.in1 P wr S h0) (O:w8 lt) (Y : 0 < n) {s:h6} {c:Nat} (st:St 0 s.heap) (Z:s.heap.get? S=some (lsO #[] c)) (hK:Kpt wr S h0 s.heap)
 (hR:∀ v h' tk,Lst lt P (n - 1) v->Kpt wr S s.heap h'->R (.ok (.ret v)) { s with heap:=h',toks:=tk }):Gk (model prog w) A (.builtin "min.loop" ⟨[.ref I, .none, .ref S],kw⟩) R s:=by
 have G:S∉wr:=fun h=>j (W.sub _ h);have nm:(Jx "min" ++ Jx ".loop":String) = "min.loop" := by decide
 refine FY Hh ?_;rw [Gh EO _];refine b0 (m:=Ir (.ref S)) (Ei Z rfl ?_);refine b0 (m:=KP (G4 (.ref I)) _) (Gg (W.item 0 s _ _ Y st fun v h' tk hP st' kk => ?_));have z:=kk S _ G Z;refine b0 (m:=updateSeq S (fun _ => #[v,v])) (J7 z rfl ?_);rw [nm];have up:Kpt wr S s.heap (h'.update S (He fun _ => #[v,v])):=fun b o h1 h2 e=>(EH _ _ (Ne.symm h2)).trans (kk b o h1 e);refine h7 ⟨G2 EO _,B0 W j q O _ 0 _ v _ rfl Y (W.frame _ _ _ st' fun b J o e => ?_) ⟨0,hP,fun a ha=>by rw [Nat.le_zero.mp ha];exact O.ir _⟩ (G6 _ z rfl) (hK.trans up) fun v' L tk'' U B=>hR v' L tk'' U (up.trans B)⟩
 exact (EH _ _ (fun h:S=b=>j (by rw [h];exact J))).trans e
end
theorem tw:∀ {a:List Int},HT.lexLt a a=false
 | [] => by simp [HT.lexLt]
 | x::a=>by simp [HT.lexLt,tw (a:=a)]
theorem tz:∀ {a b c:List Int},HT.lexLt a b=true->HT.lexLt b c=true->HT.lexLt a c=true
 | [],[],_,h,_=>by simp [HT.lexLt] at h
 | [],_::_,[],_,g=>by simp [HT.lexLt] at g
 | [],_::_,_::_,_,_=>rfl
 | _::_,[],_,h,_=>by simp [HT.lexLt] at h
 | _::_,_::_,[],_,g=>by simp [HT.lexLt] at g
 | x::a,y::b,z::c,h,g=>by
   rw [HT.lexLt_cons] at h g ⊢
   by_cases e1:x=y
   ·subst e1;rw [if_pos rfl] at h
    by_cases e2:x=z
    ·rw [if_pos e2] at g ⊢;exact tz h g
    ·rw [if_neg e2] at g ⊢;exact g
   ·rw [if_neg e1] at h;have h:=of_decide_eq_true h
    by_cases e2:y=z
    ·subst e2;rw [if_neg e1];exact decide_eq_true h
    ·rw [if_neg e2] at g;have g:=of_decide_eq_true g;rw [if_neg (by lia)]
     exact decide_eq_true (by lia)
end
end Mi
end
end L2
namespace L2
open PySem PySem.Spec PyProof.Rows
namespace Mi
end Mi
end L2
namespace L2
namespace Mi
open PySem PySem.Spec PyProof.Rows
section
section
variable {X:Cx}
theorem mC {i:Int}:∀ ns:List Int,inV (.int i) (ns.map V.int)=decide (i∈ns)
 | [] => by simp [inV]
 | n::ns=>by
   have ih:=mC (i:=i) ns;unfold inV at ih ⊢;rw [DM,ES,ih];show (n==i || decide (i∈ns))=_
   by_cases h:n=i
   ·subst h;simp
   ·rw [show (n==i)=false by simpa using h]
    simp only [Hi,r4];exact decide_eq_decide.mpr ⟨.inr,fun z=>z.resolve_left fun w=>h w.symm⟩
end
end
end Mi
end L2
namespace L2
open PySem PySem.Spec PyProof.Rows
namespace Mi
end Mi
end L2
namespace L2
open PySem PySem.Spec PyProof.Rows
namespace Mi
open L2.Srt
end Mi
end L2
namespace L2
namespace Srt
open PySem PySem.Spec PyProof.Rows
open AutoSeq1 (wpAny_loadPart')
open MeetsSeq MeetsSeq2 MeetsSeq3
end Srt
end L2
namespace L2
namespace Srt
open PySem PySem.Spec PyProof.Rows
end Srt
end L2
namespace L2
namespace Mi
open PySem PySem.Spec PyProof.Rows L2.Srt
end Mi
end L2
namespace L2
open PySem PySem.Spec PyProof.Rows
section
theorem KT.drop {H:Hp} {kvs:List (List Key×V)} {xs:List (List Key×Addr×e6)} (r:KT H kvs xs) (k:List Key):KT H (kr kvs k) (xs.filter fun x=>decide (x.1≠k)):=by
 unfold kr
 induction r with
 | nil=>exact .nil
 | @cons p q ps qs h t ih =>
  obtain ⟨h1,h2,j⟩:=h
  by_cases e:p.1=k
  ·rw [DS (by simp [e]),DS (by simp [h1.symm.trans e])];exact ih
  ·rw [DT (by simp [e]),DT (by simpa using fun z=>e (h1.trans z))];exact .cons ⟨h1,h2,j⟩ ih
namespace Mi
end Mi
end
end L2
namespace L2
open PySem PySem.Spec PyProof.Rows
namespace Mi
section
variable {X:Cx}
noncomputable def kD:R2d
 | .int i,y,M,Q => ∃ ns:List Int,av M y=some (ns.map .int)/\Q (.bl (!decide (i∈ns))) M
 | _,_,_,_=>False
theorem tD:aG kD:=by
 intro x y M Q Q' h q
 cases x <;> first
  | exact q.elim
  | (obtain ⟨ns,e,q⟩:=q;exact ⟨ns,e,h _ _ q⟩)
theorem tE:OpR X (Eg .NotIn) (l2 X.K kD):=by
 refine OpR.of kM fun v u H Q h => ?_;obtain ⟨x,y,M,rm,rx,ry,q⟩:=h
 cases x <;> first
  | exact q.elim
  | skip
 case int i =>
  obtain ⟨ns,e,q⟩:=q;obtain ⟨p,vs,rfl,j,r⟩:=lw rm ry e;have rv:=r.ints_eq;subst rv
  cases Mj.mp rx
  refine ⟨p,_,rfl,j,rfl, ?_, ?_⟩
  ·simp [cR]
  ·rw [if_pos rfl,mC];exact q _ H Ext.refl rm (Ml.mpr rfl)
end
section
noncomputable def kE (te to1 ti1 to2 ti2:TEd):TSd:=fun D ρ M=>te ρ M fun v M1 => ∃ x y,v = .tup [x,y]/\to1 ρ M1 fun o1 M2=>ti1 ρ M2 fun i1 M3=>dF o1 i1 x M3 fun M4=>to2 ρ M4 fun o2 M5=>ti2 ρ M5 fun i2 M6=>dF o2 i2 y M6 fun M7=>D.nx ρ M7
theorem tF {te j z to2 B:TEd} (he:ab te) (F:ab j) (G:ab z) (J:ab to2) (L:ab B):az (kE te j z to2 B):=fun a b ρ M i q =>
 he _ _ _ _ (fun v M1 ⟨x,y,e,O⟩=>⟨x,y,e,F _ _ _ _ (fun o M2 U=>G _ _ _ _ (fun k M3 Y=>fq (fun M4 Z=>J _ _ _ _ (fun o' M5 q5=>L _ _ _ _ (fun k' M6 q6=>fq (fun M7 q7=>i.nx _ _ q7) q6) q5) Z) Y) U) O⟩) q
section
variable {X:Cx}
theorem z9 {U Y Z i2 e:Expr} {te B F to2 G:TEd} {pos p1 p2 pt:Pos} {kt:Nat} (hc:X.calm=true) (hu:X.A.units+1 < F8) (me:ab te) (D2:ab B) (D3:ab F) (D4:ab to2) (D5:ab G) (he:PE X e (lE X.K te)) (D6:PE X U (lE X.K B)) (D7:PE X Y (lE X.K F)) (D8:PE X Z (lE X.K to2)) (D9:PE X i2 (lE X.K G))
 (hs:Fy [.Tuple [.Subscript U Y p1, .Subscript Z i2 p2] kt pt] e pos.line X.env=pure false) (hw:EK [.Tuple [.Subscript U Y p1, .Subscript Z i2 p2] kt pt] e X.env=pure none)
 (ha:∀ v,assign (.Subscript U Y p1) X.env v=(do
   let ov <- holding [v] (eval U X.env)
   let iv <- holding [v,ov] (eval Y X.env)
   GP p1
   holding [v,ov,iv] (IG ov iv v)
   release [v,ov,iv] []))
 (hb:∀ v,assign (.Subscript Z i2 p2) X.env v=(do
   let ov <- holding [v] (eval Z X.env)
   let iv <- holding [v,ov] (eval i2 X.env)
   GP p2
   holding [v,ov,iv] (IG ov iv v)
   release [v,ov,iv] [])):PS X (.Assign [.Tuple [.Subscript U Y p1, .Subscript Z i2 p2] kt pt] e pos) (lS X.K (kE te B F to2 G)):=by
 have pset:=PSet.or (kK (X:=X)) (lZ hu);refine PS.imp (i8 he (rL (n := 2) hc (gD (i7 D6 D7 pset ha) (gD (i7 D8 D9 pset hb) oF))) hs hw rfl) fun D σ H h => ?_;obtain ⟨ρ,M,A,rs,rm,l,q⟩:=h;refine ⟨ρ,M,rs,rm,me _ _ _ _ (fun v M1 ⟨x,y,ev,q1⟩ vv H1 x1 z rd1 => ?_) q⟩;subst ev;obtain ⟨b,us,rfl,Da,ru⟩:=Mo rd1;obtain ⟨w1,w2,rfl,r1,r2⟩:=ru.two;have CY:=rs.mono (x1.stab rm);refine ⟨b,_,rfl,Da,rfl,w1,_,rfl, ?_⟩;refine ⟨ρ,M1,CY,z,D2 _ _ _ _ (fun ov M2 q2 vo H2 x2 j Db => ?_) q1⟩;have CZ:=CY.mono (x2.stab z);refine ⟨ρ,M2,CZ,j,D3 _ _ _ _ (fun iv M3 q3 vi H3 x3 J Dc => ?_) q2⟩;have Dd:=CZ.mono (x3.stab j);have De:=x1.trans (x2.trans x3);refine gM J (Db.mono (x3.stab j)) Dc ((r1.mono (x2.stab z)).mono (x3.stab j)) q3 fun M4 H4 x4 L q4 => ?_;have D0:=Dd.mono (x4.stab J);refine ⟨w2,_,rfl, ρ,M4,D0,L,D4 _ _ _ _ (fun Dm M5 q5 Dn H5 x5 O Df => ?_) q4⟩;have Dg:=D0.mono (x5.stab L);refine ⟨ρ,M5,Dg,O,D5 _ _ _ _ (fun Do M6 q6 Dp H6 x6 Dh Di => ?_) q5⟩;have D1:=De.trans (x4.trans (x5.trans x6));have Dj:=((((r2.mono (x2.stab z)).mono (x3.stab j)).mono (x4.stab J)).mono (x5.stab L)).mono (x6.stab O);exact gM Dh (Df.mono (x6.stab O)) Di Dj q6 fun M' H' x7 Dl q7=>⟨rfl,l.nx ρ M' σ H' (D1.trans x7) (rs.mono ((D1.trans x7).stab rm)) Dl q7⟩
end
end
end Mi
end L2
namespace L2
namespace It
open PySem PySem.Spec PyProof.Rows
end It
open PySem PySem.Spec PyProof.Rows
namespace Mi
end Mi
end L2
namespace L2
open PySem PySem.Spec PyProof.Rows
namespace Mi
end Mi
end L2
namespace L2
open PySem PySem.Spec PyProof.Rows
namespace Mi
open L2.Srt
end Mi
end L2
namespace L2
open PySem PySem.Spec PyProof.Rows
end L2
namespace L2
namespace Mi
open PySem PySem.Spec PyProof.Rows
end Mi
end L2
namespace L2
open PySem PySem.Spec PyProof.Rows
namespace Mi
end Mi
end L2
namespace L2
namespace Mi
open PySem PySem.Spec PyProof.Rows
section
mutual
noncomputable def GV (K:Frag):D->e6->Prop
 | .int i,v => ∃ t,v = .int i t
 | .str x,v => ∃ t,v = .str x t
 | .tup ds,v => ∃ a o its n,v = .ref a/\K.lookup a=some o/\o.cls = .type "tuple" /\ o.data = .seq its n/\its.size<=p4/\fk ds=false/\GVs K ds its.toList
 | _,_=>False
noncomputable def GVs (K:Frag):List D->List e6->Prop
 | [],us=>us=[]
 | d::ds,us => ∃ u r,us=u::r/\GV K d u/\GVs K ds r
end
theorem GV.tups {K:Frag} {ds:List D} {a:Addr} {od sl} {its:Array e6} {n:Nat} (h:K.lookup a=some ⟨.type "tuple",od, .seq its n,sl⟩) (j:its.size<=1000) (f:fk ds=false) (r:GVs K ds its.toList):GV K (.tup ds) (.ref a):=by
 unfold GV;exact ⟨a,_,its,n,rfl,h,rfl,rfl,by rw [h8];lia,f,r⟩
theorem GVs.nil {K:Frag}:GVs K [] []:=by unfold GVs;rfl
theorem GVs.cons {K:Frag} {d:D} {ds:List D} {u:e6} {us:List e6} (h:GV K d u) (r:GVs K ds us):GVs K (d::ds) (u::us):=by unfold GVs;exact ⟨u,us,rfl,h,r⟩
end
section
noncomputable def kd1:Int ⊕ List Int->D
 | .inl i => .int i
 | .inr ks => .tup (ks.map .int)
noncomputable def kdN (k:NK):D := .tup (k.map kd1)
noncomputable def mD:Int ⊕ List Int->Bool
 | .inl _=>true
 | .inr ks=>fk (ks.map .int)
noncomputable def okK (k:NK):Bool:=fk (k.map kd1)&&k.all mD
noncomputable def ng (kvs:List (NK×D)) (k:NK):Option D:=(kvs.find? fun p=>decide (p.1=k)).map (·.2)
noncomputable def np (kvs:List (NK×D)) (k:NK) (v:D):List (NK×D):=if (ng kvs k).isSome then kvs.map (fun p=>if p.1=k then (p.1,v) else p) else kvs++[(k,v)]
noncomputable def fA:TEd:=fun _ M Q => ∀ p,M p=none->Q (.ref p) (ae M p (.dcn []))
noncomputable def w9:R2d:=fun x y M Q => ∃ a kvs k,y = .ref a/\M a=some (.dcn kvs)/\x=kdN k/\okK k=true/\Q (.bl (ng kvs k).isSome) M
noncomputable def wa:R2d:=fun x y M Q => ∃ a kvs k d,x = .ref a/\M a=some (.dcn kvs)/\y=kdN k/\okK k=true/\ng kvs k=some d/\Q d M
def Cb (o i v:D) (M:Mem) (Q:Mem->Prop):Prop := ∃ a kvs k,o = .ref a/\M a=some (.dcn kvs)/\i=kdN k/\okK k=true/\kvs.length < p4/\Q (ae M a (.dcn (np kvs k v)))
noncomputable def iW (te to ti:TEd):TSd:=fun D ρ M=>te ρ M fun v M1=>to ρ M1 fun o M2=>ti ρ M2 fun i M3=>Cb o i v M3 fun M'=>D.nx ρ M'
theorem qL:ab fA:=fun _ _ _ _ i q p n=>i _ _ (q p n)
theorem wb:aG w9:=fun _ _ _ _ _ h ⟨a,kvs,k,j,z,B,F,q⟩=>⟨a,kvs,k,j,z,B,F,h _ _ q⟩
theorem mF:aG wa:=fun _ _ _ _ _ h ⟨a,kvs,k,d,j,z,B,F,G,q⟩=>⟨a,kvs,k,d,j,z,B,F,G,h _ _ q⟩
theorem tG {te to ti:TEd} (he:ab te) (ho:ab to) (hi:ab ti):az (iW te to ti):=fun a b ρ M i q =>
 he _ _ _ _ (fun v O j=>ho _ _ _ _ (fun o M2 z=>hi _ _ _ _ (fun k U ⟨a,kvs,k,B,F,G,J,L,q⟩=>⟨a,kvs,k,B,F,G,J,L,i.nx _ _ q⟩) z) j) q
section
variable {K:Frag} {M:Mem} {H:Hp}
theorem mG:∀ {k:NK} {vs:List V},k.all mD=true->RDs K H (k.map kd1) vs->E1 (Kt1 H) k vs
 | [],vs,_,r=>by rw [RDs.nil_iff.mp r];exact .nil
 | x::k,vs,ok,r=>by
   obtain ⟨v,vr,rfl,h1,h2⟩:=Mm.mp r;rw [Ex,e7] at ok;refine .cons ?_ (mG ok.2 h2)
   cases x with
   | inl i=>exact Mj.mp h1
   | inr ks =>
     obtain ⟨b,us,rfl,j,ru⟩:=Mt ok.1 h1;refine ⟨b,rfl, ?_⟩;have e:us=ks.map V.int:=by
      have:∀ {ks:List Int} {us:List V},RDs K H (ks.map D.int) us->us=ks.map V.int:=by
       intro ks
       induction ks with
       | nil=>intro us r;exact RDs.nil_iff.mp r
       | cons k ks ih =>
         intro us r;obtain ⟨v,vr,rfl,h1,h2⟩:=Mm.mp r;rw [Mj.mp h1,ih h2];rfl
      exact this ru
     rw [<- e];exact j
theorem qM {k:NK} {v:V} (ok:okK k=true) (r:RD K H (kdN k) v):∃ b,v = .ref b/\Kt H k b:=by
 obtain ⟨j,q⟩:=Hl.mp ok;obtain ⟨b,us,rfl,z,ru⟩:=Mt j r;exact ⟨b,rfl,us,z,mG q ru⟩
noncomputable abbrev PN (K:Frag) (H:Hp):=E1 (fun (p:NK×D) (q:NK×Addr×e6)=>p.1=q.1/\Kt H q.1 q.2.1 /\ ∃ v,RelV v q.2.2/\RD K H p.2 v)
theorem fZ:∀ {kvs:List (NK×D)} {xs:List (NK×Addr×e6)},PN K H kvs xs -> ∀ x∈xs,Kt H x.1 x.2.1
 | _,_, .nil,_,h=>by cases h
 | _,_, .cons r t,x,h=>by
   rcases r4.mp h with rfl | h
   ·exact r.2.1
   ·exact fZ t x h
theorem kF {k:NK}:∀ {kvs:List (NK×D)} {xs:List (NK×Addr×e6)},PN K H kvs xs->(ng kvs k=none/\GL xs k=none) ∨ ∃ d p v,ng kvs k=some d/\GL xs k=some p/\RelV v p.2/\RD K H d v
 | _,_, .nil => .inl ⟨rfl,rfl⟩
 | _,_, .cons (a:=p) (b:=q) r t=>by
   obtain ⟨e,_,v,rv,rd⟩:=r
   by_cases h:p.1=k
   ·exact .inr ⟨p.2,q.2,v,by simp [ng,h],by simp [GL, <- e,h],rv,rd⟩
   ·have h2 : ¬ q.1=k:=fun z=>h (e.trans z)
    rcases kF (k:=k) t with ⟨a,b⟩ | ⟨d,p',v',a,b,c⟩
    ·exact .inl ⟨by simpa [ng,h] using a,by simpa [GL,h2] using b⟩
    ·exact .inr ⟨d,p',v',by simpa [ng,h] using a,by simpa [GL,h2] using b,c⟩
theorem B1 {k:NK} {d:D} {v:V} {u:e6} {b:Addr} (kb:Kt H k b) (rv:RelV v u) (rd:RD K H d v) {kvs:List (NK×D)} {xs:List (NK×Addr×e6)} (r:PN K H kvs xs):PN K H (np kvs k d) (Hy xs k b u):=by
 have mp:∀ {kvs:List (NK×D)} {xs:List (NK×Addr×e6)},PN K H kvs xs->PN K H (kvs.map fun p=>if p.1=k then (p.1,d) else p) (xs.map (putAt k u)):=by
  intro kvs xs r
  induction r with
  | nil=>exact .nil
  | @cons p q ps qs h t ih =>
   refine .cons ?_ ih
   by_cases e:p.1=k
   ·have j:q.1=k:=h.1 ▸ e;dsimp only;rw [if_pos e,putAt,if_pos j];exact ⟨h.1,h.2.1,v,rv,rd⟩
   ·have j : ¬ q.1=k:=fun z=>e (h.1.trans z);dsimp only;rw [if_neg e,putAt,if_neg j];exact h
 unfold np Hy
 rcases kF (k:=k) r with ⟨B,j⟩ | ⟨d',p,v',B,j,_⟩
 ·rw [B,j];exact r.snoc ⟨rfl,kb,v,rv,rd⟩
 ·rw [B,j];exact mp r
end
section
variable {X:Cx}
theorem wc {pos:Pos}:PE X (.Dict [] [] pos) (lE X.K fA):=by
 intro pins s σ H Q I h;obtain ⟨ρ,M,rs,rm,q⟩:=h;have j:=I.hok.fresh (hQ s.heap.objs.size);have ob:ObjOk X.prog X.w (upd H s.heap.objs.size (.ext (NDict s.heap.objs.size []))) (s.heap.push { cls := .type "dict",data := .dict #[] }) s.heap.objs.size (.ext (NDict s.heap.objs.size [])):=by
  have z:=I.big;refine ⟨⟨EN _, ?_,_, #[],0,hH _ rfl,⟨rfl,rfl,rfl⟩,rfl,rfl,List.nodup_nil⟩,⟨_,hH _ rfl⟩,NDict.stay⟩;exact beq_false_of_ne (by lia)
 exact Ip ⟨.ref s.heap.objs.size,_,I.laid (a:=s.heap.objs.size) (o := .ext (NDict s.heap.objs.size [])) (t':=s.toks) (fun _ _ q=>gV _ q) (hQ _) ob,rfl,
  q _ (rm.out j) _ _ (Ext.lay j) (rm.lay j ⟨[],ao, .nil⟩) (Mk.mpr rfl)⟩
theorem wd (j:X.A.units+16 < F8):OpR X (Eg .In) (l2 X.K w9):=by
 intro pins s σ H y x u v Q I ry rx h;obtain ⟨dk,dx,M,rm,rk,rd,a,kvs,k,rfl,e,rfl,ok,q⟩:=h
 cases Mk.mp rd
 cases rx
 obtain ⟨b,rfl,kb⟩:=qM ok rk
 cases ry
 obtain ⟨xs,hx,pn⟩:=rm a _ e;refine CQ j I hx (fZ pn) kb fun s' I'=>⟨.bl (GL xs k).isSome,H,I',rfl, ?_⟩;have:(GL xs k).isSome=(ng kvs k).isSome:=by
  rcases kF (k:=k) pn with ⟨a,b⟩ | ⟨d,p,v,a,b,_⟩ <;> rw [a,b] <;> rfl
 rw [this];exact q _ H Ext.refl rm (Ml.mpr rfl)
theorem CU (j:X.A.units+16 < F8):IxR X (l2 X.K wa):=by
 intro value slice pins s σ H x y v u Q I rx ry h hs;obtain ⟨dx,dk,M,rm,rd,rk,a,kvs,k,d,rfl,e,rfl,ok,g,q⟩:=h
 cases Mk.mp rd
 cases rx
 obtain ⟨b,rfl,kb⟩:=qM ok rk
 cases ry
 obtain ⟨xs,hx,pn⟩:=rm a _ e
 rcases kF (k:=k) pn with ⟨a1,b1⟩ | ⟨d',p,v,a1,b1,rv,rd'⟩
 ·rw [g] at a1;cases a1
 rw [g] at a1;cases a1;exact LO (vc I hx) PySem.F.slot_dict_getitem.lookup (so j I hx (fZ pn) kb b1 fun s' I'=>⟨v,H,I',rv,q v H Ext.refl rm rd'⟩) hs
theorem Cc (j:X.A.units+16 < F8):PSet X (fun o i v H Q => ∃ a b k xs,o = .ref a/\i = .ref b/\H a=some (.ext (NDict a xs))/\(∀ x∈xs,Kt H x.1 x.2.1)/\Kt H k b/\xs.length < p4 /\ ∀ u,RelV v u->Q (upd H a (.ext (NDict a (Hy xs k b u))))):=by
 intro pins s σ H o i v ov iv u Q I ro ri rv h;obtain ⟨a,b,k,xs,rfl,rfl,e,ks,kb,l,q⟩:=h
 cases ro
 cases ri
 exact sr j I e ks kb l fun s' I'=>⟨_,I',q u rv⟩
theorem zc {o i e:Expr} {te to ti:TEd} {pos tpos:Pos} (hu:X.A.units+16 < F8) (me:ab te) (mo:ab to) (mi:ab ti) (he:PE X e (lE X.K te)) (ho:PE X o (lE X.K to)) (hi:PE X i (lE X.K ti))
 (hs:Fy [.Subscript o i tpos] e pos.line X.env=pure false) (hw:EK [.Subscript o i tpos] e X.env=pure none)
 (ha:∀ v,assign (.Subscript o i tpos) X.env v=(do
   let ov <- holding [v] (eval o X.env)
   let iv <- holding [v,ov] (eval i X.env)
   GP tpos
   holding [v,ov,iv] (IG ov iv v)
   release [v,ov,iv] [])):PS X (.Assign [.Subscript o i tpos] e pos) (lS X.K (iW te to ti)):=by
 refine PS.imp (i8 he (i7 ho hi (Cc hu) ha) hs hw rfl) fun D σ H h => ?_;obtain ⟨ρ,M,A,rs,rm,l,q⟩:=h;refine ⟨ρ,M,rs,rm,me _ _ _ _ (fun v M1 q1 vv H1 J j L => ?_) q⟩;refine ⟨ρ,M1,rs.mono (J.stab rm),j,mo _ _ _ _ (fun ov M2 q2 vo H2 O B U => ?_) q1⟩;refine ⟨ρ,M2,(rs.mono (J.stab rm)).mono (O.stab j),B,mi _ _ _ _ (fun iv M3 q3 vi G x3 z Y => ?_) q2⟩;have F:=J.trans (O.trans x3);obtain ⟨a,kvs,k,rfl,e,rfl,ok,hl,q⟩:=q3
 cases Mk.mp U
 obtain ⟨b,rfl,kb⟩:=qM ok Y;obtain ⟨xs,hx,pn⟩:=z a _ e;have rv:=(L.mono (O.stab j)).mono (x3.stab B);refine ⟨a,b,k,xs,rfl,rfl,hx,fZ pn,kb,by rw [<- Fl pn];exact hl,fun u ru => ?_⟩
 have st:Stab G (upd G a (.ext (NDict a (Hy xs k b u)))):=z.stabPut e;have x4:Ext M3 G (ae M3 a (.dcn (np kvs k v))) (upd G a (.ext (NDict a (Hy xs k b u)))):=Ext.put e;have Z:=B1 kb ru rv pn;exact l.nx ρ _ σ _ (F.trans x4) (rs.mono ((F.trans x4).stab rm)) (z.put (o := .dcn (np kvs k v)) e ⟨_,ao,Mn Z fun _ _ ⟨z1,z2,v,z3,z4⟩=>⟨z1,z2.keeps st.tup,v,z3,z4.mono st⟩⟩) q
end
end
section
section
variable {prog:DQ} {w:E4} {A:Ea} {E:e6->h6->Prop} {s:h6}
theorem mH {id:String} {b:FH} {args:List e6} {kw:List (Str×e6)} {Q:e6->h6->Prop} (B:builtinKind id=none) (F:plainId id=true)
 (G:entryFor table id=some b) (J:LV id ⟨args,kw⟩)
 (z:DJ (model prog w) A.in1 (b ⟨args,kw⟩) (fun fin s'=>match fin with
   | .done f=>(match (Except.ok f:KZ) with | .ok (.ret v)=>Q v s' | .ok _=>False | .error e=>E e s')
   | .again c'=>c'.quiet=true/\Gk (model prog w) A c' (fun r s'=>match r with | .ok (.ret v)=>Q v s' | .ok _=>False | .error e=>E e s') s') E s):DJ (model prog w) A (call (.builtin id) args kw) Q E s:=by
 refine wpAny_call (codeAny_call_builtin F G ?_);simp only [checkBuiltinCall,B]
 cases j:Manifest.signature? id with
 | none=>exact h7 z
 | some sig =>
   have q:Bind.checkArgs id sig ⟨args,kw⟩=pure ():=by simpa only [LV,j] using J
   simp only [q];exact h7 z
theorem tH (a b:e6):LV "min" ⟨[a],[("default",b)]⟩:=by unfold LV;kernel_rfl
theorem we {I S:Addr} {fp wr:List Addr} {P:Nat->e6->Prop} {St:Nat->Heap->Prop} {c:Nat} {R:KZ->h6->Prop} {d:e6} (W:Walks prog w A.in1 I fp wr 0 P St) (st:St 0 s.heap) (j:s.heap.get? S=some (lsO #[] c))
 (q:∀ h' tk,(∀ b o,b∉wr->s.heap.get? b=some o->h'.get? b=some o)->R (.ok (.ret d)) { s with heap:=h',toks:=tk }):Gk (model prog w) A (.builtin "min.loop" ⟨[.ref I, .none, .ref S],[("default",d)]⟩) R s:=by
 refine FY Hh ?_;rw [Gh EO _];refine b0 (m:=Ir (.ref S)) (Ei j rfl ?_);refine b0 (m:=KP (G4 (.ref I)) _) (Gg (W.done s _ _ st fun h' tk kk => ?_));refine b0 (Fn (h7 ?_));exact q h' tk kk
theorem tI {x d:e6} {Q:e6->h6->Prop}
 (h:DJ (model prog w) A.in1 (Jg x) (fun it s₂ => ∃ I fp wr n P St lt,it = .ref I/\Walks prog w A.in1 I fp wr n P St/\St 0 s₂.heap/\(∀ b∈fp,b < s₂.heap.objs.size)/\w6 lt prog w A.in1 P wr s₂.heap.objs.size s₂.heap/\w8 lt /\
   (n=0 -> ∀ h' tk,(∀ b o,b∉wr->s₂.heap.get? b=some o->h'.get? b=some o)->Q d { s₂ with heap:=h',toks:=tk }) /\
   (0 < n -> ∀ v h' tk,Lst lt P (n - 1) v->(∀ b o,b∉wr->s₂.heap.get? b=some o->h'.get? b=some o)->Q v { s₂ with heap:=h',toks:=tk })) E s) :
 DJ (model prog w) A (call (.builtin "min") [x] [("default",d)]) Q E s:=by
 have nm:(Jx "min" ++ Jx ".loop":String) = "min.loop" := by decide
 refine mH F.kind_min F.plain_min F.entry_min (tH _ _) ?_;refine b0 (m:=HC "min" ["key", "default"] 0 ⟨[],[("default",d)]⟩) (GN (show HC "min" ["key", "default"] 0 ⟨[],[("default",d)]⟩=pure [none,some d] from rfl) ?_);refine b0 (h7 ?_);refine b0 (FO h (fun it s₂ U => ?_) fun _ _ e=>e);obtain ⟨I,fp,wr,n,P,St,lt,rfl,W,st,B,q,O,G,Y⟩:=U;refine b0 (EA ?_);have J:s₂.heap.objs.size∉fp:=fun hm=>EE _ (B _ hm);rw [nm]
 rcases Nat.eq_zero_or_pos n with z | z
 ·subst z;refine h7 ⟨G2 EO _,we W (W.frame _ _ _ st fun b _ o e=>gV _ e) (hH _ rfl) fun h' tk L => ?_⟩;exact G rfl h' tk fun b o j e=>L b o j (gV _ e)
 ·refine h7 ⟨G2 EO _,tu W J q O z (W.frame _ _ _ st fun b _ o e=>gV _ e) (hH _ rfl) (fun b o _ _ e=>gV _ e) fun v h' tk Z L => ?_⟩;exact Y z v h' tk Z fun b o j e=>L b o j (E3 (v5 e)) (gV _ e)
end
section
variable {X:Cx}
noncomputable def iX (ta:TEd):TEd:=fun ρ M Q=>ta ρ M fun x M1 => ∃ (a:Addr) (nss:List (List Int)),x = .ref a/\M1 a=some (.lst (nss.map fun ns => .tup (ns.map .int)))/\(nss=[]->Q .non M1) /\ ∀ ns∈nss,(∀ ms∈nss,HT.lexLt ms ns=false)->Q (.tup (ns.map .int)) M1
theorem tJ {ta:TEd} (m:ab ta):ab (iX ta):=fun ρ M Q Q' h q=>m _ _ _ _ (fun x J ⟨a,nss,e,j,B,F⟩=>⟨a,nss,e,j,fun z=>h _ _ (B z),fun i hi G=>h _ _ (F i hi G)⟩) q
theorem zd {e:Expr} {ta:TEd} {p pos kp np:Pos} {j:Nat} (hu:X.A.units+16 < F8) (hc:X.calm=true) (m:ab ta) (ha:PA X [e] (lA X.K (ax ta ba))) (hg:Gl X "min") (hm:X.mg "min" = none)
 (he:G3 pos (DN [e] X.env)=(false,eval e X.env)::G3 pos (DN [] X.env)) (CY:(G3 pos (DN [e] X.env)).any (·.1)=false) :
 PE X (.Call (.Name "min" p) [e] [⟨some "default", .Constant .none j np,kp⟩] pos) (lE X.K (iX ta)):=by
 intro pins s σ H Q I h;obtain ⟨ρ,M,rs,rm,h⟩:=h;refine FQ (cD I hg hm (u := .builtin "min") (by decide +kernel) ?_ (by decide) (by decide))
 refine PyProof.Rows.callWith_kw (thn (ha pos pins s σ H (fun vs H1 => ∃ G v a nss,vs=[v]/\Ext M H G H1/\RM X.K G H1/\v = .ref a/\G a=some (.lst (nss.map fun ns => .tup (ns.map .int)))/\(nss=[]->KE' X.K M H Q .non G) /\ ∀ ns∈nss,(∀ ms∈nss,HT.lexLt ms ns=false)->KE' X.K M H Q (.tup (ns.map .int)) G) I ⟨ρ,M,rs,rm,m _ _ _ _ (fun x G ⟨a,nss,e,L,q0,q1⟩ vs H1 Z z rds => ?qa) h⟩) fun us s1 ⟨vs,H1,I1,r1,G,v,a,nss,ev,Z,z,ex,ea,q0,q⟩ => ?qb) he CY rfl rfl
 case qa =>
  obtain ⟨v,rfl,rv⟩:=rds.one;subst e;exact ⟨G,v,a,nss,rfl,Z,z,Mk.mp rv,L,q0,q1⟩
 subst ev ex;refine kws_cons (Constant_none (kws_nil ?_));obtain ⟨u,rfl,ru⟩:=cQ r1
 cases (show u=E8 a from ru)
 show DJ _ _ (call (.builtin "min") [.ref a] [("default", .none)]) _ _ _;obtain ⟨vs,ha,rvs⟩:=z _ _ ea;obtain ⟨its,r1,p1,hz⟩:=I1.list (SqL.of ha);have hl:=r1.length;have CZ:=rvs.length;rw [hG] at CZ;have hL:s1.heap.IsList a its.toArray:=p1.isList;have lt:=v5 hL.choose_spec.1;have hn:X.A.in1.handled=none:=I.ok.hd hc;have B:∀ (i:Nat) (v:e6),its.toArray[i]? = some v -> ∃ (ns:List Int) (t:Addr) (ws:List e6),nss[i]? = some ns/\RD X.K H1 (.tup (ns.map .int)) (.ref t)/\v = .ref t/\Lo s1.heap t ws.toArray/\GB ws.toArray.toList ns:=fun i v e=>by
  have e':its[i]? = some v:=by simpa using e
  have hi:i < its.length:=(hD.mp e').1;have O:i < nss.length:=by lia
  obtain ⟨x,hx,rx⟩:=rvs.get (i:=i) (d := .tup (nss[i].map .int)) (by rw [DL,hh O];rfl)
  obtain ⟨y,hy,ry⟩:=r1.get hx;rw [e'] at hy;cases hy;obtain ⟨t,ts,rfl,ht,rts⟩:=Mo rx;rw [rts.ints_eq] at ht;obtain ⟨ws,r2,p2,_⟩:=I1.tuple ht;exact ⟨nss[i],t,ws,hh O,rx,ry,p2,qc r2⟩
 refine tI (EU hL ?_);refine ⟨_,[_,a],[_],_,_,_,fun i j=>HT.lexLt (nss.getD i []) (nss.getD j []),rfl,Walks.list (A:=X.A.in1) hn _ a (E3 lt) its.toArray,⟨⟨_,hH _ rfl,rfl,rfl⟩,hL.push _⟩,fun d hd => ?_,fun s' x y i j Q' E' U hx hy J => ?_,⟨fun a b c=>tz,fun a=>tw⟩,fun h0 h' tk U => ?_,fun h0 v h' tk hP U => ?_⟩
 ·rw [ED]
  rcases r4.mp hd with rfl | hd
  ·exact Ld _
  ·rcases r4.mp hd with rfl | hd
   ·exact KA lt
   ·cases hd
 ·obtain ⟨n1,t1,w1,f1,_,rfl,p1,i1⟩:=B i x hx;obtain ⟨n2,t2,w2,f2,_,rfl,p2,i2⟩:=B j y hy;dsimp only at J;rw [Er,Er,f1,f2] at J;have up:∀ {t:Addr} {o:Obj},s1.heap.get? t=some o->s'.heap.get? t=some o:=fun {t o} e=>by
   have F:=v5 e;refine U t o (fun hm => ?_) ?_ (gV _ e)
   ·simp only [r4,DY,or_false] at hm;rw [hm] at F;exact EE _ F
   ·intro hm;rw [hm,ED] at F;exact absurd F (by lia)
  obtain ⟨o1,g1,h1⟩:=p1;obtain ⟨o2,g2,h2⟩:=p2;exact HT.lt_tupInts ⟨o1,up g1,h1⟩ ⟨o2,up g2,h2⟩ i1 i2 (by show X.A.units+1 < F8;lia) J
 ·have h0:its.length=0:=by simpa using h0
  refine ⟨.non,H1,I1.kept (fun b o e=>U b o (fun hm => ?_) (gV _ e)),rfl,q0 (FK.mp (by lia)) _ H1 Z z (Mq.mpr rfl)⟩
  rcases r4.mp hm with L | hm
  ·exact absurd (L ▸ v5 e) (EE _)
  ·cases hm
 ·obtain ⟨i,hP,hle⟩:=hP;obtain ⟨ns,t,ws,hm,rx,rfl,_,_⟩:=B i v hP;have hle:∀ ms∈nss,HT.lexLt ms ns=false:=fun ms D0=>by
   obtain ⟨k,Y⟩:=Jy D0;have D1:=(hD.mp Y).1;have:=hle k (by simp;lia)
   dsimp only at this;rw [Er,Er,Y,hm] at this;exact this
  refine ⟨.ref t,H1,I1.kept (fun b o e=>U b o (fun hm => ?_) (gV _ e)),rfl,q ns (DZ hm) hle _ H1 Z z rx⟩
  rcases r4.mp hm with L | hm
  ·exact absurd (L ▸ v5 e) (EE _)
  ·cases hm
noncomputable def iY (to ti:TEd):TSd:=fun D ρ M=>to ρ M fun x M1=>ti ρ M1 fun i M2 => ∃ (a:Addr) (ds:List _) (n:Nat),x = .ref a/\M2 a=some (.lst ds)/\i = .int (n:Nat)/\n < ds.length/\n < 2 ^ 62/\D.nx ρ (ae M2 a (.lst (ds.eraseIdx n)))
theorem tK {to ti:TEd} (h1:ab to) (h2:ab ti):az (iY to ti):=fun a b ρ M i q=>h1 _ _ _ _ (fun x L j=>h2 _ _ _ _ (fun k M2 ⟨a,ds,n,e,z,B,F,G,J⟩=>⟨a,ds,n,e,z,B,F,G,i.nx _ _ J⟩) j) q
theorem ze {o i:Expr} {to ti:TEd} {tpos pos:Pos} (mo:ab to) (mi:ab ti) (ho:PE X o (lE X.K to)) (hi:PE X i (lE X.K ti)):PS X (.Delete [.Subscript o i tpos] pos) (lS X.K (iY to ti)):=by
 intro pins s σ H D I h;obtain ⟨ρ,M,A,rs,rm,l,q⟩:=h;refine wpAny_Delete (wpAny_deleteEach_cons (wpAny_delete_Subscript (thn (ho pins s σ H (fun v H1 => ∃ B x,Ext M H B H1/\RM X.K B H1/\RD X.K H1 x v/\ti ρ B fun i M2 => ∃ (a:Addr) (ds:List _) (n:Nat),x = .ref a/\M2 a=some (.lst ds)/\i = .int (n:Nat)/\n < ds.length/\n < 2 ^ 62/\A.nx ρ (ae M2 a (.lst (ds.eraseIdx n)))) I ⟨ρ,M,rs,rm,mo _ _ _ _ (fun x B Y v H1 U F G=>⟨B,x,U,F,G,Y⟩) q⟩) fun u s1 ⟨v1,H1,I1,rx,B,x,U,F,G,Y⟩ => ?_)));refine thn (hi pins s1 σ H1 (fun v H2 => ∃ M2 a ds n,Ext B H1 M2 H2/\RM X.K M2 H2/\v = .int (n:Nat)/\x = .ref a/\M2 a=some (.lst ds)/\n < ds.length/\n < 2 ^ 62/\A.nx ρ (ae M2 a (.lst (ds.eraseIdx n)))) I1 ⟨ρ,B,rs.mono (U.stab rm),F,mi _ _ _ _ (fun i M2 ⟨a,ds,n,e,L,e2,e3,e4,Z⟩ v H2 x2 j CY => ?qa) Y⟩) fun iv s2 ⟨y,H2,I2,ry,M2,a,ds,n,x2,j,ey,ex,L,hn,CZ,Z⟩ => ?qb
 case qa =>
  subst e2;exact ⟨M2,a,ds,n,x2,j,Mj.mp CY,e,L,e3,e4,Z⟩
 subst ey ex
 cases Mk.mp G
 cases rx
 obtain ⟨t,rfl⟩:=(show ∃ t,iv=Hc (n:Nat) t from ry);obtain ⟨vs,ha,rvs⟩:=j _ _ L;obtain ⟨z,its,m,rv,hl⟩:=(show ObjOk X.prog X.w H2 s2.heap a (.lst vs) from I2.hok a _ ha);have l1:=rvs.length;have l2:=rv.length;have fit:HS (n:Nat)=true:=by
  unfold HS;simp only [e7,decide_eq_true_eq];lia
 have hk:seqIndex? (n:Nat) its.toArray.size=some n:=(jd (by unfold ixN;rw [if_pos (by lia),if_pos (by simp;lia),E5])).1
 refine wpAny_delItem_plain (hsz:=by simp;lia) (⟨m,hl⟩:s2.heap.PlainList a its.toArray) fit hk fun h' pl hs=>wpAny_deleteEach_nil ?_
 obtain ⟨m',J⟩:=pl;have re:Vals (vs.eraseIdx n) (its.eraseIdx n):=by
  rw [F4,F4];exact (rv.take n).append (rv.drop (n+1))
 have hL:(its.toArray.eraseIdxIfInBounds n)=(its.eraseIdx n).toArray:=by simp
 rw [hL] at J;have I3:Inv X pins σ (upd H2 a (.lst (vs.eraseIdx n))) { s2 with heap:=h' }:=dQ I2 (by rw [ha];exact EC) hs ⟨_,J⟩ ⟨Ej (List.length_eraseIdx_le _ _) z,its.eraseIdx n,m',re,J⟩
 have st:Stab H2 (upd H2 a (.lst (vs.eraseIdx n))):=j.stabPut L;have x3:Ext M2 H2 (ae M2 a (.lst (ds.eraseIdx n))) (upd H2 a (.lst (vs.eraseIdx n))):=Ext.put L;have O:=U.trans (x2.trans x3);have rde:RDs X.K H2 (ds.eraseIdx n) (vs.eraseIdx n):=by
  rw [F4,F4];exact (rvs.take n).append (rvs.drop (n+1))
 exact ⟨σ,_,I3,l.nx ρ _ σ _ O (rs.mono (O.stab rm)) (j.put (o := .lst (ds.eraseIdx n)) L ⟨_,ao,rde.mono st⟩) Z⟩
end
end
section
inductive BOp where | add | sub | mul | fdiv | mod | pow
inductive COp where | eq | ne | lt | gt | ge | is | isn | neD | ninS | inN
inductive BF where | len | abs | min2 | int | list | tuple | all | any | dict
inductive MF where | append
inductive MF0 where | clear
mutual
inductive MG where
 | name (i:Nat)
 | tup (gs:MGs)
inductive MGs where
 | nil
 | cons (g:MG) (r:MGs)
end
mutual
inductive ME where
 | var (i:Nat)
 | int (i:Int)
 | bl (b:Bool)
 | non
 | bin (op:BOp) (a b:ME)
 | neg (a:ME)
 | cmp (op:COp) (a b:ME)
 | and (es:MEs)
 | or (es:MEs)
 | not (a:ME)
 | ite (c:MT) (a b:ME)
 | tup (es:MEs)
 | lst (es:MEs)
 | ix (a b:ME)
 | sl (a:ME) (lo hi:MO)
 | step (a:ME) (lo:MO) (st:ME)
 | call (f:Nat) (es:MEs)
 | blt (f:BF) (es:MEs)
 | isin (a:ME) (T:String)
 | isin2 (a:ME) (T U:String)
 | dnew (t:Bool)
 | dnewN
 | ixN (a b:ME)
 | minD (a:ME)
 | dget (o k x:ME)
 | meth (m:MF) (o a:ME)
 | comp (fr:List (Option Nat)) (N:List Str) (c:MC)
inductive MEs where
 | nil
 | cons (e:ME) (r:MEs)
inductive MO where
 | none
 | some (e:ME)
inductive MT where
 | tru (e:ME)
 | cmp (op:COp) (a b:ME)
 | and (ts:MTs)
 | or (ts:MTs)
 | not (t:MT)
inductive MTs where
 | nil
 | cons (t:MT) (r:MTs)
inductive MI where
 | seq (e:ME)
 | rng1 (a:ME)
 | rng2 (a b:ME)
 | zip (a b:ME)
 | enum (a:ME)
 | keys (a:ME)
inductive MC where
 | last (src:MI) (g:MG) (ifs:MTs) (elt:ME)
 | more (src:MI) (g:MG) (ifs:MTs) (rest:MC)
end
mutual
inductive MS where
 | asg (g:MG) (e:ME)
 | par (i j:Nat) (a b:ME)
 | put2 (o i o' i' e:ME)
 | put (o i e:ME)
 | drop (e:ME)
 | ret (e:ME)
 | ite (c:MT) (a b:MSs)
 | for (g:MG) (src:MI) (b:MSs)
 | while (c:MT) (b:MSs)
 | frz (i:Nat) (s:MS)
 | dell (o i:ME)
 | putN (o i e:ME)
 | pass | brk | cnt
inductive MSs where
 | nil
 | cons (s:MS) (r:MSs)
end
noncomputable def opB:BOp->R2d
 | .add=>eW | .sub=>qk | .mul=>gI | .fdiv=>kA | .mod=>ql | .pow=>qm
noncomputable def opC:COp->R2d
 | .eq=>wEq | .ne=>wNe | .lt=>wLt| .gt=>wGt | .ge=>wGe | .is=>wIs | .isn=>m5| .neD=>vY| .ninS=>kD | .inN=>w9
noncomputable def opF:BF->RAd
 | .len=>du| .abs=>ln| .min2=>kB | .int=>jo | .list=>qt | .tuple=>lB| .all=>qC | .any=>vT| .dict=>qH
noncomputable def opM:MF->D->List D->Mem->QD->Prop
 | .append=>jr
noncomputable def B2:MF0->D->List D->Mem->QD->Prop
 | .clear=>AL
theorem mJ:∀ o,aG (opB o)
 | .add=>vg | .sub=>vh | .mul=>vj | .fdiv=>sB | .mod=>vk | .pow=>vm
theorem eF:∀ o,aG (opC o)
 | .eq=>yi | .ne=>yj | .lt=>yn| .gt=>yo | .ge=>yp | .is=>yL | .isn=>vQ| .neD=>vZ| .ninS=>tD | .inN=>wb
theorem wf:∀ o,aU (opF o)
 | .len=>lm| .abs=>lq| .min2=>jR | .int=>lu | .list=>jS | .tuple=>iC| .all=>m6 | .any=>m7| .dict=>jZ
theorem wg:∀ o,kC (opM o)
 | .append=>gy
noncomputable abbrev Phi:=Nat->RAd
mutual
noncomputable def bG:MG->BT
 | .name i=>aW i
 | .tup gs=>lL (bGs gs)
noncomputable def bGs:MGs->BTs
 | .nil=>eY
 | .cons g r=>bF (bG g) (bGs r)
end
mutual
noncomputable def wE (Φ:Phi):ME->TEd
 | .var i=>aI i
 | .int i=>wC (.int i)
 | .bl b=>wC (.bl b)
 | .non=>wC .non
 | .bin op a b=>wOp (opB op) (wE Φ a) (wE Φ b)
 | .neg a=>wUn jm (wE Φ a)
 | .cmp op a b=>wOp (opC op) (wE Φ a) (wE Φ b)
 | .and es=>wAnds Φ es
 | .or es=>wOrs Φ es
 | .not a=>iG (wE Φ a)
 | .ite c a b=>wIf (wT Φ c) (wE Φ a) (wE Φ b)
 | .tup es=>wAr jk (wA Φ es)
 | .lst es=>wAr gG (wA Φ es)
 | .ix a b=>wOp wIx (wE Φ a) (wE Φ b)
 | .sl a lo hi=>wSl (wE Φ a) (wO Φ lo) (wO Φ hi)
 | .step a lo st=>iR (wE Φ a) (wO Φ lo) (fV (wE Φ st))
 | .call f es=>wAr (Φ f) (wA Φ es)
 | .blt f es=>wAr (opF f) (wA Φ es)
 | .isin a T=>iH T (wE Φ a)
 | .isin2 a T U=>fu T U (wE Φ a)
 | .dnew t=>iP t
 | .dnewN=>fA
 | .ixN a b=>wOp wa (wE Φ a) (wE Φ b)
 | .minD a=>iX (wE Φ a)
 | .dget o k x=>iQ (wE Φ o) (wE Φ k) (wE Φ x)
 | .meth m o a=>wBM (opM m) (wE Φ o) (ax (wE Φ a) ba)
 | .comp fr _ c=>wCmp Φ fr c
noncomputable def wA (Φ:Phi):MEs->TAd
 | .nil=>ba
 | .cons e r=>ax (wE Φ e) (wA Φ r)
noncomputable def wAnds (Φ:Phi):MEs->TEd
 | .nil=>fun _ _ _=>False
 | .cons e .nil=>wE Φ e
 | .cons e (.cons f r)=>iF (wE Φ e) (wAnds Φ (.cons f r))
noncomputable def wOrs (Φ:Phi):MEs->TEd
 | .nil=>fun _ _ _=>False
 | .cons e .nil=>wE Φ e
 | .cons e (.cons f r)=>lJ (wE Φ e) (wOrs Φ (.cons f r))
noncomputable def wO (Φ:Phi):MO->TOd
 | .none=>dR
 | .some e=>fV (wE Φ e)
noncomputable def wT (Φ:Phi):MT->TTd
 | .tru e=>lH (wE Φ e)
 | .cmp op a b=>cb (wOp (opC op) (wE Φ a) (wE Φ b))
 | .and ts=>wAndTs Φ ts
 | .or ts=>wOrTs Φ ts
 | .not t=>iD (wT Φ t)
noncomputable def wAndTs (Φ:Phi):MTs->TTd
 | .nil=>fun _ _ _=>False
 | .cons e .nil=>wT Φ e
 | .cons e (.cons f r)=>iE (wT Φ e) (wAndTs Φ (.cons f r))
noncomputable def wOrTs (Φ:Phi):MTs->TTd
 | .nil=>fun _ _ _=>False
 | .cons e .nil=>wT Φ e
 | .cons e (.cons f r)=>jp (wT Φ e) (wOrTs Φ (.cons f r))
noncomputable def wTl (Φ:Phi):MTs->List TTd
 | .nil => []
 | .cons t r=>wT Φ t::wTl Φ r
noncomputable def wI (Φ:Phi):MI->TId
 | .seq e=>lM (wE Φ e)
 | .rng1 a=>iI (ax (wE Φ a) ba)
 | .rng2 a b=>iJ (ax (wE Φ a) (ax (wE Φ b) ba))
 | .zip a b=>lN (wE Φ a) (wE Φ b)
 | .enum a=>iL (wE Φ a)
 | .keys a=>iV (wE Φ a)
noncomputable def wCl (Φ:Phi):MC->TCd
 | .last src g ifs elt=>dh (wI Φ src) (bG g) (aP (wTl Φ ifs) (bh (wE Φ elt)))
 | .more src g ifs rest=>dh (wI Φ src) (bG g) (aP (wTl Φ ifs) (wCl Φ rest))
noncomputable def wCmp (Φ:Phi) (fr:List (Option Nat)):MC->TEd
 | .last src g ifs elt=>fX fr (wI Φ src) (bG g) (aP (wTl Φ ifs) (bh (wE Φ elt)))
 | .more src g ifs rest=>fX fr (wI Φ src) (bG g) (aP (wTl Φ ifs) (wCl Φ rest))
end
mutual
noncomputable def wS (Φ:Phi):MS->TSd
 | .asg g e=>gK (wE Φ e) (bG g)
 | .par i j a b=>lW (ax (wE Φ a) (ax (wE Φ b) ba)) (bF (aW i) (bF (aW j) eY))
 | .put2 o i o' i' e=>kE (wE Φ e) (wE Φ o) (wE Φ i) (wE Φ o') (wE Φ i')
 | .put o i e=>lY (wE Φ e) (wE Φ o) (wE Φ i)
 | .drop e=>iO (wE Φ e)
 | .ret e=>lV (wE Φ e)
 | .ite c a b=>sIf (wT Φ c) (wSs Φ a) (wSs Φ b)
 | .for g src b=>lX (wI Φ src) (bG g) (wSs Φ b)
 | .while c b=>fh (wT Φ c) (wSs Φ b)
 | .frz i s=>qK i (wS Φ s)
 | .dell o i=>iY (wE Φ o) (wE Φ i)
 | .putN o i e=>iW (wE Φ e) (wE Φ o) (wE Φ i)
 | .pass=>fY
 | .brk=>fg
 | .cnt=>iN
noncomputable def wSs (Φ:Phi):MSs->TSd
 | .nil=>fY
 | .cons s r=>lU (wS Φ s) (wSs Φ r)
end
section
variable {Φ:Phi} (hΦ:∀ f,aU (Φ f))
include hΦ
mutual
theorem mE:∀ m,ab (wE Φ m)
 | .var _=>vd
 | .int _=>lg
 | .bl _=>lg
 | .non=>lg
 | .bin op a b=>df (mJ op) (mE a) (mE b)
 | .neg a=>yf lj (mE a)
 | .cmp op a b=>df (eF op) (mE a) (mE b)
 | .and es=>mAnds es
 | .or es=>mOrs es
 | .not a=>sK (mE a)
 | .ite c a b=>yw (mT c) (mE a) (mE b)
 | .tup es=>fT sv (mA es)
 | .lst es=>fT sx (mA es)
 | .ix a b=>df oO (mE a) (mE b)
 | .sl a lo hi=>yA (mE a) (mO lo) (mO hi)
 | .step a lo st=>t9 (mE a) (mO lo) (eX (mE st))
 | .call f es=>fT (hΦ f) (mA es)
 | .blt f es=>fT (wf f) (mA es)
 | .isin a T=>sM (mE a)
 | .isin2 a T U=>qJ (mE a)
 | .dnew _=>t6
 | .dnewN=>qL
 | .ixN a b=>df mF (mE a) (mE b)
 | .minD a=>tJ (mE a)
 | .dget o k x=>t8 (mE o) (mE k) (mE x)
 | .meth m o a=>yC (wg m) (mE o) (ar (mE a) aw)
 | .comp fr _ c=>mCmp fr c
theorem mA:∀ m,aV (wA Φ m)
 | .nil=>aw
 | .cons e r=>ar (mE e) (mA r)
theorem mAnds:∀ m,ab (wAnds Φ m)
 | .nil=>fun _ _ _ _ _ q=>q.elim
 | .cons e .nil=>mE e
 | .cons e (.cons f r)=>sJ (mE e) (mAnds (.cons f r))
theorem mOrs:∀ m,ab (wOrs Φ m)
 | .nil=>fun _ _ _ _ _ q=>q.elim
 | .cons e .nil=>mE e
 | .cons e (.cons f r)=>vB (mE e) (mOrs (.cons f r))
theorem mO:∀ m,cc (wO Φ m)
 | .none=>ot
 | .some e=>eX (mE e)
theorem mT:∀ m,aA (wT Φ m)
 | .tru e=>vz (mE e)
 | .cmp op a b=>ve (df (eF op) (mE a) (mE b))
 | .and ts=>mAndTs ts
 | .or ts=>mOrTs ts
 | .not t=>sF (mT t)
theorem mAndTs:∀ m,aA (wAndTs Φ m)
 | .nil=>fun _ _ _ _ _ q=>q.elim
 | .cons e .nil=>mT e
 | .cons e (.cons f r)=>sH (mT e) (mAndTs (.cons f r))
theorem mOrTs:∀ m,aA (wOrTs Φ m)
 | .nil=>fun _ _ _ _ _ q=>q.elim
 | .cons e .nil=>mT e
 | .cons e (.cons f r)=>vA (mT e) (mOrTs (.cons f r))
theorem mTl:∀ m, ∀ t∈wTl Φ m,aA t
 | .nil=>by rw [wTl];intro t j;simp at j
 | .cons t r=>by
  rw [wTl];intro t' j
  rcases r4.mp j with e | e
  ·rw [e];exact mT t
  ·exact mTl r t' e
theorem mI:∀ m,bH (wI Φ m)
 | .seq e=>vE (mE e)
 | .rng1 a=>sR (ar (mE a) aw)
 | .rng2 a b=>sU (ar (mE a) (ar (mE b) aw))
 | .zip a b=>vF (mE a) (mE b)
 | .enum a=>sV (mE a)
 | .keys a=>tm (mE a)
theorem mCl:∀ m,bI (wCl Φ m)
 | .last src g ifs elt=>gA (mI src) (aK (bp (mE elt)) (mTl ifs))
 | .more src g ifs rest=>gA (mI src) (aK (mCl rest) (mTl ifs))
theorem mCmp (fr:List (Option Nat)):∀ m,ab (wCmp Φ fr m)
 | .last src g ifs elt=>jT (mI src) (aK (bp (mE elt)) (mTl ifs))
 | .more src g ifs rest=>jT (mI src) (aK (mCl rest) (mTl ifs))
end
mutual
theorem mS:∀ m,az (wS Φ m)
 | .asg g e=>vI (mE hΦ e)
 | .par i j a b=>vJ (ar (mE hΦ a) (ar (mE hΦ b) aw))
 | .put2 o i o' i' e=>tF (mE hΦ e) (mE hΦ o) (mE hΦ i) (mE hΦ o') (mE hΦ i')
 | .put o i e=>vP (mE hΦ e) (mE hΦ o) (mE hΦ i)
 | .drop e=>sY (mE hΦ e)
 | .ret e=>vG (mE hΦ e)
 | .ite c a b=>vH (mT hΦ c) (mSs a) (mSs b)
 | .for g src b=>vK (mI hΦ src) (mSs b)
 | .while c b=>qz (mT hΦ c) (mSs b)
 | .frz i s=>vX (mS s)
 | .dell o i=>tK (mE hΦ o) (mE hΦ i)
 | .putN o i e=>tG (mE hΦ e) (mE hΦ o) (mE hΦ i)
 | .pass=>jV
 | .brk=>qw
 | .cnt=>sW
theorem mSs:∀ m,az (wSs Φ m)
 | .nil=>jV
 | .cons s r=>sX (mS s) (mSs r)
end
end
end
section
structure Ctx where
 Γ:List Str
 N:List Str
 sc:Scope
 fn:List Str
 cs:List (Str×D)
noncomputable def glB (sc:Scope) (x:Str):Bool:=sc.names.lookup x==some .globalImplicit
noncomputable def wj (sc:Scope) (x:Str):Bool:=sc.names.lookup x==some .local || sc.names.lookup x==some .cell || sc.names.lookup x==some .free
noncomputable def wk (sc:Scope) (x:Str):Bool:=sc.names.lookup x==some .local || sc.names.lookup x==some .cell
noncomputable def aF:Expr->Bool
 | .Starred .. => false
 | _=>true
noncomputable def mK:Expr->Bool
 | .Name .. | .Call .. | .Subscript .. | .Constant .. | .BinOp .. | .Attribute .. => true
 | _=>false
noncomputable def be:Expr->Bool
 | .Slice .. => false
 | _=>true
noncomputable def dw:Expr->Bool
 | .ListComp .. | .SetComp .. | .DictComp .. => false
 | _=>true
noncomputable def iZ:Expr->Bool
 | .Set .. => false
 | _=>true
noncomputable def gd:Expr->Bool
 | .Call .. => false
 | _=>true
noncomputable def opO:BOp->Kn
 | .add => .Add | .sub => .Sub | .mul => .Mult | .fdiv => .FloorDiv | .mod => .Mod | .pow => .Pow
noncomputable def wl:COp->CmpOp
 | .eq => .Eq | .ne => .NotEq | .lt => .Lt| .gt => .Gt | .ge => .GtE | .is => .Is | .isn => .IsNot| .neD => .NotEq| .ninS => .NotIn | .inN => .In
noncomputable def mM:BF->Str
 | .len => "len"| .abs => "abs"| .min2 => "min" | .int => "int" | .list => "list" | .tuple => "tuple"| .all => "all" | .any => "any"| .dict => "dict"
noncomputable def B3:MF->Str
 | .append => "append"
noncomputable def bltNames:List Str := ["len", "abs", "max", "min", "int", "list", "tuple", "sum", "isinstance", "range", "bool", "str", "dict", "zip", "enumerate", "reversed", "sorted", "all", "any", "set"]
noncomputable def gO (sc osc:Scope):Scope :=
 { sc with names:=sc.names.map fun (n,k)=>if (k == .free&&osc.kind == .function&&osc.names.lookup n==some .cell) then (n, .cell) else (n,k) }
theorem ow (sc:Scope) (env:Env):relabel sc env=gO sc env.scope:=rfl
noncomputable def wm (sc osc:Scope) (oN N':List Str) (fr:List (Option Nat)):Bool :=
 decide (sc.kind = .function)&&decide ((sc.names.map (·.1)).Nodup)&&decide (N'.Nodup)
  && sc.names.all (fun x => !(x.2 == .free) || osc.names.lookup x.1==some .cell || osc.names.lookup x.1==some .free)
  && decide (fr.length=N'.length)
  && (Eo N'.length).all fun i=>match fr[i]?,N'[i]? with
   | some (some j),some x=>decide (oN[j]? = some x)&&sc.names.any (fun y=>decide (y=(x,DX)))
   | _,_=>true
theorem pk {p:Prop} [d:Decidable p] {t:p->Bool} (h:dite p t (fun _=>false)=true):∃ c,t c=true:=by
 cases d with
 | isTrue c=>exact ⟨c,h⟩
 | isFalse c=>cases h
noncomputable def cC (e:Expr) (f:Str->Pos->Bool):Bool:=if h:e.ctorIdx=23 then @Mc.elim (fun _=>Bool) e h f else false
@[elab_as_elim]
theorem cX {P:Expr->Prop} (e:Expr) {f:Str->Pos->Bool} (h:cC e f=true) (k:∀ a b,f a b=true->P (.Name a b)):P e :=
 (pk h).elim fun c => @Mc.elim (fun e => ∀ c, @Mc.elim (fun _=>Bool) e c f=true->P e) e c (fun a b _ h=>k a b h) c
noncomputable def cF (e:Expr) (f:Const->Nat->Pos->Bool):Bool:=if h:e.ctorIdx=19 then @JT.elim (fun _=>Bool) e h f else false
@[elab_as_elim]
theorem dG {P:Expr->Prop} (e:Expr) {f:Const->Nat->Pos->Bool} (h:cF e f=true) (k:∀ a b c,f a b c=true->P (.Constant a b c)):P e :=
 (pk h).elim fun c => @JT.elim (fun e => ∀ c, @JT.elim (fun _=>Bool) e c f=true->P e) e c (fun a b c _ h=>k a b c h) c
noncomputable def tL (e:Expr) (f:Expr->Kn->Expr->Pos->Bool):Bool:=if h:e.ctorIdx=2 then @LW.elim (fun _=>Bool) e h f else false
@[elab_as_elim]
theorem B4 {P:Expr->Prop} (e:Expr) {f:Expr->Kn->Expr->Pos->Bool} (h:tL e f=true) (k:∀ a b c d,f a b c d=true->P (.BinOp a b c d)):P e :=
 (pk h).elim fun c => @LW.elim (fun e => ∀ c, @LW.elim (fun _=>Bool) e c f=true->P e) e c (fun a b c d _ h=>k a b c d h) c
noncomputable def eG (e:Expr) (f:UnaryOp->Expr->Pos->Bool):Bool:=if h:e.ctorIdx=3 then @KQ.elim (fun _=>Bool) e h f else false
@[elab_as_elim]
theorem gQ {P:Expr->Prop} (e:Expr) {f:UnaryOp->Expr->Pos->Bool} (h:eG e f=true) (k:∀ a b c,f a b c=true->P (.UnaryOp a b c)):P e :=
 (pk h).elim fun c => @KQ.elim (fun e => ∀ c, @KQ.elim (fun _=>Bool) e c f=true->P e) e c (fun a b c _ h=>k a b c h) c
noncomputable def gS (e:Expr) (f:Expr->List CmpOp->List Expr->Pos->Bool):Bool:=if h:e.ctorIdx=15 then @KR.elim (fun _=>Bool) e h f else false
@[elab_as_elim]
theorem mN {P:Expr->Prop} (e:Expr) {f:Expr->List CmpOp->List Expr->Pos->Bool} (h:gS e f=true) (k:∀ a b c d,f a b c d=true->P (.Compare a b c d)):P e :=
 (pk h).elim fun c => @KR.elim (fun e => ∀ c, @KR.elim (fun _=>Bool) e c f=true->P e) e c (fun a b c d _ h=>k a b c d h) c
noncomputable def dU (e:Expr) (f:BoolOp->List Expr->Pos->Bool):Bool:=if h:e.ctorIdx=0 then @Lw.elim (fun _=>Bool) e h f else false
@[elab_as_elim]
theorem gf {P:Expr->Prop} (e:Expr) {f:BoolOp->List Expr->Pos->Bool} (h:dU e f=true) (k:∀ a b c,f a b c=true->P (.BoolOp a b c)):P e :=
 (pk h).elim fun c => @Lw.elim (fun e => ∀ c, @Lw.elim (fun _=>Bool) e c f=true->P e) e c (fun a b c _ h=>k a b c h) c
noncomputable def tM (e:Expr) (f:Expr->Expr->Expr->Pos->Bool):Bool:=if h:e.ctorIdx=5 then @LX.elim (fun _=>Bool) e h f else false
@[elab_as_elim]
theorem B5 {P:Expr->Prop} (e:Expr) {f:Expr->Expr->Expr->Pos->Bool} (h:tM e f=true) (k:∀ a b c d,f a b c d=true->P (.IfExp a b c d)):P e :=
 (pk h).elim fun c => @LX.elim (fun e => ∀ c, @LX.elim (fun _=>Bool) e c f=true->P e) e c (fun a b c d _ h=>k a b c d h) c
noncomputable def cg (e:Expr) (f:List Expr->Nat->Pos->Bool):Bool:=if h:e.ctorIdx=25 then @LY.elim (fun _=>Bool) e h f else false
@[elab_as_elim]
theorem cG {P:Expr->Prop} (e:Expr) {f:List Expr->Nat->Pos->Bool} (h:cg e f=true) (k:∀ a b c,f a b c=true->P (.Tuple a b c)):P e :=
 (pk h).elim fun c => @LY.elim (fun e => ∀ c, @LY.elim (fun _=>Bool) e c f=true->P e) e c (fun a b c _ h=>k a b c h) c
noncomputable def xx (e:Expr) (f:List Expr->Pos->Bool):Bool:=if h:e.ctorIdx=24 then @Md.elim (fun _=>Bool) e h f else false
@[elab_as_elim]
theorem Cd {P:Expr->Prop} (e:Expr) {f:List Expr->Pos->Bool} (h:xx e f=true) (k:∀ a b,f a b=true->P (.List a b)):P e :=
 (pk h).elim fun c => @Md.elim (fun e => ∀ c, @Md.elim (fun _=>Bool) e c f=true->P e) e c (fun a b _ h=>k a b h) c
noncomputable def b7 (e:Expr) (f:Expr->Expr->Pos->Bool):Bool:=if h:e.ctorIdx=21 then @Jz.elim (fun _=>Bool) e h f else false
@[elab_as_elim]
theorem bg {P:Expr->Prop} (e:Expr) {f:Expr->Expr->Pos->Bool} (h:b7 e f=true) (k:∀ a b c,f a b c=true->P (.Subscript a b c)):P e :=
 (pk h).elim fun c => @Jz.elim (fun e => ∀ c, @Jz.elim (fun _=>Bool) e c f=true->P e) e c (fun a b c _ h=>k a b c h) c
noncomputable def kG (e:Expr) (f:Expr->List Expr->List IP->Pos->Bool):Bool:=if h:e.ctorIdx=16 then @Me.elim (fun _=>Bool) e h f else false
@[elab_as_elim]
theorem qN {P:Expr->Prop} (e:Expr) {f:Expr->List Expr->List IP->Pos->Bool} (h:kG e f=true) (k:∀ a b c d,f a b c d=true->P (.Call a b c d)):P e :=
 (pk h).elim fun c => @Me.elim (fun e => ∀ c, @Me.elim (fun _=>Bool) e c f=true->P e) e c (fun a b c d _ h=>k a b c d h) c
noncomputable def j3 (e:Expr) (f:Expr->Str->Pos->Bool):Bool:=if h:e.ctorIdx=20 then @JA.elim (fun _=>Bool) e h f else false
@[elab_as_elim]
theorem qO {P:Expr->Prop} (e:Expr) {f:Expr->Str->Pos->Bool} (h:j3 e f=true) (k:∀ a b c,f a b c=true->P (.Attribute a b c)):P e :=
 (pk h).elim fun c => @JA.elim (fun e => ∀ c, @JA.elim (fun _=>Bool) e c f=true->P e) e c (fun a b c _ h=>k a b c h) c
noncomputable def tN (e:Expr) (f:Option Expr->Option Expr->Option Expr->Pos->Bool):Bool:=if h:e.ctorIdx=26 then @LZ.elim (fun _=>Bool) e h f else false
@[elab_as_elim]
theorem B6 {P:Expr->Prop} (e:Expr) {f:Option Expr->Option Expr->Option Expr->Pos->Bool} (h:tN e f=true) (k:∀ a b c d,f a b c d=true->P (.Slice a b c d)):P e :=
 (pk h).elim fun c => @LZ.elim (fun e => ∀ c, @LZ.elim (fun _=>Bool) e c f=true->P e) e c (fun a b c d _ h=>k a b c d h) c
noncomputable def kc (e:Expr) (f:Expr->List Ef->Scope->Pos->Bool):Bool:=if h:e.ctorIdx=8 then @JU.elim (fun _=>Bool) e h f else false
@[elab_as_elim]
theorem tO {P:Expr->Prop} (e:Expr) {f:Expr->List Ef->Scope->Pos->Bool} (h:kc e f=true) (k:∀ a b c d,f a b c d=true->P (.ListComp a b c d)):P e :=
 (pk h).elim fun c => @JU.elim (fun e => ∀ c, @JU.elim (fun _=>Bool) e c f=true->P e) e c (fun a b c d _ h=>k a b c d h) c
noncomputable def qP (e:Expr) (f:List (Option Expr)->List Expr->Pos->Bool):Bool:=if h:e.ctorIdx=6 then @Mf.elim (fun _=>Bool) e h f else false
@[elab_as_elim]
theorem xz {P:Expr->Prop} (e:Expr) {f:List (Option Expr)->List Expr->Pos->Bool} (h:qP e f=true) (k:∀ a b c,f a b c=true->P (.Dict a b c)):P e :=
 (pk h).elim fun c => @Mf.elim (fun e => ∀ c, @Mf.elim (fun _=>Bool) e c f=true->P e) e c (fun a b c _ h=>k a b c h) c
noncomputable def cr (e:Stmt) (f:List Expr->Expr->Pos->Bool):Bool:=if h:e.ctorIdx=5 then @Lx.elim (fun _=>Bool) e h f else false
@[elab_as_elim]
theorem dz {P:Stmt->Prop} (e:Stmt) {f:List Expr->Expr->Pos->Bool} (h:cr e f=true) (k:∀ a b c,f a b c=true->P (.Assign a b c)):P e :=
 (pk h).elim fun c => @Lx.elim (fun e => ∀ c, @Lx.elim (fun _=>Bool) e c f=true->P e) e c (fun a b c _ h=>k a b c h) c
noncomputable def mQ (e:Stmt) (f:List Expr->Pos->Bool):Bool:=if h:e.ctorIdx=4 then @Ly.elim (fun _=>Bool) e h f else false
@[elab_as_elim]
theorem wn {P:Stmt->Prop} (e:Stmt) {f:List Expr->Pos->Bool} (h:mQ e f=true) (k:∀ a b,f a b=true->P (.Delete a b)):P e :=
 (pk h).elim fun c => @Ly.elim (fun e => ∀ c, @Ly.elim (fun _=>Bool) e c f=true->P e) e c (fun a b _ h=>k a b h) c
noncomputable def tP (e:Stmt) (f:Expr->Pos->Bool):Bool:=if h:e.ctorIdx=24 then @Mg.elim (fun _=>Bool) e h f else false
@[elab_as_elim]
theorem B7 {P:Stmt->Prop} (e:Stmt) {f:Expr->Pos->Bool} (h:tP e f=true) (k:∀ a b,f a b=true->P (.Expr a b)):P e :=
 (pk h).elim fun c => @Mg.elim (fun e => ∀ c, @Mg.elim (fun _=>Bool) e c f=true->P e) e c (fun a b _ h=>k a b h) c
noncomputable def mU (e:Stmt) (f:Option Expr->Pos->Bool):Bool:=if h:e.ctorIdx=3 then @Lz.elim (fun _=>Bool) e h f else false
@[elab_as_elim]
theorem wo {P:Stmt->Prop} (e:Stmt) {f:Option Expr->Pos->Bool} (h:mU e f=true) (k:∀ a b,f a b=true->P (.Return a b)):P e :=
 (pk h).elim fun c => @Lz.elim (fun e => ∀ c, @Lz.elim (fun _=>Bool) e c f=true->P e) e c (fun a b _ h=>k a b h) c
noncomputable def B8 (e:Stmt) (f:Expr->List Stmt->List Stmt->Pos->Bool):Bool:=if h:e.ctorIdx=12 then @Stmt.If.elim (fun _=>Bool) e h f else false
@[elab_as_elim]
theorem CV {P:Stmt->Prop} (e:Stmt) {f:Expr->List Stmt->List Stmt->Pos->Bool} (h:B8 e f=true) (k:∀ a b c d,f a b c d=true->P (.If a b c d)):P e :=
 (pk h).elim fun c => @Stmt.If.elim (fun e => ∀ c, @Stmt.If.elim (fun _=>Bool) e c f=true->P e) e c (fun a b c d _ h=>k a b c d h) c
noncomputable def xA (e:Stmt) (f:Expr->Expr->List Stmt->List Stmt->Pos->Bool):Bool:=if h:e.ctorIdx=9 then @Stmt.For.elim (fun _=>Bool) e h f else false
@[elab_as_elim]
theorem Ce {P:Stmt->Prop} (e:Stmt) {f:Expr->Expr->List Stmt->List Stmt->Pos->Bool} (h:xA e f=true) (k:∀ a b c d e,f a b c d e=true->P (.For a b c d e)):P e :=
 (pk h).elim fun c => @Stmt.For.elim (fun e => ∀ c, @Stmt.For.elim (fun _=>Bool) e c f=true->P e) e c (fun a b c d e _ h=>k a b c d e h) c
noncomputable def oV (e:Stmt) (f:Expr->List Stmt->List Stmt->Pos->Bool):Bool:=if h:e.ctorIdx=11 then @Ma.elim (fun _=>Bool) e h f else false
@[elab_as_elim]
theorem zf {P:Stmt->Prop} (e:Stmt) {f:Expr->List Stmt->List Stmt->Pos->Bool} (h:oV e f=true) (k:∀ a b c d,f a b c d=true->P (.While a b c d)):P e :=
 (pk h).elim fun c => @Ma.elim (fun e => ∀ c, @Ma.elim (fun _=>Bool) e c f=true->P e) e c (fun a b c d _ h=>k a b c d h) c
noncomputable def tQ (e:Stmt) (f:Pos->Bool):Bool:=if h:e.ctorIdx=25 then @Mh.elim (fun _=>Bool) e h f else false
@[elab_as_elim]
theorem B9 {P:Stmt->Prop} (e:Stmt) {f:Pos->Bool} (h:tQ e f=true) (k:∀ a,f a=true->P (.Pass a)):P e :=
 (pk h).elim fun c => @Mh.elim (fun e => ∀ c, @Mh.elim (fun _=>Bool) e c f=true->P e) e c (fun a _ h=>k a h) c
noncomputable def oW (e:Stmt) (f:Pos->Bool):Bool:=if h:e.ctorIdx=26 then @Mb.elim (fun _=>Bool) e h f else false
@[elab_as_elim]
theorem zg {P:Stmt->Prop} (e:Stmt) {f:Pos->Bool} (h:oW e f=true) (k:∀ a,f a=true->P (.Break a)):P e :=
 (pk h).elim fun c => @Mb.elim (fun e => ∀ c, @Mb.elim (fun _=>Bool) e c f=true->P e) e c (fun a _ h=>k a h) c
noncomputable def j4 (e:Stmt) (f:Pos->Bool):Bool:=if h:e.ctorIdx=27 then @JV.elim (fun _=>Bool) e h f else false
@[elab_as_elim]
theorem qQ {P:Stmt->Prop} (e:Stmt) {f:Pos->Bool} (h:j4 e f=true) (k:∀ a,f a=true->P (.Continue a)):P e :=
 (pk h).elim fun c => @JV.elim (fun e => ∀ c, @JV.elim (fun _=>Bool) e c f=true->P e) e c (fun a _ h=>k a h) c
noncomputable def lv0 {α:Type} (xs:List α) (b:Bool):Bool:=xs.isEmpty&&b
noncomputable def lvc {α:Type} (xs:List α) (f : α -> List α -> Bool):Bool:=match xs with
 | y::r=>f y r
 | [] => false
noncomputable def lv1 {α:Type} (xs:List α) (f : α -> Bool):Bool:=lvc xs fun y r=>lv0 r (f y)
noncomputable def lv2 {α:Type} (xs:List α) (f : α -> α -> Bool):Bool:=lvc xs fun y r=>lv1 r (f y)
noncomputable def os {α:Type} (o:Option α) (f : α -> Bool):Bool:=match o with
 | some x=>f x
 | none=>false
noncomputable def on {α:Type} (o:Option α) (b:Bool):Bool:=o.isNone&&b
@[elab_as_elim]
theorem eI {α:Type} {P:List α -> Prop} (xs:List α) {b:Bool} (h:lv0 xs b=true) (k:b=true->P []):P xs:=by
 cases xs with
 | nil=>exact k h
 | cons _ _=>cases h
@[elab_as_elim]
theorem Ba {α:Type} {P:List α -> Prop} (xs:List α) {f : α -> List α -> Bool} (h:lvc xs f=true) (k:∀ y r,f y r=true->P (y::r)):P xs:=by
 cases xs with
 | nil=>cases h
 | cons y r=>exact k y r h
@[elab_as_elim]
theorem bN {α:Type} {P:List α -> Prop} (xs:List α) {f : α -> Bool} (h:lv1 xs f=true) (k:∀ y,f y=true->P [y]):P xs :=
 Ba xs h fun y r h=>eI r h fun h=>k y h
@[elab_as_elim]
theorem eJ {α:Type} {P:List α -> Prop} (xs:List α) {f : α -> α -> Bool} (h:lv2 xs f=true) (k:∀ y z,f y z=true->P [y,z]):P xs :=
 Ba xs h fun y r h=>bN r h fun z h=>k y z h
@[elab_as_elim]
theorem jos {α:Type} {P:Option α -> Prop} (o:Option α) {f : α -> Bool} (h:os o f=true) (k:∀ x,f x=true->P (some x)):P o:=by
 cases o with
 | none=>cases h
 | some x=>exact k x h
@[elab_as_elim]
theorem jon {α:Type} {P:Option α -> Prop} (o:Option α) {b:Bool} (h:on o b=true) (k:b=true->P none):P o:=by
 cases o with
 | none=>exact k h
 | some x=>cases h
theorem bC {a b:Bool} (h:(a&&b)=true):a=true/\b=true:=by rwa [e7] at h
noncomputable def ci (e:Expr) (g:Str->List Expr->Bool):Bool:=kG e fun f xs ks _=>lv0 ks (cC f fun x _=>g x xs)
@[elab_as_elim]
theorem cH {P:Expr->Prop} (e:Expr) {g:Str->List Expr->Bool} (h:ci e g=true) (k:∀ x xs p pos,g x xs=true->P (.Call (.Name x p) xs [] pos)):P e :=
 qN e h fun f xs ks pos h=>eI ks h fun h=>cX f h fun x p h=>k x xs p pos h
noncomputable def qR (e:Expr) (g:Expr->Str->List Expr->Pos->Pos->Bool):Bool:=kG e fun f xs ks p=>lv0 ks (j3 f fun o n q=>g o n xs q p)
@[elab_as_elim]
theorem xB {P:Expr->Prop} (e:Expr) {g:Expr->Str->List Expr->Pos->Pos->Bool} (h:qR e g=true) (k:∀ o n xs q p,g o n xs q p=true->P (.Call (.Attribute o n q) xs [] p)):P e :=
 qN e h fun f xs ks pos h=>eI ks h fun h=>qO f h fun o n q h=>k o n xs q pos h
noncomputable def iSl (e:Expr) (g:Expr->Option Expr->Option Expr->Option Expr->Bool):Bool:=b7 e fun x y _=>tN y fun l u s _=>g x l u s
@[elab_as_elim]
theorem jSl {P:Expr->Prop} (e:Expr) {g:Expr->Option Expr->Option Expr->Option Expr->Bool} (h:iSl e g=true) (k:∀ x l u s p pos,g x l u s=true->P (.Subscript x (.Slice l u s p) pos)):P e :=
 bg e h fun x y pos h=>B6 y h fun l u s p h=>k x l u s p pos h
mutual
noncomputable def okG:MG->Ctx->Expr->Bool
 | .name i,C,e=>cC e fun x _=>decide (C.N[i]? = some x)&&wk C.sc x&&(C.sc.names.lookup x==some .local || C.fn.contains x)
 | .tup gs,C,e=>cg e fun es _ _=>okGs gs C es
noncomputable def okGs:MGs->Ctx->List Expr->Bool
 | .nil,_,es=>es.isEmpty
 | .cons g r,C,es=>match es with
  | e::es=>aF e&&okG g C e&&okGs r C es
  | [] => false
end
mutual
noncomputable def okE:ME->Ctx->Expr->Bool
 | .var i,C,e=>cC e fun x _=>decide (C.N[i]? = some x)&&wj C.sc x && !(x==("__debug__":Str)) && !(x==("__classdict__":Str))
 | .int i,_,e=>cF e fun c _ _=>decide (c = .int i)
 | .bl i,_,e=>cF e fun c _ _=>decide (c = .bool i)
 | .non,_,e=>cF e fun c _ _=>decide (c = .none)
 | .bin op a b,C,e=>tL e fun l o r _=>decide (o=opO op)&&okE a C l&&okE b C r
 | .neg a,C,e=>eG e fun o x _=>decide (o = .USub)&&okE a C x
 | .cmp op a b,C,e=>gS e fun l os rs _=>lv1 os fun o=>lv1 rs fun r=>decide (o=wl op)&&okE a C l&&okE b C r && !(Gw o r)
 | .and es,C,e=>dU e fun o xs _=>decide (o = .And) && !xs.isEmpty&&okEs es C xs
 | .or es,C,e=>dU e fun o xs _=>decide (o = .Or) && !xs.isEmpty&&okEs es C xs
 | .not a,C,e=>eG e fun o x _=>decide (o = .Not)&&okE a C x
 | .ite c a b,C,e=>tM e fun t x y _=>okT c C t&&okE a C x&&okE b C y
 | .tup es,C,e=>cg e fun xs _ _=>okEs es C xs
 | .lst es,C,e=>xx e fun xs _=>okEs es C xs
 | .ix a b,C,e=>b7 e fun x y _=>be y&&okE a C x&&okE b C y
 | .sl a lo hi,C,e=>iSl e fun x l u s=>on s (okE a C x&&okO lo C l&&okO hi C u)
 | .step a lo st,C,e=>iSl e fun x l u s=>on u (os s fun s=>okE a C x&&okO lo C l&&okE st C s)
 | .call f es,C,e=>ci e fun x xs=>decide (C.Γ[f]? = some x)&&glB C.sc x && !(x==("__debug__":Str))&&okEs es C xs
 | .blt f es,C,e=>ci e fun x xs=>decide (x=mM f)&&glB C.sc x && !xs.isEmpty&&okEs es C xs
 | .isin2 a T U,C,e=>ci e fun x xs=>lv2 xs fun y w=>cg w fun ws _ _=>lv2 ws fun z' v'=>cC z' fun z _=>cC v' fun v _=>decide (x = "isinstance")&&glB C.sc x&&glB C.sc z&&glB C.sc v&&decide (z=Ek T)&&decide (v=Ek U)&&decide (T∈["bool", "int", "str", "tuple", "list", "dict"])&&decide (U∈["bool", "int", "str", "tuple", "list", "dict"])&&aF y&&okE a C y
 | .isin a T,C,e=>ci e fun x xs=>lv2 xs fun y w=>cC w fun z _=>decide (x = "isinstance")&&glB C.sc x&&glB C.sc z&&decide (z=Ek T)&&decide (T∈["bool", "int", "str", "tuple", "list", "dict"])&&aF y&&okE a C y
 | .dnew _,_,e=>qP e fun ks vs _=>lv0 ks (lv0 vs true)
 | .dnewN,_,e=>qP e fun ks vs _=>lv0 ks (lv0 vs true)
 | .ixN a b,C,e=>b7 e fun x y _=>be y&&okE a C x&&okE b C y
 | .minD a,C,e=>kG e fun f xs ks _=>cC f fun x _=>lv1 xs fun w=>lv1 ks fun q=>cF q.value fun c _ _=>decide (x = "min")&&glB C.sc x&&aF w&&decide (q.arg=some "default")&&decide (c = .none)&&okE a C w
 | .dget o k x,C,e=>qR e fun y n xs ap cp=>lv2 xs fun e1 e2=>decide (n = "get")&&gd y&&(ap.endLine==cp.line)&&aF e1&&aF e2&&okE o C y&&okE k C e1&&okE x C e2
 | .meth m o a,C,e=>qR e fun x n xs ap cp=>lv1 xs fun y=>decide (n=B3 m)&&gd x&&(ap.endLine==cp.line)&&aF y&&okE o C x&&okE a C y
 | .comp fr N' c,C,e=>kc e fun elt gens sc _=>wm sc C.sc C.N N' fr&&okC c C ⟨C.Γ,N',gO sc C.sc,(sc.names.filter (·.2 == .cell)).map (·.1),C.cs⟩ gens elt
noncomputable def okEs:MEs->Ctx->List Expr->Bool
 | .nil,_,es=>es.isEmpty
 | .cons m r,C,es=>match es with
  | e::es=>aF e&&okE m C e&&okEs r C es
  | [] => false
noncomputable def okO:MO->Ctx->Option Expr->Bool
 | .none,_,e=>e.isNone
 | .some m,C,e=>match e with
  | some e=>okE m C e
  | none=>false
noncomputable def okT:MT->Ctx->Expr->Bool
 | .tru m,C,e=>mK e&&okE m C e
 | .cmp op a b,C,e=>gS e fun l os rs _=>lv1 os fun o=>lv1 rs fun r=>decide (o=wl op)&&okE a C l&&okE b C r && !(Gw o r)
 | .and ts,C,e=>dU e fun o xs _=>decide (o = .And) && !xs.isEmpty&&okTs ts C xs
 | .or ts,C,e=>dU e fun o xs _=>decide (o = .Or) && !xs.isEmpty&&okTs ts C xs
 | .not t,C,e=>eG e fun o x _=>decide (o = .Not)&&okT t C x
noncomputable def okTs:MTs->Ctx->List Expr->Bool
 | .nil,_,es=>es.isEmpty
 | .cons m r,C,es=>match es with
  | e::es=>okT m C e&&okTs r C es
  | [] => false
noncomputable def okI:MI->Ctx->Expr->Expr->Bool
 | .seq m,C,_,e=>iZ e&&okE m C e
 | .keys m,C,_,e=>iZ e&&okE m C e
 | .rng1 a,C,_,e=>ci e fun x xs=>lv1 xs fun y=>decide (x = "range")&&glB C.sc x&&aF y&&okE a C y
 | .rng2 a b,C,_,e=>ci e fun x xs=>lv2 xs fun y z=>decide (x = "range")&&glB C.sc x&&aF y&&aF z&&okE a C y&&okE b C z
 | .enum a,C,t,e=>ci e fun x xs=>lv1 xs fun y=>cg t fun _ _ _=>decide (x = "enumerate")&&glB C.sc x&&aF y&&okE a C y
 | .zip a b,C,t,e=>ci e fun x xs=>lv2 xs fun y z=>cg t fun _ _ _=>decide (x = "zip")&&glB C.sc x&&aF y&&aF z&&okE a C y&&okE b C z
noncomputable def okC:MC->Ctx->Ctx->List Ef->Expr->Bool
 | .last src g ifs m,Cs,C,gens,elt=>match gens with
  | [⟨t,it,fs,a⟩] => decide (a=0)&&okI src Cs t it&&okG g C t&&okTs ifs C fs&&okE m C elt
  | _=>false
 | .more src g ifs rest,Cs,C,gens,elt=>match gens with
  | ⟨t,it,fs,a⟩::g2::gs=>decide (a=0)&&okI src Cs t it&&okG g C t&&okTs ifs C fs&&okC rest C C (g2::gs) elt
  | _=>false
end
noncomputable def aX (sc:Scope) (ts:List Expr):List Str:=ts.filterMap fun
 | .Name id pos=>if sc.names.lookup id==some .local&&pos.line==(ts.head?.map (·.pos.line)).getD 0 then some id else none
 | _=>none
noncomputable def qS (sc:Scope) (ts vs:List Expr):Bool := !(ts.length==2 || ts.length==3) || vs.length != ts.length || (aX sc ts).length != ts.length || (aX sc ts).eraseDups.length != (aX sc ts).length || vs.all (JW 8)
noncomputable def qT (C:Ctx) (i:Nat) (x:Str):Bool:=decide (C.N[i]? = some x)&&decide (C.sc.names.lookup x=some .local)
noncomputable def qU (sc:Scope) (ts vs:List Expr) (ns:List Str):Bool := !(!(ts.length==2 || ts.length==3) || vs.length != ts.length) && !(vs.any fun | .Starred .. => true | _=>false)&&decide (aX sc ts=ns) && !((aX sc ts).length != ts.length || (aX sc ts).eraseDups.length != (aX sc ts).length) && !(vs.all (JW 8)) && !(vs.all (constantsAlone 8))
noncomputable def j5 (sc:Scope) (tg e:Expr):Bool:=match tg,e with
 | .Tuple ts _ _, .Tuple vs _ _=>qS sc ts vs
 | .Tuple ..,_=>true
 | .Name ..,_=>true
 | _,_=>false
noncomputable def Bb (sc:Scope) (x:Str) (px:Pos) (e:Expr):Bool:=match e with
 | .DictComp _ _ _ s _ => !(sc.names.lookup x==some .local&&px.line==e.pos.line && !(s.names.any fun (n,k)=>n==x&&(k == .local || k == .cell)))
 | _=>true
noncomputable def qV (sc:Scope) (x:Str) (px:Pos) (e:Expr):Bool:=match e with
 | .ListComp _ _ s _=>sc.names.lookup x==some .local&&px.line==e.pos.line && !(s.names.any fun (n,k)=>n==x&&(k == .local || k == .cell))
 | _=>false
mutual
noncomputable def okS:MS->Ctx->Stmt->Bool
 | .asg g m,C,s=>cr s fun ts e _=>lv1 ts fun tg=>okG g C tg&&okE m C e&&j5 C.sc tg e&&(match tg with | .Name x px=>Bb C.sc x px e | _=>dw e)
 | .par i j a b,C,s=>cr s fun ts e _=>lv1 ts fun tg=>cg tg fun ts _ _=>cg e fun es _ _=>lv2 ts fun t u=>lv2 es fun e f=>cC t fun x px=>cC u fun y py=>qT C i x&&qT C j y&&decide (i≠j)&&aF e&&aF f&&okE a C e&&okE b C f&&qU C.sc [.Name x px, .Name y py] [e,f] [x,y]
 | .put2 o i o' i' m,C,s=>cr s fun ts e _=>lv1 ts fun tg=>cg tg fun ts _ _=>lv2 ts fun t u=>b7 t fun x y _=>b7 u fun x' y' _=>be y&&be y'&&dw e&&okE o C x&&okE i C y&&okE o' C x'&&okE i' C y'&&okE m C e
 | .put o i m,C,s=>cr s fun ts e _=>lv1 ts fun tg=>b7 tg fun x y _=>be y&&dw e&&okE o C x&&okE i C y&&okE m C e
 | .drop m,C,s=>tP s fun e _=>dw e&&okE m C e
 | .ret m,C,s=>mU s fun o _=>os o fun e=>okE m C e
 | .ite c a b,C,s=>B8 s fun t x y _=>okT c C t&&okSs a C x&&okSs b C y
 | .for g src b,C,s=>xA s fun tg it body els _=>lv0 els (iZ it&&okG g C tg&&okI src C tg it&&okSs b C body)
 | .while c b,C,s=>oV s fun t body els _=>lv0 els (okT c C t&&okSs b C body)
 | .frz _ m,C,s=>okS m C s
 | .dell o i,C,s=>mQ s fun ts _=>lv1 ts fun t=>b7 t fun x y _=>okE o C x&&okE i C y
 | .putN o i m,C,s=>cr s fun ts e _=>lv1 ts fun tg=>b7 tg fun x y _=>be y&&dw e&&okE o C x&&okE i C y&&okE m C e
 | .pass,_,s=>tQ s fun _=>true
 | .brk,_,s=>oW s fun _=>true
 | .cnt,_,s=>j4 s fun _=>true
noncomputable def okSs:MSs->Ctx->List Stmt->Bool
 | .nil,_,ss=>ss.isEmpty
 | .cons m r,C,ss=>match ss with
  | s::ss=>okS m C s&&okSs r C ss
  | [] => false
end
theorem ai {e:Expr} {es:List Expr} {env:Env} (h:aF e=true):DN (e::es) env=(false,eval e env)::DN es env:=by
 cases e <;> first | rfl | (simp [aF] at h;done)
theorem ke {e:Expr} {es:List Expr} {env:Env} (h:aF e=true):F5 (e::es) env=(false,assign e env)::F5 es env:=by
 cases e <;> first | rfl | (simp [aF] at h;done)
theorem qW {e:Expr} {env:Env} (h:mK e=true):∀ whole,isTrue e env whole=(do let v <- whole;GP e.pos;holding [v] (truthy v)):=by
 intro w
 cases e <;> first | rfl | (simp [mK] at h;done)
theorem mV {e:Expr} (h:be e=true):je e:=by
 intro o i
 cases e <;> first | rfl | (simp [be] at h;done)
theorem mW {e:Expr} {env:Env} (h:iZ e=true):∀ x,Fd e env x=pure x:=by
 intro x
 cases e <;> first | rfl | (simp [iZ] at h;done)
theorem mX {e:Expr} {n:Str} {env:Env} (h:gd e=true):JR e n env (eval e env)=eval e env:=by
 cases e <;> first | rfl | (simp [gd] at h;done)
theorem dW {e:Expr} {t:Option Expr} {l:Nat} {env:Env} (h:dw e=true):GJ e t l env=pure false:=by
 cases e <;> first | rfl | (simp [dw] at h;done)
end
section
noncomputable def lSp (K:Frag) (r:RAd):Sp:=fun vs H Q _=>lR K r vs H Q
structure Good (C:Ctx) (Φ:Phi) (k:Nat) (X:Cx):Prop where
 hx:∀ e s,X.xe e s->False
 calm:X.calm=true
 N:X.N=C.N
 sc:X.env.scope=C.sc
 nd:X.N.Nodup
 fn:∀ x∈C.fn,X.fn x=true
 room:Room k X.A
 mgB:∀ x∈bltNames,X.mg x=none
 fns:∀ (i:Nat) (x:Str),C.Γ[i]? = some x -> ∃ f fd ps,X.mg x=some (.ref f)/\GY X.K Ez x=some (some (.ref f))/\Gc X.K (.ref f)=true/\Binds X.K fd ps []/\dq X.prog X.w X.K X.mg X.base CX0 k f fd ps (lSp X.K (Φ i))
 mono:∀ f,aU (Φ f)
 cs:∀ x d,(x,d)∈C.cs -> ∃ u,X.mg x=some u/\GV X.K d u
section
variable {C:Ctx} {Φ:Phi} {k:Nat} {X:Cx}
theorem Good.units (G:Good C Φ k X):X.A.units+64 < F8:=G.room.units
theorem Good.gl (G:Good C Φ k X) {x:Str} (h:glB C.sc x=true):Gl X x:=by
 show X.env.scope.names.lookup x=_;rw [G.sc];simpa [glB] using h
theorem Good.vis (G:Good C Φ k X) {x:Str} (h:wj C.sc x=true):Vis X.env.scope x:=by
 unfold Vis;rw [G.sc];simp [wj] at h
 rcases h with (h | h) | h
 ·exact .inl h
 ·exact .inr (.inl h)
 ·exact .inr (.inr h)
theorem Good.loc (G:Good C Φ k X) {x:Str} (h:wk C.sc x=true):Loc X.env.scope x:=by
 unfold Loc;rw [G.sc];simpa [wk] using h
theorem Good.own (G:Good C Φ k X) {x:Str} (h:(C.sc.names.lookup x==some .local || C.fn.contains x)=true):X.fn x=true∨X.env.scope.names.lookup x=some .local:=by
 rw [G.sc];simp at h
 rcases h with h | h
 ·exact .inr h
 ·exact .inl (G.fn x h)
theorem Bc (G:Good C Φ k X):∀ o:BOp,OpR X (EL (opO o)) (l2 X.K (opB o))
 | .add=>vn | .sub=>vp | .mul=>vq | .fdiv=>sC | .mod=>vw | .pow=>vx
theorem oX (G:Good C Φ k X):∀ o:COp,OpR X (Eg (wl o)) (l2 X.K (opC o))
 | .eq=>yk (by have:=G.units;lia) | .ne=>ym (by have:=G.units;lia) | .lt=>yq| .gt=>yr | .ge=>yt | .is=>yN | .isn=>vS| .neD=>w5 (by have:=G.units;lia)| .ninS=>tE | .inN=>wd (by have:=G.units;lia)
theorem Bd (G:Good C Φ k X) {f:BF} {e:Expr} {es:List Expr} {t:TAd} {p pos:Pos} (mt:aV t) (q:Gl X (mM f)) (z:PA X (e::es) (lA X.K t))
 (he:DN (e::es) X.env=(false,eval e X.env)::DN es X.env) (j:(G3 pos (DN es X.env)).any (·.1)=false):PE X (.Call (.Name (mM f) p) (e::es) [] pos) (lE X.K (wAr (opF f) t)):=by
 cases f with
 | len=>exact PE.imp (bR qo q (G.mgB _ (by decide)) PySem.boot_len z (by decide) (by decide) he j) (bA lm mt)
 | abs=>exact PE.imp (bR qq q (G.mgB _ (by decide)) (by decide +kernel) z (by decide) (by decide) he j) (bA lq mt)
 | min2=>exact PE.imp (bR (om G.calm) q (G.mgB _ (by decide)) (by decide +kernel) z (by decide) (by decide) he j) (bA jR mt)
 | int=>exact PE.imp (dD qr q (G.mgB _ (by decide)) (by decide +kernel) z (by decide) (by decide) he j) (bA lu mt)
 | list=>exact PE.imp (dD oo q (G.mgB _ (by decide)) (by decide +kernel) z (by decide) (by decide) he j) (bA jS mt)
 | tuple=>exact PE.imp (dD lD q (G.mgB _ (by decide)) (by decide +kernel) z (by decide) (by decide) he j) (bA iC mt)
 | all=>exact PE.imp (bR (qD G.calm) q (G.mgB _ (by decide)) (by decide +kernel) z (by decide) (by decide) he j) (bA m6 mt)
 | any=>exact PE.imp (bR (qE G.calm) q (G.mgB _ (by decide)) (by decide +kernel) z (by decide) (by decide) he j) (bA m7 mt)
 | dict=>exact PE.imp (dD (ou (by have:=G.units;lia) G.calm) q (G.mgB _ (by decide)) (by decide +kernel) z (by decide) (by decide) he j) (bA jZ mt)
theorem zh (G:Good C Φ k X) {f:Nat} {x:Str} {e:Expr} {es:List Expr} {t:TAd} {p pos:Pos} (mt:aV t) (hf:C.Γ[f]? = some x) (z:Gl X x) (j:(x==("__debug__":Str))=false) (B:PA X (e::es) (lA X.K t))
 (he:DN (e::es) X.env=(false,eval e X.env)::DN es X.env) (q:(G3 pos (DN es X.env)).any (·.1)=false):PE X (.Call (.Name x p) (e::es) [] pos) (lE X.K (wAr (Φ f) t)):=by
 obtain ⟨a,fd,ps,hm,_,J,L,F⟩:=G.fns f x hf;refine PE.imp (xX F G.room z hm J L .nil xk B j he q) fun σ H Q h => ?_;have h2:=bA (G.mono f) mt σ H Q h;have:(fun vs H1=>lSp X.K (Φ f) (vs++[]) H1 Q E0)=fun vs H1=>lR X.K (Φ f) vs H1 Q:=by
  funext vs H1;rw [Fg];rfl
 show (lA X.K t) σ H _;rw [this];exact h2
theorem wp (G:Good C Φ k X) {f:Nat} {x:Str} {p pos:Pos} (hf:C.Γ[f]? = some x) (z:Gl X x) (j:(x==("__debug__":Str))=false):PE X (.Call (.Name x p) [] [] pos) (lE X.K (wAr (Φ f) ba)):=by
 obtain ⟨a,fd,ps,hm,_,B,J,F⟩:=G.fns f x hf;refine PE.imp (uR F G.room z hm B J .nil xk j) fun σ H Q h => ?_;obtain ⟨ρ,M,rs,rm,q⟩:=h;exact ⟨[],M,rm,RDs.nil,q⟩
theorem gT {env:Env} {pos:Pos}:∀ {es:List Expr},es.all aF=true->(G3 pos (DN es env)).any (·.1)=false
 | [],_=>rfl
 | e::es,h=>by
   simp only [Ex,e7] at h;rw [ai h.1];show (false || (G3 pos (DN es env)).any (·.1))=false
   rw [gT h.2];rfl
theorem fB:∀ {ms:MEs} {es:List Expr},okEs ms C es=true->es.all aF=true
 | .nil,[],_=>rfl
 | .nil,_::_,h=>by simp [okEs] at h
 | .cons m r,[],h=>by simp [okEs] at h
 | .cons m r,e::es,h=>by
  simp only [okEs,e7] at h;simp only [Ex,e7];exact ⟨h.1.1,fB h.2⟩
theorem oY:∀ {gs:MGs} {es:List Expr},okGs gs C es=true -> ∀ ds ρ ρ',bGs gs ds ρ = some ρ'->ds.length=es.length
 | .nil,es,h,ds, ρ, ρ',e=>by
  simp [okGs] at h;subst h;rw [bGs] at e
  cases ds with
  | nil=>rfl
  | cons _ _=>cases e
 | .cons g r,[],h,_,_,_,_=>by simp [okGs] at h
 | .cons g r,x::es,h,ds, ρ, ρ',e=>by
  simp only [okGs,e7] at h;rw [bGs] at e
  cases ds with
  | nil=>cases e
  | cons d ds =>
    simp only [bF] at e
    cases e1:bG g d ρ with
    | none=>rw [e1] at e;cases e
    | some ρ1 =>
      rw [e1] at e;simp [oY h.2 ds ρ1 ρ' e]
theorem mY {env:Env}:∀ {gs:MGs} {es:List Expr},okGs gs C es=true->(F5 es env).length=es.length/\(F5 es env).findIdx? (·.1)=none
 | .nil,es,h=>by simp [okGs] at h;subst h;exact ⟨rfl,rfl⟩
 | .cons g r,[],h=>by simp [okGs] at h
 | .cons g r,x::es,h=>by
  simp only [okGs,e7] at h;obtain ⟨a,b⟩:=mY (env:=env) h.2;rw [ke h.1.1];refine ⟨by simp [a], ?_⟩
  rw [List.findIdx?_cons];simp [b]
mutual
theorem sG (G:Good C Φ k X):∀ (m:MG) (e:Expr),okG m C e=true->PG X e (lG X.K (bG m))
 | .name i,e,h=>by
  refine cX e h fun x _ h => ?_;simp only [e7] at h;exact yF G.nd (by rw [G.N];exact of_decide_eq_true h.1.1) (G.loc h.1.2) (G.own h.2)
 | .tup gs,e,h=>by
  refine cG e h fun es _ _ h => ?_;rw [bG];obtain ⟨a,b⟩:=mY (env:=X.env) h;exact AM G.calm (oY h) (sGs G gs _ h) a b
theorem sGs (G:Good C Φ k X):∀ (m:MGs) (es:List Expr),okGs m C es=true->PGs X es (lGs X.K (bGs m))
 | .nil,es,h=>by
  simp [okGs] at h;subst h;exact yG
 | .cons g r,[],h=>by simp [okGs] at h
 | .cons g r,e::es,h=>by
  simp only [okGs,e7] at h;exact vD (sG G g e h.1.2) (sGs G r es h.2) (by rw [ke h.1.1];rfl)
end
theorem PB.imp {F:Sem Fin->Sem Fin} {t t':TC} (h:PB X F t) (i:∀ σ H N,t' σ H N->t σ H N):PB X F t':=fun pins s σ H N k Q E I q hk=>h pins s σ H N k Q E I (i _ _ _ q) hk
theorem j6 {sc osc:Scope} {oN N':List Str} {fr:List (Option Nat)} (h:wm sc osc oN N' fr=true):aZ sc osc oN N' fr:=by
 simp only [wm,e7,decide_eq_true_eq] at h;obtain ⟨⟨⟨⟨⟨h1,h2⟩,F⟩,G⟩,J⟩,L⟩:=h;refine ⟨h1,h2,F,fun x hx e => ?_,J,fun i j x hi hf => ?_⟩
 ·have z:=Gs.mp G x hx;rw [e] at z;simpa using z
 ·have B:i < N'.length:=(hD.mp hi).1;have q:=Gs.mp L i (Je.mpr B);rw [hf,hi] at q;simp only [e7,decide_eq_true_eq,Gu] at q;obtain ⟨a,y,O,e⟩:=q;exact ⟨a,by rw [<- e];exact O⟩
theorem Good.blk (G:Good C Φ k X) {sc:Scope} {N':List Str} {fr:List (Option Nat)} (B:aZ sc C.sc C.N N' fr) (s:h6) (H:Hp) (fp:List Addr) :
 Good ⟨C.Γ,N',gO sc C.sc,(sc.names.filter (·.2 == .cell)).map (·.1),C.cs⟩ Φ k (aD X sc N' s H fp):=by
 refine ⟨fun _ _ h=>h,G.calm,rfl, ?_,B.ndN,fun x hx => ?_,G.room,G.mgB,G.fns,G.mono,G.cs⟩
 ·show relabel sc X.env=_;rw [ow,G.sc]
 ·obtain ⟨y,q,e⟩:=ET.mp hx;obtain ⟨h1,h2⟩:=GA.mp q;obtain ⟨n,kd⟩:=y;have j:kd = .cell:=by simpa using h2
  subst j;have e':n=x:=e;subst e';show (sc.names.lookup n==some .cell)=true;rw [aN B.nd h1];rfl
end
end
section
section
variable {Φ:Phi} {k:Nat}
theorem di {C:Ctx} {X:Cx} (G:Good C Φ k X) {F:Sem Fin->Sem Fin} {p:Addr} {tb:TCd} {ifs:List Expr} {ts:List TTd} (mb:bI tb) (mt:∀ t∈ts,aA t) (j:PB X F (lC X.K p tb)) (q:E1 (fun c t=>PT X c t) ifs (ts.map (lT X.K))) :
 PB X (fun k=>b9 ifs X.env >>= fun ok=>if ok=true then F k else k) (lC X.K p (aP ts tb)) :=
 PB.imp (v9 G.hx j q) (iM mb mt)
theorem fC {m:MC} {Cs C:Ctx} {g2:Ef} {gs:List Ef} {elt:Expr} (h:okC m Cs C (g2::gs) elt=true):g2.is_async=0:=by
 obtain ⟨t,i,f,a⟩:=g2
 cases m with
 | last src g ifs m =>
   cases gs with
   | nil=>simp only [okC,e7,decide_eq_true_eq] at h;exact h.1.1.1.1
   | cons _ _=>simp [okC] at h
 | more src g ifs rest =>
   cases gs with
   | nil=>simp [okC] at h
   | cons _ _=>simp only [okC,e7,decide_eq_true_eq] at h;exact h.1.1.1.1
theorem gU {C:Ctx} {X:Cx} (G:Good C Φ k X):∀ T∈["bool", "int", "str", "tuple", "list", "dict"],X.mg (Ek T)=none/\Fj (Ek T)=some (.type T)/\Ek T ≠ "__name__" /\ (Ek T==("__debug__":Str))=false:=by
 intro T j;simp only [r4,DY,or_false] at j
 rcases j with rfl | rfl | rfl | rfl | rfl | rfl
 all_goals exact ⟨G.mgB _ (by decide),by decide +kernel,by decide,by decide⟩
mutual
theorem sE:∀ (m:ME) {C:Ctx} {X:Cx} (G:Good C Φ k X) (e:Expr),okE m C e=true->PE X e (lE X.K (wE Φ m))
 | .var i,C,X,G,e,h=>by
  refine cX e h fun x _ h => ?_;simp only [e7,EV,decide_eq_true_eq] at h;exact Ax (by rw [G.N];exact h.1.1.1) (G.vis h.1.1.2) h.1.2 h.2
 | .int i,C,X,G,e,h=>by
  refine dG e h fun c _ _ h => ?_;rw [of_decide_eq_true h];exact Ay
 | .bl i,C,X,G,e,h=>by
  refine dG e h fun c _ _ h => ?_;rw [of_decide_eq_true h];exact BZ
 | .non,C,X,G,e,h=>by
  refine dG e h fun c _ _ h => ?_;rw [of_decide_eq_true h];exact Az
 | .bin op a b,C,X,G,e,h=>by
  refine B4 e h fun l o r _ h => ?_;simp only [e7,decide_eq_true_eq] at h;rw [h.1.1];exact C0 (Bc G op) (mJ op) (mE G.mono a) (mE G.mono b) (sE a G _ h.1.2) (sE b G _ h.2)
 | .neg a,C,X,G,e,h=>by
  refine gQ e h fun o x _ h => ?_;replace h:=bC h;obtain ⟨ho,h⟩:=h
  cases of_decide_eq_true ho
  exact C1 vy lj (mE G.mono a) (sE a G _ h)
 | .cmp op a b,C,X,G,e,h=>by
  refine mN e h fun l os rs pos h => ?_;refine bN os h fun o h => ?_;refine bN rs h fun r h => ?_;simp only [e7,decide_eq_true_eq] at h;obtain ⟨⟨⟨ho,Y⟩,hb⟩,hm⟩:=h;rw [EV] at hm;subst ho;exact AA (oX G op) (eF op) (mE G.mono a) (mE G.mono b) (sE a G _ Y) (sE b G _ hb) hm
 | .and es,C,X,G,e,h=>by
  refine gf e h fun o xs _ h => ?_;replace h:=bC h;obtain ⟨ho,h⟩:=h;obtain ⟨ho,L⟩:=bC ho
  cases of_decide_eq_true ho
  exact sAnds es G _ _ h (by intro z;rw [z] at L;cases L)
 | .or es,C,X,G,e,h=>by
  refine gf e h fun o xs _ h => ?_;replace h:=bC h;obtain ⟨ho,h⟩:=h;obtain ⟨ho,L⟩:=bC ho
  cases of_decide_eq_true ho
  exact sOrs es G _ _ h (by intro z;rw [z] at L;cases L)
 | .not a,C,X,G,e,h=>by
  refine gQ e h fun o x _ h => ?_;replace h:=bC h;obtain ⟨ho,h⟩:=h
  cases of_decide_eq_true ho
  exact AK (mE G.mono a) (sE a G _ h)
 | .ite c a b,C,X,G,e,h=>by
  refine B5 e h fun t x y _ h => ?_;simp only [e7] at h;exact C6 (mT G.mono c) (mE G.mono a) (mE G.mono b) (sT c G _ h.1.1) (sE a G _ h.1.2) (sE b G _ h.2)
 | .tup es,C,X,G,e,h=>by
  refine cG e h fun xs _ _ h => ?_;exact AC (mA G.mono es) (sA es G _ h)
 | .lst es,C,X,G,e,h=>by
  refine Cd e h fun xs _ h => ?_;exact AD (mA G.mono es) (sA es G _ h)
 | .ix a b,C,X,G,e,h=>by
  refine bg e h fun x y _ h => ?_;simp only [e7] at h;exact xt (CS (by have:=G.units;lia)) oO (mE G.mono a) (mE G.mono b) (sE a G _ h.1.2) (sE b G _ h.2) (mV h.1.1)
 | .sl a lo hi,C,X,G,e,h=>by
  refine jSl e h fun x l u s p pos h => ?_;refine jon s h fun  h => ?_;simp only [e7] at h;exact C7 (mE G.mono a) (mO G.mono lo) (mO G.mono hi) (sE a G _ h.1.1) (sO lo G _ h.1.2) (sO hi G _ h.2)
 | .step a lo st,C,X,G,e,h=>by
  refine jSl e h fun x l u s p pos h => ?_;refine jon u h fun  h => ?_;refine jos s h fun s h => ?_;simp only [e7] at h;exact yT (mE G.mono a) (mO G.mono lo) (eX (mE G.mono st)) (sE a G _ h.1.1) (sO lo G _ h.1.2) (oQ (mE G.mono st) (sE st G _ h.2))
 | .call f es,C,X,G,e,h=>by
  refine cH e h fun x xs p pos h => ?_;simp only [e7,decide_eq_true_eq,EV] at h;have hA:=sA es G _ h.2;have J:=fB h.2
  cases xs with
  | nil =>
    cases es with
    | nil=>exact wp G h.1.1.1 (G.gl h.1.1.2) h.1.2
    | cons _ _=>simp [okEs] at h
  | cons y ys =>
    simp only [Ex,e7] at J;exact zh G (mA G.mono es) h.1.1.1 (G.gl h.1.1.2) h.1.2 hA (ai J.1) (gT J.2)
 | .blt f es,C,X,G,e,h=>by
  refine cH e h fun x xs p pos h => ?_;simp only [e7,decide_eq_true_eq,EV] at h;have hA:=sA es G _ h.2;have J:=fB h.2;obtain ⟨⟨⟨rfl,O⟩,L⟩,_⟩:=h
  cases xs with
  | nil=>simp at L
  | cons y ys =>
    simp only [Ex,e7] at J;exact Bd G (mA G.mono es) (G.gl O) hA (ai J.1) (gT J.2)
 | .dnew t,C,X,G,e,h=>by
  refine xz e h fun ks vs _ h => ?_;refine eI ks h fun  h => ?_;refine eI vs h fun  h => ?_;exact yP
 | .dnewN,C,X,G,e,h=>by
  refine xz e h fun ks vs _ h => ?_;refine eI ks h fun  h => ?_;refine eI vs h fun  h => ?_;exact wc
 | .ixN a b,C,X,G,e,h=>by
  refine bg e h fun x y _ h => ?_;simp only [e7] at h;exact xt (CU (by have:=G.units;lia)) mF (mE G.mono a) (mE G.mono b) (sE a G _ h.1.2) (sE b G _ h.2) (mV h.1.1)
 | .minD a,C,X,G,e,h=>by
  refine qN e h fun f xs ks pos h => ?_;refine cX f h fun x p h => ?_;refine bN xs h fun w h => ?_;refine bN ks h fun q h => ?_;obtain ⟨qa,qv,qp⟩:=q;refine dG qv h fun c j np h => ?_;simp only [e7,decide_eq_true_eq] at h;obtain ⟨⟨⟨⟨⟨rfl,O⟩,J⟩,rfl⟩,rfl⟩,Y⟩:=h;exact zd (by have:=G.units;lia) G.calm (mE G.mono a) (bm (mE G.mono a) aw (sE a G _ Y) cE (ai J)) (G.gl O) (G.mgB _ (by decide)) (by rw [ai J];rfl) (by rw [ai J];rfl)
 | .dget o k' x,C,X,G,e,h=>by
  refine xB e h fun y n xs ap cp h => ?_;refine eJ xs h fun e1 e2 h => ?_;simp only [e7,decide_eq_true_eq] at h;obtain ⟨⟨⟨⟨⟨⟨⟨rfl,Z⟩,hl⟩,CZ⟩,D0⟩,ho⟩,hk⟩,hx⟩:=h;have st:DN [e1,e2] X.env=[(false,eval e1 X.env),(false,eval e2 X.env)]:=by
   rw [ai CZ,ai D0];rfl
  refine yR (by have:=G.units;lia) (mE G.mono o) (mE G.mono k') (mE G.mono x) (sE o G _ ho) (sE k' G _ hk) (sE x G _ hx) ⟨mX Z, ?_,hl, ?_⟩
  ·rw [st];rfl
  ·rw [st];rfl
 | .isin2 a T U,C,X,G,e,h=>by
  refine cH e h fun x xs p pos h => ?_;refine eJ xs h fun y w h => ?_;refine cG w h fun ws k1 p1 h => ?_;refine eJ ws h fun z' v' h => ?_;refine cX z' h fun z p2 h => ?_;refine cX v' h fun v p3 h => ?_;simp only [e7,decide_eq_true_eq] at h;obtain ⟨⟨⟨⟨⟨⟨⟨⟨⟨rfl,O⟩,CY⟩,D1⟩,hz⟩,hy⟩,hT⟩,hU⟩,hs⟩,Y⟩:=h;obtain ⟨n1,n2,n3,n4⟩:=gU G T hT;obtain ⟨m1,m2,m3,m4⟩:=gU G U hU;subst hz hy;exact vW hT hU (mE G.mono a) (sE a G _ Y) (G.gl O) (G.mgB _ (by decide)) (G.gl CY) n1 n2 n3 n4 (G.gl D1) m1 m2 m3 m4 (ai hs)
 | .isin a T,C,X,G,e,h=>by
  refine cH e h fun x xs p pos h => ?_;refine eJ xs h fun y w h => ?_;refine cX w h fun z p2 h => ?_;simp only [e7,decide_eq_true_eq] at h;obtain ⟨⟨⟨⟨⟨⟨rfl,O⟩,CY⟩,hz⟩,hT⟩,hs⟩,Y⟩:=h;obtain ⟨n1,n2,n3,n4⟩:=gU G T hT;subst hz;exact yB hT (mE G.mono a) (sE a G _ Y) (G.gl O) (G.mgB _ (by decide)) (G.gl CY) n1 n2 n3 n4 (ai hs) rfl
 | .meth m o a,C,X,G,e,h=>by
  refine xB e h fun x n xs ap cp h => ?_;refine bN xs h fun y h => ?_;simp only [e7,decide_eq_true_eq] at h;obtain ⟨⟨⟨⟨⟨hn,Z⟩,hl⟩,hs⟩,ho⟩,Y⟩:=h;subst hn;have pa:PA X [y] (lA X.K (ax (wE Φ a) ba)):=bm (mE G.mono a) aw (sE a G _ Y) cE (ai hs);have few:((G3 cp (DN [y] X.env)).all (fun x => !x.1)&&(backToKw cp (Lr [] X.env)).all (fun x=>x.1.isSome)&&decide (([y]:List Expr).length+([]:List IP).length+(if ([]:List IP).isEmpty then 0 else 1) < 30))=true:=by
   rw [ai hs];rfl
  cases m with
  | append=>exact PE.imp (BR PySem.F.plainAttrs_list PySem.F.slot_list_append PySem.F.type_list_append jK (sE o G _ ho) pa (mX Z) few hl (ai hs) rfl) (yD gy (mE G.mono o) (ar (mE G.mono a) aw) vC)
 | .comp fr N' c,C,X,G,e,h=>by
  refine tO e h fun elt gens sc pos h => ?_;simp only [e7] at h;have B:aZ sc X.env.scope X.N N' fr:=by rw [G.sc,G.N];exact j6 h.1
  have B':aZ sc C.sc C.N N' fr:=j6 h.1
  cases c with
  | last src g ifs m =>
    have h2:=h.2;simp only [okC] at h2
    split at h2
    ·rename_i t it fs a;simp only [e7,decide_eq_true_eq] at h2;obtain ⟨⟨⟨⟨rfl,hi⟩,O⟩,ht⟩,he⟩:=h2;refine PE.imp (gx G.calm G.hx B (fun g' z=>by simp at z) (sI src G _ t hi).1 (fun s H fp=>sG (G.blk B' s H fp) g t O) (tb:=fun p=>lC X.K p (aP (wTl Φ ifs) (bh (wE Φ m)))) (fun s H fp p => ?_) (sI src G _ t hi).2) (dE (mI G.mono src) (aK (bp (mE G.mono m)) (mTl G.mono ifs)))
     have G':=G.blk B' s H fp;exact di (p:=p) G' (bp (mE G.mono m)) (mTl G.mono ifs) (PB.imp (jg G'.hx (sE m G' elt he) rfl) (ff (mE G.mono m))) (sTl ifs G' fs ht)
    ·cases h2
  | more src g ifs rest =>
    have h2:=h.2;simp only [okC] at h2
    split at h2
    ·rename_i t it fs a g2 gs;simp only [e7,decide_eq_true_eq] at h2;obtain ⟨⟨⟨⟨rfl,hi⟩,O⟩,ht⟩,he⟩:=h2;have D2:∀ g',(g2::gs)[0]? = some g'->g'.is_async=0:=fun g' z=>by
      have z':g2=g':=by simpa using z
      subst z';exact fC he
     refine PE.imp (gx G.calm G.hx B D2 (sI src G _ t hi).1 (fun s H fp=>sG (G.blk B' s H fp) g t O) (tb:=fun p=>lC X.K p (aP (wTl Φ ifs) (wCl Φ rest))) (fun s H fp p => ?_) (sI src G _ t hi).2) (dE (mI G.mono src) (aK (mCl G.mono rest) (mTl G.mono ifs)));have G':=G.blk B' s H fp;exact di (p:=p) G' (mCl G.mono rest) (mTl G.mono ifs) (sCl rest G' elt (⟨t,it,fs,0⟩::g2::gs) sc pos 0 (.inl rfl) p he) (sTl ifs G' fs ht)
    ·cases h2
theorem sA:∀ (m:MEs) {C:Ctx} {X:Cx} (G:Good C Φ k X) (es:List Expr),okEs m C es=true->PA X es (lA X.K (wA Φ m))
 | .nil,C,X,G,es,h=>by
  simp [okEs] at h;subst h;exact cE
 | .cons m r,C,X,G,[],h=>by simp [okEs] at h
 | .cons m r,C,X,G,e::es,h=>by
  simp only [okEs,e7] at h;exact bm (mE G.mono m) (mA G.mono r) (sE m G e h.1.2) (sA r G es h.2) (ai h.1.1)
theorem sAnds:∀ (m:MEs) {C:Ctx} {X:Cx} (G:Good C Φ k X) (es:List Expr) (pos:Pos),okEs m C es=true->es≠[]->PE X (.BoolOp .And es pos) (lE X.K (wAnds Φ m))
 | .nil,C,X,G,es,pos,h,j=>by simp [okEs] at h;exact absurd h j
 | .cons m r,C,X,G,[],pos,h,j=>absurd rfl j
 | .cons m .nil,C,X,G,e::es,pos,h,_=>by
  simp only [okEs,e7] at h;obtain ⟨h1,h2⟩:=h;simp at h2;subst h2;exact sL (sE m G e h1.2)
 | .cons m (.cons m2 r),C,X,G,e::es,pos,h,_=>by
  simp only [okEs,e7] at h;obtain ⟨h1,h2⟩:=h
  cases es with
  | nil=>simp at h2
  | cons f fs =>
    exact AJ (mE G.mono m) (mAnds G.mono _) (sE m G e h1.2) (sAnds (.cons m2 r) G (f::fs) pos (by simpa only [okEs,e7] using h2) (by simp))
theorem sOrs:∀ (m:MEs) {C:Ctx} {X:Cx} (G:Good C Φ k X) (es:List Expr) (pos:Pos),okEs m C es=true->es≠[]->PE X (.BoolOp .Or es pos) (lE X.K (wOrs Φ m))
 | .nil,C,X,G,es,pos,h,j=>by simp [okEs] at h;exact absurd h j
 | .cons m r,C,X,G,[],pos,h,j=>absurd rfl j
 | .cons m .nil,C,X,G,e::es,pos,h,_=>by
  simp only [okEs,e7] at h;obtain ⟨h1,h2⟩:=h;simp at h2;subst h2;exact sL (sE m G e h1.2)
 | .cons m (.cons m2 r),C,X,G,e::es,pos,h,_=>by
  simp only [okEs,e7] at h;obtain ⟨h1,h2⟩:=h
  cases es with
  | nil=>simp at h2
  | cons f fs =>
    exact C5 (mE G.mono m) (mOrs G.mono _) (sE m G e h1.2) (sOrs (.cons m2 r) G (f::fs) pos (by simpa only [okEs,e7] using h2) (by simp))
theorem sO:∀ (m:MO) {C:Ctx} {X:Cx} (G:Good C Φ k X) (e:Option Expr),okO m C e=true->PO X e (lO X.K (wO Φ m))
 | .none,C,X,G,e,h=>by
  simp [okO] at h;subst h;exact yz
 | .some m,C,X,G,none,h=>by simp [okO] at h
 | .some m,C,X,G,some e,h=>by
  simp only [okO] at h;exact oQ (mE G.mono m) (sE m G e h)
theorem sT:∀ (m:MT) {C:Ctx} {X:Cx} (G:Good C Φ k X) (e:Expr),okT m C e=true->PT X e (lT X.K (wT Φ m))
 | .tru m,C,X,G,e,h=>by
  simp only [okT,e7] at h;exact AF (mE G.mono m) (sE m G e h.2) (qW h.1)
 | .cmp op a b,C,X,G,e,h=>by
  refine mN e h fun l os rs pos h => ?_;refine bN os h fun o h => ?_;refine bN rs h fun r h => ?_;simp only [e7,decide_eq_true_eq] at h;obtain ⟨⟨⟨ho,q⟩,B⟩,hm⟩:=h;rw [EV] at hm;subst ho;exact AB (oX G op) (eF op) (mE G.mono a) (mE G.mono b) (sE a G _ q) (sE b G _ B) hm
 | .and ts,C,X,G,e,h=>by
  refine gf e h fun o xs _ h => ?_;replace h:=bC h;obtain ⟨ho,h⟩:=h;obtain ⟨ho,j⟩:=bC ho
  cases of_decide_eq_true ho
  exact (sAndTs ts G _ _ h (by intro z;rw [z] at j;cases j)).pt
 | .or ts,C,X,G,e,h=>by
  refine gf e h fun o xs _ h => ?_;replace h:=bC h;obtain ⟨ho,h⟩:=h;obtain ⟨ho,j⟩:=bC ho
  cases of_decide_eq_true ho
  exact (sOrTs ts G _ _ h (by intro z;rw [z] at j;cases j)).pt
 | .not t,C,X,G,e,h=>by
  refine gQ e h fun o x _ h => ?_;replace h:=bC h;obtain ⟨ho,h⟩:=h
  cases of_decide_eq_true ho
  exact AG (mT G.mono t) (sT t G _ h)
theorem sAndTs:∀ (m:MTs) {C:Ctx} {X:Cx} (G:Good C Φ k X) (es:List Expr) (pos:Pos),okTs m C es=true->es≠[]->PW X (.BoolOp .And es pos) (lT X.K (wAndTs Φ m))
 | .nil,C,X,G,es,pos,h,j=>by simp [okTs] at h;exact absurd h j
 | .cons m r,C,X,G,[],pos,h,j=>absurd rfl j
 | .cons m .nil,C,X,G,e::es,pos,h,_=>by
  simp only [okTs,e7] at h;obtain ⟨h1,h2⟩:=h;simp at h2;subst h2;exact yv (sT m G e h1)
 | .cons m (.cons m2 r),C,X,G,e::es,pos,h,_=>by
  simp only [okTs,e7] at h;obtain ⟨h1,h2⟩:=h
  cases es with
  | nil=>simp at h2
  | cons f fs =>
    exact AI (mT G.mono m) (mAndTs G.mono _) (sT m G e h1) (sAndTs (.cons m2 r) G (f::fs) pos (by simpa only [okTs,e7] using h2) (by simp))
theorem sOrTs:∀ (m:MTs) {C:Ctx} {X:Cx} (G:Good C Φ k X) (es:List Expr) (pos:Pos),okTs m C es=true->es≠[]->PW X (.BoolOp .Or es pos) (lT X.K (wOrTs Φ m))
 | .nil,C,X,G,es,pos,h,j=>by simp [okTs] at h;exact absurd h j
 | .cons m r,C,X,G,[],pos,h,j=>absurd rfl j
 | .cons m .nil,C,X,G,e::es,pos,h,_=>by
  simp only [okTs,e7] at h;obtain ⟨h1,h2⟩:=h;simp at h2;subst h2;exact AH (sT m G e h1)
 | .cons m (.cons m2 r),C,X,G,e::es,pos,h,_=>by
  simp only [okTs,e7] at h;obtain ⟨h1,h2⟩:=h
  cases es with
  | nil=>simp at h2
  | cons f fs =>
    exact C4 (mT G.mono m) (mOrTs G.mono _) (sT m G e h1) (sOrTs (.cons m2 r) G (f::fs) pos (by simpa only [okTs,e7] using h2) (by simp))
theorem sTl:∀ (m:MTs) {C:Ctx} {X:Cx} (G:Good C Φ k X) (es:List Expr),okTs m C es=true->E1 (fun c t=>PT X c t) es ((wTl Φ m).map (lT X.K))
 | .nil,C,X,G,es,h=>by
  simp [okTs] at h;subst h;exact .nil
 | .cons m r,C,X,G,[],h=>by simp [okTs] at h
 | .cons m r,C,X,G,e::es,h=>by
  simp only [okTs,e7] at h;exact .cons (sT m G e h.1) (sTl r G es h.2)
theorem sI:∀ (m:MI) {C:Ctx} {X:Cx} (G:Good C Φ k X) (e tg:Expr),okI m C tg e=true->PI X tg e (lI X.K (wI Φ m)) /\ ∀ x,Fd e X.env x=pure x
 | .seq m,C,X,G,e,tg,h=>by
  simp only [okI,e7] at h;exact ⟨AQ (mE G.mono m) (sE m G e h.2),mW h.1⟩
 | .keys m,C,X,G,e,tg,h=>by
  simp only [okI,e7] at h;exact ⟨yZ (mE G.mono m) (sE m G e h.2),mW h.1⟩
 | .rng1 a,C,X,G,e,tg,h=>by
  refine cH e h fun x xs p pos h => ?_;refine bN xs h fun y h => ?_;simp only [e7,decide_eq_true_eq] at h;obtain ⟨⟨⟨rfl,B⟩,q⟩,F⟩:=h;exact ⟨yH (ar (mE G.mono a) aw) (G.gl B) (G.mgB _ (by decide)) (bm (mE G.mono a) aw (sE a G _ F) cE (ai q)) (ai q),fun x=>rfl⟩
 | .rng2 a b,C,X,G,e,tg,h=>by
  refine cH e h fun x xs p pos h => ?_;refine eJ xs h fun y z h => ?_;simp only [e7,decide_eq_true_eq] at h;obtain ⟨⟨⟨⟨⟨rfl,B⟩,q⟩,j⟩,F⟩,J⟩:=h;exact ⟨yI (ar (mE G.mono a) (ar (mE G.mono b) aw)) (G.gl B) (G.mgB _ (by decide)) (bm (mE G.mono a) (ar (mE G.mono b) aw) (sE a G _ F) (bm (mE G.mono b) aw (sE b G _ J) cE (ai j)) (ai q)) (by rw [ai q,ai j];rfl) (ai j),fun x=>rfl⟩
 | .enum a,C,X,G,e,tg,h=>by
  refine cH e h fun x xs p pos h => ?_;refine bN xs h fun y h => ?_;refine cG tg h fun ts kt pt h => ?_;simp only [e7,decide_eq_true_eq] at h;obtain ⟨⟨⟨rfl,B⟩,q⟩,F⟩:=h;exact ⟨yJ (mE G.mono a) (G.gl B) (G.mgB _ (by decide)) (bm (mE G.mono a) aw (sE a G _ F) cE (ai q)) (ai q),fun x=>rfl⟩
 | .zip a b,C,X,G,e,tg,h=>by
  refine cH e h fun x xs p pos h => ?_;refine eJ xs h fun y z h => ?_;refine cG tg h fun ts kt pt h => ?_;simp only [e7,decide_eq_true_eq] at h;obtain ⟨⟨⟨⟨⟨rfl,B⟩,q⟩,j⟩,F⟩,J⟩:=h;exact ⟨AS (mE G.mono a) (mE G.mono b) (G.gl B) (G.mgB _ (by decide)) (bm (mE G.mono a) (ar (mE G.mono b) aw) (sE a G _ F) (bm (mE G.mono b) aw (sE b G _ J) cE (ai j)) (ai q)) (by rw [ai q,ai j];rfl) (ai j),fun x=>rfl⟩
theorem sCl:∀ (m:MC) {C:Ctx} {X:Cx} (G:Good C Φ k X) (elt:Expr) (gens:List Ef) (sc:Scope) (pos:Pos) (d:Nat) (_:d=0∨d=d) (p:Addr),okC m C C (gens.drop (d+1)) elt=true ->
 PB X (aY elt gens sc pos d (.ref p) X.env) (lC X.K p (wCl Φ m))
 | .last src g ifs m,C,X,G,elt,gens,sc,pos,d,_,p,h=>by
  simp only [okC] at h
  split at h
  ·rename_i t it fs a hd;simp only [e7,decide_eq_true_eq] at h;obtain ⟨⟨⟨⟨rfl,hi⟩,q⟩,B⟩,he⟩:=h;have F:gens[d+1]? = some ⟨t,it,fs,0⟩:=by
    have z:(gens.drop (d+1))[0]? = some ⟨t,it,fs,0⟩:=by rw [hd];rfl
    rw [GG] at z;simpa using z
   have j:gens[d+1+1]? = none:=by
    have z:(gens.drop (d+1))[1]? = none:=by rw [hd];rfl
    rw [GG] at z;simpa using z
   refine PB.imp (jO G.hx G.calm F (fun g' z=>by rw [j] at z;cases z) (sI src G _ t hi).1 (sG G g t q) (di (p:=p) G (bp (mE G.mono m)) (mTl G.mono ifs) (PB.imp (jg G.hx (sE m G elt he) j) (ff (mE G.mono m))) (sTl ifs G fs B)) (sI src G _ t hi).2) (gB (mI G.mono src) (aK (bp (mE G.mono m)) (mTl G.mono ifs)))
  ·cases h
 | .more src g ifs rest,C,X,G,elt,gens,sc,pos,d,_,p,h=>by
  simp only [okC] at h
  split at h
  ·rename_i t it fs a g2 gs hd;simp only [e7,decide_eq_true_eq] at h;obtain ⟨⟨⟨⟨rfl,hi⟩,q⟩,B⟩,he⟩:=h;have F:gens[d+1]? = some ⟨t,it,fs,0⟩:=by
    have z:(gens.drop (d+1))[0]? = some ⟨t,it,fs,0⟩:=by rw [hd];rfl
    rw [GG] at z;simpa using z
   have j:gens[d+1+1]? = some g2:=by
    have z:(gens.drop (d+1))[1]? = some g2:=by rw [hd];rfl
    rw [GG] at z;simpa using z
   have L:gens.drop (d+1+1)=g2::gs:=by
    have z:(gens.drop (d+1)).drop 1=g2::gs:=by rw [hd];rfl
    rw [List.drop_drop] at z;simpa using z
   have J:∀ g',gens[d+1+1]? = some g'->g'.is_async=0:=fun g' z=>by
    rw [j] at z;cases z;exact fC he
   refine PB.imp (jO G.hx G.calm F J (sI src G _ t hi).1 (sG G g t q) (di (p:=p) G (mCl G.mono rest) (mTl G.mono ifs) (sCl rest G elt gens sc pos (d+1) (.inr rfl) p (by rw [L];exact he)) (sTl ifs G fs B)) (sI src G _ t hi).2) (gB (mI G.mono src) (aK (mCl G.mono rest) (mTl G.mono ifs)))
  ·cases h
end
end
end
section
section
variable {Φ:Phi} {k:Nat} {C:Ctx} {X:Cx}
theorem wq {sc:Scope} {ts vs:List Expr} {kk q:Nat} {pp p2:Pos} {env:Env} (j:env.scope=sc) (z:sc.kind = .function) (h:qS sc ts vs=true):EK [.Tuple ts kk pp] (.Tuple vs q p2) env=pure none:=by
 have B:env.blockKind = .function:=by unfold Ij;rw [j,z];rfl
 have h':qS sc ts vs=true:=h;unfold EK;dsimp only;rw [B]
 by_cases c1:(!(ts.length==2 || ts.length==3) || vs.length != ts.length)=true
 ·simp only [c1,Bool.true_or,if_true]
 ·simp only [Hf] at c1;rw [c1];simp only [Hi,bne_self_eq_false,Ec,if_false]
  split
  ·rfl
  ·
    generalize F:List.filterMap _ ts=L;obtain rfl:L=aX sc ts:=by
     rw [<- F];unfold aX;congr 1
     funext x
     cases x <;> first | rfl | (unfold Ki;rw [j])
    unfold qS at h';rw [c1] at h';simp only [Hi,J6] at h'
    by_cases c3:((aX sc ts).length != ts.length || (aX sc ts).eraseDups.length != (aX sc ts).length)=true
    ·rw [if_pos c3]
    ·rw [if_neg c3];have G:vs.all (JW 8)=true:=by
      rcases h' with h' | h'
      ·exact absurd (J6 _ _ |>.mpr h') c3
      ·exact h'
     rw [if_pos G]
theorem zi {sc:Scope} {ts vs:List Expr} {ns:List Str} {kk q:Nat} {pp p2:Pos} {env:Env} (j:env.scope=sc) (B:sc.kind = .function) (h:qU sc ts vs ns=true):EK [.Tuple ts kk pp] (.Tuple vs q p2) env=pure (some ns):=by
 have F:env.blockKind = .function:=by unfold Ij;rw [j,B];rfl
 simp only [qU,e7,EV,decide_eq_true_eq] at h;obtain ⟨⟨⟨⟨⟨G,J⟩,O⟩,U⟩,Y⟩,Z⟩:=h;unfold EK;dsimp only;rw [F,G];simp only [Hi,bne_self_eq_false,Ec,if_false]
 split
 ·next z=>exact absurd z (by rw [Hf];exact J)
 ·generalize hL:List.filterMap _ ts=L;obtain rfl:L=aX sc ts:=by
   rw [<- hL];unfold aX;congr 1
   funext x
   cases x <;> first | rfl | (unfold Ki;rw [j])
  rw [U,Y,Z,O];rfl
theorem oZ {C:Ctx} {i:Nat} {x:Str} (h:qT C i x=true):C.N[i]? = some x/\C.sc.names.lookup x=some .local:=by
 simpa [qT] using h
theorem bX {tg e:Expr} {l:Nat} {env:Env} {b:Bool} (h:GJ e (some tg) l env=pure b):Fy [tg] e l env=pure b:=by
 unfold Fy;exact h
theorem Be {j q z B e:Expr} {F p2 pt:Pos} {kt:Nat} {env:Env}:EK [.Tuple [.Subscript j q F, .Subscript z B p2] kt pt] e env=pure none:=by
 cases e with
 | Tuple vs G p2 =>
   unfold EK;dsimp only
   split
   ·rfl
   ·split
    ·rfl
    ·rfl
 | _=>rfl
theorem zj {sc:Scope} {tg e:Expr} {env:Env} (j:env.scope=sc) (q:sc.kind = .function) (h:j5 sc tg e=true):EK [tg] e env=pure none:=by
 cases tg with
 | Tuple ts kk pp =>
   cases e with
   | Tuple vs z p2=>exact wq j q h
   | _=>rfl
 | _=>first | rfl | (simp [j5] at h;done)
theorem mZ {elt:Expr} {gens:List Ef} {s sc:Scope} {pos px:Pos} {x:Str} {l:Nat} {env:Env} (j:env.scope=sc) (q:sc.kind = .function) :
 GJ (.ListComp elt gens s pos) (some (.Name x px)) l env=pure (qV sc x px (.ListComp elt gens s pos)):=by
 have z:env.blockKind = .function:=by unfold Ij;rw [j,q];rfl
 unfold GJ;dsimp only;rw [z];unfold qV Ki;rw [j];rfl
theorem tR {ek ev:Expr} {gens:List Ef} {s sc:Scope} {pos px:Pos} {x:Str} {l:Nat} {env:Env} (j:env.scope=sc) (q:sc.kind = .function) :
 GJ (.DictComp ek ev gens s pos) (some (.Name x px)) l env=pure (sc.names.lookup x==some .local&&px.line==(Expr.DictComp ek ev gens s pos).pos.line && !(s.names.any fun (n,k)=>n==x&&(k == .local || k == .cell))):=by
 have z:env.blockKind = .function:=by unfold Ij;rw [j,q];rfl
 unfold GJ;dsimp only;rw [z];unfold Ki;rw [j];rfl
mutual
theorem sS:∀ (m:MS) (G:Good C Φ k X) (q:C.sc.kind = .function) (s:Stmt),okS m C s=true->PS X s (lS X.K (wS Φ m))
 | .asg g m,G,q,s,h=>by
  refine dz s h fun ts e pos h1 => ?_;clear h;refine bN ts h1 fun tg h => ?_;clear h1;simp only [e7] at h;obtain ⟨⟨⟨F,he⟩,Y⟩,L⟩:=h;have hw:=zj G.sc q Y;have pg:=sG G g tg F;have plain:Fy [tg] e pos.line X.env=pure false->PS X (.Assign [tg] e pos) (lS X.K (gK (wE Φ m) (bG g))):=fun hs =>
   PS.imp (i8 (sE m G e he) pg hs hw (by cases tg <;> first | rfl | (simp [j5] at Y;done))) (vN (mE G.mono m))
  cases tg with
  | Tuple ts a b=>exact plain (bX (dW L))
  | Name x px =>
    cases e with
    | ListComp elt gens sc cpos =>
      by_cases sw:qV C.sc x px (.ListComp elt gens sc cpos)=true
      ·cases g with
       | tup gs=>exact absurd F hB
       | name i =>
         cases m with
         | comp fr N' c =>
           replace he:=bC he;have B:aZ sc X.env.scope X.N N' fr:=by rw [G.sc,G.N];exact j6 he.1
           have B':aZ sc C.sc C.N N' fr:=j6 he.1;have Z:PG X (.Name x px) (i6 i):=by
            have F:=bC F;have F:=JG (bC F.1) F.2;exact oE G.nd (by rw [G.N];exact of_decide_eq_true F.1.1) (G.loc F.1.2) (G.own F.2)
           have CY:∀ l,GJ (.ListComp elt gens sc cpos) (some (.Name x px)) l X.env=pure true:=fun l=>by rw [mZ G.sc q,sw]
           have mc:=mCmp G.mono fr c
           cases c with
           | last src g ifs m =>
             have h2:=he.2;simp only [okC] at h2
             split at h2
             ·rename_i t it fs a;simp only [e7,decide_eq_true_eq] at h2;obtain ⟨⟨⟨⟨rfl,hi⟩,U⟩,ht⟩,O⟩:=h2;refine PS.imp (iu (i:=i) (g:=lG X.K (bG g)) (wi:=lI X.K (wI Φ src)) G.calm G.hx B (fun g' z=>by simp at z) (sI src G _ t hi).1 (fun s H fp=>sG (G.blk B' s H fp) g t U) (tb:=fun p=>lC X.K p (aP (wTl Φ ifs) (bh (wE Φ m)))) (fun s H fp p => ?_) (sI src G _ t hi).2 Z (CY _)) fun D σ H h => ?_
              ·have G':=G.blk B' s H fp;exact di (p:=p) G' (bp (mE G.mono m)) (mTl G.mono ifs) (PB.imp (jg G'.hx (sE m G' elt O) rfl) (ff (mE G.mono m))) (sTl ifs G' fs ht)
              ·exact dE (mI G.mono src) (aK (bp (mE G.mono m)) (mTl G.mono ifs)) σ H _ (jX mc D σ H h)
             ·cases h2
           | more src g ifs rest =>
             have h2:=he.2;simp only [okC] at h2
             split at h2
             ·rename_i t it fs a g2 gs;simp only [e7,decide_eq_true_eq] at h2;obtain ⟨⟨⟨⟨rfl,hi⟩,U⟩,ht⟩,O⟩:=h2;have D0:∀ g',(g2::gs)[0]? = some g'->g'.is_async=0:=fun g' z=>by
               have z':g2=g':=by simpa using z
               subst z';exact fC O
              refine PS.imp (iu (i:=i) (g:=lG X.K (bG g)) (wi:=lI X.K (wI Φ src)) G.calm G.hx B D0 (sI src G _ t hi).1 (fun s H fp=>sG (G.blk B' s H fp) g t U) (tb:=fun p=>lC X.K p (aP (wTl Φ ifs) (wCl Φ rest))) (fun s H fp p => ?_) (sI src G _ t hi).2 Z (CY _)) fun D σ H h => ?_
              ·have G':=G.blk B' s H fp;exact di (p:=p) G' (mCl G.mono rest) (mTl G.mono ifs) (sCl rest G' elt (⟨t,it,fs,0⟩::g2::gs) sc cpos 0 (.inl rfl) p O) (sTl ifs G' fs ht)
              ·exact dE (mI G.mono src) (aK (mCl G.mono rest) (mTl G.mono ifs)) σ H _ (jX mc D σ H h)
             ·cases h2
         | _=>exact absurd he hB
      ·refine plain ?_;simp only [Hf] at sw;refine bX ?_;rw [mZ G.sc q,sw]
    | SetComp _ _ _ _=>cases m <;> exact absurd he hB
    | DictComp _ _ _ _ _ =>
      refine plain (bX ?_);rw [tR G.sc q];unfold Bb at L;simp only [EV] at L;rw [L]
    | _=>exact plain (bX rfl)
  | _=>simp [j5] at Y
 | .par i j a b,G,q,s,h=>by
  refine dz s h fun ts e pos h => ?_;refine bN ts h fun tg h => ?_;refine cG tg h fun ts k p h => ?_;refine cG e h fun es k' p' h => ?_;refine eJ ts h fun t u h => ?_;refine eJ es h fun e f h => ?_;refine cX t h fun x px h => ?_;refine cX u h fun y py h => ?_;simp only [e7,decide_eq_true_eq] at h;obtain ⟨⟨⟨⟨⟨⟨⟨hi,hj⟩,D1⟩,n1⟩,n2⟩,Y⟩,hb⟩,hw⟩:=h;obtain ⟨i1,i2⟩:=oZ hi;obtain ⟨j1,j2⟩:=oZ hj;exact PS.imp (Aa G.calm G.nd (by rw [G.N];exact i1) (by rw [G.N];exact j1) D1 (by rw [G.sc];exact i2) (by rw [G.sc];exact j2) (bm (mE G.mono a) (ar (mE G.mono b) aw) (sE a G _ Y) (bm (mE G.mono b) aw (sE b G _ hb) cE (ai n2)) (ai n1)) (zi G.sc q hw) (bX rfl)) (t4 (ar (mE G.mono a) (ar (mE G.mono b) aw)))
 | .put2 o i o' i' m,G,q,s,h=>by
  refine dz s h fun ts e pos h => ?_;refine bN ts h fun tg h => ?_;refine cG tg h fun ts k p h => ?_;refine eJ ts h fun t u h => ?_;refine bg t h fun x y tp h => ?_;refine bg u h fun x' y' tp' h => ?_;simp only [e7] at h;obtain ⟨⟨⟨⟨⟨⟨⟨J,CZ⟩,L⟩,ho⟩,hi⟩,D2⟩,D3⟩,he⟩:=h;exact z9 G.calm (by have:=G.units;lia) (mE G.mono m) (mE G.mono o) (mE G.mono i) (mE G.mono o') (mE G.mono i') (sE m G e he) (sE o G x ho) (sE i G y hi) (sE o' G x' D2) (sE i' G y' D3) (bX (dW L)) Be (fun v=>by cases y <;> first | rfl | (simp [be] at J;done)) (fun v=>by cases y' <;> first | rfl | (simp [be] at CZ;done))
 | .put o i m,G,q,s,h=>by
  refine dz s h fun ts e pos h => ?_;refine bN ts h fun tg h => ?_;refine bg tg h fun x y tp h => ?_;simp only [e7] at h;obtain ⟨⟨⟨⟨J,L⟩,ho⟩,hi⟩,he⟩:=h;exact AU (by have:=G.units;lia) (mE G.mono m) (mE G.mono o) (mE G.mono i) (sE m G e he) (sE o G x ho) (sE i G y hi) (bX (dW L)) rfl (fun v=>by cases y <;> first | rfl | (simp [be] at J;done))
 | .drop m,G,q,s,h=>by
  refine B7 s h fun e _ h => ?_;simp only [e7] at h;exact PS.imp (xT (sE m G _ h.2) (dW h.1)) (t3 (mE G.mono m))
 | .ret m,G,q,s,h=>by
  refine wo s h fun o _ h => ?_;refine jos o h fun e h => ?_;rw [wS];exact PS.imp (A7 (sE m G _ h)) (vM (mE G.mono m))
 | .ite c a b,G,q,s,h=>by
  refine CV s h fun t x y _ h => ?_;simp only [e7] at h;exact PS.imp (BE (sT c G _ h.1.1) (sSs a G q _ h.1.2) (sSs b G q _ h.2)) (yK (mT G.mono c))
 | .for g src b,G,q,s,h=>by
  refine Ce s h fun tg it body els _ h => ?_;refine eI els h fun  h => ?_;simp only [e7] at h;obtain ⟨⟨⟨hs,F⟩,hi⟩,hb⟩:=h;exact PS.imp (Ac (fun e s z=>(G.hx e s z).elim) G.calm (sI src G _ _ hi).1 (sG G g _ F) (sSs b G q _ hb) (mW hs)) (vO (mI G.mono src) (mSs G.mono b))
 | .while c b,G,q,s,h=>by
  refine zf s h fun t body els _ h => ?_;refine eI els h fun  h => ?_;simp only [e7] at h;exact PS.imp (uK (fun e s z=>(G.hx e s z).elim) (sT c G _ h.1) (sSs b G q _ h.2)) (qB (mT G.mono c) (mSs G.mono b))
 | .frz i m,G,q,s,h=>by
  simp only [okS] at h;exact AW (sS m G q s h)
 | .dell o i,G,q,s,h=>by
  refine wn s h fun ts pos h => ?_;refine bN ts h fun t h => ?_;refine bg t h fun x y tp h => ?_;simp only [e7] at h;exact ze (mE G.mono o) (mE G.mono i) (sE o G x h.1) (sE i G y h.2)
 | .putN o i m,G,q,s,h=>by
  refine dz s h fun ts e pos h => ?_;refine bN ts h fun tg h => ?_;refine bg tg h fun x y tp h => ?_;simp only [e7] at h;obtain ⟨⟨⟨⟨J,L⟩,ho⟩,hi⟩,he⟩:=h;exact zc (by have:=G.units;lia) (mE G.mono m) (mE G.mono o) (mE G.mono i) (sE m G e he) (sE o G x ho) (sE i G y hi) (bX (dW L)) rfl (fun v=>by cases y <;> first | rfl | (simp [be] at J;done))
 | .pass,G,q,s,h=>by
  refine B9 s h fun _ h => ?_;exact PS.imp xS jW
 | .brk,G,q,s,h=>by
  refine zg s h fun _ h => ?_;exact PS.imp uJ qA
 | .cnt,G,q,s,h=>by
  refine qQ s h fun _ h => ?_;exact PS.imp oi sZ
theorem sSs:∀ (m:MSs) (G:Good C Φ k X) (j:C.sc.kind = .function) (s:List Stmt),okSs m C s=true->PSs X s (lS X.K (wSs Φ m))
 | .nil,G,j,s,h=>by
  simp [okSs] at h;subst h;exact PSs.imp xR jW
 | .cons m r,G,j,[],h=>by simp [okSs] at h
 | .cons m r,G,j,s::ss,h=>by
  simp only [okSs,e7] at h;exact PSs.imp (uI (sS m G j s h.1) (sSs r G j ss h.2)) (vL (mS G.mono m) (mSs G.mono r))
end
end
end
section
structure FD where
 name:Str
 st:Stmt
 N:List Str
 np:Nat
 body:MSs
noncomputable def dX (N:List Str) (ds:List D):ak:=ds.map some++DK (N.length - ds.length) none
noncomputable def phi (T:List FD):Nat->Phi
 | 0=>fun _ _ _ _=>False
 | k+1=>fun f ds M Q => ∃ d,T[f]? = some d/\ds.length=d.np/\wSs (phi T k) d.body { nx:=fun _ M'=>Q .non M',rt:=Q } (dX d.N ds) M
theorem dA (T:List FD):∀ k f,aU (phi T k f)
 | 0,f=>fun _ _ _ _ _ q=>q.elim
 | k+1,f=>fun ds M Q Q' h ⟨d,e,l,q⟩=>⟨d,e,l,mSs (dA T k) d.body { nx:=fun _ M'=>Q .non M',rt:=Q } { nx:=fun _ M'=>Q' .non M',rt:=Q' } _ _ ⟨fun _ M' q'=>h _ _ q',h,fun _ _ z=>z,fun _ _ z=>z⟩ q⟩
noncomputable def qX (Γ:List Str) (cs:List (Str×D)) (d:FD):Bool :=
 decide ((ay d.st).kind = .function) && !(ay d.st).isCoroutine && !(ay d.st).isGenerator&&decide (d.N.Nodup)&&decide (d.np<=d.N.length)
  && (d.N.take d.np).all (fun x=>(ay d.st).names.lookup x==some .local || (ay d.st).names.lookup x==some .cell)
  && (ay d.st).names.all (fun y => !(y.2 == .free))&&okSs d.body ⟨Γ,d.N,ay d.st,d.N,cs⟩ (bE d.st)
theorem wt {Γ:List Str} {cs:List (Str×D)} {d:FD} (h:qX Γ cs d=true):fO d.N (d.N.take d.np) (ay d.st)/\(d.N.take d.np).length=d.np/\okSs d.body ⟨Γ,d.N,ay d.st,d.N,cs⟩ (bE d.st)=true:=by
 simp only [qX,e7,decide_eq_true_eq,EV] at h;obtain ⟨⟨⟨⟨⟨⟨⟨h1,h2⟩,q⟩,B⟩,O⟩,F⟩,G⟩,J⟩:=h;have j:(d.N.take d.np).length=d.np:=by rw [F6];lia
 refine ⟨⟨h1,h2,q,B,by rw [j],fun x hx => ?_,fun y L e => ?_⟩,j,J⟩
 ·have z:=Gs.mp F x hx;simpa using z
 ·have z:=Gs.mp G y L;rw [e] at z;simp at z
section
variable {P:DQ} {w:E4} {K:Frag} {mg:Str->Option e6} {base:Heap}
structure xC (K:Frag) (mg:Str->Option e6) (T:List FD) (cs:List (Str×D)):Prop where
 blt:∀ x∈bltNames,mg x=none
 fns:∀ (i:Nat) (d:FD),T[i]? = some d -> ∃ f fd,Fun K d.name d.name d.st f fd/\mg d.name=some (.ref f)/\GY K Ez d.name=some (some (.ref f))/\Binds K fd (d.N.take d.np) []
 ok:∀ d∈T,qX (T.map (·.name)) cs d=true
 cst:∀ x d,(x,d)∈cs -> ∃ u,mg x=some u/\GV K d u
theorem tS {T:List FD} {cs:List (Str×D)} (O:xC K mg T cs):∀ (k i:Nat) (d:FD) (f:Addr) (fd:Gb),T[i]? = some d->Fun K d.name d.name d.st f fd->dq P w K mg base CX0 k f fd (d.N.take d.np) (lSp K (phi T k i))
 | 0,i,d,f,fd,e,F=>⟨fun vs H Q E h=>by obtain ⟨ds,M,_,_,q⟩:=h;exact q.elim,fun A outer s H args us vs Q E _ _ _ _ h=>by obtain ⟨ds,M,_,_,q⟩:=h;exact q.elim⟩
 | k+1,i,d,f,fd,e,F=>by
   obtain ⟨S,hl,hb⟩:=wt (O.ok d (DZ e));refine F.ok S (fun vs H Q E h => ?_) fun cdv A outer s H vs Q E hr h => ?_
   ·obtain ⟨ds,M,rm,rs,d',e',l,q⟩:=h;rw [e] at e';cases e';rw [rs.length,l,hl]
   ·obtain ⟨ds,M,rm,rs,d',e',l,q⟩:=h;rw [e] at e';cases e';have G:Good ⟨T.map (·.name),d.N,ay d.st,d.N,cs⟩ (phi T k) k ((gE CX0 P w K mg base d.N d.name (ay d.st) f cdv A outer s H E).nox):=by
     refine ⟨fun _ _ z=>z,rfl,rfl,rfl,S.nd,fun _ _=>rfl,hr,O.blt,fun j x hx => ?_,dA T k,O.cst⟩;have B:(T.map (·.name))[j]? = some x:=hx;rw [DL] at B
     cases Y:T[j]? with
     | none=>rw [Y] at B;cases B
     | some d2 =>
       rw [Y] at B;cases B;obtain ⟨f2,U,Z,m2,n2,b2⟩:=O.fns j d2 Y;exact ⟨f2,U,_,m2,n2,Z.kp,b2,tS O k j d2 f2 U Y Z⟩
    refine ⟨_,sSs d.body G S.kind _ hb,dX d.N ds,M, { nx:=fun _ M'=>KE' K M H Q .non M',rt:=KE' K M H Q }, ?_,rm,⟨fun ρ M' σ H' x rs' rm' q' => ?_,fun d M' v H' x rm' rd' q'=>q' v H' x rm' rd',fun _ _ _ _ _ _ _ z=>z,fun _ _ _ _ _ _ _ z=>z⟩,q⟩
    ·refine ⟨by simp [cz,dX,rs.length],fun j dd J => ?_⟩
     unfold dX at J;unfold cz
     by_cases L:j < ds.length
     ·rw [Eu (by simpa using L),DL] at J
      cases e3:ds[j]? with
      | none=>rw [e3] at J;cases J
      | some z =>
        rw [e3] at J;cases J;obtain ⟨v,hv,rv⟩:=rs.get e3;refine ⟨v, ?_,rv⟩;rw [Eu (by rw [hG,rs.length];exact L),DL,hv];rfl
     ·rw [Fo (by simpa using L),Im] at J
      split at J <;> cases J
    ·exact q' .non H' x rm' (Mq.mpr rfl)
theorem Bf {T:List FD} {k i:Nat} {H:Hp} {a:Addr} {ns:List Int} (B:qe H) (F:SqL K H a (ns.map V.int)) (h:phi T k i [.con (ns.map D.int)] (fun _=>none) fun d _=>d = .bl true) :
 lSp K (phi T k i) [.ref a] H (fun v _=>v = .bl true) fun _ _ _=>False:=by
 have j:RM K (fun _=>none) H:=fun _ _ z=>by cases z
 refine ⟨[.con (ns.map D.int)],fun _=>none,j,RDs.cons (Mp.mpr ⟨a,ns.map V.int,rfl, ?_,MD ns⟩) RDs.nil,dA T k i [.con (ns.map D.int)] (fun _=>none) (fun d _=>d = .bl true) (KE' K (fun _=>none) H fun v _=>v = .bl true) (fun d M' e=>fun v H' x rm rd => ?_) h⟩
 ·rcases F with (z | ⟨o,z⟩) | z
  ·rcases B a with q | ⟨o,xs,q⟩
   ·rw [z] at q;cases q
   ·rw [z] at q;cases q
  ·exact .inl ⟨o,z⟩
  ·exact .inr z
 ·subst e;exact Ml.mp rd
end
theorem bj (us:List e6) (h:us.length=1):∃ a,us=[a]:=List.length_eq_one_iff.mp h
theorem bQ (us:List e6) (h:us.length=2):∃ a b,us=[a,b]:=by
 cases us with
 | nil=>cases h
 | cons a us=>obtain ⟨b,rfl⟩:=bj us (Nat.succ.inj h);exact ⟨a,b,rfl⟩
theorem Cf (us:List e6) (h:us.length=3):∃ a b c,us=[a,b,c]:=by
 cases us with
 | nil=>cases h
 | cons a us=>obtain ⟨b,c,rfl⟩:=bQ us (Nat.succ.inj h);exact ⟨a,b,c,rfl⟩
end
section
theorem Bg {T:List FD} {k f:Nat} {d:FD} {ds:List D} {M:Mem} {Q:QD} (e:T[f]? = some d) (l:ds.length=d.np) {ρ:ak} (r:dX d.N ds = ρ)
 (h:wSs (phi T k) d.body { nx:=fun _ M'=>Q .non M',rt:=Q } ρ M):phi T (k+1) f ds M Q:=⟨d,e,l,by rw [r];exact h⟩
theorem al {T:List FD} {n f:Nat} {d:FD} {ds:List D} {M:Mem} {Q:QD} (j : 1<=n) (e:T[f]? = some d) (l:ds.length=d.np) {ρ:ak} (r:dX d.N ds = ρ)
 (h:wSs (phi T (n - 1)) d.body { nx:=fun _ M'=>Q .non M',rt:=Q } ρ M):phi T n f ds M Q:=by
 obtain ⟨k,rfl⟩:∃ k,n=k+1:=⟨n - 1,by lia⟩
 exact Bg e l r h
theorem zk {Φ:Phi} {D:bb} {ρ:ak} {M:Mem}:wSs Φ .nil D ρ M=D.nx ρ M:=by rw [wSs];rfl
theorem dB {Φ:Phi} {s:MS} {r:MSs} {D:bb} {ρ:ak} {M:Mem}:wSs Φ (.cons s r) D ρ M=wS Φ s { D with nx:=wSs Φ r D } ρ M:=by rw [wSs];rfl
theorem p5 {ds:List D} {y:D} {M:Mem} {Q:QD}:wIx (.tup ds) y M Q = ∃ i d,y = .int i/\atI ds i=some d/\Q d M:=rfl
theorem p6 {ds:List D} {y:D} {M:Mem} {Q:QD}:wIx (.con ds) y M Q = ∃ i d,y = .int i/\atI ds i=some d/\Q d M:=rfl
theorem am {a:Addr} {i:Int} {ds:List D} {d:D} {M:Mem} {Q:QD} (h:M a=some (.lst ds)) (e:atI ds i=some d) (q:Q d M):wIx (.ref a) (.int i) M Q := .inl ⟨ds,i,d,h,rfl,e,q⟩
theorem b5 {a:Addr} {i:Int} {ds:List D} {v:D} {j:Nat} {M:Mem} {Q:Mem->Prop} (h:M a=some (.lst ds)) (e:ixN ds.length i=some j) (q:Q (ae M a (.lst (ds.set j v)))):dF (.ref a) (.int i) v M Q:=⟨a,rfl, .inl ⟨ds,i,j,rfl,h,e,q⟩⟩
theorem cu {a:Addr} {ds:List D} {M:Mem} {Q:QD} (h:M a=some (.lst ds)) (q:Q (.int ds.length) M):du [.ref a] M Q:=⟨_,_,rfl,by simp only [gJ,h],q⟩
theorem ad {a:Addr} {ds:List D} {M:Mem} (h:M a=some (.lst ds)):av M (.ref a)=some ds:=by simp only [av,h]
theorem Bh {i:Int} {M:Mem} {Q:QD}:jo [.int i] M Q=Q (.int i) M:=by
 apply propext;constructor
 ·rintro (⟨j,e,q⟩ | ⟨k,e,q⟩)
  ·cases e;exact q
  ·cases e
 ·exact fun q => .inl ⟨i,rfl,q⟩
theorem tT {b:Bool} {M:Mem} {Q:QD}:jo [.bl b] M Q=Q (.int (if b then 1 else 0)) M:=by
 apply propext;constructor
 ·rintro (⟨j,e,q⟩ | ⟨k,e,q⟩)
  ·cases e
  ·cases e;exact q
 ·exact fun q => .inr ⟨b,rfl,q⟩
theorem xD {i j:Int} {M:Mem} {Q:QD}:wEq (.int i) (.int j) M Q=Q (.bl (i==j)) M:=by
 simp [wEq,rb,Ep]
theorem Cg {i j:Int} {M:Mem} {Q:QD}:wNe (.int i) (.int j) M Q=Q (.bl (!(i==j))) M:=by
 simp [wNe,rb,Ep]
theorem tU {i j:Int} {M:Mem} {Q:QD}:eW (.int i) (.int j) M Q=Q (.int (i+j)) M:=rfl
theorem tV {a b:List D} {M:Mem} {Q:QD}:eW (.tup a) (.tup b) M Q=((a≠[]∨True)/\a.length+b.length<=p4/\Q (.tup (a++b)) M):=rfl
theorem tW {i j:Int} {M:Mem} {Q:QD}:qk (.int i) (.int j) M Q=Q (.int (i - j)) M:=rfl
theorem tX {i j:Int} {M:Mem} {Q:QD}:gI (.int i) (.int j) M Q=(MulOk i j/\Q (.int (i*j)) M):=rfl
theorem tY {ds:List D} {k:Int} {M:Mem} {Q:QD}:gI (.tup ds) (.int k) M Q=(-(2 ^ 63)<=k/\k < 2 ^ 63/\ds.length*k.toNat<=p4/\Q (.tup (DK k.toNat ds).flatten) M):=rfl
theorem p7 {i j:Int} {M:Mem} {Q:QD}:kA (.int i) (.int j) M Q=(0 < j/\j < 2 ^ 256/\Q (.int (i / j)) M):=rfl
theorem tZ {i j:Int} {M:Mem} {Q:QD}:ql (.int i) (.int j) M Q=(0 < j/\Q (.int (i % j)) M):=rfl
theorem u3 {i j:Int} {M:Mem} {Q:QD}:qm (.int i) (.int j) M Q=(0<=j/\j<=1000000/\i.natAbs < 2 ^ 64/\Q (.int (i ^ j.toNat)) M):=rfl
theorem xE {i j:Int} {M:Mem} {Q:QD}:wLt (.int i) (.int j) M Q=Q (.bl (decide (i < j))) M:=rfl
theorem xF {i j:Int} {M:Mem} {Q:QD}:wLe (.int i) (.int j) M Q=Q (.bl (decide (i<=j))) M:=rfl
theorem qY {i j:Int} {M:Mem} {Q:QD}:wGt (.int i) (.int j) M Q=Q (.bl (decide (j < i))) M:=rfl
theorem xG {i j:Int} {M:Mem} {Q:QD}:wGe (.int i) (.int j) M Q=Q (.bl (decide (j<=i))) M:=rfl
theorem u4 {i:Int} {M:Mem} {Q:QD}:jm (.int i) M Q=Q (.int (-i)) M:=rfl
theorem Bi {i:Int} {M:Mem} {Q:QD}:ln [.int i] M Q=Q (.int (if i < 0 then -i else i)) M:=by simp [ln]
theorem zm {i j:Int} {M:Mem} {Q:QD}:kB [.int i, .int j] M Q=Q (.int (if j < i then j else i)) M:=by
 apply propext;constructor
 ·rintro ⟨a,b,e,q⟩;cases e;exact q
 ·exact fun q=>⟨i,j,rfl,q⟩
theorem Bj {ds:List D} {M:Mem} {Q:QD}:du [.con ds] M Q=Q (.int ds.length) M:=by simp [du,gJ]
theorem Bk {ds:List D} {M:Mem} {Q:QD}:du [.tup ds] M Q=Q (.int ds.length) M:=by simp [du,gJ]
theorem u5 {ds:List D} {M:Mem}:av M (.tup ds)=some ds:=rfl
theorem u6 {ds:List D} {M:Mem}:av M (.con ds)=some ds:=rfl
theorem xH {α:Sort _} {a b : α}:(if true=true then a else b)=a:=rfl
theorem xI {α:Sort _} {a b : α}:(if false=true then a else b)=b:=rfl
theorem zn {ta tb:TEd} {ρ:ak} {M:Mem} {R:List D->(Mem->Prop)->Mem->Prop}:lN ta tb ρ M R=ta ρ M fun x j=>tb ρ j fun y M2 => ∃ xs ys,av M2 x=some xs/\av M2 y=some ys/\R (Gr iK xs ys) (fun M=>av M x=some xs/\av M y=some ys) M2:=by
 unfold lN ax;congr 1;funext x j;unfold ba;congr 1;funext y M2;apply propext;constructor
 ·rintro ⟨x',y',xs,ys,e,q⟩
  cases e;exact ⟨xs,ys,q⟩
 ·rintro ⟨xs,ys,q⟩;exact ⟨x,y,xs,ys,rfl,q⟩
theorem u7 {x y:Str} {M:Mem} {Q:QD}:eW (.str x) (.str y) M Q=(x.length+y.length<=p4/\Q (.str (x++y)) M):=rfl
local macro_rules | `(tactic| walk_at "wp") => `(tactic| ((try dsimp only [wS,wE,wA,wAnds,wOrs,wO,wT,wAndTs,wOrTs,wTl,wI,wCl,wCmp,bG,bGs,opB,opC,opF,opM,B2,opI,aI,iY,iW,iX,fA,kE,wC,wOp,wUn,ba,ax,wAr,cb,jk,gG,lH,iD,iE,jp,iF,lJ,iG,wIf,dR,fV,wSl,iR,iH,fu,iP,iQ,wBM,aW,eY,bF,lL,lM,iL,iV,iI,iJ,bh,aP,dh,fX,jj,fY,lU,fg,iN,iO,lV,sIf,gK,lW,lX,fh,lY,tU,tV,u7,tW,tX,tY,p7,tZ,u3,xE,xF,qY,xG,u4,u5,u6,p5,p6,xH,xI,IC,GO,Kj,Kk,Hg,GD,Li,Lj,Lk,DM,GW,E9,FV]);(try simp only [wS,wE,wA,wAnds,wOrs,wO,wT,wAndTs,wOrTs,wTl,wI,wCl,wCmp,bG,bGs,opB,opC,opF,opM,B2,opI,aI,iX,fA,iW,iY,wC,wOp,wUn,ba,ax,wAr,cb,jk,gG,lH,iD,iE,jp,iF,lJ,iG,wIf,dR,fV,wSl,iR,iH,fu,iP,iQ,wBM,aW,eY,bF,lL,lM,zn,iL,iV,iI,iJ,bh,aP,dh,fX,jj,fY,lU,fg,iN,iO,lV,sIf,gK,lW,lX,fh,lY,zk,
 tU,tV,u7,tW,tX,tY,p7,tZ,u3,xE,xF,qY,xG,u4,Bh,tT,xD,Cg,Bi,zm,Bj,Bk,u5,u6,p5,p6,xH,xI,Ec,if_false,if_true,
 IC,GO,Kj,Kk,KL,exists_eq_left',exists_eq_left,exists_eq_right,exists_and_left,exists_and_right,D.bl.injEq,D.int.injEq,D.ref.injEq,D.tup.injEq,Hg,GD,Li,Lj,Lk,DM,GW,decide_eq_true_eq,FZ,and_true,true_and,E9,FV])))
local macro_rules | `(tactic| walk_at "st") => `(tactic| ((first | rw [dB] | (dsimp only;rw [dB]));walk_at "wp"))
theorem u8 {a:Addr} {kvs:List (D×D)} {k d:D} {M:Mem} {Q:QD} (h:M a=some (.fdc kvs)) (ok:bD k=true) (e:dget kvs k=some d) (q:Q d M):wIx (.ref a) k M Q := .inr (.inr ⟨kvs,d,h,ok,e,q⟩)
theorem zo {i:Nat} {t:TSd} {A:bb} {ρ:ak} {M:Mem} {a:Addr} {kvs:List (D×D)} (e : ρ[i]? = some (some (.ref a))) (m:M a=some (.dct true kvs)) (h:t A ρ (ae M a (.fdc kvs))):qK i t A ρ M:=⟨a,kvs,e, .inl ⟨m,h⟩⟩
theorem wu {a:Addr} {t:Bool} {kvs:List (D×D)} {k v:D} {M:Mem} {Q:Mem->Prop} (h:M a=some (.dct t kvs)) (ok:iB t k=true) (j:kvs.length < p4) (q:Q (ae M a (.dct t (bS kvs k v)))):dF (.ref a) k v M Q:=⟨a,rfl, .inr ⟨t,kvs,h,ok,j,q⟩⟩
theorem u9 {M:Mem} {a:Addr} {o o':O}:ae (ae M a o) a o'=ae M a o':=by
 funext b;unfold ae;split <;> rfl
def Ge (M M':Mem):Prop := ∀ a o,M a=some o->M' a=some o
theorem Ge.refl {M:Mem}:Ge M M:=fun _ _ h=>h
theorem Ge.trans {M M' M'':Mem} (h:Ge M M') (g:Ge M' M''):Ge M M'':=fun _ _ e=>g _ _ (h _ _ e)
theorem Ge.new {M:Mem} {p:Addr} {o:O} (h:M p=none):Ge M (ae M p o):=fun a o' e=>by
 rw [aj (fun z=>by rw [z,h] at e;cases e)];exact e
def Box (b:Addr) (M:Mem):Prop := ∃ x y z:Int,M b=some (.lst [.int x, .int y, .int z])
structure Bx (b:Addr) (M M':Mem):Prop where
 box:Box b M'
 keep:∀ a o,a≠b->M a=some o->M' a=some o
theorem Bx.refl {b:Addr} {M:Mem} (h:Box b M):Bx b M M:=⟨h,fun _ _ _ e=>e⟩
theorem Bx.trans {b:Addr} {M M' M'':Mem} (h:Bx b M M') (g:Bx b M' M''):Bx b M M'':=⟨g.box,fun a o n e=>g.keep a o n (h.keep a o n e)⟩
theorem Bx.ge {b:Addr} {M M' M'':Mem} (h:Bx b M M') (g:Ge M' M''):Bx b M M'':=⟨by obtain ⟨x,y,z,e⟩:=h.box;exact ⟨x,y,z,g _ _ e⟩,fun a o n e=>g _ _ (h.keep a o n e)⟩
theorem Bx.put {b:Addr} {M:Mem} {x y z:Int}:Bx b M (ae M b (.lst [.int x, .int y, .int z])):=⟨⟨x,y,z,aa⟩,fun a o n e=>by rw [aj n];exact e⟩
theorem Bx.of {b:Addr} {M M':Mem} (h:Box b M) (g:Ge M M'):Bx b M M':=(Bx.refl h).ge g
theorem fD {b:BT} {tb:TCd} {chk:Mem->Prop} {N:NC} (I:List D->ak->Mem->List D->Prop) {xs:List D} {ρ:ak} {M:Mem} {acc:List D}
 (h0:I [] ρ M acc)
 (q:∀ l ρ M acc,I l ρ M acc->chk M)
 (z:∀ l x r ρ M acc,xs=l++x::r->I l ρ M acc -> ∃ ρ',b x ρ = some ρ' /\ ∀ N':NC,(∀ ρ2 M2 j,I (l++[x]) ρ2 M2 j->N' ρ2 M2 j)->tb ρ' M acc N')
 (B:∀ ρ M acc,I xs ρ M acc->N ρ M acc):aJ b tb chk N xs ρ M acc:=by
 have g:∀ (r l:List D) (ρ:ak) (M:Mem) (acc:List D),xs=l++r->I l ρ M acc->aJ b tb chk N r ρ M acc:=by
  intro r
  induction r with
  | nil=>intro l ρ M acc e i;rw [Fg] at e;subst e;exact ⟨q _ _ _ _ i,B _ _ _ i⟩
  | cons x r ih =>
    intro l ρ M acc e i;obtain ⟨ρ',F,h⟩:=z l x r ρ M acc e i;exact ⟨q _ _ _ _ i, ρ',F,h _ fun ρ2 M2 j G=>ih (l++[x]) ρ2 M2 j (by rw [e];simp) G⟩
 exact g xs [] ρ M acc rfl h0
theorem n6 {b:BT} {tb:TSd} {chk:Mem->Prop} {E:bb} (I:List D->ak->Mem->Prop) {xs:List D} {ρ:ak} {M:Mem}
 (h0:I [] ρ M)
 (j:∀ l ρ M,I l ρ M->chk M)
 (q:∀ l x r ρ M,xs=l++x::r->I l ρ M -> ∃ ρ',b x ρ = some ρ' /\ ∀ F:ak->Mem->Prop,(∀ ρ2 M2,I (l++[x]) ρ2 M2->F ρ2 M2)->tb { E with nx:=F,ct:=F,bk:=E.nx } ρ' M)
 (z:∀ ρ M,I xs ρ M->E.nx ρ M):bn b tb chk E xs ρ M:=by
 have g:∀ (r l:List D) (ρ:ak) (M:Mem),xs=l++r->I l ρ M->bn b tb chk E r ρ M:=by
  intro r
  induction r with
  | nil=>intro l ρ M e i;rw [Fg] at e;subst e;exact ⟨j _ _ _ i,z _ _ i⟩
  | cons x r ih =>
    intro l ρ M e i;obtain ⟨ρ',B,h⟩:=q l x r ρ M e i;exact ⟨j _ _ _ i, ρ',B,h _ fun ρ2 M2 G=>ih (l++[x]) ρ2 M2 (by rw [e];simp) G⟩
 exact g xs [] ρ M rfl h0
section
variable {T:List FD}
noncomputable def j7 (s:Stmt):FD:=⟨"_law_cell_at",s,["_law_script", "_law_k"],2,
 (.cons (.ite (.cmp .lt (.var 1) (.blt .len (.cons (.var 0) .nil))) (.cons (.ret (.ix (.var 0) (.var 1)))
 .nil) .nil)
 (.cons (.ret (.int 0))
 .nil))⟩
theorem n8 {α:Type} {xs:List α} {i:Int} (h0 : 0<=i) (h1:i < xs.length):∃ x,atI xs i=some x/\xs[i.toNat]? = some x:=by
 have:i.toNat < xs.length:=by lia
 refine ⟨xs[i.toNat], ?_,hh this⟩;unfold atI ixN;simp [h0,h1,hh this]
theorem zp {f:Nat} {s:Stmt} (hf:T[f]? = some (j7 s)) {n:Nat} (z : 1<=n) {ns:List Int} {k:Int} {M:Mem} {Q:QD} (h0 : 0<=k) (q:∀ i,Q (.int i) M):phi T n f [.con (ns.map D.int), .int k] M Q:=by
 refine al z hf rfl (ρ := [some _,some _]) rfl ?_;unfold j7;walk_at "st"
 split
 ·next h =>
  walk_at "st";obtain ⟨x,e,j⟩:=n8 (xs:=ns.map D.int) h0 h;rw [DL] at j
  cases e3:ns[k.toNat]? with
  | none=>rw [e3] at j;cases j
  | some y=>rw [e3] at j;cases j;exact ⟨_,e,q y⟩
 ·walk_at "st";exact q 0
theorem wv {i j:Int} (h : -(2 ^ 64) < i/\i < 2 ^ 64):MulOk i j := .inl h
theorem ju {i j:Int} (h : -(2 ^ 64) < j/\j < 2 ^ 64):MulOk i j := .inr (.inl h)
noncomputable def jv (s:Stmt):FD:=⟨"_law_mixed",s,["_law_number_here", "_law_k", "_law_once", "_law_twice"],2,
 (.cons (.asg (.name 2) (.bin .mod (.bin .mul (.bin .add (.bin .add (.bin .mod (.var 0) (.int 1000000007)) (.bin .mul (.int 7) (.var 1))) (.int 1)) (.int 48271)) (.int 2147483647)))
 (.cons (.asg (.name 3) (.bin .mod (.bin .mul (.var 2) (.bin .add (.bin .add (.bin .mod (.var 2) (.int 1009)) (.var 1)) (.int 3))) (.int 998244353)))
 (.cons (.ret (.bin .fdiv (.bin .mod (.bin .add (.bin .mul (.var 3) (.int 39373)) (.var 2)) (.int 2147483629)) (.int 64)))
 .nil)))⟩
noncomputable def qZ (s:Stmt) (fc fm:Nat):FD:=⟨"_law_box",s,["_law_script", "_law_k", "_law_cell"],2,
 (.cons (.asg (.name 2) (.call fc (.cons (.var 0) (.cons (.var 1) .nil))))
 (.cons (.ret (.lst (.cons (.bin .mul (.blt .abs (.cons (.var 2) .nil)) (.blt .int (.cons (.cmp .ge (.blt .abs (.cons (.var 2) .nil)) (.bin .pow (.int 10) (.int 18))) .nil))) (.cons (.call fm (.cons (.var 2) (.cons (.bin .add (.int 900) (.var 1)) .nil))) (.cons (.int 0) .nil)))))
 .nil))⟩
theorem Bl {f fc fm:Nat} {s sc:Stmt} (hf:T[f]? = some (qZ s fc fm)) (z:T[fc]? = some (j7 sc)) {n:Nat} (B:∀ {x k:Int} {M:Mem} {Q:QD},(∀ i,Q (.int i) M)->phi T (n - 1) fm [.int x, .int k] M Q) (G : 2<=n) {ns:List Int} {k:Int} {M:Mem} {Q:QD} (h0 : 0<=k)
 (q:∀ p x y,M p=none->Q (.ref p) (ae M p (.lst [.int x, .int y, .int 0]))):phi T n f [.con (ns.map D.int), .int k] M Q:=by
 refine al (by lia) hf rfl (ρ := [some _,some _,none]) rfl ?_
 unfold qZ;walk_at "st";refine zp z (by lia) h0 fun i => ?_
 walk_at "st";refine ⟨by decide,by decide,by decide,ju ?_, ?_⟩
 ·split <;> lia
 refine B fun j => ?_;exact ⟨by rw [h8];lia,fun p F=>q p _ _ F⟩
noncomputable def n9 (s:Stmt) (fm:Nat):FD:=⟨"_law_take",s,["_law_box_here", "_law_many", "_law_found", "_law_reach"],2,
 (.cons (.ite (.cmp .gt (.ix (.var 0) (.int 0)) (.int 0)) (.cons (.asg (.name 2) (.bin .mod (.ix (.var 0) (.int 0)) (.var 1)))
 (.cons (.put (.var 0) (.int 0) (.bin .fdiv (.ix (.var 0) (.int 0)) (.var 1)))
 (.cons (.ret (.var 2))
 .nil))) .nil)
 (.cons (.asg (.tup (.cons (.name 2) (.cons (.name 3) .nil))) (.tup (.cons (.int 0) (.cons (.int 1) .nil))))
 (.cons (.while (.cmp .lt (.var 3) (.var 1)) (.cons (.put (.var 0) (.int 2) (.bin .add (.ix (.var 0) (.int 2)) (.int 1)))
 (.cons (.asg (.name 2) (.bin .add (.bin .mul (.var 2) (.int 33554432)) (.call fm (.cons (.ix (.var 0) (.int 1)) (.cons (.ix (.var 0) (.int 2)) .nil)))))
 (.cons (.asg (.name 3) (.bin .mul (.var 3) (.int 33554432)))
 .nil))))
 (.cons (.ret (.bin .mod (.var 2) (.var 1)))
 .nil))))⟩
def r6 (T:List FD) (n fm:Nat):Prop := ∀ {x k:Int} {M:Mem} {Q:QD},(∀ i,Q (.int i) M)->phi T n fm [.int x, .int k] M Q
theorem zq {f fm:Nat} {s:Stmt} (hf:T[f]? = some (n9 s fm)) {n:Nat} (J:r6 T (n - 1) fm) (O : 2<=n) {b:Addr} {m:Int} {M:Mem} {Q:QD} (L:Box b M) (h1 : 0 < m) (h2:m<=2 ^ 120)
 (q:∀ r M',0<=r->r < m->Bx b M M'->Q (.int r) M'):phi T n f [.ref b, .int m] M Q:=by
 refine al (by lia) hf rfl (ρ := [some _,some _,none,none]) rfl ?_
 unfold n9;obtain ⟨x,y,z,G⟩:=L;walk_at "st";refine am G (d := .int x) rfl ?_;simp only [qY];walk_at "wp"
 split
 ·next hx =>
  walk_at "st";refine am G (d := .int x) rfl ?_;walk_at "wp";refine ⟨h1, ?_⟩;walk_at "st";refine am G (d := .int x) rfl ?_;walk_at "wp";refine ⟨h1,by lia, ?_⟩
  refine b5 G (j := 0) rfl ?_;walk_at "st";exact q _ _ (Ht _ (by lia)) (GH _ h1) Bx.put
 ·next hx =>
  walk_at "st";refine ⟨by rw [h8];lia, ?_⟩
  walk_at "st";refine ⟨6, ?_⟩;have go:∀ (f:Nat) (found reach z:Int) (M':Mem),m<=reach*33554432 ^ f->M' b=some (.lst [.int x, .int y, .int z])->Bx b M M' ->
   aB (cb (wOp wLt (aI 3) (aI 1))) (wSs (phi T (n - 1)) (MSs.cons (MS.put (ME.var 0) (ME.int 2) (ME.bin BOp.add ((ME.var 0).ix (ME.int 2)) (ME.int 1)))
    (MSs.cons (MS.asg (MG.name 2) (ME.bin BOp.add (ME.bin BOp.mul (ME.var 2) (ME.int 33554432)) (ME.call fm (MEs.cons ((ME.var 0).ix (ME.int 1)) (MEs.cons ((ME.var 0).ix (ME.int 2)) MEs.nil)))))
      (MSs.cons (MS.asg (MG.name 3) (ME.bin BOp.mul (ME.var 3) (ME.int 33554432))) MSs.nil))))
    { nx:=wSs (phi T (n - 1)) (MSs.cons (MS.ret (ME.bin BOp.mod (ME.var 2) (ME.var 1))) MSs.nil) { nx:=fun x M'=>Q D.non M',rt:=Q },rt:=Q } (f+1) [some (.ref b),some (.int m),some (.int found),some (.int reach)] M':=by
   intro f
   induction f with
   | zero =>
     intro found reach z M' hm F B;simp only [aB];walk_at "wp";rw [if_neg (by lia)]
     walk_at "st";exact ⟨h1,q _ _ (Ht _ (by lia)) (GH _ h1) B⟩
   | succ f ih =>
     intro found reach z M' hm F B;rw [aB];walk_at "wp"
     split
     ·next U =>
      walk_at "st";refine am F (d := .int z) rfl ?_;walk_at "wp";refine b5 F (j := 2) rfl ?_;walk_at "st";refine ⟨ju (by decide), ?_⟩
      refine am aa (d := .int y) rfl ?_;refine am aa (d := .int (z+1)) rfl ?_;refine J fun i => ?_;walk_at "wp";walk_at "st";refine ⟨ju (by decide), ?_⟩
      exact ih _ _ (z+1) _ (by rw [Int.mul_assoc, <- Int.pow_succ'];exact hm) aa (B.trans Bx.put)
     ·walk_at "st";exact ⟨h1,q _ _ (Ht _ (by lia)) (GH _ h1) B⟩
  exact go 5 0 1 z M (by lia) G (Bx.refl ⟨x,y,z,G⟩)
def cI (T:List FD) (n f:Nat):Prop := ∀ {b:Addr} {m:Int} {M:Mem} {Q:QD},Box b M->0 < m->m<=2 ^ 120->(∀ r M',0<=r->r < m->Bx b M M'->Q (.int r) M')->phi T n f [.ref b, .int m] M Q
noncomputable def gW (s:Stmt) (ft:Nat):FD:=⟨"_law_number",s,["_law_box_here", "_law_way"],1,
 (.cons (.asg (.name 1) (.call ft (.cons (.var 0) (.cons (.int 9) .nil))))
 (.cons (.ite (.cmp .eq (.var 1) (.int 0)) (.cons (.ret (.bin .sub (.call ft (.cons (.var 0) (.cons (.int 2001) .nil))) (.int 1000)))
 .nil) .nil)
 (.cons (.ret (.ix (.lst (.cons (.int 0) (.cons (.int 0) (.cons (.int 0) (.cons (.int 1) (.cons (.int 1) (.cons (.int 1) (.cons (.neg (.int 1)) (.cons (.neg (.int 1)) (.cons (.int 2) .nil)))))))))) (.var 1)))
 .nil)))⟩
theorem ua {f ft:Nat} {s:Stmt} (hf:T[f]? = some (gW s ft)) {n:Nat} (j:cI T (n - 1) ft) (U : 1<=n) {b:Addr} {M:Mem} {Q:QD} (G:Box b M)
 (q:∀ r M', -1000<=r->r<=1000->Bx b M M'->Q (.int r) M'):phi T n f [.ref b] M Q:=by
 refine al (by lia) hf rfl (ρ := [some _,none]) rfl ?_
 unfold gW;walk_at "st";refine j G (by decide) (by decide) fun r Y h0 h1 B => ?_
 walk_at "st"
 split
 ·walk_at "st";refine j B.box (by decide) (by decide) fun Z M2 h0 h1 J => ?_
  walk_at "wp";exact q _ _ (by lia) (by lia) (B.trans J)
 ·next F =>
  walk_at "st";refine ⟨by rw [h8];lia,fun p L => ?_⟩
  have F:r=1∨r=2∨r=3∨r=4∨r=5∨r=6∨r=7∨r=8:=by
   have:r≠0:=fun z=>F (by rw [z];rfl)
   lia
  have O:=B.ge (Ge.new (o := .lst [.int 0, .int 0, .int 0, .int 1, .int 1, .int 1, .int (-1), .int (-1), .int 2]) L)
  rcases F with rfl | rfl | rfl | rfl | rfl | rfl | rfl | rfl <;> exact am aa rfl (q _ _ (by decide) (by decide) O)
end
section
variable {T:List FD}
def nc (T:List FD) (n f:Nat):Prop := ∀ {b:Addr} {M:Mem} {Q:QD},Box b M->(∀ r M', -1000<=r->r<=1000->Bx b M M'->Q (.int r) M')->phi T n f [.ref b] M Q
def dH (ns:List Int):Prop := ∀ x∈ns, -1000<=x/\x<=1000
theorem aT {lo:Int} {n:Nat}:(aL lo n).length=n:=by simp [aL]
theorem aq {α:Type} {xs l r:List α} {x : α} (e:xs=l++x::r):l.length < xs.length:=by rw [e];simp
theorem fE {α:Type} {xs l r:List α} {x : α} (e:xs=l++x::r):xs[l.length]? = some x:=by rw [e];simp
noncomputable def nh (s:Stmt) (fn:Nat):FD:=⟨"_law_part",s,["_law_box_here", "_law_length"],2,
 (.cons (.ret (.blt .tuple (.cons (.comp [none,(some 0)] ["_law_k", "_law_box_here"] (.last (.rng1 (.var 1)) (.name 0) .nil (.call fn (.cons (.var 1) .nil)))) .nil)))
 .nil)⟩
theorem zr {f fn:Nat} {s:Stmt} (hf:T[f]? = some (nh s fn)) {n:Nat} (B:nc T (n - 1) fn) (Z : 1<=n) {b:Addr} {L:Nat} (hL:L<=1000) {M:Mem} {Q:QD} (G:Box b M)
 (q:∀ (ns:List Int) M',ns.length=L->dH ns->Bx b M M'->Q (.tup (ns.map .int)) M'):phi T n f [.ref b, .int L] M Q:=by
 refine al (by lia) hf rfl (ρ := [some _,some _]) rfl ?_
 unfold nh;walk_at "st";refine ⟨by lia,by lia, ?_⟩
 refine fD (I:=fun l ρ M' acc => ∃ (ns:List Int) (x:Option D),acc=ns.map .int/\ns.length=l.length/\dH ns/\Bx b M M' /\ ρ = [x,some (.ref b)]) ⟨[],none,rfl,rfl,fun _ h=>by simp at h,Bx.refl G,rfl⟩ (fun _ _ _ _ _=>trivial) ?_ ?_
 ·rintro l x r ρ M1 acc e ⟨ns,o,rfl,j,F,z,rfl⟩;refine ⟨_,rfl,fun N' J => ?_⟩;walk_at "wp";refine B z.box fun v M2 h1 h2 O => ?_;have:=aq e;rw [aT] at this;refine ⟨by rw [hG,j,h8];lia,J _ _ _ ⟨ns++[v],_,by simp,by simp [j], ?_,z.trans O,rfl⟩⟩
  intro y U
  rcases DW.mp U with h | h
  ·exact F y h
  ·simp at h;subst h;exact ⟨h1,h2⟩
 ·rintro ρ M1 acc ⟨ns,o,rfl,j,F,z,rfl⟩ p Y;rw [aT] at j;refine ⟨_,ns.map .int,rfl,ad aa,q ns _ (by lia) F (z.ge (Ge.new Y))⟩
noncomputable abbrev Pr:=List Int×List Int×List Int
noncomputable def prD (p:Pr):D := .tup [.tup (p.1.map .int), .tup (p.2.1.map .int), .tup (p.2.2.map .int)]
noncomputable def eK (p:Pr):Kg := .tuple [.tuple (p.1.map .int), .tuple (p.2.1.map .int), .tuple (p.2.2.map .int)]
structure ni (L0 L1 L2:Nat) (p:Pr):Prop where
 l0:p.1.length=L0
 l1:p.2.1.length=L1
 l2:p.2.2.length=L2
 s0:dH p.1
 s1:dH p.2.1
 s2:dH p.2.2
theorem bY {k:Nat} {M:Mem}:∀ ns:List Int,aC (rb k M) (ns.map D.int)=some (ns.map GF)
 | [] => rfl
 | x::r=>by
   have e:rb k M (.int x)=some (.int x):=by cases k <;> rfl
   simp [aC,e,bY r]
theorem Ch {k:Nat} {M:Mem} (p:Pr):rb (k+2) M (prD p)=some (eK p):=by
 simp [rb,prD,eK,aC,bY]
theorem nj {k:Nat} {M:Mem}:∀ ps:List Pr,aC (rb (k+2) M) (ps.map prD)=some (ps.map eK)
 | [] => rfl
 | p::r=>by simp [aC,Ch,nj r]
theorem cj {k:Nat} {M:Mem} {a:Addr} {ds:List D} (h:M a=some (.lst ds)):rb (k+1) M (.ref a)=(aC (rb k M) ds).map Lv:=by
 simp only [rb,h]
theorem bV {Φ:Phi} {s:MS} {r:MSs} {E:bb} {ρ:ak} {M:Mem} (I:ak->Mem->Prop) (h1:∀ R:ak->Mem->Prop,(∀ ρ M,I ρ M->R ρ M)->wS Φ s { E with nx:=R } ρ M) (h2:∀ ρ M,I ρ M->wSs Φ r E ρ M):wSs Φ (.cons s r) E ρ M:=by
 rw [dB];exact h1 _ h2
theorem Bx.upd {b q:Addr} {M M':Mem} {o:O} (h:Bx b M M') (B:M q=none) (j:q≠b):Bx b M (ae M' q o) :=
 ⟨by obtain ⟨x,y,z,e⟩:=h.box;exact ⟨x,y,z,by rw [aj j.symm];exact e⟩,fun u o' nu eu=>by
   rw [aj (fun z=>by rw [z,B] at eu;cases eu)];exact h.keep u o' nu eu⟩
theorem Bx.none {b q:Addr} {M M':Mem} (h:Bx b M M') (z:M' q=none) (j:q≠b):M q=none:=by
 cases e:M q with
 | none=>rfl
 | some o=>rw [h.keep q o j e] at z;cases z
noncomputable def prL (p:Pr):List D := [.tup (p.1.map .int), .tup (p.2.1.map .int), .tup (p.2.2.map .int)]
theorem fF {k:Nat}:dH (DK k 0):=fun x h=>by
 rw [(Kl.mp h).2];decide
theorem no {k:Nat}:(DK k [D.int 0]).flatten=(DK k (0:Int)).map D.int:=by
 induction k with
 | zero=>rfl
 | succ k ih=>rw [El,Ff,ih];rfl
def ub (T:List FD) (n f:Nat):Prop := ∀ {b:Addr} {L:Nat} {M:Mem} {Q:QD},L<=1000->Box b M->(∀ (ns:List Int) M',ns.length=L->dH ns->Bx b M M'->Q (.tup (ns.map .int)) M')->phi T n f [.ref b, .int L] M Q
noncomputable def gX (s:Stmt) (ft fp:Nat):FD:=⟨"_law_scheme",s,["_law_box_here", "_law_lengths", "_law_count", "_law_products", "_law_k", "_law_product", "_law_way", "_law_side"],3,
 (.cons (.asg (.name 3) (.lst .nil))
 (.cons (.for (.name 4) (.rng1 (.var 2)) (.cons (.asg (.name 5) (.comp [none,(some 0)] ["_law_length", "_law_box_here"] (.last (.seq (.var 1)) (.name 0) .nil (.call fp (.cons (.var 1) (.cons (.var 0) .nil))))))
 (.cons (.asg (.name 6) (.call ft (.cons (.var 0) (.cons (.int 8) .nil))))
 (.cons (.ite (.and (.cons (.cmp .lt (.var 6) (.int 3)) (.cons (.cmp .ne (.var 3) (.lst .nil)) .nil))) (.cons (.put (.var 5) (.var 6) (.ix (.ix (.var 3) (.call ft (.cons (.var 0) (.cons (.blt .len (.cons (.var 3) .nil)) .nil)))) (.var 6)))
 .nil) .nil)
 (.cons (.ite (.cmp .eq (.var 6) (.int 3)) (.cons (.asg (.name 7) (.call ft (.cons (.var 0) (.cons (.int 3) .nil))))
 (.cons (.put (.var 5) (.var 7) (.bin .mul (.tup (.cons (.int 0) .nil)) (.ix (.var 1) (.var 7))))
 .nil)) .nil)
 (.cons (.drop (.meth .append (.var 3) (.blt .tuple (.cons (.var 5) .nil))))
 .nil))))))
 (.cons (.ret (.bin .add (.blt .tuple (.cons (.var 1) .nil)) (.tup (.cons (.var 3) .nil))))
 .nil)))⟩
theorem uc {f ft fp:Nat} {s:Stmt} (hf:T[f]? = some (gX s ft fp)) {n:Nat} (D8:cI T (n - 1) ft) (D9:ub T (n - 1) fp) (hn : 1<=n) {b a:Addr} {L0 L1 L2 c:Nat} (h0:L0<=1000) (h1:L1<=1000) (h2:L2<=1000) (hc:c<=1000) {M:Mem} {Q:QD} (hb:Box b M) (CZ:a≠b) (ha:M a=some (.lst [.int L0, .int L1, .int L2]))
 (q:∀ (ps:List Pr) pr M',ps.length=c->(∀ p∈ps,ni L0 L1 L2 p)->Bx b M M'->M pr=none->M' pr=some (.lst (ps.map prD))->Q (.tup [.int L0, .int L1, .int L2, .ref pr]) M'):phi T n f [.ref b, .ref a, .int c] M Q:=by
 refine al (by lia) hf rfl (ρ := [some _,some _,some _,none,none,none,none,none]) rfl ?_
 unfold gX;walk_at "st";refine ⟨by lia,fun pr D1 => ?_⟩
 have U:pr≠b:=fun z=>by obtain ⟨x,y,w,e⟩:=hb;rw [<- z,D1] at e;cases e
 have Dq:pr≠a:=fun z=>by rw [<- z,D1] at ha;cases ha
 walk_at "st";refine ⟨by lia,by lia, ?_⟩
 refine n6 (I:=fun l ρ M' => ∃ (ps:List Pr) (o4 o5 o6 o7:Option D), ρ = [some (.ref b),some (.ref a),some (.int c),some (.ref pr),o4,o5,o6,o7]/\ps.length=l.length/\(∀ p∈ps,ni L0 L1 L2 p)/\Bx b M M'/\M' pr=some (.lst (ps.map prD)))
  ⟨[],none,none,none,none,rfl,rfl,fun _ h=>by simp at h,Bx.of hb (Ge.new D1),aa⟩ (fun _ _ _ _=>trivial) ?_ ?_
 ·rintro l x r ρ M1 e ⟨ps,o4,o5,o6,o7,rfl,hl,hp,x1,Da⟩;have Dh:=aq e;rw [aT] at Dh;refine ⟨_,rfl,fun F hF => ?_⟩;walk_at "wp";have D2:=x1.keep a _ CZ ha;rw [dB];walk_at "wp";refine ⟨_,ad D2, ?_⟩;simp only [aJ];refine ⟨ad D2,_,rfl, ?_⟩;walk_at "wp";refine D9 h0 x1.box fun n0 M2 l0 s0 x2 => ?_;have Db:=x2.keep a _ CZ D2;refine ⟨by simp [h8],ad Db, ?_⟩
  refine D9 h1 x2.box fun n1 M3 l1 s1 x3 => ?_;have Dc:=x3.keep a _ CZ Db;refine ⟨by simp [h8],ad Dc, ?_⟩
  refine D9 h2 x3.box fun n2 M4 l2 s2 x4 => ?_;have D5:=x4.keep a _ CZ Dc;refine ⟨by simp [h8],ad D5,fun pq D0 => ?_⟩
  have CY:=x4.keep pr _ U (x3.keep pr _ U (x2.keep pr _ U Da));have x5:=((x1.trans x2).trans (x3.trans x4)).ge (Ge.new (o := .lst ([]++[D.tup (Gi D.int n0)]++[D.tup (Gi D.int n1)]++[D.tup (Gi D.int n2)])) D0);have J:pq≠b:=fun z=>by obtain ⟨x,y,w,e⟩:=x4.box;rw [<- z,D0] at e;cases e
  have L:M pq=none:=((x1.trans x2).trans (x3.trans x4)).none D0 J;have Y:pr≠pq:=fun z=>by rw [z,D0] at CY;cases CY
  have Dr:a≠pq:=fun z=>by rw [z,D0] at D5;cases D5
  have D6:ae M4 pq (.lst ([]++[D.tup (Gi D.int n0)]++[D.tup (Gi D.int n1)]++[D.tup (Gi D.int n2)])) pr=some (.lst (ps.map prD)):=by rw [aj Y];exact CY
  have Dd:ae M4 pq (.lst ([]++[D.tup (Gi D.int n0)]++[D.tup (Gi D.int n1)]++[D.tup (Gi D.int n2)])) pq=some (.lst (prL (n0,n1,n2))):=aa;have hok:ni L0 L1 L2 (n0,n1,n2):=⟨l0,l1,l2,s0,s1,s2⟩;generalize ae M4 pq (.lst ([]++[D.tup (Gi D.int n0)]++[D.tup (Gi D.int n1)]++[D.tup (Gi D.int n2)]))=M5 at x5 D6 Dd;generalize hP:(n0,n1,n2)=p0 at hok Dd;clear D0 CY x4 D5 x3 Dc x2 Db hP;walk_at "st";refine D8 x5.box (by decide) (by decide) fun way M6 w0 w1 x6 => ?_
  have D3:=x6.keep pr _ U D6;have Df:=x6.keep pq _ J Dd;have Dg:=x5.trans x6;refine bV (I:=fun ρ' M' => ρ'=[some (.ref b),some (.ref a),some (.int c),some (.ref pr),some x,some (.ref pq),some (.int way),o7] /\ ∃ p:Pr,ni L0 L1 L2 p/\Bx b M M'/\M' pr=some (.lst (ps.map prD))/\M' pq=some (.lst (prL p))) (fun R hR => ?_) ?_
  ·walk_at "wp"
   split
   ·next hw =>
    refine ⟨by lia,fun pe Di => ?_⟩
    have g:=Ge.new (o := .lst []) Di;refine ⟨_,_,cj (g _ _ D3) |>.trans (by rw [nj];rfl),cj aa, ?_⟩
    walk_at "wp";have x7:=Dg.ge g;have O:=g _ _ D3;have D4:=g _ _ Df
    split
    ·next Dj =>
     have Dp : 0 < ps.length:=by
      cases ps with
      | nil=>simp [Ep,Ey] at Dj
      | cons p r=>simp
     walk_at "st";refine cu O ?_;refine D8 x7.box (by rw [hG];lia) (by rw [hG];lia) fun r M8 r0 r1 x8 => ?_
     have G:=x8.keep pr _ U O;have Z:=x8.keep pq _ J D4;obtain ⟨d,e1,e2⟩:=n8 r0 r1;refine am G e1 ?_;rw [DL] at e2
     cases e3:ps[r.toNat]? with
     | none=>rw [e3] at e2;cases e2
     | some pp =>
       rw [e3] at e2;cases e2;have ho:=hp pp (DZ e3);have Dl:way=0∨way=1∨way=2:=by lia
       have x9:=x7.trans x8
       rcases Dl with rfl | rfl | rfl
       ·refine ⟨_,_,rfl,rfl,b5 Z (j := 0) rfl ?_⟩;exact hR _ _ ⟨rfl,(pp.1,p0.2.1,p0.2.2),⟨ho.l0,hok.l1,hok.l2,ho.s0,hok.s1,hok.s2⟩,x9.upd L J,by rw [aj Y];exact G,aa⟩
       ·refine ⟨_,_,rfl,rfl,b5 Z (j := 1) rfl ?_⟩;exact hR _ _ ⟨rfl,(p0.1,pp.2.1,p0.2.2),⟨hok.l0,ho.l1,hok.l2,hok.s0,ho.s1,hok.s2⟩,x9.upd L J,by rw [aj Y];exact G,aa⟩
       ·refine ⟨_,_,rfl,rfl,b5 Z (j := 2) rfl ?_⟩;exact hR _ _ ⟨rfl,(p0.1,p0.2.1,pp.2.2),⟨hok.l0,hok.l1,ho.l2,hok.s0,hok.s1,ho.s2⟩,x9.upd L J,by rw [aj Y];exact G,aa⟩
    ·exact hR _ _ ⟨rfl,p0,hok,x7,O,D4⟩
   ·exact hR _ _ ⟨rfl,p0,hok,Dg,D3,Df⟩
  ·rintro ρ M7 ⟨rfl,p,B,x7,O,D4⟩;refine bV (I:=fun ρ' M' => ∃ (o7:Option D), ρ'=[some (.ref b),some (.ref a),some (.int c),some (.ref pr),some x,some (.ref pq),some (.int way),o7] /\ ∃ p:Pr,ni L0 L1 L2 p/\Bx b M M'/\M' pr=some (.lst (ps.map prD))/\M' pq=some (.lst (prL p))) (fun R hR => ?_) ?_
   ·walk_at "wp"
    split
    ·walk_at "st";refine D8 x7.box (by decide) (by decide) fun side M8 d0 d1 x8 => ?_
     have G:=x8.keep pr _ U O;have Z:=x8.keep pq _ J D4;have x9:=x7.trans x8;have De:=x9.keep a _ CZ ha;walk_at "st";refine ⟨by rw [h8];lia, ?_⟩
     have Dm:side=0∨side=1∨side=2:=by lia
     rcases Dm with rfl | rfl | rfl
     ·refine am De (d := .int L0) rfl ?_;walk_at "wp";refine ⟨by lia,by lia,by rw [h8];lia,b5 Z (j := 0) rfl ?_⟩
      rw [no];exact hR _ _ ⟨_,rfl,(DK (L0:Int).toNat 0,p.2.1,p.2.2),⟨by simp,B.l1,B.l2,fF,B.s1,B.s2⟩,x9.upd L J,by rw [aj Y];exact G,aa⟩
     ·refine am De (d := .int L1) rfl ?_;walk_at "wp";refine ⟨by lia,by lia,by rw [h8];lia,b5 Z (j := 1) rfl ?_⟩
      rw [no];exact hR _ _ ⟨_,rfl,(p.1,DK (L1:Int).toNat 0,p.2.2),⟨B.l0,by simp,B.l2,B.s0,fF,B.s2⟩,x9.upd L J,by rw [aj Y];exact G,aa⟩
     ·refine am De (d := .int L2) rfl ?_;walk_at "wp";refine ⟨by lia,by lia,by rw [h8];lia,b5 Z (j := 2) rfl ?_⟩
      rw [no];exact hR _ _ ⟨_,rfl,(p.1,p.2.1,DK (L2:Int).toNat 0),⟨B.l0,B.l1,by simp,B.s0,B.s1,fF⟩,x9.upd L J,by rw [aj Y];exact G,aa⟩
    ·exact hR _ _ ⟨_,rfl,p,B,x7,O,D4⟩
   ·rintro ρ M9 ⟨Ds,rfl,p,B,x9,D7,Dn⟩;walk_at "st";refine ⟨⟨_,D7⟩,_,_,rfl,ad Dn,_,_,_,rfl,rfl,D7,by rw [hG,h8];lia, ?_⟩
    walk_at "wp";exact hF _ _ ⟨ps++[p],_,_,_,_,rfl,by simp [hl],fun p' Do=>(DW.mp Do).elim (hp p') fun z=>by simp at z;subst z;exact B,x9.upd D1 U,by rw [aa];simp [prD,prL]⟩
 ·rintro ρ M1 ⟨ps,o4,o5,o6,o7,rfl,hl,hp,x1,Da⟩;have D2:=x1.keep a _ CZ ha;dsimp only;walk_at "st";refine ⟨_,_,rfl,ad D2,by rw [h8];lia, ?_⟩
  walk_at "wp";rw [aT] at hl;exact ⟨by simp,by rw [h8];lia,q ps pr M1 (by lia) hp x1 D1 Da⟩
end
section
theorem aH {α:Type} {f : α -> D} {b:BT} {tb:TCd} {chk:Mem->Prop} {N:NC} (I:List α -> ak->Mem->List D->Prop) {ys:List α} {xs:List D} (hx:xs=ys.map f) {ρ:ak} {M:Mem} {acc:List D}
 (h0:I [] ρ M acc)
 (q:∀ l ρ M acc,I l ρ M acc->chk M)
 (z:∀ l x r ρ M acc,ys=l++x::r->I l ρ M acc -> ∃ ρ',b (f x) ρ = some ρ' /\ ∀ N':NC,(∀ ρ2 M2 j,I (l++[x]) ρ2 M2 j->N' ρ2 M2 j)->tb ρ' M acc N')
 (B:∀ ρ M acc,I ys ρ M acc->N ρ M acc):aJ b tb chk N xs ρ M acc:=by
 subst hx;have g:∀ (r l:List α) (ρ:ak) (M:Mem) (acc:List D),ys=l++r->I l ρ M acc->aJ b tb chk N (r.map f) ρ M acc:=by
  intro r
  induction r with
  | nil=>intro l ρ M acc e i;rw [Fg] at e;subst e;exact ⟨q _ _ _ _ i,B _ _ _ i⟩
  | cons x r ih =>
    intro l ρ M acc e i;obtain ⟨ρ',F,h⟩:=z l x r ρ M acc e i;exact ⟨q _ _ _ _ i, ρ',F,h _ fun ρ2 M2 j G=>ih (l++[x]) ρ2 M2 j (by rw [e];simp) G⟩
 exact g ys [] ρ M acc rfl h0
theorem b6 {α:Type} {f : α -> D} {b:BT} {tb:TSd} {chk:Mem->Prop} {E:bb} (I:List α -> ak->Mem->Prop) {ys:List α} {xs:List D} (hx:xs=ys.map f) {ρ:ak} {M:Mem}
 (h0:I [] ρ M)
 (j:∀ l ρ M,I l ρ M->chk M)
 (q:∀ l x r ρ M,ys=l++x::r->I l ρ M -> ∃ ρ',b (f x) ρ = some ρ' /\ ∀ F:ak->Mem->Prop,(∀ ρ2 M2,I (l++[x]) ρ2 M2->F ρ2 M2)->tb { E with nx:=F,ct:=F,bk:=E.nx } ρ' M)
 (z:∀ ρ M,I ys ρ M->E.nx ρ M):bn b tb chk E xs ρ M:=by
 subst hx;have g:∀ (r l:List α) (ρ:ak) (M:Mem),ys=l++r->I l ρ M->bn b tb chk E (r.map f) ρ M:=by
  intro r
  induction r with
  | nil=>intro l ρ M e i;rw [Fg] at e;subst e;exact ⟨j _ _ _ i,z _ _ i⟩
  | cons x r ih =>
    intro l ρ M e i;obtain ⟨ρ',B,h⟩:=q l x r ρ M e i;exact ⟨j _ _ _ i, ρ',B,h _ fun ρ2 M2 G=>ih (l++[x]) ρ2 M2 (by rw [e];simp) G⟩
 exact g ys [] ρ M rfl h0
theorem p8 {M M':Mem} {x:D} {ds:List D} (h:av M x=some ds) (g:Ge M M'):av M' x=some ds:=by
 cases x with
 | ref a =>
   simp only [av] at h ⊢
   split at h
   ·next e=>rw [g _ _ e];exact h
   ·cases h
 | _=>exact h
theorem ww {M:Mem} {x:D} {ds:List D} (h:av M x=some ds):gJ M x=some ds.length:=by
 cases x with
 | ref a =>
   simp only [av] at h
   split at h
   ·next e=>cases h;simp only [gJ,e]
   ·cases h
 | tup es=>cases h;rfl
 | con es=>cases h;rfl
 | _=>cases h
theorem jw {M:Mem} {x:D} {ds:List D} {Q:QD} (h:av M x=some ds) (q:Q (.int ds.length) M):du [x] M Q:=⟨_,_,rfl,ww h,q⟩
theorem au {α:Type} {xs:List α} {k:Nat} {x : α} (h:xs[k]? = some x):atI xs (k:Int)=some x:=by
 have j:k < xs.length:=(hD.mp h).1;unfold atI ixN;rw [if_pos (by lia),if_pos (by lia)]
 exact h
theorem ck {n:Nat}:aL 0 n=(Eo n).map fun i=>D.int (i:Nat):=by simp [aL]
end
section
variable {T:List FD}
def Big (ns:List Int):Prop := ∀ x∈ns, -1000000000000<=x/\x<=1000000000000
theorem wx (a b:List Int):Gr iK (a.map .int) (b.map .int)=(a.zip b).map fun xy => .tup [.int xy.1, .int xy.2]:=by
 rw [List.zipWith_map,JM,Ll];rfl
theorem ox {α β γ:Type} (f : α -> β -> γ) (a:List α) (b:List β):Gr f a b=(a.zip b).map fun xy=>f xy.1 xy.2:=by
 rw [JM,Ll]
end
section
variable {T:List FD}
noncomputable def nv (x:Str) (s:Stmt):FD:=⟨"_law_mixed",s,[x, "_law_k", "_law_once", "_law_twice"],2,(jv s).body⟩
theorem ud {f:Nat} {x:Str} {s:Stmt} (hf:T[f]? = some (nv x s)) {n:Nat} (j : 1<=n):r6 T n f:=by
 intro x k M Q q;refine al j hf rfl (ρ := [some _,some _,none,none]) rfl ?_;unfold nv jv;walk_at "st";refine ⟨by decide,wv (by decide),ju (by decide),by decide, ?_⟩
 walk_at "st";refine ⟨by decide,wv ?_,by decide, ?_⟩
 ·have h1:=Ht ((x % 1000000007+7*k+1)*48271) (b := 2147483647) (by decide)
  have h2:=GH ((x % 1000000007+7*k+1)*48271) (b := 2147483647) (by decide)
  lia
 walk_at "st";refine ⟨ju (by decide),by decide,by decide,by decide, ?_⟩
 exact q _
end
section
open PySem PySem.Spec PyProof.Rows L2.Srt
variable {T:List FD}
noncomputable abbrev K3:=Int×Int×Int
noncomputable abbrev Tm:=K3×Int
noncomputable def k3D (k:K3):D := .tup [.int k.1, .int k.2.1, .int k.2.2]
noncomputable def kcD (t:Tm):D×D:=(k3D t.1, .int t.2)
theorem gh {a b:K3} (h:k3D a=k3D b):a=b:=by
 obtain ⟨a1,a2,j⟩:=a;obtain ⟨b1,b2,b3⟩:=b;simp [k3D] at h;simp [h]
noncomputable def cf (ts:List Tm) (k:K3):Int:=((ts.filter fun t=>decide (t.1=k)).map (·.2)).sum
theorem dY {k:K3}:cf [] k=0:=rfl
theorem bo {t:Tm} {ts:List Tm} {k:K3}:cf (t::ts) k=(if t.1=k then t.2 else 0)+cf ts k:=by
 unfold cf
 by_cases h:t.1=k
 ·rw [DT (by simpa using h),if_pos h];simp
 ·rw [DS (by simpa using h),if_neg h];simp
theorem cJ {a b:List Tm} {k:K3}:cf (a++b) k=cf a k+cf b k:=by
 induction a with
 | nil=>simp [dY]
 | cons t a ih=>rw [Lm,bo,bo,ih];lia
theorem p9 {ts:List Tm} {k:K3} (h:∀ t∈ts,t.1≠k):cf ts k=0:=by
 induction ts with
 | nil=>rfl
 | cons t ts ih=>rw [bo,if_neg (h t (by simp)),ih fun u j=>h u (by simp [j])];rfl
theorem ny {ts:List Tm} (j:(ts.map (·.1)).Nodup) {t:Tm} (q:t∈ts):cf ts t.1=t.2:=by
 induction ts with
 | nil=>simp at q
 | cons u ts ih =>
   simp only [DM,EX] at j;rw [bo]
   rcases r4.mp q with z | z
   ·subst z;rw [if_pos rfl,p9 fun v B e=>j.1 (by rw [<- e];exact EW B)]
    lia
   ·rw [if_neg fun e=>j.1 (by rw [e];exact EW z),ih j.2 z];lia
noncomputable def dC (L:List Tm) (k:K3) (c:Int):List Tm:=if (L.any fun p=>decide (p.1=k))=true then L.map fun p=>if p.1=k then (p.1,p.2+c) else p else L++[(k,c)]
theorem pj {L:List Tm} {k:K3}:dget (L.map kcD) (k3D k)=(L.find? fun p=>decide (p.1=k)).map fun p => .int p.2:=by
 unfold dget
 induction L with
 | nil=>rfl
 | cons t L ih =>
   by_cases h:t.1=k
   ·rw [DM,H0 (by simp [kcD,h]),H0 (by simpa using h)];rfl
   ·rw [DM,FU (by simp only [decide_eq_true_eq];exact fun e=>h (gh e)),FU (by simpa using h),ih]
theorem ue {L:List Tm} {k:K3}:((L.map kcD).any fun p=>decide (p.1=k3D k))=L.any fun p=>decide (p.1=k):=by
 induction L with
 | nil=>rfl
 | cons t L ih =>
   rw [DM,ES,ES,ih];congr 1
   by_cases h:t.1=k
   ·simp [kcD,h]
   ·rw [decide_eq_false h];exact decide_eq_false (fun e=>h (gh e))
theorem zt {L:List Tm} (j:(L.map (·.1)).Nodup) {k:K3} {c:Int}:bS (L.map kcD) (k3D k) (.int ((((L.find? fun p=>decide (p.1=k)).map (·.2)).getD 0)+c))=(dC L k c).map kcD:=by
 unfold bS dC;rw [ue]
 split
 ·next h =>
  rw [Fx,Fx];apply FI;intro t q;simp only [JX]
  by_cases e:t.1=k
  ·rw [if_pos (by rw [<- e];rfl),if_pos e]
   have:L.find? (fun p=>decide (p.1=k))=some t:=by
    clear h
    induction L with
    | nil=>simp at q
    | cons u L ih =>
      simp only [DM,EX] at j
      rcases r4.mp q with z | z
      ·subst z;rw [H0 (by simpa using e)]
      ·rw [FU (by simp;intro B;exact j.1 (by rw [B, <- e];exact EW z))]
       exact ih j.2 z
   rw [this];rfl
  ·rw [if_neg (c:=(kcD t).1=k3D k) (fun z=>e (gh z)),if_neg e]
 ·next h =>
  have:L.find? (fun p=>decide (p.1=k))=none:=by
   rw [List.find?_eq_none];intro x hx;simp only [decide_eq_true_eq];intro e;exact h (Gu.mpr ⟨x,hx,by simpa using e⟩)
  rw [this];simp [kcD]
theorem uf {L:List Tm} {k:K3} {c:Int}:(dC L k c).map (·.1)=if (L.any fun p=>decide (p.1=k))=true then L.map (·.1) else L.map (·.1)++[k]:=by
 unfold dC
 split
 ·rw [Fx];apply FI;intro t _;simp only [JX]
  split <;> rfl
 ·simp
theorem r8 {L:List Tm} (j:(L.map (·.1)).Nodup) {k:K3} {c:Int}:((dC L k c).map (·.1)).Nodup:=by
 rw [uf]
 split
 ·exact j
 ·next h =>
  refine Ia.mpr ⟨j,by simp,fun a z b q e => ?_⟩
  simp at q;subst q;subst e;obtain ⟨t,B,e⟩:=ET.mp z;exact h (Gu.mpr ⟨t,B,by simpa using e⟩)
theorem wy {L:List Tm} {k:K3} {c:Int}:(dC L k c).length<=L.length+1:=by
 unfold dC;split <;> simp
theorem zu {L:List Tm} (j:(L.map (·.1)).Nodup) {k a:K3} {c:Int}:cf (dC L k c) a=cf L a+if k=a then c else 0:=by
 unfold dC
 split
 ·next h =>
  obtain ⟨t,q,e⟩:=Gu.mp h;have e:t.1=k:=by simpa using e
  clear h
  induction L with
  | nil=>simp at q
  | cons u L ih =>
    simp only [DM,EX] at j;rw [DM,bo,bo]
    by_cases eu:u.1=k
    ·have rest:(L.map fun p=>if p.1=k then (p.1,p.2+c) else p)=L:=by
      conv=>rhs;rw [<- List.map_id L]
      apply FI;intro p B;rw [if_neg fun z=>j.1 (by rw [eu, <- z];exact EW B)];rfl
     rw [rest,if_pos eu];dsimp only
     by_cases ea:u.1=a
     ·rw [if_pos ea,if_pos ea,if_pos (by rw [<- eu];exact ea)];lia
     ·rw [if_neg ea,if_neg ea,if_neg (by rw [<- eu];exact ea)];lia
    ·rcases r4.mp q with z | z
     ·exact absurd (by rw [<- z];exact e) eu
     ·rw [ih j.2 z,if_neg eu];lia
 ·rw [cJ,bo,dY];simp
noncomputable def aM (ts:List Tm):List Tm:=ts.foldl (fun L t=>dC L t.1 t.2) []
theorem dJ {ts:List Tm} {t:Tm}:aM (ts++[t])=dC (aM ts) t.1 t.2:=by simp [aM]
theorem eL {α:Type} {P:List α -> Prop} (h0:P []) (h1:∀ l x,P l->P (l++[x])) (l:List α):P l:=by
 have:∀ r:List α,P r.reverse:=by
  intro r
  induction r with
  | nil=>exact h0
  | cons x r ih=>rw [G9];exact h1 _ _ ih
 have:=this l.reverse;rw [List.reverse_reverse] at this;exact this
theorem eM (ts:List Tm):((aM ts).map (·.1)).Nodup:=eL (P:=fun ts=>((aM ts).map (·.1)).Nodup) (by simp [aM]) (fun l x ih=>by rw [dJ];exact r8 ih) ts
theorem zv (ts:List Tm) (k:K3):cf (aM ts) k=cf ts k:=eL (P:=fun ts=>cf (aM ts) k=cf ts k) rfl (fun l x ih=>by
 rw [dJ,zu (eM l),ih,cJ,bo,dY];lia) ts
theorem nA (ts:List Tm):(aM ts).length<=ts.length:=eL (P:=fun ts=>(aM ts).length<=ts.length) (by simp [aM]) (fun l x ih=>by
 rw [dJ];have:=wy (L:=aM l) (k:=x.1) (c:=x.2);simp;lia) ts
theorem Ci {ts:List Tm} {k:K3}:Mi.cf (ts.filter fun t => !(t.2==0)) k=Mi.cf ts k:=by
 induction ts with
 | nil=>rfl
 | cons t ts ih =>
   rw [bo]
   by_cases h:t.2=0
   ·rw [DS (by simp [h]),ih,h];split <;> lia
   ·rw [DT (by simp [h]),bo,ih]
theorem Ge.upd {M j:Mem} {d:Addr} {o:O} (g:Ge M j) (hd:M d=none):Ge M (ae j d o):=fun a o' e=>by
 rw [aj (fun z=>by rw [z,hd] at e;cases e)];exact g _ _ e
end
section
open PySem PySem.Spec PyProof.Rows L2.Srt
theorem bP {b p:Addr} {M:Mem} (j:Box b M) (q:M p=none):p≠b:=fun z=>by
 obtain ⟨x,y,w,e⟩:=j;rw [<- z,q] at e;cases e
end
section
open PySem PySem.Spec PyProof.Rows L2.Srt
variable {T:List FD}
noncomputable def wz (L:List Tm) (k:K3) (c:Int):List Tm:=if (L.any fun p=>decide (p.1=k))=true then L.map (fun p=>if p.1=k then (p.1,c) else p) else L++[(k,c)]
theorem wB {L:List Tm} {k:K3} {c:Int}:bS (L.map kcD) (k3D k) (.int c)=(wz L k c).map kcD:=by
 unfold bS wz;rw [ue]
 split
 ·rw [Fx,Fx];refine FI fun p _ => ?_;simp only [JX]
  by_cases h:p.1=k
  ·rw [if_pos h,if_pos (show (kcD p).1=k3D k by show k3D p.1=k3D k;rw [h])];rfl
  ·rw [if_neg h,if_neg (show ¬ (kcD p).1=k3D k from fun z=>h (gh z))]
 ·rw [F1];rfl
theorem gY {L:List Tm} (j:(L.map (·.1)).Nodup) {t:Tm} (q:t∈L):dget (L.map kcD) (k3D t.1)=some (.int t.2):=by
 rw [pj];have:L.find? (fun p=>decide (p.1=t.1))=some t:=by
  induction L with
  | nil=>simp at q
  | cons x L ih =>
    simp only [DM,EX] at j
    rcases r4.mp q with z | z
    ·subst z;simp
    ·have:x.1≠t.1:=fun e=>j.1 (by rw [e];exact EW z)
     rw [FU (by simpa using this)]
     exact ih j.2 z
 rw [this];rfl
theorem wD {L:List Tm} (j:(L.map (·.1)).Nodup):qG (L.map kcD)=L.map kcD:=by
 have g:∀ (r l:List Tm),(((l++r).map (·.1)).Nodup)->(r.map kcD).foldl (fun a kv=>bS a kv.1 kv.2) (l.map kcD)=(l++r).map kcD:=by
  intro r
  induction r with
  | nil=>intro l _;simp
  | cons t r ih =>
    intro l h;rw [DM,Hn];have e:bS (l.map kcD) (kcD t).1 (kcD t).2=(l++[t]).map kcD:=by
     show bS (l.map kcD) (k3D t.1) (.int t.2)=_;rw [wB];unfold wz;rw [if_neg];intro z;obtain ⟨p,q,e⟩:=Gu.mp z;rw [F1,Ia] at h;exact h.2.2 _ (EW q) _ (EW (Eb ..)) (of_decide_eq_true e)
    rw [e,ih (l++[t]) (by rw [Ft];exact h)]
    rw [Ft];rfl
 have:=g L [] (by simpa using j)
 simpa [qG] using this
theorem r9 (k:K3):bD (k3D k)=true:=rfl
end
section
open PySem PySem.Spec PyProof.Rows L2.Srt
variable {T:List FD}
noncomputable def idx (l:List Int):List (Int×Int):=l.mapIdx fun i x=>((i:Nat),x)
noncomputable def nz (l:List Int):List (Int×Int):=(idx l).filter fun q => !(q.2==0)
noncomputable def pD (q:Int×Int):D := .tup [.int q.1, .int q.2]
theorem pv {l:List Int}:(idx l).length=l.length:=by simp [idx]
theorem nB {l:List Int}:(nz l).length<=l.length:=by
 unfold nz;exact Ej (Ed _ _) (by rw [pv];exact hQ _)
theorem wF {l:List Int}:cW (l.map .int)=(idx l).map pD:=by
 unfold cW idx;apply H8;intro j;simp only [Fb,DL]
 cases l[j]? <;> rfl
noncomputable def fG (xp xn:Str) (s:Stmt):FD:=⟨"_law_nonzero",s,[xp],1,
 (.cons (.ret (.comp [none,none] ["_law_place",xn] (.last (.enum (.var 0)) (.tup (.cons (.name 0) (.cons (.name 1) .nil))) (.cons (.cmp .ne (.var 1) (.int 0)) .nil) (.tup (.cons (.var 0) (.cons (.var 1) .nil))))))
 .nil)⟩
theorem rf {f:Nat} {xp xn:Str} {s:Stmt} (hf:T[f]? = some (fG xp xn s)) {n:Nat} (G : 1<=n) {l:List Int} (J:l.length<=10000000) {M:Mem} {Q:QD} (q:∀ p,M p=none->Q (.ref p) (ae M p (.lst ((nz l).map pD)))):phi T n f [.tup (l.map .int)] M Q:=by
 refine al (by lia) hf rfl (ρ := [some _]) rfl ?_
 unfold fG;walk_at "st";rw [wF];refine aH (f:=pD) (ys:=idx l) (I:=fun r ρ M' acc=>(∃ o0 z, ρ = [o0,z])/\M'=M/\acc=(r.filter fun q => !(q.2==0)).map pD) rfl ⟨⟨_,_,rfl⟩,rfl,rfl⟩ (fun _ _ _ _ _=>by first | rfl | trivial) ?_ ?_
 ·rintro l' x r ρ M1 acc e ⟨⟨o0,z,rfl⟩,rfl,rfl⟩;refine ⟨_,rfl,fun N' j => ?_⟩;have B:=aq e;rw [pv] at B;have F:(l'.filter fun q => !(q.2==0)).length<=l'.length:=Ed _ _;walk_at "wp"
  by_cases hz:x.2=0
  ·rw [if_neg (by simp [hz])]
   refine j _ _ _ ⟨⟨_,_,rfl⟩,rfl, ?_⟩;rw [E2,DS (by simp [hz])];simp
  ·rw [if_pos (by simp [hz])]
   refine ⟨by rw [h8];lia,by rw [hG,h8];lia,j _ _ _ ⟨⟨_,_,rfl⟩,rfl, ?_⟩⟩
   rw [E2,DT (by simp [hz])];simp [pD]
 ·rintro ρ M1 acc ⟨⟨o0,z,rfl⟩,rfl,rfl⟩ p hp;exact q p hp
noncomputable def bu (i a j b:Int) (zs:List (Int×Int)):List Tm:=zs.map fun z=>((z.1,i,j),a*b*z.2)
noncomputable def bO (i a:Int) (ys zs:List (Int×Int)):List Tm:=ys.flatMap fun y=>bu i a y.1 y.2 zs
noncomputable def cm (xs ys zs:List (Int×Int)):List Tm:=xs.flatMap fun x=>bO x.1 x.2 ys zs
noncomputable def dO (p:Pr):List Tm:=cm (nz p.1) (nz p.2.1) (nz p.2.2)
noncomputable def aQ (ps:List Pr):List Tm:=ps.flatMap dO
theorem nC {i a j b:Int} {zs:List (Int×Int)}:(bu i a j b zs).length=zs.length:=by simp [bu]
theorem nD {i a:Int} {ys zs:List (Int×Int)}:(bO i a ys zs).length=ys.length*zs.length:=by
 unfold bO
 induction ys with
 | nil=>simp
 | cons y ys ih=>rw [Ib,DP,ih,nC,E9,Gp];lia
theorem gZ {xs ys zs:List (Int×Int)}:(cm xs ys zs).length=xs.length*(ys.length*zs.length):=by
 unfold cm
 induction xs with
 | nil=>simp
 | cons y ys ih=>rw [Ib,DP,ih,nD,E9,Gp];lia
noncomputable def nE (xs:Str) (s:Stmt) (fz:Nat):FD:=⟨"_law_sums",s,[xs, "_law_found", "_law_l", "_law_r", "_law_o", "_law_rights", "_law_outs", "_law_i", "_law_a", "_law_j", "_law_b", "_law_k", "_law_c"],1,
 (.cons (.asg (.name 1) (.dnew true))
 (.cons (.for (.tup (.cons (.name 2) (.cons (.name 3) (.cons (.name 4) .nil)))) (.seq (.ix (.var 0) (.int 3))) (.cons (.asg (.name 5) (.call fz (.cons (.var 3) .nil)))
 (.cons (.asg (.name 6) (.call fz (.cons (.var 4) .nil)))
 (.cons (.for (.tup (.cons (.name 7) (.cons (.name 8) .nil))) (.seq (.call fz (.cons (.var 2) .nil))) (.cons (.for (.tup (.cons (.name 9) (.cons (.name 10) .nil))) (.seq (.var 5)) (.cons (.for (.tup (.cons (.name 11) (.cons (.name 12) .nil))) (.seq (.var 6)) (.cons (.put (.var 1) (.tup (.cons (.var 11) (.cons (.var 7) (.cons (.var 9) .nil)))) (.bin .add (.dget (.var 1) (.tup (.cons (.var 11) (.cons (.var 7) (.cons (.var 9) .nil)))) (.int 0)) (.bin .mul (.bin .mul (.var 8) (.var 10)) (.var 12))))
 .nil))
 .nil))
 .nil))
 .nil))))
 (.cons (.frz 1 (.ret (.blt .dict (.cons (.comp [none,(some 1)] ["_law_place", "_law_found"] (.last (.keys (.var 1)) (.name 0) (.cons (.cmp .ne (.ix (.var 1) (.var 0)) (.int 0)) .nil) (.tup (.cons (.var 0) (.cons (.ix (.var 1) (.var 0)) .nil))))) .nil))))
 .nil)))⟩
def Bm (T:List FD) (n f:Nat):Prop := ∀ {l:List Int} {M:Mem} {Q:QD},l.length<=10000000->(∀ p,M p=none->Q (.ref p) (ae M p (.lst ((nz l).map pD))))->phi T n f [.tup (l.map .int)] M Q
structure wG (p:Pr):Prop where
 b1:Big p.1
 b2:Big p.2.1
 b3:Big p.2.2
 l1:p.1.length<=100
 l2:p.2.1.length<=100
 l3:p.2.2.length<=100
structure xJ (ps:List Pr) (L:List Tm):Prop where
 nd:(L.map (·.1)).Nodup
 nz:∀ t∈L,t.2≠0
 cf:∀ k,cf L k=cf (aQ ps) k
def Od (d:Addr) (M M':Mem):Prop := ∀ a,a≠d->M' a=M a
theorem Od.refl {d:Addr} {M:Mem}:Od d M M:=fun _ _=>rfl
theorem Od.trans {d:Addr} {M M' M'':Mem} (h:Od d M M') (g:Od d M' M''):Od d M M'':=fun a n=>(g a n).trans (h a n)
theorem Od.upd {d:Addr} {M M':Mem} {o:O} (h:Od d M M'):Od d M (ae M' d o):=fun a n=>(aj n).trans (h a n)
noncomputable def xK:MSs := .cons (.put (.var 1) (.tup (.cons (.var 11) (.cons (.var 7) (.cons (.var 9) .nil)))) (.bin .add (.dget (.var 1) (.tup (.cons (.var 11) (.cons (.var 7) (.cons (.var 9) .nil)))) (.int 0)) (.bin .mul (.bin .mul (.var 8) (.var 10)) (.var 12)))) .nil
noncomputable def rg:MSs := .cons (.for (.tup (.cons (.name 11) (.cons (.name 12) .nil))) (.seq (.var 6)) xK) .nil
noncomputable def rh:MSs := .cons (.for (.tup (.cons (.name 9) (.cons (.name 10) .nil))) (.seq (.var 5)) rg) .nil
noncomputable abbrev bd (x:Int):Prop := -1000000000000<=x/\x<=1000000000000
theorem Cj {Φ:Phi} {v0 v2 O v4 U B G:Option D} {d po:Addr} {i a j b:Int} {zs:List (Int×Int)} {pre:List Tm} {M:Mem} {E:bb} (J:M po=some (.lst (zs.map pD))) (Y:po≠d) (hd:M d=some (.dct true ((aM pre).map kcD))) (hl:pre.length+zs.length<=10000000) (ha:bd a) (hb:bd b)  (hc:∀ z∈zs,bd z.2)
 (q:∀ M' B G,Od d M M'->M' d=some (.dct true ((aM (pre++bu i a j b zs)).map kcD))->E.nx [v0,some (.ref d),v2,O,v4,U,some (.ref po),some (.int i),some (.int a),some (.int j),some (.int b),B,G] M') :
 wSs Φ rg E [v0,some (.ref d),v2,O,v4,U,some (.ref po),some (.int i),some (.int a),some (.int j),some (.int b),B,G] M:=by
 unfold rg;walk_at "st";refine ⟨_,ad J, ?_⟩;refine b6 (f:=pD) (ys:=zs) (I:=fun l ρ M' => ∃ B G, ρ = [v0,some (.ref d),v2,O,v4,U,some (.ref po),some (.int i),some (.int a),some (.int j),some (.int b),B,G]/\Od d M M'/\M' d=some (.dct true ((aM (pre++bu i a j b l)).map kcD))) rfl ⟨_,_,rfl,Od.refl,by simpa [bu] using hd⟩ (fun l ρ M' ⟨_,_,_,g,_⟩=>ad ((g po Y).trans J)) ?_ ?_
 ·rintro l z r ρ M1 e ⟨B,G,rfl,g1,L⟩;refine ⟨_,rfl,fun F hF => ?_⟩;have CY:=aq e;have hz:=hc z (by rw [e];simp)
  have Z:=nA (pre++bu i a j b l);rw [DP,nC] at Z;unfold xK;rw [dB];walk_at "wp";refine ⟨⟨_,_,L⟩,by rw [h8];lia,_,_,L,rfl,wv (by lia),ju (by lia), ?_⟩
  have ek:D.tup [D.int z.1,D.int i,D.int j]=k3D (z.1,i,j):=rfl;rw [ek,pj];have eg:((Option.map (fun p:Tm=>D.int p.2) ((aM (pre++bu i a j b l)).find? fun p=>decide (p.1=(z.1,i,j)))).getD (.int 0)) = .int (((((aM (pre++bu i a j b l)).find? fun p=>decide (p.1=(z.1,i,j))).map (·.2)).getD 0)):=by
   cases (aM (pre++bu i a j b l)).find? fun p=>decide (p.1=(z.1,i,j)) <;> rfl
  rw [eg];walk_at "wp";refine ⟨by rw [h8];lia,wu L rfl (by rw [hG,h8];lia) ?_⟩
  rw [zt (eM _)];refine hF _ _ ⟨_,_,rfl,g1.upd, ?_⟩;rw [aa,show bu i a j b (l++[z])=bu i a j b l++[((z.1,i,j),a*b*z.2)] by simp [bu], <- Ft,dJ]
 ·rintro ρ M1 ⟨B,G,rfl,g1,L⟩;dsimp only;walk_at "wp";exact q _ _ _ g1 L
theorem Ck {Φ:Phi} {v0 v2 U v4 J G j B:Option D} {d pr po:Addr} {i a:Int} {ys zs:List (Int×Int)} {pre:List Tm} {M:Mem} {E:bb} (L:M pr=some (.lst (ys.map pD))) (Y:pr≠d) (Z:M po=some (.lst (zs.map pD))) (O:po≠d) (hd:M d=some (.dct true ((aM pre).map kcD))) (hl:pre.length+ys.length*zs.length<=10000000) (ha:bd a) (hb:∀ z∈ys,bd z.2) (hc:∀ z∈zs,bd z.2)
 (q:∀ M' J G j B,Od d M M'->M' d=some (.dct true ((aM (pre++bO i a ys zs)).map kcD))->E.nx [v0,some (.ref d),v2,U,v4,some (.ref pr),some (.ref po),some (.int i),some (.int a),J,G,j,B] M') :
 wSs Φ rh E [v0,some (.ref d),v2,U,v4,some (.ref pr),some (.ref po),some (.int i),some (.int a),J,G,j,B] M:=by
 unfold rh;walk_at "st";refine ⟨_,ad L, ?_⟩;refine b6 (f:=pD) (ys:=ys) (I:=fun l ρ M' => ∃ J G j B, ρ = [v0,some (.ref d),v2,U,v4,some (.ref pr),some (.ref po),some (.int i),some (.int a),J,G,j,B]/\Od d M M'/\M' d=some (.dct true ((aM (pre++bO i a l zs)).map kcD))) rfl ⟨_,_,_,_,rfl,Od.refl,by simpa [bO] using hd⟩ (fun l ρ M' ⟨_,_,_,_,_,g,_⟩=>ad ((g pr Y).trans L)) ?_ ?_
 ·rintro l y r ρ M1 e ⟨J,G,j,B,rfl,g1,hM⟩;refine ⟨_,rfl,fun F hF => ?_⟩;have CY:=aq e;have hy:=hb y (by rw [e];simp)
  have hm:(l.length+1)*zs.length<=ys.length*zs.length:=JB _ CY;rw [Gp] at hm;refine Cj ((g1 po O).trans Z) O hM (by rw [DP,nD];lia) ha hy hc fun M2 j B g2 h2=>hF _ _ ⟨_,_,_,_,rfl,g1.trans g2, ?_⟩
  rw [h2,show bO i a (l++[y]) zs=bO i a l zs++bu i a y.1 y.2 zs by simp [bO],Ft]
 ·rintro ρ M1 ⟨J,G,j,B,rfl,g1,hM⟩;dsimp only;walk_at "wp";exact q _ _ _ _ _ g1 hM
theorem Cl {Φ:Phi} {v0 v2 Z v4:Option D} {d pr po pl:Addr} {xs ys zs:List (Int×Int)} {pre:List Tm} {M:Mem} {E:bb} {L O J j B G:Option D} (CY:M pl=some (.lst (xs.map pD))) (CZ:pl≠d) (D0:M pr=some (.lst (ys.map pD))) (U:pr≠d) (D1:M po=some (.lst (zs.map pD))) (Y:po≠d) (hd:M d=some (.dct true ((aM pre).map kcD))) (hl:pre.length+xs.length*(ys.length*zs.length)<=10000000) (ha:∀ z∈xs,bd z.2) (hb:∀ z∈ys,bd z.2) (hc:∀ z∈zs,bd z.2)
 (q:∀ M' L O J j B G,Od d M M'->M' d=some (.dct true ((aM (pre++cm xs ys zs)).map kcD))->E.nx [v0,some (.ref d),v2,Z,v4,some (.ref pr),some (.ref po),L,O,J,j,B,G] M') :
 bn (lL (bF (aW 7) (bF (aW 8) eY))) (wSs Φ rh) (fun M=>av M (.ref pl)=some (xs.map pD)) E (xs.map pD) [v0,some (.ref d),v2,Z,v4,some (.ref pr),some (.ref po),L,O,J,j,B,G] M:=by
 refine b6 (f:=pD) (ys:=xs) (I:=fun l ρ M' => ∃ L O J j B G, ρ = [v0,some (.ref d),v2,Z,v4,some (.ref pr),some (.ref po),L,O,J,j,B,G]/\Od d M M'/\M' d=some (.dct true ((aM (pre++cm l ys zs)).map kcD))) rfl ⟨_,_,_,_,_,_,rfl,Od.refl,by simpa [cm] using hd⟩ (fun l ρ M' ⟨_,_,_,_,_,_,_,g,_⟩=>ad ((g pl CZ).trans CY)) ?_ ?_
 ·rintro l x r ρ M1 e ⟨L,O,J,j,B,G,rfl,g1,hM⟩;refine ⟨_,rfl,fun F hF => ?_⟩;have D2:=aq e;have hx:=ha x (by rw [e];simp)
  have hm:(l.length+1)*(ys.length*zs.length)<=xs.length*(ys.length*zs.length):=JB _ D2;rw [Gp] at hm;refine Ck ((g1 pr U).trans D0) U ((g1 po Y).trans D1) Y hM (by rw [DP,gZ];lia) hx hb hc fun M2 J j B G g2 h2=>hF _ _ ⟨_,_,_,_,_,_,rfl,g1.trans g2, ?_⟩
  rw [h2,show cm (l++[x]) ys zs=cm l ys zs++bO x.1 x.2 ys zs by simp [cm],Ft]
 ·rintro ρ M1 ⟨L,O,J,j,B,G,rfl,g1,hM⟩;exact q _ _ _ _ _ _ _ g1 hM
theorem nF {l:List Int} (h:Big l):∀ z∈nz l,bd z.2:=fun z j=>by
 unfold nz at j;have j:=(GA.mp j).1;unfold idx at j;obtain ⟨i,hi,e⟩:=LD.mp j;rw [<- e];exact h _ (IB hi)
theorem ug {ps:List Pr} {p:Pr}:aQ (ps++[p])=aQ ps++dO p:=by simp [aQ]
theorem zw {f fz:Nat} {xs:Str} {s:Stmt} (hf:T[f]? = some (nE xs s fz)) {n:Nat} (CY:Bm T (n - 1) fz) (hn : 1<=n) {x0 x1 x2:D} {p:Addr} {ps:List Pr} {M:Mem} {Q:QD} (hp:M p=some (.lst (ps.map prD))) (hl:(aQ ps).length<=10000000) (hF:∀ p∈ps,wG p)
 (q:∀ (L:List Tm) d M',xJ ps L->L.length<=10000000->Ge M M'->M d=none->M' d=some (.dct true (L.map kcD))->Q (.ref d) M'):phi T n f [.tup [x0,x1,x2, .ref p]] M Q:=by
 refine al (by lia) hf rfl (ρ := [some _,none,none,none,none,none,none,none,none,none,none,none,none]) rfl ?_
 unfold nE;walk_at "st";intro d hd;have g0:=Ge.new (o := .dct true []) hd;have d0:=aa (M:=M) (a:=d) (o := .dct true []);generalize ae M d (.dct true [])=M0 at g0 d0 ⊢;walk_at "st";refine ⟨_,rfl,_,ad (g0 _ _ hp), ?_⟩;have Db:p≠d:=fun z=>by rw [z,hd] at hp;cases hp
 refine b6 (f:=prD) (ys:=ps) (I:=fun l ρ M' => ∃ o2 o3 o4 o5 o6 o7 o8 o9 B G J, ρ = [some (.tup [x0,x1,x2, .ref p]),some (.ref d),o2,o3,o4,o5,o6,o7,o8,o9,B,G,J]/\Ge M M'/\M' d=some (.dct true ((aM (aQ l)).map kcD))) rfl ⟨_,_,_,_,_,_,_,_,_,_,_,rfl,g0,d0⟩ (fun l ρ M' ⟨_,_,_,_,_,_,_,_,_,_,_,_,g,_⟩=>ad (g _ _ hp)) ?_ ?_
 ·rintro l x r ρ M1 e ⟨o2,o3,o4,o5,o6,o7,o8,o9,B,G,J,rfl,g1,j⟩;refine ⟨_,rfl,fun F D3 => ?_⟩;have hx:=hF x (by rw [e];simp)
  have D4:(aQ l).length+(dO x).length<=10000000:=by
   have:aQ ps=aQ l++dO x++aQ r:=by rw [e];simp [aQ]
   rw [this,DP,DP] at hl;lia
  walk_at "st";refine CY (by have:=hx.l2;lia) fun pr O => ?_
  have D5:pr≠d:=fun z=>by rw [z,j] at O;cases O
  have gr:=Ge.new (o := .lst ((nz x.2.1).map pD)) O;have er:=aa (M:=M1) (a:=pr) (o := .lst ((nz x.2.1).map pD));have j:=gr _ _ j;have g2:=g1.trans gr;generalize ae M1 pr (.lst ((nz x.2.1).map pD))=M2 at er j g2 ⊢;clear g1 gr O;walk_at "st";refine CY (by have:=hx.l3;lia) fun po U => ?_
  have D6:po≠d:=fun z=>by rw [z,j] at U;cases U
  have go:=Ge.new (o := .lst ((nz x.2.2).map pD)) U;have eo:=aa (M:=M2) (a:=po) (o := .lst ((nz x.2.2).map pD));have j:=go _ _ j;have er:=go _ _ er;have g3:=g2.trans go;generalize ae M2 po (.lst ((nz x.2.2).map pD))=M3 at er eo j g3 ⊢;clear g2 go U;walk_at "st";refine CY (by have:=hx.l1;lia) fun pl Y => ?_
  have D7:pl≠d:=fun z=>by rw [z,j] at Y;cases Y
  have gl:=Ge.new (o := .lst ((nz x.1).map pD)) Y;have el:=aa (M:=M3) (a:=pl) (o := .lst ((nz x.1).map pD));have j:=gl _ _ j;have er:=gl _ _ er;have eo:=gl _ _ eo;have g4:=g3.trans gl;generalize ae M3 pl (.lst ((nz x.1).map pD))=M4 at er eo el j g4 ⊢;clear g3 gl Y;refine ⟨_,ad el, ?_⟩;refine Cl el D7 er D5 eo D6 j (by have:=gZ (xs:=nz x.1) (ys:=nz x.2.1) (zs:=nz x.2.2);unfold dO at D4;lia) (nF hx.b1) (nF hx.b2) (nF hx.b3) fun M5 o7 o8 o9 B G J g5 h5 => ?_
  walk_at "wp";refine D3 _ _ ⟨_,_,_,_,_,_,_,_,_,_,_,rfl,fun a o ea => ?_,by rw [h5,ug];rfl⟩
  by_cases had:a=d
  ·subst had;rw [hd] at ea;cases ea
  ·rw [g5 a had];exact g4 _ _ ea
 ·rintro ρ M1 ⟨o2,o3,o4,o5,o6,o7,o8,o9,B,G,J,rfl,g1,j⟩;dsimp only;walk_at "st";refine zo rfl j ?_;have fd:=aa (M:=M1) (a:=d) (o := .fdc ((aM (aQ ps)).map kcD));have g2:Ge M (ae M1 d (.fdc ((aM (aQ ps)).map kcD))):=g1.upd hd;have D8:=Ej (nA (aQ ps)) hl;have Z:=eM (aQ ps);have D0:=zv (aQ ps);generalize ae M1 d (.fdc ((aM (aQ ps)).map kcD))=M2 at fd g2 ⊢;generalize aM (aQ ps)=L at fd D8 Z D0;walk_at "wp";refine ⟨_,fd, ?_⟩;refine aH (f:=fun t:Tm=>k3D t.1) (ys:=L) (I:=fun l ρ M' acc=>(∃ o0, ρ = [o0,some (.ref d)])/\M'=M2/\acc=(l.filter fun t => !(t.2==0)).map fun t => .tup [k3D t.1, .int t.2]) (by rw [Fx];rfl) ⟨⟨_,rfl⟩,rfl,rfl⟩ (fun _ _ _ _ _=>trivial) ?_ ?_
  ·rintro l t r ρ M3 acc e ⟨⟨o0,rfl⟩,rfl,rfl⟩;refine ⟨_,rfl,fun N' D1 => ?_⟩;have Dc:=aq e;have ht:t∈L:=by rw [e];simp
   have D9:(l.filter fun t => !(t.2==0)).length<=l.length:=Ed _ _;walk_at "wp";refine u8 fd (r9 _) (gY Z ht) ?_;walk_at "wp"
   by_cases hz:t.2=0
   ·rw [if_neg (by simp [hz])]
    refine D1 _ _ _ ⟨⟨_,rfl⟩,rfl, ?_⟩;rw [E2,DS (by simp [hz])];simp
   ·rw [if_pos (by simp [hz])]
    refine u8 fd (r9 _) (gY Z ht) ?_;refine ⟨by rw [h8];lia,by rw [hG,h8];lia,D1 _ _ _ ⟨⟨_,rfl⟩,rfl, ?_⟩⟩
    rw [E2,DT (by simp [hz])];simp
  ·rintro ρ M3 acc ⟨⟨o0,rfl⟩,rfl,rfl⟩ p2 hp2;have D9:(L.filter fun t => !(t.2==0)).length<=L.length:=Ed _ _;have D2:((L.filter fun t => !(t.2==0)).map (·.1)).Nodup:=Z.sublist (List.Sublist.map _ List.filter_sublist);refine ⟨p2,(L.filter fun t => !(t.2==0)).map kcD,rfl,by rw [aa,Fx];rfl,fun kv Da => ?_,by rw [hG,h8];lia,fun pf CZ => ?_⟩
   ·obtain ⟨t,_,rfl⟩:=ET.mp Da;exact r9 _
   ·rw [wD D2];have g3:=g2.trans (Ge.new (o := .lst ((L.filter fun t => !(t.2==0)).map fun t=>D.tup [k3D t.1, .int t.2])) hp2);refine q (L.filter fun t => !(t.2==0)) pf _ ⟨D2,fun t ht => ?_,fun k=>by rw [Ci];exact D0 k⟩ (by lia) (g3.trans (Ge.new CZ)) ?_ aa
    ·have:=(GA.mp ht).2;simpa using this
    ·cases hz:M pf with
     | none=>rfl
     | some o=>rw [g3 _ _ hz] at CZ;cases CZ
end
section
open PySem PySem.Spec PyProof.Rows L2.Srt
noncomputable def S1 (zs:List (Int×Int)) (k:Int):Int:=(zs.map fun z=>if z.1=k then z.2 else 0).sum
theorem dj {z:Int×Int} {zs:List (Int×Int)} {k:Int}:S1 (z::zs) k=(if z.1=k then z.2 else 0)+S1 zs k:=by simp [S1]
theorem pw {α:Type} {F : α -> List Tm} {k:K3}:∀ l:List α,cf (l.flatMap F) k=(l.map fun x=>cf (F x) k).sum
 | [] => rfl
 | x::l=>by rw [Ib,cJ,pw l];simp
theorem pA {i a j b k i' j':Int}:∀ {zs:List (Int×Int)},cf (bu i a j b zs) (k,i',j')=if i=i'/\j=j' then a*b*S1 zs k else 0
 | [] => by simp [bu,dY,S1]
 | z::zs=>by
   rw [show bu i a j b (z::zs)=((z.1,i,j),a*b*z.2)::bu i a j b zs from rfl,bo,pA,dj]
   by_cases h:i=i'/\j=j'
   ·obtain ⟨rfl,rfl⟩:=h
    by_cases q:z.1=k
    ·subst q;simp [Int.mul_add]
    ·have : ¬ ((z.1,i,j)=(k,i,j)):=fun e=>q (congrArg (·.1) e);rw [if_neg this,if_pos ⟨rfl,rfl⟩,if_pos ⟨rfl,rfl⟩,if_neg q];simp
   ·have : ¬ ((z.1,i,j)=(k,i',j')):=fun e=>h ⟨congrArg (·.2.1) e,congrArg (·.2.2) e⟩;rw [if_neg this,if_neg h,if_neg h];rfl
theorem pB {i a k i' j':Int} {zs:List (Int×Int)}:∀ {ys:List (Int×Int)},cf (bO i a ys zs) (k,i',j')=if i=i' then a*S1 ys j'*S1 zs k else 0
 | [] => by simp [bO,dY,S1]
 | y::ys=>by
   rw [show bO i a (y::ys) zs=bu i a y.1 y.2 zs++bO i a ys zs from by simp [bO],cJ,pB,pA,dj]
   by_cases h:i=i'
   ·subst h
    by_cases j:y.1=j'
    ·subst j;simp [Int.mul_add,Int.add_mul]
    ·rw [if_neg (fun e=>j e.2),if_pos rfl,if_pos rfl,if_neg j];simp
   ·rw [if_neg (fun e=>h e.1),if_neg h,if_neg h];rfl
theorem pC {k i' j':Int} {ys zs:List (Int×Int)}:∀ {xs:List (Int×Int)},cf (cm xs ys zs) (k,i',j')=S1 xs i'*S1 ys j'*S1 zs k
 | [] => by simp [cm,dY,S1]
 | x::xs=>by
   rw [show cm (x::xs) ys zs=bO x.1 x.2 ys zs++cm xs ys zs from by simp [cm],cJ,pC,pB,dj]
   by_cases h:x.1=i'
   ·subst h;simp [Int.add_mul]
   ·rw [if_neg h,if_neg h];simp
noncomputable def gz (l:List Int) (i:Int):Int:=if i < 0 then 0 else l.getD i.toNat 0
theorem uh {l:List Int} {i:Int} (h:i < 0):gz l i=0:=if_pos h
theorem fH {i:Int}:gz [] i=0:=by unfold gz;split <;> simp
theorem bJ {x:Int} {l:List Int} {i:Int}:gz (x::l) i=if i=0 then x else gz l (i - 1):=by
 unfold gz
 by_cases h:i < 0
 ·rw [if_pos h,if_neg (by lia),if_pos (by lia)]
 ·rw [if_neg h]
  by_cases h0:i=0
  ·subst h0;simp
  ·rw [if_neg h0,if_neg (by lia)]
   obtain ⟨n,rfl⟩:∃ n:Nat,i=((n+1:Nat):Int):=⟨(i - 1).toNat,by lia⟩
   rw [show (((n+1:Nat):Int) - 1).toNat=n by lia,E5]
   simp
theorem ui {a b:List Int}:∀ {i:Int},gz (a++b) i=if i < a.length then gz a i else gz b (i - a.length):=by
 induction a with
 | nil =>
   intro i
   by_cases h:i < 0
   ·rw [if_pos (by simpa using h),J1,uh h,uh h]
   ·rw [if_neg (by simpa using h)];simp
 | cons x a ih =>
   intro i;rw [Lm,bJ,bJ,ih,E9]
   by_cases h0:i=0
   ·subst h0;rw [if_pos rfl,if_pos rfl,if_pos (by lia)]
   ·rw [if_neg h0,if_neg h0]
    by_cases h:i < ((a.length+1:Nat):Int)
    ·rw [if_pos (by lia),if_pos h]
    ·rw [if_neg (by lia),if_neg h]
     congr 1;lia
theorem Bn {l:List Int} {i:Int} (h:gz l i≠0) : 0<=i/\i < l.length:=by
 unfold gz at h
 by_cases hi:i < 0
 ·rw [if_pos hi] at h;exact absurd rfl h
 ·rw [if_neg hi] at h;refine ⟨by lia, ?_⟩
  by_cases hl:i.toNat < l.length
  ·lia
  ·rw [Er,List.getElem?_eq_none (by lia)] at h;exact absurd rfl h
theorem uj {a b:List (Int×Int)} {k:Int}:S1 (a++b) k=S1 a k+S1 b k:=by simp [S1]
theorem j8 {k:Int}:∀ zs:List (Int×Int),S1 (zs.filter fun q => !(q.2==0)) k=S1 zs k
 | [] => rfl
 | z::zs=>by
   rw [dj]
   by_cases h:z.2=0
   ·rw [DS (by simp [h]),j8 zs,h];simp
   ·rw [DT (by simp [h]),dj,j8 zs]
theorem nG (l:List Int) (k:Int):S1 (idx l) k=gz l k:=eL (P:=fun l=>S1 (idx l) k=gz l k) (by rw [fH];rfl) (fun l x ih=>by
 have e:idx (l++[x])=idx l++[(((l.length:Nat):Int),x)]:=by simp [idx,List.mapIdx_append]
 rw [e,uj,ih,ui,dj];simp only [S1,GW,List.sum_nil]
 by_cases h:k < l.length
 ·rw [if_pos h,if_neg (by lia)];lia
 ·rw [if_neg h,bJ,fH];have z:gz l k=0:=by
   cases Decidable.em (gz l k=0) with
   | inl h=>exact h
   | inr h'=>exact absurd (Bn h').2 h
  rw [z]
  by_cases e:(l.length:Int)=k
  ·rw [if_pos e,if_pos (by lia)];lia
  ·rw [if_neg e,if_neg (by lia)];rfl) l
theorem zx {p:Pr} {k i j:Int}:cf (dO p) (k,i,j)=gz p.1 i*gz p.2.1 j*gz p.2.2 k:=by
 unfold dO;rw [pC];unfold nz;rw [j8,j8,j8,nG,nG,nG]
noncomputable def Tn (ps:List Pr) (k i j:Int):Int:=(ps.map fun p=>gz p.1 i*gz p.2.1 j*gz p.2.2 k).sum
theorem pE {ps:List Pr} {k i j:Int}:cf (aQ ps) (k,i,j)=Tn ps k i j:=by
 unfold aQ Tn;rw [pw];congr 1;exact FI fun p _=>zx
theorem bZ {a b:List Pr} {k i j:Int}:Tn (a++b) k i j=Tn a k i j+Tn b k i j:=by simp [Tn]
theorem jx {p:Pr} {a:List Pr} {k i j:Int}:Tn (p::a) k i j=gz p.1 i*gz p.2.1 j*gz p.2.2 k+Tn a k i j:=by simp [Tn]
theorem fS {l:List Tm} (g:(l.map (·.1)).Nodup):l.Nodup:=by
 rw [List.nodup_iff_pairwise_ne] at g ⊢;rw [List.pairwise_map] at g;exact g.imp fun {a b} hab e=>hab (by rw [e])
theorem uk {a:List Tm} (q:(a.map (·.1)).Nodup) {k:K3} (h:cf a k≠0):(k,cf a k)∈a:=by
 by_cases e:∃ r∈a,r.1=k
 ·obtain ⟨r,j,rfl⟩:=e;rw [ny q j];exact j
 ·exact absurd (p9 fun r j z=>e ⟨r,j,z⟩) h
theorem zy {a b:List Tm} (q:(a.map (·.1)).Nodup) (z:(b.map (·.1)).Nodup) (za:∀ t∈a,t.2≠0) (zb:∀ t∈b,t.2≠0) (h:∀ k,cf a k=cf b k):a.Perm b:=by
 refine (List.perm_ext_iff_of_nodup (fS q) (fS z)).mpr fun t=>⟨fun j => ?_,fun j => ?_⟩
 ·have e:=ny q j;have:=uk z (k:=t.1) (by rw [<- h,e];exact za t j)
  rwa [<- h,e] at this
 ·have e:=ny z j;have:=uk q (k:=t.1) (by rw [h,e];exact zb t j)
  rwa [h,e] at this
theorem wH {a b:List Tm} (q:(b.map (·.1)).Nodup) (h:a.Perm b):eqD (a.map kcD) (b.map kcD)=true:=by
 unfold eqD;rw [e7];refine ⟨by simp [h.length_eq], ?_⟩
 rw [Gs];intro kv j;obtain ⟨t,z,rfl⟩:=ET.mp j;exact decide_eq_true (gY q (h.mem_iff.mp z))
end
section
open PySem PySem.Spec PyProof.Rows L2.Srt
noncomputable def nzf (l:List Int):List Int:=l.filter fun x => !(x==0)
noncomputable def bbl (l:List Int):Bool:=match nzf l with
 | [] => false
 | x::_=>decide (x < 0)
noncomputable def ngl (l:List Int):List Int:=l.map fun x => -x
noncomputable def adl (a b:List Int):List Int:=Gr (· + ·) a b
noncomputable def sg1 (p:Pr):Pr:=if bbl p.1=true then (ngl p.1,p.2.1,ngl p.2.2) else p
noncomputable def sg2 (p:Pr):Pr:=if bbl p.2.1=true then (p.1,ngl p.2.1,ngl p.2.2) else p
noncomputable def sgn (p:Pr):Pr:=sg2 (sg1 p)
noncomputable def nzb (l:List Int):Bool:=l.any fun x=>x != 0
noncomputable def okp (p:Pr):Bool:=nzb p.1&&nzb p.2.1&&nzb p.2.2
def al2 (p q:Pr):Prop:=(p.1=q.1/\p.2.1=q.2.1)∨(p.1=q.1/\p.2.2=q.2.2)∨(p.2.1=q.2.1/\p.2.2=q.2.2)
noncomputable def ptg (p q:Pr):Pr:=if p.1=q.1/\p.2.1=q.2.1 then (p.1,p.2.1,adl p.2.2 q.2.2) else if p.1=q.1/\p.2.2=q.2.2 then (p.1,adl p.2.1 q.2.1,p.2.2) else (adl p.1 q.1,p.2.1,p.2.2)
inductive Fw (ps:List Pr):Option (List Pr)->Prop
 | nought (A C:List Pr) (p:Pr) (e:ps=A++p::C) (hn:okp p=false) (hb:∀ q∈A,okp q=true):Fw ps (some (A++C))
 | alike (A B C:List Pr) (p q:Pr) (e:ps=A++p::(B++q::C)) (ha:al2 p q) (ok:∀ p∈ps,okp p=true)
    (hb:∀ (r s:Nat) p' q',ps[r]? = some p'->ps[s]? = some q'->r < s->al2 p' q'->A.length < r∨(A.length=r/\A.length+1+B.length<=s)):Fw ps (some (A++ptg p q::(B++C)))
 | none (ok:∀ p∈ps,okp p=true) (hb:∀ (r s:Nat) p' q',ps[r]? = some p'->ps[s]? = some q'->r < s -> ¬ al2 p' q'):Fw ps none
theorem rj {A B C:List Pr} {p q:Pr}:(A++p::(B++q::C))[A.length]? = some p:=by simp
theorem rl {A B C:List Pr} {p q:Pr}:(A++p::(B++q::C))[A.length+1+B.length]? = some q:=by
 rw [Fo (by lia),show A.length+1+B.length - A.length=B.length+1 by lia,GO,Fo (by lia)];simp
theorem oy {A C A' C':List Pr} {p p':Pr} (e:A++p::C=A'++p'::C') (B:okp p=false) (F:∀ q∈A,okp q=true) (j:okp p'=false) (z:∀ q∈A',okp q=true):A++C=A'++C':=by
 have G:A.length=A'.length:=by
  rcases KS A.length A'.length with h | h | h
  ·have h1:(A++p::C)[A.length]? = some p:=by simp
   rw [e,Eu h] at h1;rw [z p (DZ h1)] at B;cases B
  ·exact h
  ·have h1:(A'++p'::C')[A'.length]? = some p':=by simp
   rw [<- e,Eu h] at h1;rw [F p' (DZ h1)] at j;cases j
 obtain ⟨rfl,J⟩:=J8 e G
 cases J;rfl
theorem Fw.uniq {ps:List Pr} {a b:Option (List Pr)} (h:Fw ps a) (g:Fw ps b):a=b:=by
 cases h with
 | nought A C p e G J =>
   cases g with
   | nought A' C' p' e' z j=>rw [oy (e ▸ e') G J z j]
   | alike A' B' C' p' q' e' F ok' j=>rw [ok' p (by rw [e];simp)] at G;cases G
   | none ok' j=>rw [ok' p (by rw [e];simp)] at G;cases G
 | alike A B C p q e L ok J =>
   cases g with
   | nought A' C' p' e' z j=>rw [ok p' (by rw [e'];simp)] at z;cases z
   | alike A' B' C' p' q' e' F ok' j =>
     have h1:=J A'.length (A'.length+1+B'.length) p' q' (by rw [e'];exact rj) (by rw [e'];exact rl) (by lia) F
     have h2:=j A.length (A.length+1+B.length) p q (by rw [e];exact rj) (by rw [e];exact rl) (by lia) L
     have l1:A.length=A'.length:=by lia
     have l2:B.length=B'.length:=by lia
     rw [e] at e';obtain ⟨rfl,O⟩:=J8 e' l1;simp only [FZ] at O;obtain ⟨rfl,U⟩:=O;obtain ⟨rfl,Y⟩:=J8 U l2
     cases Y;rfl
   | none ok' j=>exact absurd L (j A.length (A.length+1+B.length) p q (by rw [e];exact rj) (by rw [e];exact rl) (by lia))
 | none ok J =>
   cases g with
   | nought A' C' p' e' z j=>rw [ok p' (by rw [e'];simp)] at z;cases z
   | alike A' B' C' p' q' e' F ok' j=>exact absurd F (J A'.length (A'.length+1+B'.length) p' q' (by rw [e'];exact rj) (by rw [e'];exact rl) (by lia))
   | none ok' j=>rfl
inductive Td:List Pr->List Pr->Prop
 | done {ps:List Pr} (h:Fw ps none):Td ps ps
 | step {ps qs rs:List Pr} (h:Fw ps (some qs)) (t:Td qs rs):Td ps rs
theorem Td.uniq {ps a b:List Pr} (h:Td ps a) (g:Td ps b):a=b:=by
 induction h with
 | done h =>
   cases g with
   | done _=>rfl
   | step h' _=>cases h.uniq h'
 | step h _ ih =>
   cases g with
   | done h'=>cases h.uniq h'
   | step h' t'=>cases h.uniq h';exact ih t'
theorem Fw.len {ps qs:List Pr} (h:Fw ps (some qs)):qs.length+1=ps.length:=by
 generalize j:some qs=z at h
 cases h with
 | nought A C p e _ _=>cases j;rw [e];simp;lia
 | alike A B C p q e _ _ _=>cases j;rw [e];simp;lia
 | none _ _=>cases j
def Lns (L0 L1 L2:Nat) (ps:List Pr):Prop := ∀ p∈ps,p.1.length=L0/\p.2.1.length=L1/\p.2.2.length=L2
theorem gi {a b:List Int} {L:Nat} (j:a.length=L) (q:b.length=L):(adl a b).length=L:=by simp [adl,j,q]
theorem zz {z B L2:Nat} {p q:Pr} (j:p.1.length=z/\p.2.1.length=B/\p.2.2.length=L2) (F:q.1.length=z/\q.2.1.length=B/\q.2.2.length=L2):(ptg p q).1.length=z/\(ptg p q).2.1.length=B/\(ptg p q).2.2.length=L2:=by
 unfold ptg
 split
 ·exact ⟨j.1,j.2.1,gi j.2.2 F.2.2⟩
 ·split
  ·exact ⟨j.1,gi j.2.1 F.2.1,j.2.2⟩
  ·exact ⟨gi j.1 F.1,j.2.1,j.2.2⟩
theorem Fw.all {P:Pr->Prop} {ps qs:List Pr} (h:Fw ps (some qs)) (j:∀ p∈ps,P p) (G:∀ p∈ps, ∀ q∈ps,okp p=true->okp q=true->P (ptg p q)):∀ p∈qs,P p:=by
 generalize F:some qs=z at h
 cases h with
 | nought A C p e _ _ =>
   cases F;intro x hx
   refine j x ?_;rw [e]
   rcases DW.mp hx with h | h
   ·simp [h]
   ·simp [h]
 | alike A B C p q e _ ok _ =>
   cases F;intro x hx
   have mp:p∈ps:=by rw [e];simp
   have mq:q∈ps:=by rw [e];simp
   simp only [DW,r4] at hx
   rcases hx with h | rfl | h | h
   ·exact j x (by rw [e];simp [h])
   ·exact G p mp q mq (ok p mp) (ok q mq)
   ·exact j x (by rw [e];simp [h])
   ·exact j x (by rw [e];simp [h])
 | none _ _=>cases F
theorem Fw.lns {z B L2:Nat} {ps qs:List Pr} (h:Fw ps (some qs)) (j:Lns z B L2 ps):Lns z B L2 qs:=h.all j fun p mp q mq _ _=>zz (j p mp) (j q mq)
theorem Td.lns {j q L2:Nat} {ps qs:List Pr} (h:Td ps qs) (z:Lns j q L2 ps):Lns j q L2 qs:=by
 induction h with
 | done _=>exact z
 | step h _ ih=>exact ih (h.lns z)
theorem Td.last {ps qs:List Pr} (h:Td ps qs):Fw qs none:=by
 induction h with
 | done h=>exact h
 | step _ _ ih=>exact ih
theorem Td.len {ps qs:List Pr} (h:Td ps qs):qs.length<=ps.length:=by
 induction h with
 | done _=>exact hQ _
 | step h _ ih=>have:=h.len;lia
theorem eN {x:Int} {l:List Int}:bbl (x::l)=if x=0 then bbl l else decide (x < 0):=by
 unfold bbl nzf
 by_cases h:x=0
 ·rw [DS (by simp [h]),if_pos h]
 ·rw [DT (by simp [h]),if_neg h]
theorem h9 {x:Int} {l:List Int}:nzb (x::l)=(decide (x≠0) || nzb l):=by
 unfold nzb;rw [ES];congr 1;by_cases h:x=0 <;> simp [h]
theorem jy:∀ {l:List Int},bbl l=true->bbl (ngl l)=false
 | [],h=>by cases h
 | x::l,h=>by
   rw [eN] at h;show bbl (-x::ngl l)=false;rw [eN]
   by_cases e:x=0
   ·rw [if_pos e] at h;rw [if_pos (by lia)];exact jy h
   ·rw [if_neg e] at h;rw [if_neg (by lia)]
    have:=of_decide_eq_true h;exact decide_eq_false (by lia)
theorem jz:∀ {a b:List Int},bbl a=false->nzb a=true->bbl b=false->nzb b=true->bbl (adl a b)=false
 | [],_,_,h,_,_=>by cases h
 | _::_,[],_,_,_,h=>by cases h
 | x::a,y::b,q,na,j,nb=>by
   rw [eN] at q j;rw [h9] at na nb;show bbl ((x+y)::adl a b)=false;rw [eN]
   by_cases e1:x=0
   ·rw [if_pos e1] at q
    by_cases e2:y=0
    ·rw [if_pos e2] at j;rw [if_pos (by lia)]
     exact jz q (by simpa [e1] using na) j (by simpa [e2] using nb)
    ·rw [if_neg e2] at j;have:=of_decide_eq_false j;rw [if_neg (by lia)];exact decide_eq_false (by lia)
   ·rw [if_neg e1] at q;have h1:=of_decide_eq_false q
    by_cases e2:y=0
    ·rw [if_neg (by lia)];exact decide_eq_false (by lia)
    ·rw [if_neg e2] at j;have h2:=of_decide_eq_false j;rw [if_neg (by lia)];exact decide_eq_false (by lia)
def Sgd (p:Pr):Prop:=bbl p.1=false/\bbl p.2.1=false
theorem zA {p:Pr} (h:Sgd p):sgn p=p:=by
 unfold sgn sg1;rw [if_neg (by rw [h.1];decide)]
 unfold sg2;rw [if_neg (by rw [h.2];decide)]
theorem zB (p:Pr):Sgd (sgn p):=by
 have h1:bbl (sg1 p).1=false:=by
  unfold sg1;split
  ·next h=>exact jy h
  ·next h=>simpa using h
 unfold sgn sg2
 split
 ·next h=>exact ⟨h1,jy h⟩
 ·next h=>exact ⟨h1,by simpa using h⟩
theorem zC {p q:Pr} (j:Sgd p) (z:Sgd q) (op:okp p=true) (oq:okp q=true):Sgd (ptg p q):=by
 simp only [okp,e7] at op oq;unfold ptg
 split
 ·exact j
 ·split
  ·exact ⟨j.1,jz j.2 op.1.2 z.2 oq.1.2⟩
  ·exact ⟨jz j.1 op.1.1 z.1 oq.1.1,j.2⟩
theorem Fw.sgd {ps qs:List Pr} (h:Fw ps (some qs)) (j:∀ p∈ps,Sgd p):∀ p∈qs,Sgd p:=h.all j fun p mp q mq op oq=>zC (j p mp) (j q mq) op oq
theorem pF {ps:List Pr} (h:∀ p∈ps,Sgd p):ps.map sgn=ps:=by
 induction ps with
 | nil=>rfl
 | cons p ps ih=>rw [DM,zA (h p (by simp)),ih fun q j=>h q (by simp [j])]
theorem pG {ps:List Pr}:∀ p∈ps.map sgn,Sgd p:=fun p h=>by
 obtain ⟨q,_,rfl⟩:=ET.mp h;exact zB q
theorem Td.sgd {ps qs:List Pr} (h:Td ps qs) (j:∀ p∈ps,Sgd p):∀ p∈qs,Sgd p:=by
 induction h with
 | done _=>exact j
 | step h _ ih=>exact ih (h.sgd j)
theorem Td.again {ps qs:List Pr} (h:Td (ps.map sgn) qs):Td (qs.map sgn) qs:=by
 rw [pF (h.sgd pG)];exact .done h.last
theorem zD {j q L2:Nat} {p:Pr} (h:p.1.length=j/\p.2.1.length=q/\p.2.2.length=L2):(sgn p).1.length=j/\(sgn p).2.1.length=q/\(sgn p).2.2.length=L2:=by
 unfold sgn sg2 sg1
 split <;> split <;> simp [ngl,h]
theorem pH {j z L2:Nat} {ps:List Pr} (h:Lns j z L2 ps):Lns j z L2 (ps.map sgn):=fun p B=>by
 obtain ⟨q,F,rfl⟩:=ET.mp B;exact zD (h q F)
theorem ul:∀ {l:List Int} {i:Int},gz (ngl l) i = -gz l i
 | [],i=>by rw [show ngl []=[] from rfl,fH];rfl
 | x::l,i=>by
   show gz (-x::ngl l) i=_;rw [bJ,bJ]
   split
   ·rfl
   ·exact ul
theorem j9:∀ {a b:List Int} {i:Int},a.length=b.length->gz (adl a b) i=gz a i+gz b i
 | [],[],i,_=>by rw [show adl [] []=[] from rfl,fH];rfl
 | x::a,y::b,i,h=>by
   show gz ((x+y)::adl a b) i=_;rw [bJ,bJ,bJ]
   split
   ·rfl
   ·exact j9 (by simpa using h)
 | [],_::_,_,h=>by simp at h
 | _::_,[],_,h=>by simp at h
theorem kf:∀ {l:List Int} {i:Int},nzb l=false->gz l i=0
 | [],i,_=>fH
 | x::l,i,h=>by
   rw [h9,JC] at h;have hx:x=0:=by simpa using h.1
   rw [bJ]
   split
   ·exact hx
   ·exact kf h.2
noncomputable def tv (p:Pr) (k i j:Int):Int:=gz p.1 i*gz p.2.1 j*gz p.2.2 k
theorem Bo {p:Pr} {k i j:Int}:tv (sgn p) k i j=tv p k i j:=by
 unfold sgn sg2 sg1 tv
 split <;> split <;> simp [ul] <;> grind
theorem pI {k i j:Int}:∀ {ps:List Pr},Tn (ps.map sgn) k i j=Tn ps k i j
 | [] => rfl
 | p::ps=>by rw [DM,jx,jx,pI];exact congrArg (· + _) Bo
theorem um {p:Pr} {k i j:Int} (h:okp p=false):tv p k i j=0:=by
 unfold okp at h;unfold tv;rw [Jd,Jd] at h
 rcases h with (h | h) | h <;> rw [kf h] <;> simp
theorem Bp {F G L2:Nat} {p q:Pr} {k i j:Int} (z:p.1.length=F/\p.2.1.length=G/\p.2.2.length=L2) (B:q.1.length=F/\q.2.1.length=G/\q.2.2.length=L2) (J:al2 p q):tv (ptg p q) k i j=tv p k i j+tv q k i j:=by
 unfold ptg tv
 split
 ·next h=>rw [j9 (z.2.2.trans B.2.2.symm),h.1,h.2];grind
 ·next h1 =>
  split
  ·next h=>rw [j9 (z.2.1.trans B.2.1.symm),h.1,h.2];grind
  ·next h2 =>
   have h:p.2.1=q.2.1/\p.2.2=q.2.2:=by
    rcases J with h | h | h
    ·exact absurd h h1
    ·exact absurd h h2
    ·exact h
   rw [j9 (z.1.trans B.1.symm),h.1,h.2];grind
theorem eO {p:Pr} {a:List Pr} {k i j:Int}:Tn (p::a) k i j=tv p k i j+Tn a k i j:=jx
theorem Fw.tn {J L L2:Nat} {ps qs:List Pr} {k i j:Int} (h:Fw ps (some qs)) (F:Lns J L L2 ps):Tn qs k i j=Tn ps k i j:=by
 generalize G:some qs=z at h
 cases h with
 | nought A C p e O _ =>
   cases G
   rw [e,bZ,bZ,eO,um O];lia
 | alike A B C p q e U _ _ =>
   cases G
   rw [e] at F;rw [e,bZ,bZ,eO,eO,bZ,bZ,eO,Bp (F p (by simp)) (F q (by simp)) U];lia
 | none _ _=>cases G
theorem Td.tn {z B L2:Nat} {ps qs:List Pr} {k i j:Int} (h:Td ps qs) (q:Lns z B L2 ps):Tn qs k i j=Tn ps k i j:=by
 induction h with
 | done _=>rfl
 | step h _ ih=>rw [ih (h.lns q),h.tn q]
def Bdd (B:Nat) (l:List Int):Prop := ∀ x∈l,x.natAbs<=B
def BdP (B:Nat) (p:Pr):Prop:=Bdd B p.1/\Bdd B p.2.1/\Bdd B p.2.2
theorem Bdd.le {B C:Nat} (h:B<=C) {l:List Int} (b:Bdd B l):Bdd C l:=fun x hx=>Ej (b x hx) h
theorem gj {B:Nat}:∀ {a b:List Int},Bdd B a->Bdd B b->Bdd (2*B) (adl a b)
 | [],_,_,_=>fun x h=>by simp [adl] at h
 | _::_,[],_,_=>fun x h=>by simp [adl] at h
 | x::a,y::b,F,G=>fun z j=>by
   rcases r4.mp (show z∈(x+y)::adl a b from j) with rfl | j
   ·have:=F x (by simp);have:=G y (by simp);lia
   ·exact gj (fun u q=>F u (by simp [q])) (fun u q=>G u (by simp [q])) z j
theorem bK {B:Nat} {l:List Int} (h:Bdd B l):Bdd B (ngl l):=fun x hx=>by
 obtain ⟨y,j,rfl⟩:=ET.mp hx;have:=h y j;lia
theorem zE {B:Nat} {p:Pr} (h:BdP B p):BdP B (sgn p):=by
 unfold sgn sg2 sg1
 split <;> split <;> first
  | exact h
  | exact ⟨bK h.1,h.2.1,bK h.2.2⟩
  | exact ⟨h.1,bK h.2.1,bK h.2.2⟩
  | exact ⟨bK h.1,bK h.2.1,bK (bK h.2.2)⟩
theorem BdP.le {B C:Nat} (h:B<=C) {p:Pr} (b:BdP B p):BdP C p:=⟨b.1.le h,b.2.1.le h,b.2.2.le h⟩
theorem zF {B:Nat} {p q:Pr} (j:BdP B p) (z:BdP B q):BdP (2*B) (ptg p q):=by
 have h2:B<=2*B:=by lia
 unfold ptg
 split
 ·exact ⟨j.1.le h2,j.2.1.le h2,gj j.2.2 z.2.2⟩
 ·split
  ·exact ⟨j.1.le h2,gj j.2.1 z.2.1,j.2.2.le h2⟩
  ·exact ⟨gj j.1 z.1,j.2.1.le h2,j.2.2.le h2⟩
theorem Fw.bdd {B:Nat} {ps qs:List Pr} (h:Fw ps (some qs)) (j:∀ p∈ps,BdP B p):∀ p∈qs,BdP (2*B) p:=h.all (fun p z=>(j p z).le (by lia)) fun p mp q mq _ _=>zF (j p mp) (j q mq)
theorem Td.bdd {ps qs:List Pr} (h:Td ps qs):∀ {B:Nat},(∀ p∈ps,BdP B p) -> ∀ p∈qs,BdP (2 ^ ps.length*B) p:=by
 induction h with
 | @done ps _=>exact fun {B} j p q=>(j p q).le (by have:=Nat.one_le_two_pow (n:=ps.length);exact IW _ (by lia))
 | step h _ ih =>
   intro B j p q;have:=ih (h.bdd j) p q;rw [<- h.len,Nat.pow_succ,Nat.mul_assoc];exact this
end
section
open PySem PySem.Spec PyProof.Rows L2.Srt
variable {T:List FD}
noncomputable def dL (s:Stmt):FD:=⟨"has_noughts",s,["product"],1,
 (.cons (.ret (.not (.blt .all (.cons (.comp [none] ["part"] (.last (.seq (.var 0)) (.name 0) .nil (.blt .any (.cons (.var 0) .nil)))) .nil))))
 .nil)⟩
theorem uo {l:List Int}:aC gN (l.map D.int)=some (l.map fun x=>x != 0):=by
 induction l with
 | nil=>rfl
 | cons x l ih=>rw [DM,aC,ih];rfl
theorem zG {l:List Int}:(l.map fun x=>x != 0).any id=nzb l:=by
 unfold nzb;rw [List.any_map];rfl
theorem oz {f:Nat} {s:Stmt} (hf:T[f]? = some (dL s)) {k:Nat} (F : 1<=k) {u:Pr} {M:Mem} {Q:QD} (q:∀ M',Ge M M'->Q (.bl (!okp u)) M'):phi T k f [prD u] M Q:=by
 refine al (by lia) hf rfl (ρ := [some _]) rfl ?_
 unfold dL prD;walk_at "st";refine aH (f:=fun w:List Int=>D.tup (w.map .int)) (ys := [u.1,u.2.1,u.2.2]) (I:=fun l ρ M' acc=>(∃ o0, ρ = [o0])/\M'=M/\acc=l.map fun w=>D.bl (nzb w)) rfl ⟨⟨_,rfl⟩,rfl,rfl⟩ (fun _ _ _ _ _=>by first | rfl | trivial) ?_ ?_
 ·rintro l w r ρ M1 acc e ⟨⟨o0,rfl⟩,rfl,rfl⟩;refine ⟨_,rfl,fun N j => ?_⟩;have z:l.length < 3:=aq e;walk_at "wp";refine ⟨_,_,_,rfl,rfl,uo, ?_⟩;rw [zG];exact ⟨by rw [hG,h8];lia,j _ _ _ ⟨⟨_,rfl⟩,rfl,by simp⟩⟩
 ·rintro ρ M1 acc ⟨⟨o0,rfl⟩,rfl,rfl⟩ p B;refine ⟨_,_,[nzb u.1,nzb u.2.1,nzb u.2.2],rfl,ad aa,rfl, ?_⟩;have e : [nzb u.1,nzb u.2.1,nzb u.2.2].all id=okp u:=by simp [okp,Bool.and_assoc]
  rw [e];exact ⟨_,rfl,q _ (Ge.new B)⟩
noncomputable def gm (s:Stmt):FD:=⟨"begins_below",s,["part", "some"],1,
 (.cons (.asg (.name 1) (.comp [none] ["x"] (.last (.seq (.var 0)) (.name 0) (.cons (.cmp .ne (.var 0) (.int 0)) .nil) (.var 0))))
 (.cons (.ret (.and (.cons (.cmp .gt (.blt .len (.cons (.var 1) .nil)) (.int 0)) (.cons (.cmp .lt (.ix (.var 1) (.int 0)) (.int 0)) .nil))))
 .nil))⟩
theorem zH {l:List Int}:(nzf l).length<=l.length:=Ed _ _
theorem nH {l:List Int} (G:l.length<=100000) {M:Mem} {N:NC} {chk:Mem->Prop} (z:chk M) {o0:Option D} (q:∀ ρ,N ρ M ((nzf l).map .int)) :
 aJ (aW 0) (aP [cb (wOp wNe (aI 0) (wC (.int 0)))] (bh (aI 0))) chk N (l.map .int) [o0] M []:=by
 refine aH (f:=D.int) (ys:=l) (I:=fun s ρ M' acc=>(∃ o0, ρ = [o0])/\M'=M/\acc=(nzf s).map .int) rfl ⟨⟨_,rfl⟩,rfl,rfl⟩ (fun _ _ _ _ h=>by rw [h.2.1];exact z) ?_ ?_
 ·rintro l' x r ρ M1 acc e ⟨⟨o0,rfl⟩,rfl,rfl⟩;refine ⟨_,rfl,fun N' j => ?_⟩;have B:=aq e;have F:=zH (l:=l');walk_at "wp"
  by_cases hz:x=0
  ·rw [if_neg (by simp [hz])]
   refine j _ _ _ ⟨⟨_,rfl⟩,rfl, ?_⟩;unfold nzf;rw [E2,DS (by simp [hz])];simp
  ·rw [if_pos (by simp [hz])]
   refine ⟨by rw [hG,h8];lia,j _ _ _ ⟨⟨_,rfl⟩,rfl, ?_⟩⟩
   unfold nzf;rw [E2,DT (by simp [hz])];simp
 ·rintro ρ M1 acc ⟨⟨o0,rfl⟩,rfl,rfl⟩;exact q _
theorem nI {f:Nat} {s:Stmt} (hf:T[f]? = some (gm s)) {k:Nat} (z : 1<=k) {l:List Int} (j:l.length<=100000) {M:Mem} {Q:QD} (q:∀ M',Ge M M'->Q (.bl (bbl l)) M'):phi T k f [.tup (l.map .int)] M Q:=by
 refine al (by lia) hf rfl (ρ := [some _,none]) rfl ?_
 unfold gm;walk_at "st";refine nH j (by first | rfl | trivial) fun ρ p hp => ?_
 walk_at "st";refine cu aa ?_;walk_at "wp";rw [hG]
 cases h:nzf l with
 | nil =>
   rw [if_neg (by simp)]
   have:bbl l=false:=by unfold bbl;rw [h]
   rw [<- this];have:=q _ (Ge.new (o := .lst ([].map .int)) hp);simpa [bbl,h] using this
 | cons x r =>
   rw [if_pos (by simp)]
   refine am aa (d := .int x) (au (k := 0) rfl) ?_;walk_at "wp";have:=q _ (Ge.new (o := .lst ((x::r).map .int)) hp);simpa [bbl,h] using this
noncomputable def dM (s:Stmt):FD:=⟨"negated",s,["part"],1,
 (.cons (.ret (.blt .tuple (.cons (.comp [none] ["x"] (.last (.seq (.var 0)) (.name 0) .nil (.neg (.var 0)))) .nil)))
 .nil)⟩
theorem hC {l:List Int} (F:l.length<=100000) {M:Mem} {N:NC} {chk:Mem->Prop} (z:chk M) {o0:Option D} (q:∀ ρ,N ρ M ((ngl l).map .int)) :
 aJ (aW 0) (bh (wUn jm (aI 0))) chk N (l.map .int) [o0] M []:=by
 refine aH (f:=D.int) (ys:=l) (I:=fun s ρ M' acc=>(∃ o0, ρ = [o0])/\M'=M/\acc=(ngl s).map .int) rfl ⟨⟨_,rfl⟩,rfl,rfl⟩ (fun _ _ _ _ h=>by rw [h.2.1];exact z) ?_ ?_
 ·rintro l' x r ρ M1 acc e ⟨⟨o0,rfl⟩,rfl,rfl⟩;refine ⟨_,rfl,fun N' j => ?_⟩;have B:=aq e;walk_at "wp";refine ⟨by simp [ngl,h8];lia,j _ _ _ ⟨⟨_,rfl⟩,rfl, ?_⟩⟩
  simp [ngl]
 ·rintro ρ M1 acc ⟨⟨o0,rfl⟩,rfl,rfl⟩;exact q _
theorem cY {f:Nat} {s:Stmt} (hf:T[f]? = some (dM s)) {k:Nat} (B : 1<=k) {l:List Int} (j:l.length<=100000) {M:Mem} {Q:QD} (q:∀ M',Ge M M'->Q (.tup ((ngl l).map .int)) M'):phi T k f [.tup (l.map .int)] M Q:=by
 refine al (by lia) hf rfl (ρ := [some _]) rfl ?_
 unfold dM;walk_at "st";refine hC j (by first | rfl | trivial) fun ρ p z => ?_
 exact ⟨_,_,rfl,ad aa,q _ (Ge.new z)⟩
noncomputable def dZ (s:Stmt):FD:=⟨"added",s,["one", "other"],2,
 (.cons (.ret (.blt .tuple (.cons (.comp [none,none] ["x", "y"] (.last (.zip (.var 0) (.var 1)) (.tup (.cons (.name 0) (.cons (.name 1) .nil))) .nil (.bin .add (.var 0) (.var 1)))) .nil)))
 .nil)⟩
theorem hJ {f:Nat} {s:Stmt} (hf:T[f]? = some (dZ s)) {k:Nat} (F : 1<=k) {a b:List Int} (G:a.length<=100000) {M:Mem} {Q:QD} (q:∀ M',Ge M M'->Q (.tup ((adl a b).map .int)) M'):phi T k f [.tup (a.map .int), .tup (b.map .int)] M Q:=by
 refine al (by lia) hf rfl (ρ := [some _,some _]) rfl ?_
 unfold dZ;walk_at "st";rw [wx];have J:(a.zip b).length<=a.length:=by simp;lia
 refine aH (f:=fun xy:Int×Int=>D.tup [.int xy.1, .int xy.2]) (ys:=a.zip b) (I:=fun s ρ M' acc=>(∃ o0 j, ρ = [o0,j])/\M'=M/\acc=(s.map fun xy=>xy.1+xy.2).map .int) rfl ⟨⟨_,_,rfl⟩,rfl,rfl⟩ (fun _ _ _ _ _=>trivial) ?_ ?_
 ·rintro l' x r ρ M1 acc e ⟨⟨o0,j,rfl⟩,rfl,rfl⟩;refine ⟨_,rfl,fun N' z => ?_⟩;have B:=aq e;walk_at "wp";refine ⟨by simp [h8];lia,z _ _ _ ⟨⟨_,_,rfl⟩,rfl, ?_⟩⟩
  simp
 ·rintro ρ M1 acc ⟨⟨o0,j,rfl⟩,rfl,rfl⟩ p hp;refine ⟨_,_,rfl,ad aa, ?_⟩;have e:(a.zip b).map (fun xy=>xy.1+xy.2)=adl a b:=by unfold adl;rw [ox]
  rw [e];exact q _ (Ge.new hp)
noncomputable def hV (s:Stmt) (fb fn:Nat):FD:=⟨"signed",s,["product", "l", "r", "o"],1,
 (.cons (.asg (.tup (.cons (.name 1) (.cons (.name 2) (.cons (.name 3) .nil)))) (.var 0))
 (.cons (.ite (.tru (.call fb (.cons (.var 1) .nil))) (.cons (.par 1 3 (.call fn (.cons (.var 1) .nil)) (.call fn (.cons (.var 3) .nil)))
 .nil) .nil)
 (.cons (.ite (.tru (.call fb (.cons (.var 2) .nil))) (.cons (.par 2 3 (.call fn (.cons (.var 2) .nil)) (.call fn (.cons (.var 3) .nil)))
 .nil) .nil)
 (.cons (.ret (.tup (.cons (.var 1) (.cons (.var 2) (.cons (.var 3) .nil)))))
 .nil))))⟩
def cv (B:Nat) (p:Pr):Prop:=p.1.length<=B/\p.2.1.length<=B/\p.2.2.length<=B
theorem uq {f fb fn:Nat} {s sb sn:Stmt} (hf:T[f]? = some (hV s fb fn)) (J:T[fb]? = some (gm sb)) (B:T[fn]? = some (dM sn)) {k:Nat} (Z : 2<=k) {p:Pr} (L:cv 100000 p) {M:Mem} {Q:QD} (q:∀ M',Ge M M'->Q (prD (sgn p)) M'):phi T k f [prD p] M Q:=by
 refine al (by lia) hf rfl (ρ := [some _,none,none,none]) rfl ?_
 unfold hV prD;obtain ⟨l,r,o⟩:=p;obtain ⟨h1,h2,F⟩:=L;dsimp only at h1 h2 F ⊢;walk_at "st";refine bV (I:=fun ρ M'=>Ge M M' /\ ρ = [some (.tup [.tup (l.map .int), .tup (r.map .int), .tup (o.map .int)]),some (.tup ((sg1 (l,r,o)).1.map .int)),some (.tup (r.map .int)),some (.tup ((sg1 (l,r,o)).2.2.map .int))]) (fun R j => ?_) ?_
 ·walk_at "wp";refine nI J (by lia) h1 fun O g1=>⟨_,rfl, ?_⟩
  unfold sg1 at j;dsimp only at j
  cases hz:bbl l with
  | false =>
    rw [if_neg (by decide)]
    walk_at "wp";rw [hz,if_neg (by decide)] at j
    exact j _ _ ⟨g1,rfl⟩
  | true =>
    rw [if_pos rfl];walk_at "st";rw [hz,if_pos rfl] at j;refine cY B (by lia) h1 fun M2 g2 => ?_
    refine cY B (by lia) F fun U g3 => ?_
    exact j _ _ ⟨g1.trans (g2.trans g3),rfl⟩
 rintro ρ O ⟨g1,rfl⟩;have z:(sg1 (l,r,o)).2.1=r:=by unfold sg1;split <;> rfl
 have G:(sg1 (l,r,o)).2.2.length<=100000:=by unfold sg1;split <;> simp [ngl,F]
 refine bV (I:=fun ρ M'=>Ge M M' /\ ρ = [some (.tup [.tup (l.map .int), .tup (r.map .int), .tup (o.map .int)]),some (.tup ((sgn (l,r,o)).1.map .int)),some (.tup ((sgn (l,r,o)).2.1.map .int)),some (.tup ((sgn (l,r,o)).2.2.map .int))]) (fun R j => ?_) ?_
 ·walk_at "wp";refine nI J (by lia) h2 fun M2 g2=>⟨_,rfl, ?_⟩
  unfold sgn sg2 at j;rw [z] at j
  cases hz:bbl r with
  | false =>
    rw [if_neg (by decide)]
    walk_at "wp";rw [hz,if_neg (by decide)] at j
    refine j _ _ ⟨g1.trans g2, ?_⟩;rw [z]
  | true =>
    rw [if_pos rfl];walk_at "st";rw [hz,if_pos rfl] at j;refine cY B (by lia) h2 fun U g3 => ?_
    refine cY B (by lia) G fun M4 Y => ?_
    exact j _ _ ⟨g1.trans (g2.trans (g3.trans Y)),rfl⟩
 rintro ρ M2 ⟨g2,rfl⟩;walk_at "st";exact ⟨by rw [h8];lia,q _ g2⟩
theorem cw {a b:List Int} {M:Mem} {Q:QD} (q:Q (.bl (decide (a=b))) M):wEq (.tup (a.map .int)) (.tup (b.map .int)) M Q:=by
 refine ⟨.tuple (a.map .int), .tuple (b.map .int),by simp [rb,bY],by simp [rb,bY], ?_⟩
 rw [Ep,L2.eqv_ints];exact q
noncomputable def cZ (s:Stmt) (fa:Nat):FD:=⟨"put_together",s,["one", "other", "l", "r", "o", "x", "y", "z"],2,
 (.cons (.asg (.tup (.cons (.tup (.cons (.name 2) (.cons (.name 3) (.cons (.name 4) .nil)))) (.cons (.tup (.cons (.name 5) (.cons (.name 6) (.cons (.name 7) .nil)))) .nil))) (.tup (.cons (.var 0) (.cons (.var 1) .nil))))
 (.cons (.ite (.and (.cons (.cmp .eq (.var 2) (.var 5)) (.cons (.cmp .eq (.var 3) (.var 6)) .nil))) (.cons (.ret (.tup (.cons (.var 2) (.cons (.var 3) (.cons (.call fa (.cons (.var 4) (.cons (.var 7) .nil))) .nil)))))
 .nil) .nil)
 (.cons (.ite (.and (.cons (.cmp .eq (.var 2) (.var 5)) (.cons (.cmp .eq (.var 4) (.var 7)) .nil))) (.cons (.ret (.tup (.cons (.var 2) (.cons (.call fa (.cons (.var 3) (.cons (.var 6) .nil))) (.cons (.var 4) .nil)))))
 .nil) .nil)
 (.cons (.ret (.tup (.cons (.call fa (.cons (.var 2) (.cons (.var 5) .nil))) (.cons (.var 3) (.cons (.var 4) .nil)))))
 .nil))))⟩
theorem oA {f fa:Nat} {s sa:Stmt} (hf:T[f]? = some (cZ s fa)) (G:T[fa]? = some (dZ sa)) {k:Nat} (Z : 2<=k) {p q:Pr} (O:cv 100000 p) {M:Mem} {Q:QD} (h:∀ M',Ge M M'->Q (prD (ptg p q)) M'):phi T k f [prD p,prD q] M Q:=by
 refine al (by lia) hf rfl (ρ := [some _,some _,none,none,none,none,none,none]) rfl ?_
 unfold cZ prD;obtain ⟨l,r,o⟩:=p;obtain ⟨x,y,z⟩:=q;obtain ⟨h1,h2,J⟩:=O;dsimp only at h1 h2 J ⊢;unfold ptg at h;dsimp only at h;walk_at "st";refine ⟨by rw [h8];lia, ?_⟩
 walk_at "st";refine cw ?_;have third : ¬ (l=x/\r=y) -> ¬ (l=x/\o=z)->wSs (phi T (k - 1)) (.cons (.ret (.tup (.cons (.call fa (.cons (.var 2) (.cons (.var 5) .nil))) (.cons (.var 3) (.cons (.var 4) .nil))))) .nil) { nx:=fun _ M'=>Q .non M',rt:=Q }
  [some (.tup [.tup (l.map .int), .tup (r.map .int), .tup (o.map .int)]),some (.tup [.tup (x.map .int), .tup (y.map .int), .tup (z.map .int)]),some (.tup (l.map .int)),some (.tup (r.map .int)),some (.tup (o.map .int)),some (.tup (x.map .int)),some (.tup (y.map .int)),some (.tup (z.map .int))] M:=by
  intro U Y;walk_at "st";refine hJ G (by lia) h1 fun L g1 => ?_
  walk_at "wp";rw [if_neg U,if_neg Y] at h;exact ⟨by rw [h8];lia,h _ g1⟩
 by_cases j:l=x
 ·rw [decide_eq_true j];walk_at "wp";refine cw ?_;walk_at "wp"
  by_cases B:r=y
  ·rw [if_pos B];walk_at "st";refine hJ G (by lia) J fun L g1 => ?_
   walk_at "wp";rw [if_pos ⟨j,B⟩] at h;exact ⟨by rw [h8];lia,h _ g1⟩
  ·rw [if_neg B];walk_at "st";refine cw ?_;rw [decide_eq_true j];walk_at "wp";refine cw ?_;walk_at "wp"
   by_cases F:o=z
   ·rw [if_pos F];walk_at "st";refine hJ G (by lia) h2 fun L g1 => ?_
    walk_at "wp";rw [if_neg (fun z=>B z.2),if_pos ⟨j,F⟩] at h;exact ⟨by rw [h8];lia,h _ g1⟩
   ·rw [if_neg F];exact third (fun z=>B z.2) (fun z=>F z.2)
 ·rw [decide_eq_false j];walk_at "wp";walk_at "st";refine cw ?_;rw [decide_eq_false j];walk_at "wp";exact third (fun z=>j z.1) (fun z=>j z.1)
end
section
open PySem PySem.Spec PyProof.Rows L2.Srt
variable {T:List FD}
noncomputable instance memNK (k:NK) (l:List NK):Decidable (k∈l):=decidable_of_iff (∃ x∈l,x=k) ⟨fun ⟨_,h,e⟩=>e ▸ h,fun h=>⟨k,h,rfl⟩⟩
noncomputable def kyA (p:Pr):NK := [.inl 0, .inr p.2.1, .inr p.2.2]
noncomputable def kyB (p:Pr):NK := [.inl 1, .inr p.1, .inr p.2.2]
noncomputable def kyC (p:Pr):NK := [.inl 2, .inr p.1, .inr p.2.1]
noncomputable def ky (p:Pr):List NK := [kyA p,kyB p,kyC p]
noncomputable def fi (k:NK):List Pr->Option Nat
 | [] => none
 | p::ps=>if k∈ky p then some 0 else (fi k ps).map (· + 1)
theorem e8 {k:NK} {p:Pr}:∀ {ps:List Pr},fi k (ps++[p])=match fi k ps with | some i=>some i | none=>if k∈ky p then some ps.length else none
 | [] => by simp [fi]
 | u::ps=>by
   show fi k (u::(ps++[p]))=_;unfold fi
   by_cases h:k∈ky u
   ·rw [if_pos h,if_pos h]
   ·rw [if_neg h,if_neg h,e8 (ps:=ps)]
    cases fi k ps with
    | some i=>rfl
    | none =>
      simp only [Option.map_none]
      by_cases h2:k∈ky p <;> simp [h2]
theorem jA {k:NK}:∀ {ps:List Pr} {i:Nat},fi k ps=some i -> ∃ p,ps[i]? = some p/\k∈ky p
 | [],i,h=>by cases h
 | u::ps,i,h=>by
   unfold fi at h
   by_cases c:k∈ky u
   ·rw [if_pos c] at h;cases h;exact ⟨u,rfl,c⟩
   ·rw [if_neg c] at h;obtain ⟨j,q,rfl⟩:=Fk.mp h;obtain ⟨p,h1,h2⟩:=jA q;exact ⟨p,by simpa using h1,h2⟩
theorem rn {k:NK} {p:Pr}:∀ {ps:List Pr} {r:Nat},ps[r]? = some p->k∈ky p -> ∃ i,i<=r/\fi k ps=some i
 | [],r,h,_=>by simp at h
 | u::ps,r,h,j=>by
   unfold fi
   by_cases c:k∈ky u
   ·rw [if_pos c];exact ⟨0,EN _,rfl⟩
   ·rw [if_neg c]
    cases r with
    | zero=>simp at h;subst h;exact absurd j c
    | succ r =>
      obtain ⟨i,h1,h2⟩:=rn (ps:=ps) (r:=r) (by simpa using h) j
      exact ⟨i+1,by lia,by rw [h2];rfl⟩
theorem ky_al {p q:Pr}:(∃ k,k∈ky p/\k∈ky q)↔al2 p q:=by
 constructor
 ·rintro ⟨k,h1,h2⟩;simp only [ky,r4,DY,or_false] at h1 h2;unfold al2
  rcases h1 with rfl | rfl | rfl
  ·rcases h2 with h | h | h
   ·simp only [kyA,FZ,JY,and_true,true_and] at h;exact .inr (.inr h)
   ·simp [kyA,kyB] at h
   ·simp [kyA,kyC] at h
  ·rcases h2 with h | h | h
   ·simp [kyA,kyB] at h
   ·simp only [kyB,FZ,JY,and_true,true_and] at h;exact .inr (.inl h)
   ·simp [kyB,kyC] at h
  ·rcases h2 with h | h | h
   ·simp [kyA,kyC] at h
   ·simp [kyB,kyC] at h
   ·simp only [kyC,FZ,JY,and_true,true_and] at h;exact .inl h
 ·rintro (⟨h1,h2⟩ | ⟨h1,h2⟩ | ⟨h1,h2⟩)
  ·exact ⟨kyC p,by simp [ky],by simp [ky,kyC,h1,h2]⟩
  ·exact ⟨kyB p,by simp [ky],by simp [ky,kyB,h1,h2]⟩
  ·exact ⟨kyA p,by simp [ky],by simp [ky,kyA,h1,h2]⟩
theorem Cm {kvs:List (NK×D)} {k k':NK} {v:D} (h:ng kvs k=none):ng (np kvs k v) k'=if k'=k then some v else ng kvs k':=by
 unfold np;rw [h];show ng (kvs++[(k,v)]) k'=_;unfold ng at h ⊢;rw [List.find?_append]
 by_cases e:k'=k
 ·subst e;have:kvs.find? (fun p=>decide (p.1=k'))=none:=by simpa using h
  rw [this];simp
 ·rw [if_neg e];have : ¬ k=k':=fun z=>e z.symm
  cases kvs.find? (fun p=>decide (p.1=k')) <;> simp [this]
theorem Bq {kvs:List (NK×D)} {k:NK} {v:D} (h:ng kvs k=none):(np kvs k v).length=kvs.length+1:=by
 unfold np;rw [h];simp
theorem dl {l:List Int} (h:l≠[]):fk (l.map D.int)=true:=by
 match l,h with
 | [_],_=>rfl
 | [_,_],_=>rfl
 | [_,_,_],_=>rfl
 | _::_::_::_::_,_=>rfl
def NeP (p:Pr):Prop:=p.1≠[]/\p.2.1≠[]/\p.2.2≠[]
theorem rp {p:Pr} (h:NeP p):∀ k∈ky p,okK k=true:=by
 intro k j;simp only [ky,r4,DY,or_false] at j
 rcases j with rfl | rfl | rfl
 ·simp only [okK,kyA,Ex,mD,dl h.2.1,dl h.2.2];rfl
 ·simp only [okK,kyB,Ex,mD,dl h.1,dl h.2.2];rfl
 ·simp only [okK,kyC,Ex,mD,dl h.1,dl h.2.1];rfl
structure FiI (ps:List Pr) (d:List NK) (kvs:List (NK×D)) (nss:List (List Int)):Prop where
 g:∀ k,ng kvs k=match fi k ps with | some i=>some (.int (i:Nat)) | none=>if k∈d then some (.int ps.length) else none
 n:∀ ns,ns∈nss↔(∃ (i s:Nat) (p:Pr) (k:NK),ns=[(i:Int),(s:Int)]/\ps[s]? = some p/\i < s/\k∈ky p/\fi k ps=some i) ∨ ∃ (i:Nat) (k:NK),ns=[(i:Int),(ps.length:Int)]/\k∈d/\fi k ps=some i
 l:kvs.length<=3*ps.length+d.length
 m:nss.length<=3*ps.length+d.length
theorem FiI.nil:FiI [] [] [] []:=⟨fun k=>by simp [ng,fi],fun ns=>by simp,by simp,by simp⟩
theorem Cn {k:NK} {ps:List Pr} {i:Nat} (h:fi k ps=some i):i < ps.length:=by
 obtain ⟨p,h1,_⟩:=jA h;exact (hD.mp h1).1
theorem FiI.next {ps:List Pr} {p:Pr} {kvs:List (NK×D)} {nss:List (List Int)} (h:FiI ps (ky p) kvs nss):FiI (ps++[p]) [] kvs nss where
 g:=fun k=>by
  rw [h.g k,e8]
  cases fi k ps with
  | some i=>rfl
  | none=>by_cases c:k∈ky p <;> simp [c]
 n:=fun ns=>by
  rw [h.n ns];constructor
  ·rintro (⟨i,s,q,k,e,z,F,G,B⟩ | ⟨i,k,e,z,F⟩)
   ·exact .inl ⟨i,s,q,k,e,by rw [Eu (hD.mp z).1];exact z,F,G,by rw [e8,B]⟩
   ·exact .inl ⟨i,ps.length,p,k,e,by simp,Cn F,z,by rw [e8,F]⟩
  ·rintro (⟨i,s,q,k,e,z,F,G,B⟩ | ⟨i,k,e,z,F⟩)
   ·have L:s < (ps++[p]).length:=(hD.mp z).1;rw [e8] at B;have O:fi k ps=some i:=by
     cases hz:fi k ps with
     | some j=>rw [hz] at B;exact B
     | none =>
       rw [hz] at B;dsimp only at B
       split at B
       ·cases B;simp at L;lia
       ·cases B
    by_cases c:s < ps.length
    ·rw [Eu c] at z;exact .inl ⟨i,s,q,k,e,z,F,G,O⟩
    ·have J:s=ps.length:=by simp at L;lia
     subst J;simp at z;subst z;exact .inr ⟨i,k,e,G,O⟩
   ·cases z
 l:=by have:=h.l;simp [ky] at this ⊢;lia
 m:=by have:=h.m;simp [ky] at this ⊢;lia
theorem FiI.old {ps:List Pr} {d:List NK} {kvs:List (NK×D)} {nss:List (List Int)} (h:FiI ps d kvs nss) {k:NK} {i:Nat} (e:fi k ps=some i):FiI ps (d++[k]) kvs (nss++[[(i:Int),(ps.length:Int)]]) where
 g:=fun k'=>by
  rw [h.g k']
  cases hz:fi k' ps with
  | some j=>rfl
  | none =>
    have : ¬ k'=k:=fun z=>by rw [z,e] at hz;cases hz
    simp [this]
 n:=fun ns=>by
  rw [DW,h.n ns];constructor
  ·rintro ((h1 | ⟨j,k',F,q,B⟩) | h1)
   ·exact .inl h1
   ·exact .inr ⟨j,k',F,by simp [q],B⟩
   ·simp at h1;exact .inr ⟨i,k,by simp [h1],by simp,e⟩
  ·rintro (h1 | ⟨j,k',F,q,B⟩)
   ·exact .inl (.inl h1)
   ·rcases DW.mp q with q | q
    ·exact .inl (.inr ⟨j,k',F,q,B⟩)
    ·simp at q;subst q;rw [e] at B;cases B;exact .inr (by simp [F])
 l:=by have:=h.l;simp;lia
 m:=by have:=h.m;simp;lia
theorem FiI.new {ps:List Pr} {d:List NK} {kvs:List (NK×D)} {nss:List (List Int)} (h:FiI ps d kvs nss) {k:NK} (e:fi k ps=none) (hd:k∉d):FiI ps (d++[k]) (np kvs k (.int (ps.length:Nat))) nss where
 g:=fun k'=>by
  have B:ng kvs k=none:=by rw [h.g k,e];simp [hd]
  rw [Cm B]
  by_cases c:k'=k
  ·subst c;rw [if_pos rfl,e];simp
  ·rw [if_neg c,h.g k']
   cases fi k' ps with
   | some j=>rfl
   | none=>simp [c]
 n:=fun ns=>by
  rw [h.n ns];constructor
  ·rintro (h1 | ⟨j,k',F,q,z⟩)
   ·exact .inl h1
   ·exact .inr ⟨j,k',F,by simp [q],z⟩
  ·rintro (h1 | ⟨j,k',F,q,z⟩)
   ·exact .inl h1
   ·rcases DW.mp q with q | q
    ·exact .inr ⟨j,k',F,q,z⟩
    ·simp at q;subst q;rw [e] at z;cases z
 l:=by
  have B:ng kvs k=none:=by rw [h.g k,e];simp [hd]
  have:=h.l;rw [Bq B];simp;lia
 m:=by have:=h.m;simp;lia
theorem wJ {p:Pr}:(ky p).Nodup:=by simp [ky,kyA,kyB,kyC]
noncomputable def gp (s:Stmt):FD:=⟨"first_alike",s,["products", "firsts", "pairs", "at", "l", "r", "o", "key"],1,
 (.cons (.par 1 2 .dnewN (.lst .nil))
 (.cons (.for (.tup (.cons (.name 3) (.cons (.tup (.cons (.name 4) (.cons (.name 5) (.cons (.name 6) .nil)))) .nil))) (.enum (.var 0)) (.cons (.for (.name 7) (.seq (.lst (.cons (.tup (.cons (.int 0) (.cons (.var 5) (.cons (.var 6) .nil)))) (.cons (.tup (.cons (.int 1) (.cons (.var 4) (.cons (.var 6) .nil)))) (.cons (.tup (.cons (.int 2) (.cons (.var 4) (.cons (.var 5) .nil)))) .nil))))) (.cons (.ite (.cmp .inN (.var 7) (.var 1)) (.cons (.drop (.meth .append (.var 2) (.tup (.cons (.ixN (.var 1) (.var 7)) (.cons (.var 3) .nil)))))
 .nil) (.cons (.putN (.var 1) (.var 7) (.var 3))
 .nil))
 .nil))
 .nil))
 (.cons (.ret (.minD (.var 2)))
 .nil)))⟩
noncomputable def enP (ps:List Pr):List (Nat×Pr):=ps.mapIdx fun i p=>(i,p)
noncomputable def enD (x:Nat×Pr):D := .tup [.int (x.1:Nat),prD x.2]
theorem nJ {ps:List Pr}:cW (ps.map prD)=(enP ps).map enD:=by
 unfold cW enP;apply H8;intro j;simp only [Fb,DL]
 cases ps[j]? <;> rfl
theorem kg {ps:List Pr} {l r:List (Nat×Pr)} {x:Nat×Pr} (e:enP ps=l++x::r):ps=l.map (·.2)++x.2::r.map (·.2)/\x.1=l.length:=by
 have h2:ps=(enP ps).map (·.2):=by
  unfold enP;apply H8;intro j;simp only [Fb,DL]
  cases ps[j]? <;> rfl
 have hx:(enP ps)[l.length]? = some x:=fE e;refine ⟨by rw [e] at h2;simpa using h2, ?_⟩
 unfold enP at hx;rw [Fb] at hx
 cases hz:ps[l.length]? with
 | none=>rw [hz] at hx;cases hx
 | some p=>rw [hz] at hx;cases hx;rfl
theorem zI {ps:List Pr}:(enP ps).map (·.2)=ps:=by
 unfold enP;apply H8;intro j;simp only [Fb,DL]
 cases ps[j]? <;> rfl
noncomputable def nsD (ns:List Int):D := .tup (ns.map .int)
theorem wK {f:Nat} {s:Stmt} (hf:T[f]? = some (gp s)) {k:Nat} (hk : 1<=k) {p0:Addr} {ps:List Pr} (D0:∀ p∈ps,NeP p) (hl:ps.length<=100000) {M:Mem} {Q:QD} (h0:M p0=some (.lst (ps.map prD)))
 (q0:∀ M',Ge M M'->(∀ (r s:Nat) p' q',ps[r]? = some p'->ps[s]? = some q'->r < s -> ¬ al2 p' q')->Q .non M')
 (q1:∀ (r s:Nat) p q M',Ge M M'->ps[r]? = some p->ps[s]? = some q->r < s->al2 p q->(∀ (r' s':Nat) p' q',ps[r']? = some p'->ps[s']? = some q'->r' < s'->al2 p' q'->r < r'∨(r=r'/\s<=s'))->Q (.tup [.int (r:Nat), .int (s:Nat)]) M'):phi T k f [.ref p0] M Q:=by
 refine al (by lia) hf rfl (ρ := [some _,none,none,none,none,none,none,none]) rfl ?_
 unfold gp;walk_at "st";intro a ha;refine ⟨by rw [h8];lia,fun b Y => ?_⟩
 have j:a≠b:=fun z=>by rw [<- z,aa] at Y;cases Y
 have D1:M b=none:=by rw [<- Y,aj (Ne.symm j)]
 have B:ae (ae M a (.dcn [])) b (.lst []) a=some (.dcn []):=by rw [aj j,aa]
 have G:ae (ae M a (.dcn [])) b (.lst []) b=some (.lst []):=aa;have m3:Ge M (ae (ae M a (.dcn [])) b (.lst [])):=(Ge.new ha).trans (Ge.new Y);generalize ae (ae M a (.dcn [])) b (.lst [])=M0 at B G m3;clear Y;walk_at "st";refine ⟨_,ad (m3 _ _ h0), ?_⟩;rw [nJ];refine b6 (f:=enD) (ys:=enP ps) (I:=fun l ρ M' => ∃ (o3 o4 o5 o6 J:Option D) (kvs:List (NK×D)) (nss:List (List Int)), ρ = [some (.ref p0),some (.ref a),some (.ref b),o3,o4,o5,o6,J]/\Ge M M'/\M' a=some (.dcn kvs)/\M' b=some (.lst (nss.map nsD))/\FiI (l.map (·.2)) [] kvs nss) rfl
  ⟨none,none,none,none,none,[],[],rfl,m3,B,G,FiI.nil⟩ ?_ ?_ ?_
 ·rintro l ρ M' ⟨_,_,_,_,_,_,_,rfl,g,_⟩;exact ad (g _ _ h0)
 ·rintro l x r ρ M1 e ⟨o3,o4,o5,o6,J,kvs,nss,rfl,g,n1,n2,fI⟩;obtain ⟨e1,e2⟩:=kg e;have hx:NeP x.2:=D0 x.2 (by rw [e1];simp)
  have hlen:(l.map (·.2)).length < ps.length:=by
   have:=congrArg Jj e1;simp at this ⊢;lia
  refine ⟨_,rfl,fun F hF => ?_⟩;walk_at "st";refine ⟨by rw [h8];lia,by rw [h8];lia,by rw [h8];lia,by rw [h8];lia,fun c Z => ?_⟩
  have gc:=Ge.new (o := .lst ((ky x.2).map kdN)) Z;refine ⟨_,ad aa, ?_⟩;have D2:c≠a:=fun z=>by rw [z,n1] at Z;cases Z
  have D3:c≠b:=fun z=>by rw [z,n2] at Z;cases Z
  refine b6 (f:=kdN) (ys:=ky x.2) (I:=fun d ρ M' => ∃ (J:Option D) (kvs:List (NK×D)) (nss:List (List Int)), ρ = [some (.ref p0),some (.ref a),some (.ref b),some (.int (x.1:Nat)),some (.tup (x.2.1.map .int)),some (.tup (x.2.2.1.map .int)),some (.tup (x.2.2.2.map .int)),J]/\Ge M M'/\M' c=some (.lst ((ky x.2).map kdN))/\M' a=some (.dcn kvs)/\M' b=some (.lst (nss.map nsD))/\FiI (l.map (·.2)) d kvs nss) rfl
   ⟨J,kvs,nss,rfl,g.trans gc,aa,gc _ _ n1,gc _ _ n2,fI⟩ ?_ ?_ ?_
  ·rintro d ρ M' ⟨_,_,_,rfl,_,m,_⟩;exact ad m
  ·rintro d y r' ρ M2 ey ⟨J,kvs,nss,rfl,g2,mc,B,G,fI⟩;have hy:y∈ky x.2:=by rw [ey];simp
   have hd:y∉d:=fun z=>by
    have CY:=wJ (p:=x.2);rw [ey,Ia] at CY;exact CY.2.2 y z y (by simp) rfl
   have Db:d.length<=3:=by
    have:=congrArg Jj ey;simp [ky] at this;lia
   refine ⟨_,rfl,fun F2 O => ?_⟩;walk_at "st";refine ⟨a,kvs,y,rfl,B,rfl,rp hx y hy, ?_⟩;walk_at "wp";have L:=fI.g y
   cases U:fi y (l.map (·.2)) with
   | some i =>
     rw [U] at L;dsimp only at L;rw [L,if_pos (by simp)]
     walk_at "st";refine ⟨⟨_,G⟩,a,kvs,y, .int (i:Nat),rfl,B,rfl,rp hx y hy,L, ?_⟩;refine ⟨by rw [h8];lia, ?_⟩
     refine ⟨b,_,_,rfl,rfl,G, ?_, ?_⟩
     ·have:=fI.m;rw [hG,h8];simp at this hlen;lia
     refine O _ _ ⟨_,kvs,nss++[[(i:Int),((l.map (·.2)).length:Int)]],rfl,fun u o eu => ?_, ?_, ?_, ?_,fI.old U⟩
     ·rw [aj (fun z=>by rw [z,D1] at eu;cases eu)];exact g2 _ _ eu
     ·rw [aj D3];exact mc
     ·rw [aj j];exact B
     ·rw [aa,F1,e2];simp [nsD]
   | none =>
     rw [U] at L;dsimp only at L;rw [if_neg hd] at L;rw [L,if_neg (by simp)]
     walk_at "st";refine ⟨a,kvs,y,rfl,B,rfl,rp hx y hy, ?_, ?_⟩
     ·have:=fI.l;rw [h8];simp at this hlen;lia
     have e3:((x.1:Nat):Int)=(((l.map (·.2)).length:Nat):Int):=by rw [e2];simp
     rw [e3] at O ⊢;refine O _ _ ⟨_,np kvs y (.int (l.map (·.2)).length),nss,rfl,fun u o eu => ?_, ?_,aa, ?_,fI.new U hd⟩
     ·rw [aj (fun z=>by rw [z,ha] at eu;cases eu)];exact g2 _ _ eu
     ·rw [aj D2];exact mc
     ·rw [aj (Ne.symm j)];exact G
  ·rintro ρ M2 ⟨J,kvs,nss,rfl,g2,mc,B,G,fI⟩;have:=fI.next;exact hF _ _ ⟨_,_,_,_,_,kvs,nss,rfl,g2,B,G,by simpa using this⟩
 ·rintro ρ M1 ⟨o3,o4,o5,o6,J,kvs,nss,rfl,g,n1,n2,fI⟩;rw [zI] at fI;walk_at "st";refine ⟨nss,n2,fun U=>q0 M1 g fun r s p' q' hr hs Dc D4 => ?_,fun ns D5 hle => ?_⟩
  ·obtain ⟨k,k1,k2⟩:=ky_al.mpr D4;obtain ⟨i,i1,i2⟩:=rn hr k1;have:=(fI.n [(i:Int),(s:Int)]).mpr (.inl ⟨i,s,q',k,rfl,hs,by lia,k2,i2⟩)
   rw [U] at this;cases this
  ·rcases (fI.n ns).mp D5 with ⟨i,s,q,k,rfl,hs,D6,hk,hi⟩ | ⟨_,_,_,h,_⟩
   ·obtain ⟨p,hp,D7⟩:=jA hi;refine q1 i s p q M1 g hp hs D6 (ky_al.mp ⟨k,D7,hk⟩) fun r' s' p' q' D8 D9 Da CZ => ?_;obtain ⟨k',k1,k2⟩:=ky_al.mpr CZ;obtain ⟨i',i1,i2⟩:=rn D8 k1;have:=hle _ ((fI.n [(i':Int),(s':Int)]).mpr (.inl ⟨i',s',q',k',rfl,D9,by lia,k2,i2⟩))
    rw [HT.lexLt_cons] at this
    by_cases c:(i':Int)=i
    ·rw [if_pos c,HT.lexLt_cons] at this
     by_cases c2:(s':Int)=s
     ·by_cases c3:i=r'
      ·exact .inr ⟨c3,by lia⟩
      ·exact .inl (by lia)
     ·rw [if_neg c2] at this;have:=of_decide_eq_false this
      by_cases c3:i=r'
      ·exact .inr ⟨c3,by lia⟩
      ·exact .inl (by lia)
    ·rw [if_neg c] at this;have:=of_decide_eq_false this;exact .inl (by lia)
   ·cases h
end
section
open PySem PySem.Spec PyProof.Rows L2.Srt
variable {T:List FD}
theorem cK {xs:List D} {n:Nat} (h:n<=xs.length):bc xs none (some (n:Int))=xs.take n:=by
 unfold bc;rw [HT.sIx_none,HT.sIx_nat,FX h];simp
theorem cL {xs:List D} {n:Nat} (h:n<=xs.length):bc xs (some (n:Int)) none=xs.drop n:=by
 unfold bc;rw [HT.sIx_none,HT.sIx_nat,FX h];exact H9 (by simp)
theorem ut {α:Type} {A C:List α} {p : α}:(A++p::C).take A.length=A:=by simp
theorem nK {α:Type} {A C:List α} {p : α}:(A++p::C).drop (A.length+1)=C:=by
 rw [show A++p::C=(A++[p])++C by simp,show A.length+1=(A++[p]).length by simp,List.drop_left]
theorem Co {α:Type} {A C:List α} {p x : α}:(A++p::C).set A.length x=A++x::C:=by
 rw [List.set_append_right _ _ (hQ _)];simp
theorem zJ {α:Type} {X Y W:List α} {x z : α}:(X++x::(Y++z::W)).eraseIdx (X.length+1+Y.length)=X++x::(Y++W):=by
 rw [show X++x::(Y++z::W)=(X++x::Y)++z::W by simp,List.eraseIdx_append_of_length_le (by simp;lia),show X.length+1+Y.length - (X++x::Y).length=0 by simp;lia];simp
noncomputable def jB (s:Stmt) (fn fa ft:Nat):FD:=⟨"one_fewer",s,["products", "empty", "pair", "r", "s", "made"],1,
 (.cons (.asg (.name 1) (.comp [none,none] ["at", "product"] (.last (.enum (.var 0)) (.tup (.cons (.name 0) (.cons (.name 1) .nil))) (.cons (.tru (.call fn (.cons (.var 1) .nil))) .nil) (.var 0))))
 (.cons (.ite (.tru (.var 1)) (.cons (.ret (.bin .add (.sl (.var 0) .none (.some (.ix (.var 1) (.int 0)))) (.sl (.var 0) (.some (.bin .add (.ix (.var 1) (.int 0)) (.int 1))) .none)))
 .nil) .nil)
 (.cons (.asg (.name 2) (.call fa (.cons (.var 0) .nil)))
 (.cons (.ite (.cmp .is (.var 2) .non) (.cons (.ret .non)
 .nil) .nil)
 (.cons (.asg (.tup (.cons (.name 3) (.cons (.name 4) .nil))) (.var 2))
 (.cons (.asg (.name 5) (.blt .list (.cons (.var 0) .nil)))
 (.cons (.put (.var 5) (.var 3) (.call ft (.cons (.ix (.var 0) (.var 3)) (.cons (.ix (.var 0) (.var 4)) .nil))))
 (.cons (.dell (.var 5) (.var 4))
 (.cons (.ret (.var 5))
 .nil)))))))))⟩
noncomputable def emp (l:List (Nat×Pr)):List Int:=(l.filter fun x => !okp x.2).map fun x=>(x.1:Int)
theorem nM {ps:List Pr} {r s:Nat} {p q:Pr} (j:ps[r]? = some p) (z:ps[s]? = some q) (h:r < s):∃ A B C,ps=A++p::(B++q::C)/\A.length=r/\A.length+1+B.length=s:=by
 have lr:=(hD.mp j).1;have ls:=(hD.mp z).1;refine ⟨ps.take r,(ps.drop (r+1)).take (s - r - 1),ps.drop (s+1), ?_,by simp;lia,by simp;lia⟩
 have F:ps=ps.take r++ps.drop r:=(G8 r ps).symm;have G:ps.drop r=p::ps.drop (r+1):=by
  rw [EI lr];congr 1;exact (hD.mp j).2
 have J:ps.drop (r+1)=(ps.drop (r+1)).take (s - r - 1)++ps.drop s:=by
  have:=(G8 (s - r - 1) (ps.drop (r+1))).symm;rw [List.drop_drop,show r+1+(s - r - 1)=s by lia] at this
  exact this
 have L:ps.drop s=q::ps.drop (s+1):=by
  rw [EI ls];congr 1;exact (hD.mp z).2
 rw [<- L, <- J, <- G];exact F
theorem enP_mem {ps:List Pr} {i:Nat} {p:Pr}:(i,p)∈enP ps↔ps[i]? = some p:=by
 unfold enP;rw [LD];constructor
 ·rintro ⟨j,q,e⟩
  cases e
  exact hh q
 ·intro h;exact ⟨i,(hD.mp h).1,by rw [(hD.mp h).2]⟩
theorem zK {ps:List Pr}:(enP ps).length=ps.length:=by simp [enP]
theorem wL {ps:List Pr} {x:Int} {r:List Int} (h:emp (enP ps)=x::r):∃ A C p,ps=A++p::C/\okp p=false/\(∀ q∈A,okp q=true)/\x=(A.length:Nat):=by
 unfold emp at h;obtain ⟨y,l,j,B,U⟩:=List.map_eq_cons_iff.mp h;rw [List.filter_eq_cons_iff] at j;obtain ⟨l1,l2,F,G,J,Y⟩:=j;obtain ⟨h1,h2⟩:=kg F;refine ⟨l1.map (·.2),l2.map (·.2),y.2,h1,by simpa using J,fun q L => ?_,by rw [<- B,h2];simp⟩
 obtain ⟨z,O,rfl⟩:=ET.mp L;simpa using G z O
theorem zL {ps:List Pr} (h:emp (enP ps)=[]):∀ p∈ps,okp p=true:=fun p j=>by
 unfold emp at h;rw [List.map_eq_nil_iff,List.filter_eq_nil_iff] at h;obtain ⟨i,hi⟩:=Jy j;simpa using h (i,p) (enP_mem.mpr hi)
theorem wM {f fn fa ft fd:Nat} {s sn sa st' sd:Stmt} (hf:T[f]? = some (jB s fn fa ft)) (CY:T[fn]? = some (dL sn)) (CZ:T[fa]? = some (gp sa)) (D0:T[ft]? = some (cZ st' fd)) (D1:T[fd]? = some (dZ sd)) {k:Nat} (hk : 3<=k) {p0:Addr} {ps:List Pr} (D2:∀ p∈ps,NeP p) (D3:∀ p∈ps,cv 100000 p) (hl:ps.length<=100000) {M:Mem} {Q:QD} (h0:M p0=some (.lst (ps.map prD)))
 (q0:∀ M',Ge M M'->Fw ps none->Q .non M')
 (q1:∀ qs pr M',Fw ps (some qs)->Ge M M'->M pr=none->M' pr=some (.lst (qs.map prD))->Q (.ref pr) M'):phi T k f [.ref p0] M Q:=by
 refine al (by lia) hf rfl (ρ := [some _,none,none,none,none,none]) rfl ?_
 unfold jB;walk_at "st";refine ⟨_,ad h0, ?_⟩;rw [nJ];refine aH (f:=enD) (ys:=enP ps) (I:=fun l ρ M' acc=>(∃ o0 o1, ρ = [o0,o1])/\Ge M M'/\acc=(emp l).map .int) rfl ⟨⟨_,_,rfl⟩,Ge.refl,rfl⟩ (fun _ _ _ _ h=>ad (h.2.1 _ _ h0)) ?_ ?_
 ·rintro l x r ρ M1 acc e ⟨⟨o0,o1,rfl⟩,g1,rfl⟩;refine ⟨_,rfl,fun N' F => ?_⟩;have D4:=aq e;rw [zK] at D4;have D8:(emp l).length<=l.length:=by unfold emp;rw [hG];exact Ed _ _
  walk_at "wp";refine oz CY (by lia) fun M2 g2=>⟨_,rfl, ?_⟩
  cases hz:okp x.2 with
  | true =>
    simp only [G1,Ec,if_false];refine F _ _ _ ⟨⟨_,_,rfl⟩,g1.trans g2, ?_⟩;unfold emp;rw [E2,DS (by simp [hz])];simp
  | false =>
    simp only [Bool.not_false,if_true];refine ⟨by rw [hG,h8];lia,F _ _ _ ⟨⟨_,_,rfl⟩,g1.trans g2, ?_⟩⟩
    unfold emp;rw [E2,DT (by simp [hz])];simp
 rintro ρ M1 acc ⟨⟨o0,o1,rfl⟩,g1,rfl⟩ pe hpe;have g2:=g1.trans (Ge.new (o := .lst ((emp (enP ps)).map .int)) hpe);have me:ae M1 pe (.lst ((emp (enP ps)).map .int)) pe=some (.lst ((emp (enP ps)).map .int)):=aa;generalize ae M1 pe (.lst ((emp (enP ps)).map .int))=M2 at g2 me;clear hpe;walk_at "st"
 cases hz:emp (enP ps) with
 | cons x r =>
   rw [hz] at me;refine ⟨true,by simp [lF,me], ?_⟩
   rw [if_pos rfl];obtain ⟨A,C,p,e,hp,hA,rfl⟩:=wL hz;have hle:A.length+1<=(ps.map prD).length:=by rw [e];simp
   walk_at "st";refine am me (d := .int (A.length:Nat)) (au (k := 0) rfl) ?_;refine ⟨_,rfl,_,g2 _ _ h0,fun pa G => ?_⟩;have ga:=g2.trans (Ge.new (o := .lst (bc (ps.map prD) none (some (A.length:Nat)))) G);refine am (Ge.new G _ _ me) (d := .int (A.length:Nat)) (au (k := 0) rfl) ?_;walk_at "wp";refine ⟨_,ga _ _ h0,fun pb J => ?_⟩;have L:((A.length:Nat):Int)+1=((A.length+1:Nat):Int):=by lia
   rw [L];have gb:=ga.trans (Ge.new (o := .lst (bc (ps.map prD) (some ((A.length+1:Nat):Int)) none)) J);refine ⟨_,_,Ge.new J _ _ aa,aa, ?_,fun pc O => ?_⟩
   ·rw [cK (by lia),cL (by lia),h8];simp;lia
   rw [cK (by lia),cL (by lia)] at *
   have gc:=gb.trans (Ge.new (o := .lst ((ps.map prD).take A.length++(ps.map prD).drop (A.length+1))) O);refine q1 (A++C) pc _ (.nought A C p e hp hA) gc ?_ ?_
   ·cases hz:M pc with
    | none=>rfl
    | some o=>have:=gb _ _ hz;rw [O] at this;cases this
   ·rw [aa,e];have:(((A++p::C).map prD).take A.length++((A++p::C).map prD).drop (A.length+1))=(A++C).map prD:=by
     rw [<- Ik, <- Il, <- F1];rw [ut,nK]
    rw [this]
 | nil =>
   rw [hz] at me;refine ⟨false,by simp [lF,me], ?_⟩
   rw [if_neg (by decide)]
   have hok:=zL hz;walk_at "st";refine wK CZ (by lia) D2 hl (g2 _ _ h0) (fun M3 g3 D5 => ?_) fun r s p q M3 g3 Z L D6 D7 hle => ?_
   ·walk_at "st";refine ⟨_,rfl,_,rfl, ?_⟩;rw [if_pos rfl];walk_at "st";exact q0 _ (g2.trans g3) (.none hok D5)
   ·walk_at "st";refine ⟨_,rfl,_,rfl, ?_⟩;rw [if_neg (by simp)]
    walk_at "st";have g3:=g2.trans g3;walk_at "st";refine ⟨_,_,rfl,ad (g3 _ _ h0),fun pm U => ?_⟩;have g4:=g3.trans (Ge.new (o := .lst (ps.map prD)) U);have mm:ae M3 pm (.lst (ps.map prD)) pm=some (.lst (ps.map prD)):=aa;generalize ae M3 pm (.lst (ps.map prD))=M4 at g4 mm;have Y:M pm=none:=by
     cases hz:M pm with
     | none=>rfl
     | some o=>have:=g3 _ _ hz;rw [U] at this;cases this
    walk_at "st";refine am (g4 _ _ h0) (d:=prD p) (au (by rw [DL,Z];rfl)) ?_
    refine am (g4 _ _ h0) (d:=prD q) (au (by rw [DL,L];rfl)) ?_
    refine oA D0 D1 (by lia) (D3 p (DZ Z)) fun M5 g5 => ?_
    have lr:=(hD.mp Z).1;have ls:=(hD.mp L).1;refine b5 (g5 _ _ mm) (j:=r) ?_ ?_
    ·unfold ixN;rw [if_pos (by lia),if_pos (by simp;lia)];rfl
    walk_at "st";refine ⟨_,aa,s,rfl,by simp;lia,by lia, ?_⟩
    walk_at "st";obtain ⟨A,B,C,e,l1,l2⟩:=nM Z L D6;refine q1 (A++ptg p q::(B++C)) pm _ (.alike A B C p q e D7 hok fun r' s' p' q' h1 h2 h3 h4 => ?_) (fun u o eu => ?_) Y ?_
    ·have:=hle r' s' p' q' h1 h2 h3 h4;rw [l2,l1];exact this
    ·have hu:u≠pm:=fun z=>by rw [z,Y] at eu;cases eu
     rw [aj hu,aj hu];exact g5 _ _ (g4 _ _ eu)
    ·rw [aa];have:(((ps.map prD).set r (prD (ptg p q))).eraseIdx s)=(A++ptg p q::(B++C)).map prD:=by
      rw [e, <- l2, <- l1];have e1:A.length=(A.map prD).length:=by simp
      have e2:B.length=(B.map prD).length:=by simp
      rw [F1,DM,F1,DM,e1,e2,Co,zJ];simp
     rw [this]
noncomputable def hW (s:Stmt) (fs fo:Nat):FD:=⟨"tidied",s,["scheme", "left", "right", "many", "products", "tidy", "fewer"],1,
 (.cons (.asg (.tup (.cons (.name 1) (.cons (.name 2) (.cons (.name 3) (.cons (.name 4) .nil))))) (.var 0))
 (.cons (.asg (.name 5) (.comp [none] ["product"] (.last (.seq (.var 4)) (.name 0) .nil (.call fs (.cons (.var 0) .nil)))))
 (.cons (.asg (.name 6) (.call fo (.cons (.var 5) .nil)))
 (.cons (.while (.cmp .isn (.var 6) .non) (.cons (.asg (.name 5) (.var 6))
 (.cons (.asg (.name 6) (.call fo (.cons (.var 5) .nil)))
 .nil)))
 (.cons (.ret (.tup (.cons (.var 1) (.cons (.var 2) (.cons (.var 3) (.cons (.var 5) .nil))))))
 .nil)))))⟩
structure Tdy (L0 L1 L2:Nat) (ps:List Pr):Prop where
 l:Lns L0 L1 L2 ps
 h0 : 1<=L0/\L0<=1000
 h1 : 1<=L1/\L1<=1000
 h2 : 1<=L2/\L2<=1000
 n:ps.length<=10000
theorem Tdy.ne {j q L2:Nat} {ps:List Pr} (h:Tdy j q L2 ps):∀ p∈ps,NeP p:=fun p B=>by
 obtain ⟨l0,l1,l2⟩:=h.l p B;have a:=h.h0;have b:=h.h1;have c:=h.h2;refine ⟨fun z => ?_,fun z => ?_,fun z => ?_⟩
 ·rw [z] at l0;simp at l0;lia
 ·rw [z] at l1;simp at l1;lia
 ·rw [z] at l2;simp at l2;lia
theorem Tdy.lp {j q L2:Nat} {ps:List Pr} (h:Tdy j q L2 ps):∀ p∈ps,cv 100000 p:=fun p z=>by
 obtain ⟨l0,l1,l2⟩:=h.l p z;have a:=h.h0;have b:=h.h1;have c:=h.h2;exact ⟨by lia,by lia,by lia⟩
theorem Tdy.fw {j q L2:Nat} {ps qs:List Pr} (h:Tdy j q L2 ps) (w:Fw ps (some qs)):Tdy j q L2 qs:=⟨w.lns h.l,h.h0,h.h1,h.h2,by have:=w.len;have:=h.n;lia⟩
theorem Tdy.td {j q L2:Nat} {ps qs:List Pr} (h:Tdy j q L2 ps) (w:Td ps qs):Tdy j q L2 qs:=⟨w.lns h.l,h.h0,h.h1,h.h2,by have:=w.len;have:=h.n;lia⟩
theorem Tdy.sg {j q L2:Nat} {ps:List Pr} (h:Tdy j q L2 ps):Tdy j q L2 (ps.map sgn):=⟨pH h.l,h.h0,h.h1,h.h2,by rw [hG];exact h.n⟩
def e9 (T:List FD) (n f:Nat):Prop := ∀ {L0 L1 L2:Nat} {p0:Addr} {ps:List Pr} {M:Mem} {Q:QD},Tdy L0 L1 L2 ps->M p0=some (.lst (ps.map prD))->(∀ M',Ge M M'->Fw ps none->Q .non M') ->
 (∀ qs pr M',Fw ps (some qs)->Ge M M'->M pr=none->M' pr=some (.lst (qs.map prD))->Q (.ref pr) M')->phi T n f [.ref p0] M Q
def cy (T:List FD) (n f:Nat):Prop := ∀ {p:Pr} {M:Mem} {Q:QD},cv 100000 p->(∀ M',Ge M M'->Q (prD (sgn p)) M')->phi T n f [prD p] M Q
theorem uu {f fs fo:Nat} {s:Stmt} (hf:T[f]? = some (hW s fs fo)) {n:Nat} (hs:cy T (n - 1) fs) (ho:e9 T (n - 1) fo) (hn : 1<=n) {L0 L1 L2:Nat} {x y z:D} {B:Addr} {ps:List Pr} (G:Tdy L0 L1 L2 ps) {M:Mem} {Q:QD} (h0:M B=some (.lst (ps.map prD)))
 (q:∀ qs pr M',Td (ps.map sgn) qs->Ge M M'->M pr=none->M' pr=some (.lst (qs.map prD))->Q (.tup [x,y,z, .ref pr]) M'):phi T n f [.tup [x,y,z, .ref B]] M Q:=by
 refine al hn hf rfl (ρ := [some _,none,none,none,none,none,none]) rfl ?_;unfold hW;walk_at "st";walk_at "st";refine ⟨_,ad h0, ?_⟩;refine aH (f:=prD) (ys:=ps) (I:=fun l ρ M' acc=>(∃ o0, ρ = [o0])/\Ge M M'/\acc=(l.map sgn).map prD) rfl ⟨⟨_,rfl⟩,Ge.refl,rfl⟩ (fun _ _ _ _ h=>ad (h.2.1 _ _ h0)) ?_ ?_
 ·rintro l u r ρ J acc e ⟨⟨o0,rfl⟩,g1,rfl⟩;refine ⟨_,rfl,fun N' L => ?_⟩;have CY:=aq e;have:=G.n;walk_at "wp";refine hs (G.lp u (by rw [e];simp)) fun M2 g2 => ?_
  refine ⟨by simp [h8];lia,L _ _ _ ⟨⟨_,rfl⟩,g1.trans g2,by simp⟩⟩
 rintro ρ J acc ⟨⟨o0,rfl⟩,g1,rfl⟩ pt hpt;have O:M pt=none:=by
  cases hz:M pt with
  | none=>rfl
  | some o=>have:=g1 _ _ hz;rw [hpt] at this;cases this
 have g2:=g1.trans (Ge.new (o := .lst ((ps.map sgn).map prD)) hpt);have mt:ae J pt (.lst ((ps.map sgn).map prD)) pt=some (.lst ((ps.map sgn).map prD)):=aa;generalize ae J pt (.lst ((ps.map sgn).map prD))=M2 at g2 mt;clear hpt g1;walk_at "st";have loop:∀ (m:Nat) (qs:List Pr) (pq:Addr) (M2:Mem),qs.length<=m->Tdy L0 L1 L2 qs->(∀ rs,Td qs rs->Td (ps.map sgn) rs)->Ge M M2->M pq=none->M2 pq=some (.lst (qs.map prD)) ->
  phi T (n - 1) fo [.ref pq] M2 fun d j=>aB (cb (wOp m5 (aI 6) (wC .non))) (wSs (phi T (n - 1)) (MSs.cons (MS.asg (MG.name 5) (ME.var 6)) (MSs.cons (MS.asg (MG.name 6) (ME.call fo (MEs.cons (ME.var 5) MEs.nil))) MSs.nil)))
   { nx:=wSs (phi T (n - 1)) (MSs.cons (MS.ret (ME.tup (MEs.cons (ME.var 1) (MEs.cons (ME.var 2) (MEs.cons (ME.var 3) (MEs.cons (ME.var 5) MEs.nil)))))) MSs.nil) { nx:=fun _ M'=>Q D.non M',rt:=Q },rt:=Q } (m+1)
   [some (.tup [x,y,z, .ref B]),some x,some y,some z,some (.ref B),some (.ref pq),some d] j:=by
  intro m
  induction m with
  | zero =>
    intro qs pq M2 hm tq F g U mq;refine ho tq mq (fun j g3 w => ?_) fun qs' pr j w => ?_
    ·rw [aB];walk_at "wp";refine ⟨_,rfl,_,rfl, ?_⟩;rw [if_neg (by decide)]
     walk_at "st";exact ⟨by rw [h8];lia,q qs pq j (F _ (.done w)) (g.trans g3) U (g3 _ _ mq)⟩
    ·have:=w.len;lia
  | succ m ih =>
    intro qs pq M2 hm tq F g U mq;refine ho tq mq (fun j g3 w => ?_) fun qs' pr j w g3 Y mr => ?_
    ·rw [aB];walk_at "wp";refine ⟨_,rfl,_,rfl, ?_⟩;rw [if_neg (by decide)]
     walk_at "st";exact ⟨by rw [h8];lia,q qs pq j (F _ (.done w)) (g.trans g3) U (g3 _ _ mq)⟩
    ·have Z:M pr=none:=by
      cases hz:M pr with
      | none=>rfl
      | some o=>have:=g _ _ hz;rw [Y] at this;cases this
     rw [aB];walk_at "wp";refine ⟨_,rfl,_,rfl, ?_⟩;rw [if_pos (by simp)]
     walk_at "st";walk_at "st";exact ih qs' pr j (by have:=w.len;lia) (tq.fw w) (fun rs t=>F rs (.step w t)) (g.trans g3) Z mr
 refine dA T _ _ _ _ _ _ (fun d j h => ?_) (loop (ps.map sgn).length (ps.map sgn) pt M2 (hQ _) G.sg (fun _ h=>h) g2 O mt);walk_at "st";exact ⟨_,h⟩
end
section
open PySem PySem.Spec PyProof.Rows L2.Srt
variable {T:List FD}
noncomputable def hZ (nm xp xn:Str) (s:Stmt):FD:=⟨nm,s,[xp],1,
 (.cons (.ret (.blt .tuple (.cons (.comp [none] [xn] (.last (.seq (.var 0)) (.name 0) .nil (.neg (.var 0)))) .nil)))
 .nil)⟩
theorem uw {f:Nat} {nm xp xn:Str} {s:Stmt} (hf:T[f]? = some (hZ nm xp xn s)) {k:Nat} (B : 1<=k) {l:List Int} (j:l.length<=100000) {M:Mem} {Q:QD} (q:∀ M',Ge M M'->Q (.tup ((ngl l).map .int)) M'):phi T k f [.tup (l.map .int)] M Q:=by
 refine al (by lia) hf rfl (ρ := [some _]) rfl ?_
 unfold hZ;walk_at "st";refine hC j (by first | rfl | trivial) fun ρ p z => ?_
 exact ⟨_,_,rfl,ad aa,q _ (Ge.new z)⟩
noncomputable def prt (p:Pr):Nat->List Int | 0=>p.1 | 1=>p.2.1 | _=>p.2.2
noncomputable def pst (p:Pr) (m:List Int):Nat->Pr | 0=>(m,p.2.1,p.2.2) | 1=>(p.1,m,p.2.2) | _=>(p.1,p.2.1,m)
theorem ed {p:Pr} {i:Nat} (h:i < 3):(prL p)[i]? = some (.tup ((prt p i).map .int)):=by
 match i,h with
 | 0,_=>rfl
 | 1,_=>rfl
 | 2,_=>rfl
theorem jC {p:Pr} {i:Nat} (h:i < 3) {m:List Int}:(prL p).set i (.tup (m.map .int))=prL (pst p m i):=by
 match i,h with
 | 0,_=>rfl
 | 1,_=>rfl
 | 2,_=>rfl
theorem jD {p:Pr} {B:Nat} (h:cv B p) {i:Nat}:(prt p i).length<=B:=by
 match i with
 | 0=>exact h.1
 | 1=>exact h.2.1
 | _+2=>exact h.2.2
noncomputable def sgS (i:Nat) (p:Pr):Pr:=if bbl (prt p i)=true then pst (pst p (ngl (prt p i)) i) (ngl p.2.2) 2 else p
theorem zM {i:Nat} {p:Pr} {B:Nat} (h:cv B p):cv B (sgS i p):=by
 unfold sgS
 split
 ·match i with
  | 0=>exact ⟨by simpa [pst,prt,ngl] using h.1,h.2.1,by simpa [pst,ngl] using h.2.2⟩
  | 1=>exact ⟨h.1,by simpa [pst,prt,ngl] using h.2.1,by simpa [pst,ngl] using h.2.2⟩
  | _+2=>exact ⟨h.1,h.2.1,by simpa [pst,ngl] using h.2.2⟩
 ·exact h
theorem nN {B:Nat}:∀ (l:List Nat) {p:Pr},cv B p->cv B (l.foldl (fun u i=>sgS i u) p)
 | [],_,h=>h
 | i::l,p,h=>nN l (zM h)
noncomputable def fJ (xn:Str) (s:Stmt) (fa:Nat):FD:=⟨"_law_signed",s,["_law_product", "_law_parts", "_law_side", "_law_some"],1,
 (.cons (.asg (.name 1) (.blt .list (.cons (.var 0) .nil)))
 (.cons (.for (.name 2) (.rng1 (.int 2)) (.cons (.asg (.name 3) (.comp [none] [xn] (.last (.seq (.ix (.var 1) (.var 2))) (.name 0) (.cons (.cmp .ne (.var 0) (.int 0)) .nil) (.var 0))))
 (.cons (.ite (.and (.cons (.cmp .ne (.var 3) (.lst .nil)) (.cons (.cmp .lt (.ix (.var 3) (.int 0)) (.int 0)) .nil))) (.cons (.put2 (.var 1) (.var 2) (.var 1) (.int 2) (.tup (.cons (.call fa (.cons (.ix (.var 1) (.var 2)) .nil)) (.cons (.call fa (.cons (.ix (.var 1) (.int 2)) .nil)) .nil))))
 .nil) .nil)
 .nil)))
 (.cons (.ret (.blt .tuple (.cons (.var 1) .nil)))
 .nil)))⟩
def nO (T:List FD) (n f:Nat):Prop := ∀ {l:List Int} {M:Mem} {Q:QD},l.length<=100000->(∀ M',Ge M M'->Q (.tup ((ngl l).map .int)) M')->phi T n f [.tup (l.map .int)] M Q
theorem rq {f fa:Nat} {xn:Str} {s:Stmt} (hf:T[f]? = some (fJ xn s fa)) {n:Nat} (ha:nO T (n - 1) fa) (hn : 1<=n):cy T n f:=by
 intro p M Q hl q;refine al hn hf rfl (ρ := [some _,none,none,none]) rfl ?_;unfold fJ prD;walk_at "st";refine ⟨_,_,rfl,rfl,fun pp U => ?_⟩;have mp:ae M pp (.lst [.tup (p.1.map .int), .tup (p.2.1.map .int), .tup (p.2.2.map .int)]) pp=some (.lst (prL p)):=aa;have g0:=Ge.new (o := .lst [.tup (p.1.map .int), .tup (p.2.1.map .int), .tup (p.2.2.map .int)]) U;generalize ae M pp (.lst [.tup (p.1.map .int), .tup (p.2.1.map .int), .tup (p.2.2.map .int)])=M0 at mp g0;walk_at "st";refine ⟨by decide,by decide, ?_⟩
 have er:aL 0 (2:Int).toNat=[0,1].map fun i:Nat=>D.int (i:Nat):=rfl;rw [er];refine b6 (f:=fun i:Nat=>D.int (i:Nat)) (ys := [0,1]) (I:=fun l ρ M' => ∃ G J:Option D, ρ = [some (.tup [.tup (p.1.map .int), .tup (p.2.1.map .int), .tup (p.2.2.map .int)]),some (.ref pp),G,J]/\Ge M M'/\M' pp=some (.lst (prL (l.foldl (fun u i=>sgS i u) p))) /\ ∀ i∈l,i < 2) rfl
  ⟨none,none,rfl,g0,mp,fun _ h=>by cases h⟩ (fun _ _ _ _=>trivial) ?_ ?_
 ·rintro l i r ρ M1 e ⟨G,J,rfl,g1,Y,Z⟩;have hi:i < 2:=by
   have:i∈[0,1]:=by rw [e];simp
   simp at this;lia
  have hu:cv 100000 (l.foldl (fun u i=>sgS i u) p):=by
   exact nN l hl
  have B:(l++[i]).foldl (fun u i=>sgS i u) p=sgS i (l.foldl (fun u i=>sgS i u) p):=by rw [KO];rfl
  generalize l.foldl (fun u i=>sgS i u) p=u at Y hu B;refine ⟨_,rfl,fun F hF => ?_⟩;rw [B] at hF;have L:∀ ρ2 M2,(∃ G J:Option D, ρ2=[some (.tup [.tup (p.1.map .int), .tup (p.2.1.map .int), .tup (p.2.2.map .int)]),some (.ref pp),G,J]/\Ge M M2/\M2 pp=some (.lst (prL (sgS i u))))->F ρ2 M2:=fun ρ2 M2 ⟨G,J,h1,h2,h3⟩=>hF ρ2 M2 ⟨G,J,h1,h2,h3,fun j hj=>by
   rcases DW.mp hj with hj | hj
   ·exact Z j hj
   ·simp at hj;lia⟩
  clear hF B Z;walk_at "st";refine am Y (au (ed (by lia))) ?_
  refine ⟨_,rfl, ?_⟩;refine nH (jD hu) (by first | rfl | trivial) fun ρ ps hps => ?_
  have g2:=g1.trans (Ge.new (o := .lst ((nzf (prt u i)).map .int)) hps);have O:ae M1 ps (.lst ((nzf (prt u i)).map .int)) pp=some (.lst (prL u)):=Ge.new hps _ _ Y;have ms:ae M1 ps (.lst ((nzf (prt u i)).map .int)) ps=some (.lst ((nzf (prt u i)).map .int)):=aa;generalize ae M1 ps (.lst ((nzf (prt u i)).map .int))=M2 at g2 O ms;walk_at "st";refine ⟨by rw [h8];lia,fun pz D0 => ?_⟩
  have gz:=Ge.new (o := .lst []) D0;refine ⟨_,_,by rw [cj (gz _ _ ms),bY];rfl,by rw [cj aa];rfl, ?_⟩
  cases hz:nzf (prt u i) with
  | nil =>
    refine ⟨_,rfl, ?_⟩;rw [if_neg (by simp [Ep,Ey])]
    walk_at "wp";refine L _ _ ⟨_,_,rfl,g2.trans gz, ?_⟩;have:sgS i u=u:=by unfold sgS bbl;rw [hz];rfl
    rw [this];exact gz _ _ O
  | cons x r' =>
    refine ⟨_,rfl, ?_⟩;rw [if_pos (by simp [Ep,Ey])]
    rw [hz] at ms;refine am (gz _ _ ms) (d := .int x) (au (k := 0) rfl) ?_;walk_at "wp";have hb:bbl (prt u i)=decide (x < 0):=by unfold bbl;rw [hz]
    by_cases hx:x < 0
    ·rw [if_pos hx];have D1:sgS i u=pst (pst u (ngl (prt u i)) i) (ngl u.2.2) 2:=by unfold sgS;rw [if_pos (by rw [hb];simpa using hx)]
     walk_at "st";refine am (gz _ _ O) (au (ed (by lia))) ?_
     refine ha (jD hu) fun M3 g3 => ?_;have CY:=gz.trans g3;refine am (CY _ _ O) (d := .tup (u.2.2.map .int)) (au (k := 2) rfl) ?_;refine ha hu.2.2 fun M4 g4 => ?_;have CZ:=CY.trans g4;refine ⟨by rw [h8];lia,_,_,⟨rfl,rfl⟩, ?_⟩
     refine b5 (CZ _ _ O) (j:=i) ?_ ?_
     ·unfold ixN;rw [if_pos (by lia),if_pos (by simp [prL];lia)];rfl
     rw [jC (by lia)]
     refine b5 aa (j := 2) rfl ?_;rw [jC (by lia),u9]
     refine L _ _ ⟨_,_,rfl,fun c o ec => ?_,by rw [aa,D1]⟩
     rw [aj (fun z=>by rw [z,U] at ec;cases ec)]
     exact CZ _ _ (g2 _ _ ec)
    ·rw [if_neg hx];refine L _ _ ⟨_,_,rfl,g2.trans gz, ?_⟩;have:sgS i u=u:=by unfold sgS;rw [if_neg (by rw [hb];simpa using hx)]
     rw [this];exact gz _ _ O
 ·rintro ρ M1 ⟨G,J,rfl,g1,Y,_⟩;walk_at "st";refine ⟨_,_,rfl,ad Y, ?_⟩;exact q _ g1
noncomputable def i3 (s:Stmt):FD:=⟨"_law_added",s,["_law_one", "_law_other"],2,
 (.cons (.ret (.blt .tuple (.cons (.comp [none,(some 0),(some 1)] ["_law_at", "_law_one", "_law_other"] (.last (.rng1 (.blt .len (.cons (.var 0) .nil))) (.name 0) .nil (.bin .add (.ix (.var 1) (.var 0)) (.ix (.var 2) (.var 0))))) .nil)))
 .nil)⟩
theorem uz {f:Nat} {s:Stmt} (hf:T[f]? = some (i3 s)) {k:Nat} (F : 1<=k) {a b:List Int} (G:a.length<=100000) (z:a.length=b.length) {M:Mem} {Q:QD} (q:∀ M',Ge M M'->Q (.tup ((adl a b).map .int)) M'):phi T k f [.tup (a.map .int), .tup (b.map .int)] M Q:=by
 refine al (by lia) hf rfl (ρ := [some _,some _]) rfl ?_
 unfold i3;walk_at "st";rw [hG];refine ⟨by lia,by lia, ?_⟩
 rw [E5,ck];refine aH (f:=fun i:Nat=>D.int (i:Nat)) (ys:=Eo a.length) (I:=fun l ρ M' acc=>(∃ o0, ρ = [o0,some (.tup (a.map .int)),some (.tup (b.map .int))])/\M'=M/\acc=((adl a b).take l.length).map .int) rfl ⟨⟨_,rfl⟩,rfl,rfl⟩ (fun _ _ _ _ _=>trivial) ?_ ?_
 ·rintro l i r ρ M1 acc e ⟨⟨o0,rfl⟩,rfl,rfl⟩;refine ⟨_,rfl,fun N' B => ?_⟩;have j:=aq e;rw [Fv] at j;have hi:i=l.length:=by
   have:=fE e;rw [Hw j] at this;exact (EB.inj this).symm
  subst hi;have h1:(a.map D.int)[l.length]? = some (.int (a[l.length]'j)):=by rw [DL,hh j];rfl
  have h2:(b.map D.int)[l.length]? = some (.int (b[l.length]'(by lia))):=by rw [DL,hh (by lia)];rfl
  walk_at "wp";refine ⟨_,au h1,_,au h2, ?_⟩;walk_at "wp";refine ⟨by simp [h8];lia,B _ _ _ ⟨⟨_,rfl⟩,rfl, ?_⟩⟩
  rw [DP,Ha,Ju,F1];congr 1;have:(adl a b)[l.length]? = some (a[l.length]'j+b[l.length]'(by lia)):=by
   unfold adl;rw [Jb,hh j,hh (by lia)]
  rw [this];rfl
 ·rintro ρ M1 acc ⟨⟨o0,rfl⟩,rfl,rfl⟩ p hp;refine ⟨_,_,rfl,ad aa, ?_⟩;rw [Fv,H9 (by rw [gi rfl z.symm];exact hQ _)]
  exact q _ (Ge.new hp)
end
section
open PySem PySem.Spec PyProof.Rows L2.Srt
variable {T:List FD}
noncomputable def nQ (fa:Nat):MSs:=(.cons (.asg (.name 5) (.ix (.comp [none,(some 4)] ["_law_side", "_law_alike"] (.last (.seq (.tup (.cons (.int 2) (.cons (.int 1) (.cons (.int 0) .nil))))) (.name 0) (.cons (.or (.cons (.cmp .ninS (.var 0) (.var 1)) (.cons (.cmp .eq (.var 1) (.lst (.cons (.int 0) (.cons (.int 1) (.cons (.int 2) .nil))))) .nil))) .nil) (.var 0))) (.int 0)))
 (.cons (.asg (.name 6) (.blt .list (.cons (.ix (.var 0) (.var 2)) .nil)))
 (.cons (.put (.var 6) (.var 5) (.call fa (.cons (.ix (.ix (.var 0) (.var 2)) (.var 5)) (.cons (.ix (.ix (.var 0) (.var 3)) (.var 5)) .nil))))
 (.cons (.asg (.name 7) (.bin .add (.sl (.var 0) (.some (.bin .add (.var 2) (.int 1))) (.some (.var 3))) (.sl (.var 0) (.some (.bin .add (.var 3) (.int 1))) .none)))
 (.cons (.ret (.bin .add (.bin .add (.sl (.var 0) .none (.some (.var 2))) (.lst (.cons (.blt .tuple (.cons (.var 6) .nil)) .nil))) (.var 7)))
 .nil)))))
noncomputable def uA (xp:Str) (s:Stmt) (fa:Nat):FD:=⟨"_law_less",s,["_law_products", "_law_at", "_law_r", "_law_s", "_law_alike", "_law_third", "_law_both", "_law_rest"],1,
 (.cons (.for (.name 1) (.rng1 (.blt .len (.cons (.var 0) .nil))) (.cons (.ite (.cmp .ne (.comp [none] [xp] (.last (.seq (.ix (.var 0) (.var 1))) (.name 0) (.cons (.cmp .eq (.var 0) (.bin .mul (.tup (.cons (.int 0) .nil)) (.blt .len (.cons (.var 0) .nil)))) .nil) (.var 0))) (.lst .nil)) (.cons (.ret (.bin .add (.sl (.var 0) .none (.some (.var 1))) (.sl (.var 0) (.some (.bin .add (.var 1) (.int 1))) .none)))
 .nil) .nil)
 .nil))
 (.cons (.for (.name 2) (.rng1 (.blt .len (.cons (.var 0) .nil))) (.cons (.for (.name 3) (.rng2 (.bin .add (.var 2) (.int 1)) (.blt .len (.cons (.var 0) .nil))) (.cons (.asg (.name 4) (.comp [none,(some 0),(some 2),(some 3)] ["_law_side", "_law_products", "_law_r", "_law_s"] (.last (.rng1 (.int 3)) (.name 0) (.cons (.cmp .eq (.ix (.ix (.var 1) (.var 2)) (.var 0)) (.ix (.ix (.var 1) (.var 3)) (.var 0))) .nil) (.var 0))))
 (.cons (.ite (.cmp .gt (.blt .len (.cons (.var 4) .nil)) (.int 1)) (nQ fa) .nil)
 .nil)))
 .nil))
 (.cons (.ret .non)
 .nil)))⟩
theorem nzb_rep:∀ {l:List Int},(nzb l=false)↔l=DK l.length 0
 | [] => by simp [nzb]
 | x::l=>by
   rw [h9,JC,nzb_rep (l:=l),E9,El,FZ];simp
theorem Br {ps:List Pr} {B:Addr} {M:Mem} (h0:M B=some (.lst (ps.map prD))) {a b:Nat} (G:a<=ps.length) (J:b<=ps.length) (O:ps.length<=100000) {Q:QD}
 (q:∀ pc M',Ge M M'->M pc=none->M' pc=some (.lst ((ps.take a++ps.drop b).map prD))->Q (.ref pc) M') :
 ce (.ref B) none (some (a:Int)) M fun x L=>ce (.ref B) (some (b:Int)) none L fun y M2=>eW x y M2 Q:=by
 refine ⟨_,h0,fun pa F => ?_⟩;have ga:=Ge.new (o := .lst (bc (ps.map prD) none (some (a:Int)))) F;refine ⟨_,ga _ _ h0,fun pb j => ?_⟩;have gb:=ga.trans (Ge.new (o := .lst (bc (ps.map prD) (some (b:Int)) none)) j);refine ⟨_,_,Ge.new j _ _ aa,aa, ?_,fun pc z => ?_⟩
 ·rw [cK (by simpa using G),cL (by simpa using J),h8];simp;lia
 refine q pc _ (gb.trans (Ge.new z)) ?_ ?_
 ·cases hz:M pc with
  | none=>rfl
  | some o=>have:=gb _ _ hz;rw [z] at this;cases this
 ·rw [aa,cK (by simpa using G),cL (by simpa using J), <- Ik, <- Il, <- F1]
noncomputable def eqs (p q:Pr) (l:List Nat):List Nat:=l.filter fun i=>decide (prt p i=prt q i)
theorem eqs_al {p q:Pr} : 1 < (eqs p q [0,1,2]).length↔al2 p q:=by
 unfold eqs al2
 by_cases h0:p.1=q.1 <;> by_cases h1:p.2.1=q.2.1 <;> by_cases h2:p.2.2=q.2.2 <;> simp [prt,h0,h1,h2]
noncomputable def thd (p q:Pr) (l:List Nat):List Nat:=l.filter fun i=>decide (i∉eqs p q [0,1,2]) || decide (eqs p q [0,1,2]=[0,1,2])
theorem Bs {p q:Pr} (h:al2 p q):∃ t r,thd p q [2,1,0]=t::r/\t < 3/\pst p (adl (prt p t) (prt q t)) t=ptg p q:=by
 unfold thd eqs ptg;unfold al2 at h
 by_cases h0:p.1=q.1 <;> by_cases h1:p.2.1=q.2.1 <;> by_cases h2:p.2.2=q.2.2 <;> simp [prt,pst,h0,h1,h2] at h ⊢
theorem wN {ps:List Pr} {B:Addr} {M:Mem} (h0:M B=some (.lst (ps.map prD))) {r s:Nat} {p q:Pr} (G:ps[r]? = some p) (J:ps[s]? = some q) {N:NC} {o0:Option D} (L:∀ ρ,N ρ M ((eqs p q [0,1,2]).map fun i=>D.int (i:Nat))) :
 aJ (aW 0) (aP [cb (wOp wEq (wOp wIx (wOp wIx (aI 1) (aI 2)) (aI 0)) (wOp wIx (wOp wIx (aI 1) (aI 3)) (aI 0)))] (bh (aI 0))) (fun _=>True) N (aL 0 (3:Int).toNat) [o0,some (.ref B),some (.int (r:Nat)),some (.int (s:Nat))] M []:=by
 have er:aL 0 (3:Int).toNat=[0,1,2].map fun i:Nat=>D.int (i:Nat):=rfl;rw [er];refine aH (f:=fun i:Nat=>D.int (i:Nat)) (ys := [0,1,2]) (I:=fun l ρ M' acc=>(∃ o0, ρ = [o0,some (.ref B),some (.int (r:Nat)),some (.int (s:Nat))])/\M'=M/\acc=(eqs p q l).map fun i=>D.int (i:Nat)) rfl ⟨⟨_,rfl⟩,rfl,rfl⟩ (fun _ _ _ _ _=>trivial) ?_ ?_
 ·rintro l i r' ρ M1 acc e ⟨⟨o0,rfl⟩,rfl,rfl⟩;refine ⟨_,rfl,fun N' j => ?_⟩;have hi:i < 3:=by
   have:i∈[0,1,2]:=by rw [e];simp
   simp at this;lia
  have O:l.length < 3:=aq e;have F:(eqs p q l).length<=l.length:=Ed _ _;walk_at "wp";refine am h0 (d:=prD p) (au (by rw [DL,G];rfl)) ?_
  refine ⟨_,_,rfl,au (ed hi), ?_⟩;refine am h0 (d:=prD q) (au (by rw [DL,J];rfl)) ?_
  refine ⟨_,_,rfl,au (ed hi), ?_⟩;refine cw ⟨_,rfl, ?_⟩;unfold eqs
  by_cases z:prt p i=prt q i
  ·rw [if_pos (by simpa using z)]
   refine ⟨by have F:(l.filter fun i=>decide (prt p i=prt q i)).length<=l.length:=Ed _ _
              rw [hG,h8];lia,j _ _ _ ⟨⟨_,rfl⟩,rfl, ?_⟩⟩
   unfold eqs;rw [E2,DT (by simpa using z)];simp
  ·rw [if_neg (by simpa using z)]
   refine j _ _ _ ⟨⟨_,rfl⟩,rfl, ?_⟩;unfold eqs;rw [E2,DS (by simpa using z)];simp
 ·rintro ρ M1 acc ⟨⟨o0,rfl⟩,rfl,rfl⟩;exact L _
theorem wP {p q:Pr} {pk:Addr} {M:Mem} (G:M pk=some (.lst ((eqs p q [0,1,2]).map fun i=>D.int (i:Nat)))) {N:NC} {o0:Option D} (J:∀ ρ M',Ge M M'->N ρ M' ((thd p q [2,1,0]).map fun i=>D.int (i:Nat))) :
 aJ (aW 0) (aP [jp (cb (wOp kD (aI 0) (aI 1))) (cb (wOp wEq (aI 1) (wAr gG (ax (wC (.int 0)) (ax (wC (.int 1)) (ax (wC (.int 2)) ba))))))] (bh (aI 0))) (fun _=>True) N [.int 2, .int 1, .int 0] [o0,some (.ref pk)] M []:=by
 have er : [D.int 2, .int 1, .int 0]=[2,1,0].map fun i:Nat=>D.int (i:Nat):=rfl;rw [er];refine aH (f:=fun i:Nat=>D.int (i:Nat)) (ys := [2,1,0]) (I:=fun l ρ M' acc=>(∃ o0, ρ = [o0,some (.ref pk)])/\Ge M M'/\acc=(thd p q l).map fun i=>D.int (i:Nat)) rfl ⟨⟨_,rfl⟩,Ge.refl,rfl⟩ (fun _ _ _ _ _=>trivial) ?_ ?_
 ·rintro l i r' ρ M1 acc e ⟨⟨o0,rfl⟩,g,rfl⟩;refine ⟨_,rfl,fun N' B => ?_⟩;have L:l.length < 3:=aq e;have O:(thd p q l).length<=l.length:=Ed _ _;have emit:∀ {ρ2:ak} {M2:Mem},(∃ o0, ρ2=[o0,some (.ref pk)])->Ge M M2->(decide (i∉eqs p q [0,1,2]) || decide (eqs p q [0,1,2]=[0,1,2]))=true->N' ρ2 M2 ((thd p q l).map (fun i=>D.int (i:Nat))++[.int (i:Nat)]):=by
   intro ρ2 M2 h1 h2 U;refine B _ _ _ ⟨h1,h2, ?_⟩;unfold thd;rw [E2,DT (by simpa using U)];simp
  have hm:((i:Nat):Int)∈(eqs p q [0,1,2]).map (fun i=>((i:Nat):Int))↔i∈eqs p q [0,1,2]:=by
   rw [ET];constructor
   ·rintro ⟨j,h1,h2⟩;have:j=i:=by lia
    rw [<- this];exact h1
   ·exact fun h=>⟨i,h,rfl⟩
  walk_at "wp";refine ⟨(eqs p q [0,1,2]).map fun i=>((i:Nat):Int),by rw [ad (g _ _ G),Fx];rfl, ?_⟩
  refine ⟨_,rfl, ?_⟩
  by_cases hz:i∈eqs p q [0,1,2]
  ·rw [decide_eq_true (hm.mpr hz)];simp only [G1,Ec,if_false];refine ⟨by rw [h8];lia,fun pn F => ?_⟩
   have gn:=Ge.new (o := .lst [D.int 0, .int 1, .int 2]) F;refine ⟨_,_,by rw [cj (gn _ _ (g _ _ G)),show (eqs p q [0,1,2]).map (fun i=>D.int (i:Nat))=((eqs p q [0,1,2]).map fun i=>((i:Nat):Int)).map .int by rw [Fx];rfl,bY];rfl,by rw [cj aa,show [D.int 0, .int 1, .int 2]=([0,1,2]:List Int).map .int from rfl,bY];rfl, ?_⟩
   refine ⟨_,rfl, ?_⟩;have ev:Ep (.list (((eqs p q [0,1,2]).map fun i=>((i:Nat):Int)).map GF)) (.list (([0,1,2]:List Int).map GF))=decide (eqs p q [0,1,2]=[0,1,2]):=by
    rw [Ep,L2.eqv_ints];have:((eqs p q [0,1,2]).map fun i=>((i:Nat):Int))=[0,1,2]↔eqs p q [0,1,2]=[0,1,2]:=by
     constructor
     ·intro h;have h2:(eqs p q [0,1,2]).map (fun i=>((i:Nat):Int))=[0,1,2].map (fun i:Nat=>((i:Nat):Int)):=h;exact (List.map_inj_right (fun a b h=>by lia)).mp h2
     ·intro h;rw [h];rfl
    exact decide_eq_decide.mpr this
   rw [ev]
   by_cases hw:eqs p q [0,1,2]=[0,1,2]
   ·rw [if_pos (by simpa using hw)]
    exact ⟨by rw [hG,h8];lia,emit ⟨_,rfl⟩ (g.trans gn) (by simp [hw])⟩
   ·rw [if_neg (by simpa using hw)]
    refine B _ _ _ ⟨⟨_,rfl⟩,g.trans gn, ?_⟩;unfold thd;rw [E2,DS (by simp [hz,hw])];simp
  ·rw [decide_eq_false (fun z=>hz (hm.mp z))];simp only [Bool.not_false,if_true];exact ⟨by rw [hG,h8];lia,emit ⟨_,rfl⟩ g (by simp [hz])⟩
 ·rintro ρ M1 acc ⟨⟨o0,rfl⟩,g,rfl⟩;exact J _ _ g
end
section
open PySem PySem.Spec PyProof.Rows L2.Srt
variable {T:List FD}
def i4 (T:List FD) (n f:Nat):Prop := ∀ {a b:List Int} {M:Mem} {Q:QD},a.length<=100000->a.length=b.length->(∀ M',Ge M M'->Q (.tup ((adl a b).map .int)) M')->phi T n f [.tup (a.map .int), .tup (b.map .int)] M Q
theorem wQ {xs:List D} {a b:Nat} (h:a<=b) (j:b<=xs.length):bc xs (some (a:Int)) (some (b:Int))=(xs.drop a).take (b - a):=by
 unfold bc;rw [HT.sIx_nat,HT.sIx_nat,FX j,FX (Ej h j)]
theorem dm {M M':Mem} {c:Addr} (g:Ge M M') (h:M' c=none):M c=none:=by
 cases hz:M c with
 | none=>rfl
 | some o=>have:=g _ _ hz;rw [h] at this;cases this
theorem rA {B F L2:Nat} {p q:Pr} (j:p.1.length=B/\p.2.1.length=F/\p.2.2.length=L2) (z:q.1.length=B/\q.2.1.length=F/\q.2.2.length=L2) {i:Nat}:(prt p i).length=(prt q i).length:=by
 match i with
 | 0=>exact j.1.trans z.1.symm
 | 1=>exact j.2.1.trans z.2.1.symm
 | _+2=>exact j.2.2.trans z.2.2.symm
theorem uB {fa n:Nat} (ha:i4 T n fa) {L0 L1 L2:Nat} {ps:List Pr} (hT:Tdy L0 L1 L2 ps) {p0 pk:Addr} {r s:Nat} {p q:Pr} (Y:ps[r]? = some p) (hs:ps[s]? = some q) (D3:r < s) (D4:al2 p q) {M:Mem} (h0:M p0=some (.lst (ps.map prD))) (hk:M pk=some (.lst ((eqs p q [0,1,2]).map fun i=>D.int (i:Nat)))) {E:bb} {o1 o5 o6 o7:Option D}
 (hE:∀ A B C pr M',ps=A++p::(B++q::C)->A.length=r->A.length+1+B.length=s->Ge M M'->M pr=none->M' pr=some (.lst ((A++ptg p q::(B++C)).map prD))->E.rt (.ref pr) M') :
 wSs (phi T n) (nQ fa) E [some (.ref p0),o1,some (.int (r:Nat)),some (.int (s:Nat)),some (.ref pk),o5,o6,o7] M:=by
 have lr:=(hD.mp Y).1;have ls:=(hD.mp hs).1;have hn:=hT.n;unfold nQ;walk_at "st";refine ⟨by rw [h8];lia, ?_⟩
 refine wP hk fun ρ M1 g1 pt hpt => ?_;obtain ⟨t,rt,et,ht,Z⟩:=Bs D4;rw [et];have g2:=g1.trans (Ge.new (o := .lst ((t::rt).map fun i=>D.int (i:Nat))) hpt);refine am aa (d := .int (t:Nat)) (au (k := 0) rfl) ?_;generalize ae M1 pt (.lst ((t::rt).map fun i=>D.int (i:Nat)))=M2 at g2;clear hpt;walk_at "st";refine am (g2 _ _ h0) (d:=prD p) (au (by rw [DL,Y];rfl)) ?_
 refine ⟨_,_,rfl,rfl,fun pb G => ?_⟩;have g3:=g2.trans (Ge.new (o := .lst (prL p)) G);have mb:ae M2 pb (.lst (prL p)) pb=some (.lst (prL p)):=aa;have D5:=dm g2 G;show wSs _ _ _ _ (ae M2 pb (.lst (prL p)));generalize ae M2 pb (.lst (prL p))=M3 at g3 mb;clear G;walk_at "st";refine am (g3 _ _ h0) (d:=prD p) (au (by rw [DL,Y];rfl)) ?_
 refine ⟨_,_,rfl,au (ed ht), ?_⟩;refine am (g3 _ _ h0) (d:=prD q) (au (by rw [DL,hs];rfl)) ?_
 refine ⟨_,_,rfl,au (ed ht), ?_⟩;have mp:p∈ps:=DZ Y;have mq:q∈ps:=DZ hs;refine ha (jD (hT.lp p mp)) (rA (hT.l p mp) (hT.l q mq)) fun M4 g4 => ?_;refine b5 (g4 _ _ mb) (j:=t) ?_ ?_
 ·unfold ixN;rw [if_pos (by lia),if_pos (by simp [prL];lia)];rfl
 rw [jC ht,Z];have g5:Ge M (ae M4 pb (.lst (prL (ptg p q)))):=fun c o ec=>by
  rw [aj (fun z=>by rw [z,D5] at ec;cases ec)];exact g4 _ _ (g3 _ _ ec)
 have CY:ae M4 pb (.lst (prL (ptg p q))) pb=some (.lst (prL (ptg p q))):=aa;generalize ae M4 pb (.lst (prL (ptg p q)))=M5 at g5 CY;walk_at "st";have e1:((r:Nat):Int)+1=((r+1:Nat):Int):=by lia
 have e2:((s:Nat):Int)+1=((s+1:Nat):Int):=by lia
 rw [e1,e2];refine ⟨_,g5 _ _ h0,fun pc J => ?_⟩;have g6:=g5.trans (Ge.new (o := .lst (bc (ps.map prD) (some ((r+1:Nat):Int)) (some ((s:Nat):Int)))) J);refine ⟨_,g6 _ _ h0,fun pd F => ?_⟩;have g7:=g6.trans (Ge.new (o := .lst (bc (ps.map prD) (some ((s+1:Nat):Int)) none)) F);obtain ⟨A,B,C,e,l1,l2⟩:=nM Y hs D3;have c1:bc (ps.map prD) (some ((r+1:Nat):Int)) (some ((s:Nat):Int))=B.map prD:=by
  rw [wQ (by lia) (by simp;lia), <- Il, <- Ik]
  congr 1;rw [e, <- l1,nK,show s - (A.length+1)=B.length by lia,List.take_left]
 have c2:bc (ps.map prD) (some ((s+1:Nat):Int)) none=C.map prD:=by
  rw [cL (by simp;lia), <- Il]
  congr 1;rw [e, <- l2,show A++p::(B++q::C)=(A++p::B)++q::C by simp,show A.length+1+B.length+1=(A++p::B).length+1 by simp;lia,nK]
 rw [c1] at g6 g7 F ⊢;rw [c2] at g7 ⊢;have lA:=congrArg Jj e;simp at lA;refine ⟨_,_,Ge.new F _ _ aa,aa,by rw [h8];simp;lia,fun pe L => ?_⟩
 rw [<- F1];have g8:=g7.trans (Ge.new (o := .lst ((B++C).map prD)) L);have me:ae (ae (ae M5 pc (.lst (B.map prD))) pd (.lst (C.map prD))) pe (.lst ((B++C).map prD)) pe=some (.lst ((B++C).map prD)):=aa;have CZ:ae (ae (ae M5 pc (.lst (B.map prD))) pd (.lst (C.map prD))) pe (.lst ((B++C).map prD)) pb=some (.lst (prL (ptg p q))):=Ge.new L _ _ (Ge.new F _ _ (Ge.new J _ _ CY));generalize ae (ae (ae M5 pc (.lst (B.map prD))) pd (.lst (C.map prD))) pe (.lst ((B++C).map prD))=M6 at g8 me CZ;clear J F L g6 g7;walk_at "st";refine ⟨_,g8 _ _ h0,fun pf O => ?_⟩;have c3:bc (ps.map prD) none (some ((r:Nat):Int))=A.map prD:=by
  rw [cK (by simp;lia), <- Ik]
  congr 1;rw [e, <- l1,ut]
 rw [c3];have g9:=g8.trans (Ge.new (o := .lst (A.map prD)) O);refine ⟨_,_,rfl,ad (Ge.new O _ _ CZ), ?_⟩;refine ⟨by rw [h8];lia,fun pg U => ?_⟩
 have D6:=g9.trans (Ge.new (o := .lst [D.tup (prL (ptg p q))]) U);refine ⟨_,_,Ge.new U _ _ aa,aa,by rw [h8];simp;lia,fun ph D0 => ?_⟩
 have D1:=D6.trans (Ge.new (o := .lst (A.map prD++[D.tup (prL (ptg p q))])) D0);refine ⟨_,_,aa,Ge.new D0 _ _ (Ge.new U _ _ (Ge.new O _ _ me)),by rw [h8];simp;lia,fun pi D2 => ?_⟩
 refine hE A B C pi _ e l1 l2 (D1.trans (Ge.new D2)) (dm D1 D2) ?_;rw [aa];simp [prD,prL]
theorem pJ {k:Nat} {M:Mem}:∀ ls:List (List Int),aC (rb (k+1) M) (ls.map fun l=>D.tup (l.map .int))=some (ls.map fun l=>PyData.tuple (l.map .int))
 | [] => rfl
 | l::ls=>by simp [aC,rb,bY,pJ ls]
noncomputable def nts (l:List (List Int)):List (List Int):=l.filter fun w => !nzb w
theorem nts_ok {p:Pr}:(nts [p.1,p.2.1,p.2.2]=[])↔okp p=true:=by
 unfold nts okp
 cases h0:nzb p.1 <;> cases h1:nzb p.2.1 <;> cases h2:nzb p.2.2 <;> simp [h0,h1,h2]
theorem wR {p:Pr} (F:cv 100000 p) {M:Mem} {N:NC} {chk:Mem->Prop} (G:chk M) {o0:Option D} (q:∀ ρ,N ρ M ((nts [p.1,p.2.1,p.2.2]).map fun l=>D.tup (l.map .int))) :
 aJ (aW 0) (aP [cb (wOp wEq (aI 0) (wOp gI (wAr jk (ax (wC (.int 0)) ba)) (wAr du (ax (aI 0) ba))))] (bh (aI 0))) chk N (prL p) [o0] M []:=by
 refine aH (f:=fun w:List Int=>D.tup (w.map .int)) (ys := [p.1,p.2.1,p.2.2]) (I:=fun l ρ M' acc=>(∃ o0, ρ = [o0])/\M'=M/\acc=(nts l).map fun l=>D.tup (l.map .int)) rfl ⟨⟨_,rfl⟩,rfl,rfl⟩ (fun _ _ _ _ h=>by rw [h.2.1];exact G) ?_ ?_
 ·rintro l w r ρ M1 acc e ⟨⟨o0,rfl⟩,rfl,rfl⟩;refine ⟨_,rfl,fun N' j => ?_⟩;have J:l.length < 3:=aq e;have L:(nts l).length<=l.length:=Ed _ _;have hw:w.length<=100000:=by
   have:w∈[p.1,p.2.1,p.2.2]:=by rw [e];simp
   simp at this
   rcases this with rfl | rfl | rfl
   ·exact F.1
   ·exact F.2.1
   ·exact F.2.2
  walk_at "wp";rw [hG];refine ⟨by rw [h8];lia,by lia,by lia,by rw [h8];simp;lia, ?_⟩
  rw [E5,no];refine cw ⟨_,rfl, ?_⟩
  by_cases B:nzb w=false
  ·rw [if_pos (by simpa using nzb_rep.mp B)]
   refine ⟨by rw [hG,h8];lia,j _ _ _ ⟨⟨_,rfl⟩,rfl, ?_⟩⟩
   unfold nts;rw [E2,DT (by simp [B])];simp
  ·rw [if_neg (by simpa using fun z=>B (nzb_rep.mpr z))]
   refine j _ _ _ ⟨⟨_,rfl⟩,rfl, ?_⟩;unfold nts;rw [E2,DS (by simpa using B)];simp
 ·rintro ρ M1 acc ⟨⟨o0,rfl⟩,rfl,rfl⟩;exact q _
theorem dP {n:Nat} {l r:List Nat} {i:Nat} (e:Eo n=l++i::r):i=l.length/\i < n:=by
 have j:=aq e;rw [Fv] at j;have:=fE e;rw [Hw j] at this;exact ⟨(EB.inj this).symm,by rw [<- EB.inj this];exact j⟩
theorem zN {f fa:Nat} {xp:Str} {s:Stmt} (hf:T[f]? = some (uA xp s fa)) {n:Nat} (ha:i4 T (n - 1) fa) (hn : 1<=n):e9 T n f:=by
 intro L0 L1 L2 p0 ps M Q hT h0 q0 q1;have D5:=hT.n;refine al hn hf rfl (ρ := [some _,none,none,none,none,none,none,none]) rfl ?_;unfold uA;walk_at "st";refine cu h0 ?_;walk_at "wp";rw [hG];refine ⟨by lia,by lia, ?_⟩
 rw [E5,ck];refine b6 (f:=fun i:Nat=>D.int (i:Nat)) (ys:=Eo ps.length) (I:=fun l ρ M' => ∃ o1:Option D, ρ = [some (.ref p0),o1,none,none,none,none,none,none]/\Ge M M' /\ ∀ q∈ps.take l.length,okp q=true) rfl
  ⟨none,rfl,Ge.refl,fun q G=>by simp at G⟩ (fun _ _ _ _=>trivial) ?_ ?_
 ·rintro l i r ρ M1 e ⟨o1,rfl,g1,hok⟩;obtain ⟨hi,U⟩:=dP e;refine ⟨_,rfl,fun F hF => ?_⟩;have O:ps[i]? = some (ps[i]'U):=hh U;generalize ps[i]'U=p at O;walk_at "st";refine am (g1 _ _ h0) (d:=prD p) (au (by rw [DL,O];rfl)) ?_
  refine ⟨_,rfl, ?_⟩;refine wR (hT.lp p (DZ O)) (by first | rfl | trivial) fun ρ pz hpz => ?_
  have g2:=g1.trans (Ge.new (o := .lst ((nts [p.1,p.2.1,p.2.2]).map fun l=>D.tup (l.map .int))) hpz);refine ⟨by rw [h8];lia,fun py CY => ?_⟩
  have g3:=g2.trans (Ge.new (o := .lst []) CY);refine ⟨_,_,by rw [cj (Ge.new CY _ _ aa),pJ];rfl,by rw [cj aa];rfl, ?_⟩
  refine ⟨_,rfl, ?_⟩
  cases hz:nts [p.1,p.2.1,p.2.2] with
  | nil =>
    rw [if_neg (by simp [Ep,Ey])]
    walk_at "wp";rw [hz] at g3;refine hF _ _ ⟨_,rfl,g3,fun q G => ?_⟩;rw [DP,Ha,Ju,DW] at G
    rcases G with G | G
    ·exact hok q G
    ·rw [<- hi,O] at G;simp at G;subst G;exact nts_ok.mp hz
  | cons w ws =>
    rw [if_pos (by simp [Ep,Ey])]
    rw [hz] at g3;walk_at "st";have e1:((i:Nat):Int)+1=((i+1:Nat):Int):=by lia
    rw [e1];refine Br (g3 _ _ h0) (by lia) (by lia) (by lia) fun pc M4 g4 D0 mc => ?_
    have D1:ps=ps.take i++p::ps.drop (i+1):=by
     have:=(G8 i ps).symm;rw [EI U,(hD.mp O).2] at this;exact this
    refine q1 _ pc M4 (.nought (ps.take i) (ps.drop (i+1)) p D1 ?_ (by rw [hi];exact hok)) (g3.trans g4) (dm g3 D0) mc
    cases ho:okp p with
    | false=>rfl
    | true=>rw [nts_ok.mpr ho] at hz;cases hz
 rintro ρ M1 ⟨o1,rfl,g1,hok⟩;rw [Fv,H9 (hQ _)] at hok;walk_at "st";refine cu (g1 _ _ h0) ?_;walk_at "wp";rw [hG];refine ⟨by lia,by lia, ?_⟩
 rw [E5,ck];refine b6 (f:=fun i:Nat=>D.int (i:Nat)) (ys:=Eo ps.length) (I:=fun l ρ M' => ∃ o2 Z o4:Option D, ρ = [some (.ref p0),o1,o2,Z,o4,none,none,none]/\Ge M M' /\ ∀ (r s:Nat) p' q',r < l.length->ps[r]? = some p'->ps[s]? = some q'->r < s -> ¬ al2 p' q') rfl
  ⟨none,none,none,rfl,g1,fun r s p' q' h=>by cases h⟩ (fun _ _ _ _=>trivial) ?_ ?_
 ·rintro l i r ρ M2 e ⟨o2,Z,o4,rfl,g2,Y⟩;obtain ⟨hi,U⟩:=dP e;refine ⟨_,rfl,fun F hF => ?_⟩;have O:ps[i]? = some (ps[i]'U):=hh U;generalize ps[i]'U=p at O;walk_at "st";refine cu (g2 _ _ h0) ?_;walk_at "wp";rw [hG];refine ⟨_,_,⟨rfl,rfl⟩,⟨by lia,by lia,by lia,by lia⟩, ?_⟩
  have er:aL (((i:Nat):Int)+1) (((ps.length:Nat):Int) - (((i:Nat):Int)+1)).toNat=(Eo (ps.length - (i+1))).map fun j:Nat=>D.int ((i+1+j:Nat):Int):=by
   unfold aL;rw [show (((ps.length:Nat):Int) - (((i:Nat):Int)+1)).toNat=ps.length - (i+1) by lia]
   congr 1
  rw [er];refine b6 (f:=fun j:Nat=>D.int ((i+1+j:Nat):Int)) (ys:=Eo (ps.length - (i+1))) (I:=fun l' ρ M' => ∃ Z o4:Option D, ρ = [some (.ref p0),o1,some (.int (i:Nat)),Z,o4,none,none,none]/\Ge M M' /\ ∀ (s:Nat) q',i < s->s < i+1+l'.length->ps[s]? = some q' -> ¬ al2 p q') rfl
   ⟨Z,o4,rfl,g2,fun s q' h1 h2=>by simp at h2;lia⟩ (fun _ _ _ _=>trivial) ?_ ?_
  ·rintro l' j r' ρ M3 e' ⟨Z,o4,rfl,g3,J⟩;obtain ⟨hj,D6⟩:=dP e';refine ⟨_,rfl,fun F2 D2 => ?_⟩;have CZ:i+1+j < ps.length:=by lia
   have G:ps[i+1+j]? = some (ps[i+1+j]'CZ):=hh CZ;generalize ps[i+1+j]'CZ=q at G;walk_at "st";refine ⟨by decide,by decide, ?_⟩
   refine wN (g3 _ _ h0) O G fun ρ pk hpk => ?_;have g4:=g3.trans (Ge.new (o := .lst ((eqs p q [0,1,2]).map fun i=>D.int (i:Nat))) hpk);have mk:ae M3 pk (.lst ((eqs p q [0,1,2]).map fun i=>D.int (i:Nat))) pk=some (.lst ((eqs p q [0,1,2]).map fun i=>D.int (i:Nat))):=aa;generalize ae M3 pk (.lst ((eqs p q [0,1,2]).map fun i=>D.int (i:Nat)))=M4 at g4 mk;walk_at "st";refine cu mk ?_;walk_at "wp";rw [hG]
   by_cases hal:al2 p q
   ·rw [if_pos (by have:=eqs_al.mpr hal;lia)]
    refine uB ha hT O G (by lia) hal (g4 _ _ h0) mk fun A B C pr M5 eA l1 l2 g5 D3 mr => ?_
    refine q1 _ pr M5 (.alike A B C p q eA hal hok fun r1 s1 p1 q1 h1 h2 L h4 => ?_) (g4.trans g5) (dm g4 D3) mr
    rcases KS A.length r1 with h | h | h
    ·exact .inl h
    ·refine .inr ⟨h, ?_⟩;have D4:r1=i:=by lia
     subst D4;rw [O] at h1;cases h1
     rcases HB s1 (r1+1+l'.length) with h5 | h5
     ·exact absurd h4 (J s1 q1 L h5 h2)
     ·lia
    ·exact absurd h4 (Y r1 s1 p1 q1 (by lia) h1 h2 L)
   ·rw [if_neg (fun z=>hal (eqs_al.mp (by lia)))]
    refine D2 _ _ ⟨_,_,rfl,g4,fun s q' h1 h2 L => ?_⟩
    rcases HB s (i+1+l'.length) with h5 | h5
    ·exact J s q' h1 h5 L
    ·have:s=i+1+j:=by simp at h2;lia
     subst this;rw [G] at L;cases L;exact hal
  ·rintro ρ M3 ⟨Z,o4,rfl,g3,J⟩;refine hF _ _ ⟨_,_,_,rfl,g3,fun r s p' q' h1 h2 L h4 => ?_⟩
   rcases HB r l.length with h5 | h5
   ·exact Y r s p' q' h5 h2 L h4
   ·have:r=i:=by simp at h1;lia
    subst this;rw [O] at h2;cases h2;have:=(hD.mp L).1;exact J s q' h4 (by simp;lia) L
 rintro ρ M2 ⟨o2,Z,o4,rfl,g2,Y⟩;walk_at "st";exact q0 M2 g2 (.none hok fun r s p' q' h1 h2 L=>Y r s p' q' (by simp;exact (hD.mp h1).1) h1 h2 L)
end
section
open PySem PySem.Spec PyProof.Rows L2.Srt
variable {T:List FD}
noncomputable def fK (xs:Str) (s:Stmt) (fs fl:Nat):FD:=⟨"_law_tidied",s,[xs, "_law_products", "_law_less_here"],1,
 (.cons (.asg (.name 1) (.comp [none] ["_law_product"] (.last (.seq (.ix (.var 0) (.int 3))) (.name 0) .nil (.call fs (.cons (.var 0) .nil)))))
 (.cons (.asg (.name 2) (.call fl (.cons (.var 1) .nil)))
 (.cons (.while (.cmp .isn (.var 2) .non) (.cons (.asg (.name 1) (.comp [none] ["_law_product"] (.last (.seq (.var 2)) (.name 0) .nil (.call fs (.cons (.var 0) .nil)))))
 (.cons (.asg (.name 2) (.call fl (.cons (.var 1) .nil)))
 .nil)))
 (.cons (.ret (.bin .add (.sl (.var 0) .none (.some (.int 3))) (.tup (.cons (.var 1) .nil))))
 .nil))))⟩
theorem pK {fs n:Nat} (F:cy T n fs) {ps:List Pr} (j:∀ p∈ps,cv 100000 p) (J:ps.length<=10000) {B:Addr} {M:Mem} (h0:M B=some (.lst (ps.map prD))) {N:NC} {o0:Option D} (q:∀ ρ M',Ge M M'->N ρ M' ((ps.map sgn).map prD)) :
 aJ (aW 0) (bh (wAr (phi T n fs) (ax (aI 0) ba))) (fun M=>av M (.ref B)=some (ps.map prD)) N (ps.map prD) [o0] M []:=by
 refine aH (f:=prD) (ys:=ps) (I:=fun l ρ M' acc=>(∃ o0, ρ = [o0])/\Ge M M'/\acc=(l.map sgn).map prD) rfl ⟨⟨_,rfl⟩,Ge.refl,rfl⟩ (fun _ _ _ _ h=>ad (h.2.1 _ _ h0)) ?_ ?_
 ·rintro l u r ρ M1 acc e ⟨⟨o0,rfl⟩,g1,rfl⟩;refine ⟨_,rfl,fun N' z => ?_⟩;have G:=aq e;walk_at "wp";refine F (j u (by rw [e];simp)) fun M2 g2 => ?_
  refine ⟨by simp [h8];lia,z _ _ _ ⟨⟨_,rfl⟩,g1.trans g2,by simp⟩⟩
 ·rintro ρ M1 acc ⟨⟨o0,rfl⟩,g1,rfl⟩;exact q _ _ g1
theorem rB {f fs fl:Nat} {xs:Str} {s:Stmt} (hf:T[f]? = some (fK xs s fs fl)) {n:Nat} (Y:cy T (n - 1) fs) (ho:e9 T (n - 1) fl) (hn : 1<=n) {Z L1 L2:Nat} {x y z:Int} {G:Addr} {ps:List Pr} (O:Tdy Z L1 L2 ps) {M:Mem} {Q:QD} (h0:M G=some (.lst (ps.map prD)))
 (q:∀ qs pr M',Td (ps.map sgn) qs->Ge M M'->M pr=none->M' pr=some (.lst (qs.map prD))->Q (.tup [.int x, .int y, .int z, .ref pr]) M'):phi T n f [.tup [.int x, .int y, .int z, .ref G]] M Q:=by
 refine al hn hf rfl (ρ := [some _,none,none]) rfl ?_;unfold fK;walk_at "st";refine ⟨_,rfl,_,ad h0, ?_⟩;refine pK Y O.lp O.n h0 fun ρ M1 g1 pt hpt => ?_;have F:=dm g1 hpt;have g2:=g1.trans (Ge.new (o := .lst ((ps.map sgn).map prD)) hpt);have mt:ae M1 pt (.lst ((ps.map sgn).map prD)) pt=some (.lst ((ps.map sgn).map prD)):=aa;generalize ae M1 pt (.lst ((ps.map sgn).map prD))=M2 at g2 mt;clear hpt g1;walk_at "st";have loop:∀ (m:Nat) (qs:List Pr) (pq:Addr) (M2:Mem),qs.length<=m->Tdy Z L1 L2 qs->(∀ p∈qs,Sgd p)->(∀ rs,Td qs rs->Td (ps.map sgn) rs)->Ge M M2->M pq=none->M2 pq=some (.lst (qs.map prD)) ->
  phi T (n - 1) fl [.ref pq] M2 fun d j=>aB (cb (wOp m5 (aI 2) (wC .non))) (wSs (phi T (n - 1)) (MSs.cons (MS.asg (MG.name 1) (ME.comp [none] ["_law_product"] (MC.last (MI.seq (ME.var 2)) (MG.name 0) MTs.nil (ME.call fs (MEs.cons (ME.var 0) MEs.nil))))) (MSs.cons (MS.asg (MG.name 2) (ME.call fl (MEs.cons (ME.var 1) MEs.nil))) MSs.nil)))
   { nx:=wSs (phi T (n - 1)) (MSs.cons (MS.ret (ME.bin BOp.add (ME.sl (ME.var 0) MO.none (MO.some (ME.int 3))) (ME.tup (MEs.cons (ME.var 1) MEs.nil)))) MSs.nil) { nx:=fun _ M'=>Q D.non M',rt:=Q },rt:=Q } (m+1)
   [some (.tup [.int x, .int y, .int z, .ref G]),some (.ref pq),some d] j:=by
  intro m
  induction m with
  | zero =>
    intro qs pq M2 hm tq J L g U mq;refine ho tq mq (fun j g3 w => ?_) fun qs' pr j w => ?_
    ·rw [aB];walk_at "wp";refine ⟨_,rfl,_,rfl, ?_⟩;rw [if_neg (by decide)]
     walk_at "st";refine (show ce (.tup [.int x, .int y, .int z, .ref G]) none (some 3) j _ from ⟨by rw [h8];lia, .inr trivial,by rw [h8];show 3+1<=16777216;decide, ?_⟩)
     exact q qs pq j (L _ (.done w)) (g.trans g3) U (g3 _ _ mq)
    ·have:=w.len;lia
  | succ m ih =>
    intro qs pq M2 hm tq J L g U mq;refine ho tq mq (fun j g3 w => ?_) fun qs' pr j w g3 CY mr => ?_
    ·rw [aB];walk_at "wp";refine ⟨_,rfl,_,rfl, ?_⟩;rw [if_neg (by decide)]
     walk_at "st";refine (show ce (.tup [.int x, .int y, .int z, .ref G]) none (some 3) j _ from ⟨by rw [h8];lia, .inr trivial,by rw [h8];show 3+1<=16777216;decide, ?_⟩)
     exact q qs pq j (L _ (.done w)) (g.trans g3) U (g3 _ _ mq)
    ·rw [aB];walk_at "wp";refine ⟨_,rfl,_,rfl, ?_⟩;rw [if_pos (by simp)]
     walk_at "st";refine ⟨_,ad mr, ?_⟩;have tq':=tq.fw w;have B:=w.sgd J;refine pK Y tq'.lp tq'.n mr fun ρ M4 g4 pt hpt => ?_;rw [pF B];have g5:=(g.trans (g3.trans g4)).trans (Ge.new (o := .lst (qs'.map prD)) hpt);have F:=dm (g.trans (g3.trans g4)) hpt;walk_at "st";exact ih qs' pt _ (by have:=w.len;lia) tq' B (fun rs t=>L rs (.step w t)) g5 F aa
 refine dA T _ _ _ _ _ _ (fun d j h => ?_) (loop (ps.map sgn).length (ps.map sgn) pt M2 (hQ _) O.sg pG (fun _ h=>h) g2 F mt);walk_at "st";exact ⟨_,h⟩
end
section
open PySem PySem.Spec PyProof.Rows L2.Srt
variable {T:List FD}
noncomputable def nR (xn:Str) (s:Stmt) (ft:Nat):FD:=⟨"_law_pool",s,["_law_box_here", "_law_length", "_law_found"],2,
 (.cons (.asg (.name 2) (.comp [none,(some 1),(some 0)] ["_law_turn", "_law_length", "_law_box_here"] (.last (.rng1 (.bin .add (.int 1) (.call ft (.cons (.var 0) (.cons (.int 3) .nil))))) (.name 0) .nil (.blt .tuple (.cons (.comp [none,(some 2)] ["_law_k", "_law_box_here"] (.last (.rng1 (.var 1)) (.name 0) .nil (.ix (.lst (.cons (.int 0) (.cons (.int 1) (.cons (.neg (.int 1)) (.cons (.int 2) .nil))))) (.call ft (.cons (.var 1) (.cons (.int 4) .nil)))))) .nil)))))
 (.cons (.ite (.cmp .eq (.call ft (.cons (.var 0) (.cons (.int 2) .nil))) (.int 0)) (.cons (.drop (.meth .append (.var 2) (.blt .tuple (.cons (.comp [none] [xn] (.last (.seq (.ix (.var 2) (.int 0))) (.name 0) .nil (.neg (.var 0)))) .nil))))
 .nil) .nil)
 (.cons (.ite (.cmp .eq (.call ft (.cons (.var 0) (.cons (.int 6) .nil))) (.int 0)) (.cons (.drop (.meth .append (.var 2) (.bin .mul (.tup (.cons (.int 0) .nil)) (.var 1))))
 .nil) .nil)
 (.cons (.ret (.var 2))
 .nil))))⟩
noncomputable def tpD (l:List Int):D := .tup (l.map .int)
structure jE (L:Nat) (ls:List (List Int)):Prop where
 ne:ls≠[]
 n:ls.length<=5
 l:∀ l∈ls,l.length=L/\Bdd 2 l
theorem wU {ft n:Nat} (B:cI T n ft) {b:Addr} {L:Nat} (hL:L<=1000) {M:Mem} (hb:Box b M) {N:NC} {o0:Option D} (q:∀ (l:List Int) ρ M',l.length=L->Bdd 2 l->Bx b M M'->N ρ M' (l.map .int)) :
 aJ (aW 0) (bh (wOp wIx (wAr gG (ax (wC (.int 0)) (ax (wC (.int 1)) (ax (wUn jm (wC (.int 1))) (ax (wC (.int 2)) ba))))) (wAr (phi T n ft) (ax (aI 1) (ax (wC (.int 4)) ba))))) (fun _=>True) N (aL 0 L) [o0,some (.ref b)] M []:=by
 refine fD (I:=fun l ρ M' acc => ∃ ns:List Int,(∃ o0, ρ = [o0,some (.ref b)])/\acc=ns.map .int/\ns.length=l.length/\Bdd 2 ns/\Bx b M M') ⟨[],⟨_,rfl⟩,rfl,rfl,fun x h=>(by cases h),Bx.refl hb⟩ (fun _ _ _ _ _=>trivial) ?_ ?_
 ·rintro l x r ρ M1 acc e ⟨ns,⟨o0,rfl⟩,rfl,j,F,z⟩;have G:=aq e;rw [aT] at G;refine ⟨_,rfl,fun N' J => ?_⟩;walk_at "wp";refine ⟨by rw [h8];lia,fun p Y => ?_⟩
  have O:=bP z.box Y;have Z:=z.ge (Ge.new (o := .lst [.int 0, .int 1, .int (-1), .int 2]) Y);refine B Z.box (by decide) (by decide) fun i M2 i0 i1 x3 => ?_
  have hm:M2 p=some (.lst [.int 0, .int 1, .int (-1), .int 2]):=x3.keep _ _ O aa;obtain ⟨v,hv,U⟩:∃ v:Int,atI [D.int 0, .int 1, .int (-1), .int 2] i=some (.int v)/\v.natAbs<=2:=by
   have:i=0∨i=1∨i=2∨i=3:=by lia
   rcases this with rfl | rfl | rfl | rfl
   ·exact ⟨0,rfl,by decide⟩
   ·exact ⟨1,rfl,by decide⟩
   ·exact ⟨-1,rfl,by decide⟩
   ·exact ⟨2,rfl,by decide⟩
  refine am hm hv ?_;refine ⟨by rw [hG,h8];lia,J _ _ _ ⟨ns++[v],⟨_,rfl⟩,by simp,by simp [j],fun y hy => ?_,Z.trans x3⟩⟩
  rcases DW.mp hy with h | h
  ·exact F y h
  ·simp at h;subst h;exact U
 ·rintro ρ M1 acc ⟨ns,⟨o0,rfl⟩,rfl,j,F,z⟩;rw [aT] at j;exact q ns _ _ j F z
theorem zO {f ft:Nat} {xn:Str} {s:Stmt} (hf:T[f]? = some (nR xn s ft)) {n:Nat} (G:cI T (n - 1) ft) (hn : 1<=n) {b:Addr} {L:Nat} (hL : 1<=L/\L<=1000) {M:Mem} {Q:QD} (hb:Box b M)
 (q:∀ ls p M',jE L ls->Bx b M M'->M p=none->M' p=some (.lst (ls.map tpD))->Q (.ref p) M'):phi T n f [.ref b, .int L] M Q:=by
 refine al hn hf rfl (ρ := [some _,some _,none]) rfl ?_;unfold nR;walk_at "st";refine G hb (by decide) (by decide) fun c M0 c0 c1 x0 => ?_
 walk_at "wp";refine ⟨by lia,by lia, ?_⟩
 refine fD (I:=fun l ρ M' acc => ∃ ls:List (List Int),(∃ o0, ρ = [o0,some (.int L),some (.ref b)])/\acc=ls.map tpD/\ls.length=l.length/\(∀ l∈ls,l.length=L/\Bdd 2 l)/\Bx b M M') ⟨[],⟨_,rfl⟩,rfl,rfl,fun x h=>(by cases h),x0⟩ (fun _ _ _ _ _=>trivial) ?_ ?_
 ·rintro l x r ρ M1 acc e ⟨ls,⟨o0,rfl⟩,rfl,B,hs,J⟩;have CY:=aq e;rw [aT] at CY;refine ⟨_,rfl,fun N' CZ => ?_⟩;walk_at "wp";refine ⟨by lia,by lia, ?_⟩
  rw [E5];refine wU G hL.2 J.box fun v ρ M2 v1 v2 x2 p hp => ?_;refine ⟨_,_,rfl,ad aa, ?_⟩;refine ⟨by rw [hG,h8];lia,CZ _ _ _ ⟨ls++[v],⟨_,rfl⟩,by simp [tpD],by simp [B],fun y hy => ?_,J.trans (x2.ge (Ge.new hp))⟩⟩
  rcases DW.mp hy with h | h
  ·exact hs y h
  ·simp at h;subst h;exact ⟨v1,v2⟩
 rintro ρ M1 acc ⟨ls,⟨o0,rfl⟩,rfl,B,hs,J⟩ pl hpl;rw [aT] at B;have j:=bP J.box hpl;have O:=J.none hpl j;have x2:=J.ge (Ge.new (o := .lst (ls.map tpD)) hpl);have m2:ae M1 pl (.lst (ls.map tpD)) pl=some (.lst (ls.map tpD)):=aa;have F:jE L ls:=⟨fun z=>by rw [z] at B;simp at B;lia,by lia,hs⟩
 have U:ls.length<=3:=by lia
 generalize ae M1 pl (.lst (ls.map tpD))=M2 at x2 m2;clear hpl J hs B;refine bV (I:=fun ρ M' => ∃ ls,jE L ls/\ls.length<=4/\Bx b M M'/\M' pl=some (.lst (ls.map tpD)) /\ ρ = [some (.ref b),some (.int L),some (.ref pl)]) (fun R hR => ?_) ?_
 ·walk_at "wp";refine G x2.box (by decide) (by decide) fun i M3 i0 i1 x3 => ?_
  walk_at "wp";have Y:=x3.keep _ _ j m2;have Z:=x2.trans x3
  split
  ·walk_at "st";obtain ⟨l0,lr,rfl⟩:∃ l0 lr,ls=l0::lr:=by cases ls with | nil=>exact absurd rfl F.ne | cons a b=>exact ⟨a,b,rfl⟩
   obtain ⟨h1,h2⟩:=F.l l0 (by simp)
   refine ⟨⟨_,Y⟩, ?_⟩;refine am Y (d:=tpD l0) (au (k := 0) rfl) ?_;refine ⟨_,rfl, ?_⟩;refine hC (by lia) (by first | rfl | trivial) fun ρ p hp => ?_
   refine ⟨_,_,rfl,ad aa, ?_⟩;have D0:pl≠p:=fun z=>by rw [<- z,Y] at hp;cases hp
   refine ⟨pl,_,_,rfl,rfl,Ge.new hp _ _ Y,by rw [hG,h8];lia, ?_⟩
   refine hR _ _ ⟨(l0::lr)++[ngl l0],⟨by simp,by simp at U ⊢;lia,fun l B => ?_⟩,by simp at U ⊢;lia, ?_, ?_,rfl⟩
   ·rcases DW.mp B with h | h
    ·exact F.l l h
    ·simp at h;subst h;exact ⟨by simp [ngl,h1],bK h2⟩
   ·exact (Z.ge (Ge.new hp)).upd O j
   ·rw [aa];simp [tpD]
  ·exact hR _ _ ⟨ls,F,by lia,Z,Y,rfl⟩
 clear x2 m2 F U;rintro ρ M3 ⟨ls,F,D1,x3,Y,rfl⟩;refine bV (I:=fun ρ M' => ∃ ls,jE L ls/\Bx b M M'/\M' pl=some (.lst (ls.map tpD)) /\ ρ = [some (.ref b),some (.int L),some (.ref pl)]) (fun R hR => ?_) ?_
 ·walk_at "wp";refine G x3.box (by decide) (by decide) fun i M4 i0 i1 Z => ?_
  walk_at "wp";have m4:=Z.keep _ _ j Y;have x5:=x3.trans Z
  split
  ·walk_at "st";refine ⟨⟨_,m4⟩,by rw [h8];lia,by lia,by lia,by rw [h8];simp;lia, ?_⟩
   rw [E5,no];refine ⟨pl,_,_,rfl,rfl,m4,by rw [hG,h8];lia, ?_⟩
   refine hR _ _ ⟨ls++[DK L 0],⟨by simp,by simp;lia,fun l B => ?_⟩,x5.upd O j, ?_,rfl⟩
   ·rcases DW.mp B with h | h
    ·exact F.l l h
    ·simp at h;subst h;exact ⟨by simp,fun y hy=>by rw [(Kl.mp hy).2];decide⟩
   ·rw [aa];simp [tpD]
  ·exact hR _ _ ⟨ls,F,x5,m4,rfl⟩
 rintro ρ M4 ⟨ls,F,Z,m4,rfl⟩;walk_at "st";exact q ls pl M4 F Z O m4
end
section
open PySem PySem.Spec PyProof.Rows L2.Srt
variable {T:List FD}
noncomputable def nS (s:Stmt) (ft fp:Nat):FD:=⟨"_law_near_scheme",s,["_law_box_here", "_law_most", "_law_lengths", "_law_pools", "_law_products", "_law_turn"],2,
 (.cons (.asg (.name 2) (.comp [none,(some 0)] ["_law_side", "_law_box_here"] (.last (.rng1 (.int 3)) (.name 0) .nil (.bin .add (.int 1) (.call ft (.cons (.var 1) (.cons (.ix (.lst (.cons (.int 4) (.cons (.int 12) .nil))) (.blt .int (.cons (.cmp .eq (.call ft (.cons (.var 1) (.cons (.int 8) .nil))) (.int 0)) .nil))) .nil)))))))
 (.cons (.asg (.name 3) (.comp [none,(some 0)] ["_law_length", "_law_box_here"] (.last (.seq (.var 2)) (.name 0) .nil (.call fp (.cons (.var 1) (.cons (.var 0) .nil))))))
 (.cons (.asg (.name 4) (.lst .nil))
 (.cons (.for (.name 5) (.rng1 (.call ft (.cons (.var 0) (.cons (.bin .add (.var 1) (.int 1)) .nil)))) (.cons (.drop (.meth .append (.var 4) (.blt .tuple (.cons (.comp [none,(some 0)] ["_law_pool_here", "_law_box_here"] (.last (.seq (.var 3)) (.name 0) .nil (.ix (.var 0) (.call ft (.cons (.var 1) (.cons (.blt .len (.cons (.var 0) .nil)) .nil)))))) .nil))))
 .nil))
 (.cons (.ret (.bin .add (.blt .tuple (.cons (.var 2) .nil)) (.tup (.cons (.var 4) .nil))))
 .nil)))))⟩
def uC (T:List FD) (n f:Nat):Prop := ∀ {b:Addr} {L:Nat} {M:Mem} {Q:QD},(1<=L/\L<=1000)->Box b M->(∀ ls p M',jE L ls->Bx b M M'->M p=none->M' p=some (.lst (ls.map tpD))->Q (.ref p) M')->phi T n f [.ref b, .int L] M Q
structure Near (L0 L1 L2:Nat) (ps:List Pr):Prop where
 h0 : 1<=L0/\L0<=12
 h1 : 1<=L1/\L1<=12
 h2 : 1<=L2/\L2<=12
 l:Lns L0 L1 L2 ps
 b:∀ p∈ps,BdP 1000 p
theorem i5 {ft n:Nat} (z:cI T n ft) {b:Addr} {M:Mem} (J:Box b M) {Q:QD} (q:∀ (i:Int) M',(i=4∨i=12)->Bx b M M'->phi T n ft [.ref b, .int i] M' Q) : 1+1<=p4 /\ ∀ p,M p=none->phi T n ft [.ref b, .int 8] (ae M p (.lst [.int 4, .int 12])) fun x j=>wEq x (.int 0) j fun x j=>jo [x] j fun y M2=>wIx (.ref p) y M2 fun x j=>phi T n ft [.ref b,x] j Q:=by
 refine ⟨by rw [h8];lia,fun p L => ?_⟩
 have B:=bP J L;have F:=(Bx.refl J).ge (Ge.new (o := .lst [.int 4, .int 12]) L);refine z F.box (by decide) (by decide) fun i M2 O U G => ?_
 have hm:M2 p=some (.lst [.int 4, .int 12]):=G.keep _ _ B aa;rw [xD,tT]
 by_cases h:i=0
 ·rw [beq_iff_eq.mpr h];exact am hm (d := .int 12) rfl (q 12 _ (.inr rfl) (F.trans G))
 ·rw [beq_false_of_ne h];exact am hm (d := .int 4) rfl (q 4 _ (.inl rfl) (F.trans G))
theorem jF {ft n:Nat} (z:cI T n ft) {b a:Addr} {L:Nat} {ls:List (List Int)} (B:jE L ls) {M:Mem} (U:Box b M) (F:a≠b) (G:M a=some (.lst (ls.map tpD))) {Q:QD} (q:∀ (l:List Int) M',l.length=L->Bdd 2 l->Bx b M M'->Q (tpD l) M') :
 du [.ref a] M fun y M2=>phi T n ft [.ref b,y] M2 fun y M2=>wIx (.ref a) y M2 Q:=by
 refine cu G ?_;have Z:=B.n;have h1 : 0 < ls.length:=List.length_pos_iff.mpr B.ne;rw [hG];refine z U (by lia) (by lia) fun i M2 Y i1 J => ?_
 obtain ⟨j,rfl⟩:=Es Y;have O:j < ls.length:=by lia
 refine am (J.keep _ _ F G) (d:=tpD (ls[j]'O)) (au (by rw [DL,hh O];rfl)) ?_
 obtain ⟨h1,h2⟩:=B.l _ (IB O);exact q _ _ h1 h2 J
theorem zP {f ft fp:Nat} {s:Stmt} (hf:T[f]? = some (nS s ft fp)) {n:Nat} (B:cI T (n - 1) ft) (D6:uC T (n - 1) fp) (hn : 1<=n) {b:Addr} {most:Nat} (hm:most<=1000) {M:Mem} {Q:QD} (hb:Box b M)
 (q:∀ L0 L1 L2 ps pr M',Near L0 L1 L2 ps->ps.length<=most->Bx b M M'->M pr=none->pr≠b->M' pr=some (.lst (ps.map prD))->Q (.tup [.int (L0:Nat), .int (L1:Nat), .int (L2:Nat), .ref pr]) M'):phi T n f [.ref b, .int most] M Q:=by
 refine al hn hf rfl (ρ := [some _,some _,none,none,none,none]) rfl ?_;unfold nS;walk_at "st";refine ⟨by decide,by decide, ?_⟩
 have er:aL 0 (3:Int).toNat=[.int 0, .int 1, .int 2]:=rfl;rw [er];simp only [aJ];refine ⟨trivial,_,rfl, ?_⟩;walk_at "wp";refine i5 B hb fun m0 M0 Dz x0 => ?_;refine B x0.box (by lia) (by lia) fun i0 M1 DA DB x1 => ?_
 walk_at "wp";refine ⟨by rw [h8];simp, ?_⟩
 have y1:=x0.trans x1;refine i5 B y1.box fun m1 M2 DC x2 => ?_;refine B x2.box (by lia) (by lia) fun i1 M3 DD DE x3 => ?_
 walk_at "wp";refine ⟨by rw [h8];simp, ?_⟩
 have y3:=(y1.trans x2).trans x3;refine i5 B y3.box fun m2 M4 DF x4 => ?_;refine B x4.box (by lia) (by lia) fun i2 M5 DG DH x5 => ?_
 walk_at "wp";refine ⟨by rw [h8];simp,fun pL D7 => ?_⟩
 have y5:=(y3.trans x4).trans x5;obtain ⟨L0,e0⟩:=Es (show 0<=1+i0 by lia)
 obtain ⟨L1,e1⟩:=Es (show 0<=1+i1 by lia)
 obtain ⟨L2,e2⟩:=Es (show 0<=1+i2 by lia)
 have h0 : 1<=L0/\L0<=12:=by lia
 have h1 : 1<=L1/\L1<=12:=by lia
 have h2 : 1<=L2/\L2<=12:=by lia
 have Z:=bP y5.box D7;have y6:=y5.ge (Ge.new (o := .lst ([]++[.int (1+i0)]++[.int (1+i1)]++[.int (1+i2)])) D7);have mL:ae M5 pL (.lst ([]++[.int (1+i0)]++[.int (1+i1)]++[.int (1+i2)])) pL=some (.lst [.int (L0:Nat), .int (L1:Nat), .int (L2:Nat)]):=by rw [aa,e0,e1,e2];rfl
 generalize ae M5 pL (.lst ([]++[.int (1+i0)]++[.int (1+i1)]++[.int (1+i2)]))=M6 at y6 mL;clear x0 x1 x2 x3 x4 x5 y1 y3 y5 D7 e0 e1 e2;walk_at "st";refine ⟨_,ad mL, ?_⟩;simp only [aJ];refine ⟨ad mL,_,rfl, ?_⟩;walk_at "wp";refine D6 (by lia) y6.box fun Du a0 M7 P0 x7 Dl Dm => ?_
 have CY:=bP y6.box Dl;have y7:=y6.trans x7;have D8:=x7.keep _ _ Z mL;refine ⟨by rw [h8];simp,ad D8, ?_⟩
 refine D6 (by lia) y7.box fun Dv a1 M8 P1 x8 Dn Do => ?_
 have CZ:=bP y7.box Dn;have y8:=y7.trans x8;have D9:=x8.keep _ _ Z D8;refine ⟨by rw [h8];simp,ad D9, ?_⟩
 refine D6 (by lia) y8.box fun Dw a2 M9 P2 x9 Dp Dq => ?_
 have D3:=bP y8.box Dp;have y9:=y8.trans x9;have Da:=x9.keep _ _ Z D9;refine ⟨by rw [h8];simp,ad Da,fun pP Db => ?_⟩
 have D0:=bP y9.box Db;have gP:=Ge.new (o := .lst ([]++[.ref a0]++[.ref a1]++[.ref a2])) Db;have D1:=y9.ge gP;have mP:ae M9 pP (.lst ([]++[.ref a0]++[.ref a1]++[.ref a2])) pP=some (.lst [.ref a0, .ref a1, .ref a2]):=by rw [aa];rfl
 have J:=gP _ _ Da;have L:=gP _ _ (x9.keep _ _ CY (x8.keep _ _ CY Dm));have U:=gP _ _ (x9.keep _ _ CZ Do);have Y:=gP _ _ Dq;generalize ae M9 pP (.lst ([]++[.ref a0]++[.ref a1]++[.ref a2]))=Dr at D1 mP J L U Y;clear x7 x8 x9 y6 y7 y8 y9 mL D8 D9 Da Dm Do Dq gP Db Dl Dn Dp;walk_at "st";refine ⟨by rw [h8];lia,fun pr j => ?_⟩
 have D2:=bP D1.box j;have Ds:=D1.none j D2;have gR:=Ge.new (o := .lst []) j;have Dc:=D1.ge gR;have mR:ae Dr pr (.lst []) pr=some (.lst (([]:List Pr).map prD)):=aa;have nL:pL≠pr:=fun z=>by rw [<- z,J] at j;cases j
 have nP:pP≠pr:=fun z=>by rw [<- z,mP] at j;cases j
 have n0:a0≠pr:=fun z=>by rw [<- z,L] at j;cases j
 have n1:a1≠pr:=fun z=>by rw [<- z,U] at j;cases j
 have n2:a2≠pr:=fun z=>by rw [<- z,Y] at j;cases j
 have D4:=gR _ _ J;have D5:=gR _ _ mP;have L:=gR _ _ L;have U:=gR _ _ U;have Y:=gR _ _ Y;generalize ae Dr pr (.lst [])=M11 at Dc mR D4 D5 L U Y;clear gR J mP D1 j;walk_at "st";refine B Dc.box (by lia) (by lia) fun c DI c0 c1 G => ?_
 refine ⟨c,rfl,by lia,by lia, ?_⟩
 refine n6 (I:=fun l ρ M' => ∃ (ps:List Pr) (o5:Option D), ρ = [some (.ref b),some (.int most),some (.ref pL),some (.ref pP),some (.ref pr),o5]/\ps.length=l.length/\Lns L0 L1 L2 ps/\(∀ p∈ps,BdP 1000 p)/\Bx b M M'/\M' pr=some (.lst (ps.map prD))/\M' pL=some (.lst [.int (L0:Nat), .int (L1:Nat), .int (L2:Nat)])/\M' pP=some (.lst [.ref a0, .ref a1, .ref a2])/\M' a0=some (.lst (Du.map tpD))/\M' a1=some (.lst (Dv.map tpD))/\M' a2=some (.lst (Dw.map tpD)))
  ⟨[],none,rfl,rfl,fun p h=>(by cases h),fun p h=>(by cases h),Dc.trans G,G.keep _ _ D2 mR,G.keep _ _ Z D4,G.keep _ _ D0 D5,G.keep _ _ CY L,G.keep _ _ CZ U,G.keep _ _ D3 Y⟩ (fun _ _ _ _=>trivial) ?_ ?_
 ·rintro l x r ρ N0 e ⟨ps,o5,rfl,hl,Dd,De,z0,nr,nl,np',Df,Dg,Dh⟩;have Dx:=aq e;rw [aT] at Dx;refine ⟨_,rfl,fun F hF => ?_⟩;walk_at "st";refine ⟨⟨_,nr⟩,_,ad np', ?_⟩;simp only [aJ];refine ⟨ad np',_,rfl, ?_⟩;walk_at "wp";refine jF B P0 z0.box CY Df fun l0 N1 v0 w0 z1 => ?_;refine ⟨by rw [h8];simp,ad (z1.keep _ _ D0 np'), ?_⟩
  refine jF B P1 z1.box CZ (z1.keep _ _ CZ Dg) fun l1 N2 v1 w1 z2 => ?_;have Di:=z1.trans z2;refine ⟨by rw [h8];simp,ad (Di.keep _ _ D0 np'), ?_⟩
  refine jF B P2 z2.box D3 (Di.keep _ _ D3 Dh) fun l2 N3 v2 w2 z3 => ?_;have Dj:=Di.trans z3;refine ⟨by rw [h8];simp,ad (Dj.keep _ _ D0 np'),fun pt Dy => ?_⟩
  refine ⟨_,_,rfl,ad aa, ?_⟩;have gt:=Ge.new (o := .lst ([]++[tpD l0]++[tpD l1]++[tpD l2])) Dy;have Dt:=Dj.ge gt;refine ⟨pr,_,_,rfl,rfl,gt _ _ (Dj.keep _ _ D2 nr),by rw [hG,h8];lia, ?_⟩
  have kp:∀ {c:Addr} {o o':O},c≠b->c≠pr->N0 c=some o->ae (ae N3 pt (.lst ([]++[tpD l0]++[tpD l1]++[tpD l2]))) pr o' c=some o:=fun h1 h2 h3=>by rw [aj h2];exact Dt.keep _ _ h1 h3
  refine hF _ _ ⟨ps++[(l0,l1,l2)],_,rfl,by simp [hl],fun p hp => ?_,fun p hp => ?_,(z0.trans Dt).upd Ds D2, ?_,kp Z nL nl,kp D0 nP np',kp CY n0 Df,kp CZ n1 Dg,kp D3 n2 Dh⟩
  ·rcases DW.mp hp with h | h
   ·exact Dd p h
   ·simp at h;subst h;exact ⟨v0,v1,v2⟩
  ·rcases DW.mp hp with h | h
   ·exact De p h
   ·simp at h;subst h;exact ⟨w0.le (by decide),w1.le (by decide),w2.le (by decide)⟩
  ·rw [aa];simp [prD,tpD]
 ·rintro ρ N0 ⟨ps,o5,rfl,hl,Dd,De,z0,nr,nl,np',Df,Dg,Dh⟩;rw [aT] at hl;walk_at "st";refine ⟨_,_,rfl,ad nl, ?_⟩;refine ⟨by rw [h8];lia, .inr trivial,by rw [h8];simp, ?_⟩
  exact q L0 L1 L2 ps pr N0 ⟨h0,h1,h2,Dd,De⟩ (by lia) z0 Ds D2 nr
end
section
variable {T:List FD}
noncomputable def ee (y:Str) (s:Stmt) (f:Nat):FD:=⟨"_law_same",s,["_law_found",y],2,
 (.cons (.ite (.tru (.isin2 (.var 1) "list" "tuple")) (.cons (.ite (.or (.cons (.cmp .ne (.isin (.var 1) "list") (.isin (.var 0) "list")) (.cons (.cmp .ne (.isin (.var 1) "tuple") (.isin (.var 0) "tuple")) .nil))) (.cons (.ret (.bl false))
 .nil) .nil)
 (.cons (.ret (.and (.cons (.cmp .eq (.blt .len (.cons (.var 0) .nil)) (.blt .len (.cons (.var 1) .nil))) (.cons (.blt .all (.cons (.comp [none,(some 0),(some 1)] ["_law_k", "_law_found",y] (.last (.rng1 (.blt .len (.cons (.var 1) .nil))) (.name 0) .nil (.call f (.cons (.ix (.var 1) (.var 0)) (.cons (.ix (.var 2) (.var 0)) .nil))))) .nil)) .nil))))
 .nil)) .nil)
 (.cons (.ret (.and (.cons (.isin (.var 0) "int") (.cons (.not (.isin (.var 0) "bool")) (.cons (.cmp .eq (.var 0) (.var 1)) .nil)))))
 .nil))⟩
theorem xL {M:Mem} {x d:D} {ds:List D} {i:Int} {Q:QD} (h:av M x=some ds) (e:atI ds i=some d) (q:Q d M):wIx x (.int i) M Q:=by
 cases x with
 | ref a =>
   simp only [av] at h
   split at h
   ·next j=>cases h;exact am j e q
   ·cases h
 | tup es=>cases h;exact ⟨i,d,rfl,e,q⟩
 | con es=>cases h;exact ⟨i,d,rfl,e,q⟩
 | _=>cases h
noncomputable def Sm (M:Mem):Nat->D->D->Prop
 | _, .int i, .int j=>i=j
 | n+1, .tup ds, .tup es=>ds.length<=100000/\ds.length=es.length /\ ∀ (k:Nat) d e,ds[k]? = some d->es[k]? = some e->Sm M n d e
 | n+1, .ref a, .ref b => ∃ ds es,M a=some (.lst ds)/\M b=some (.lst es)/\ds.length<=100000/\ds.length=es.length /\ ∀ (k:Nat) d e,ds[k]? = some d->es[k]? = some e->Sm M n d e
 | _,_,_=>False
theorem Sm.ge {M M':Mem} (g:Ge M M'):∀ {n:Nat} {x y:D},Sm M n x y->Sm M' n x y:=by
 intro n
 induction n with
 | zero=>intro x y h;cases x <;> cases y <;> first | exact h.elim | exact h
 | succ n ih =>
   intro x y h
   cases x <;> cases y <;> first
    | exact h.elim
    | (obtain ⟨ds,es,j,B,z,l,q⟩:=h;exact ⟨ds,es,g _ _ j,g _ _ B,z,l,fun k d e h1 h2=>ih (q k d e h1 h2)⟩)
    | (obtain ⟨z,l,q⟩:=h;exact ⟨z,l,fun k d e h1 h2=>ih (q k d e h1 h2)⟩)
    | exact h
theorem Sm.int {M:Mem} {n:Nat} {i:Int}:Sm M n (.int i) (.int i):=by unfold Sm;cases n <;> rfl
section
variable {f:Nat} {y:Str} {s:Stmt}
theorem nT (hf:T[f]? = some (ee y s f)) {n:Nat} (j : 1<=n) {x:Int} {M:Mem} {Q:QD} (q:Q (.bl true) M):phi T n f [.int x, .int x] M Q:=by
 refine al (by lia) hf rfl (ρ := [some _,some _]) rfl ?_
 unfold ee;walk_at "st";refine ⟨"int",rfl,false,rfl, ?_⟩;rw [if_neg (by decide)]
 walk_at "st";refine ⟨"int",rfl, ?_⟩;rw [if_pos (by decide)]
 refine ⟨"int",rfl, ?_⟩;rw [if_pos (by decide),beq_self_eq_true]
 exact q
theorem kh {n m:Nat} (ih:∀ {x y:D} {M:Mem} {Q:QD},Sm M n x y->(∀ M',Ge M M'->Q (.bl true) M')->phi T m f [x,y] M Q) {u v:D} {ds es:List D} {M:Mem} {N:NC} (F:av M u=some ds) (G:av M v=some es) (z:ds.length<=100000) (l:ds.length=es.length)
 (h:∀ (k:Nat) d e,ds[k]? = some d->es[k]? = some e->Sm M n d e) (q:∀ ρ M',Ge M M'->N ρ M' (es.map fun _ => .bl true)) :
 aJ (aW 0) (bh (wAr (phi T m f) (ax (wOp wIx (aI 1) (aI 0)) (ax (wOp wIx (aI 2) (aI 0)) ba)))) (fun _=>True) N (aL 0 (es.length:Int).toNat) [none,some u,some v] M []:=by
 refine aH (f:=fun i=>D.int (i:Nat)) (I:=fun l ρ M' acc=>(∃ o0, ρ = [o0,some u,some v])/\Ge M M'/\acc=l.map fun _ => .bl true) ck ⟨⟨_,rfl⟩,Ge.refl,rfl⟩ (fun _ _ _ _ _=>trivial) ?_ ?_
 ·rintro l' i r ρ M1 acc e ⟨⟨o0,rfl⟩,g,rfl⟩;refine ⟨_,rfl,fun N' j => ?_⟩;have B:=aq e;rw [Fv] at B;have hi:i < es.length:=by
   have:i∈Eo (es.length:Int).toNat:=by rw [e];simp
   have:=Je.mp this;lia
  walk_at "wp";have h1:ds[i]? = some ds[i]:=hh (by lia)
  have h2:es[i]? = some es[i]:=hh hi;refine xL (p8 F g) (au h1) (xL (p8 G g) (au h2) (ih ((h i _ _ h1 h2).ge g) fun M2 g2 => ?_));refine ⟨by rw [hG,h8];lia,j _ _ _ ⟨⟨_,rfl⟩,g.trans g2,by simp⟩⟩
 ·rintro ρ M1 acc ⟨⟨o0,rfl⟩,g,rfl⟩;have e:(Eo (es.length:Int).toNat).map (fun _=>D.bl true)=es.map fun _ => .bl true:=by
   rw [LF,LF];simp
  rw [e];exact q _ M1 g
theorem nU:∀ es:List D,aC gN (es.map fun _ => .bl true)=some (es.map fun _=>true)
 | [] => rfl
 | e::es=>by rw [DM,DM];simp only [aC,gN,nU es];rfl
theorem nV {es:List D} {p:Addr} {M:Mem} {Q:QD} (q:Q (.bl true) (ae M p (.lst (es.map fun _ => .bl true)))):qC [.ref p] (ae M p (.lst (es.map fun _ => .bl true))) Q:=by
 refine ⟨_,_,es.map (fun _=>true),rfl,ad aa,nU es, ?_⟩;rw [show ((es.map fun _=>true).all id)=true by simp]
 exact q
theorem zQ (hf:T[f]? = some (ee y s f)):∀ {n m:Nat},n+1<=m -> ∀ {u v:D} {M:Mem} {Q:QD},Sm M n u v->(∀ M',Ge M M'->Q (.bl true) M')->phi T m f [u,v] M Q:=by
 intro n
 induction n with
 | zero =>
   intro m hm u v M Q h q
   cases u <;> cases v <;> first
    | exact h.elim
    | (have e:=h;unfold Sm at e;subst e;exact nT hf (by lia) (q _ Ge.refl))
 | succ n ih =>
   intro m hm u v M Q h q
   cases u <;> cases v <;> first
    | exact h.elim
    | (have e:=h;unfold Sm at e;subst e;exact nT hf (by lia) (q _ Ge.refl))
    | skip
   case tup.tup ds es =>
    obtain ⟨z,l,h⟩:=h;refine al (by lia) hf rfl (ρ := [some _,some _]) rfl ?_
    unfold ee;walk_at "st";refine ⟨"tuple",rfl,true,rfl, ?_⟩;rw [if_pos rfl];walk_at "st";refine ⟨"tuple",rfl, "tuple",rfl,_,_,rfl,rfl,false,rfl, ?_⟩;rw [if_neg (by decide)]
    refine ⟨"tuple",rfl, "tuple",rfl,_,_,rfl,rfl,false,rfl, ?_⟩;rw [if_neg (by decide)]
    walk_at "st";rw [if_pos (by simp [l])]
    refine ⟨by lia,by lia, ?_⟩
    exact kh (ih (m:=m - 1) (by lia)) rfl rfl z l h fun ρ M' g p hp=>nV (q _ (g.trans (Ge.new hp)))
   case ref.ref a b =>
    obtain ⟨ds,es,B,j,z,l,h⟩:=h;refine al (by lia) hf rfl (ρ := [some _,some _]) rfl ?_
    unfold ee;have t1:tyN M (.ref a)=some "list" := by simp [tyN,B]
    have F:tyN M (.ref b)=some "list" := by simp [tyN,j]
    walk_at "st";refine ⟨"list",F,true,rfl, ?_⟩;rw [if_pos rfl];walk_at "st";refine ⟨"list",F, "list",t1,_,_,rfl,rfl,false,rfl, ?_⟩;rw [if_neg (by decide)]
    refine ⟨"list",F, "list",t1,_,_,rfl,rfl,false,rfl, ?_⟩;rw [if_neg (by decide)]
    walk_at "st";refine jw (ad B) (jw (ad j) ?_);walk_at "wp";rw [if_pos (by simp [l])]
    refine jw (ad j) ?_;refine ⟨_,rfl,by lia,by lia, ?_⟩
    exact kh (ih (m:=m - 1) (by lia)) (ad B) (ad j) z l h fun ρ M' g p hp=>nV (q _ (g.trans (Ge.new hp)))
end
end
section
open PySem PySem.Spec PyProof.Rows L2.Srt
theorem fL {M:Mem} {n:Nat} {l:List Int} (j:l.length<=100000):Sm M (n+1) (.tup (l.map .int)) (.tup (l.map .int)):=by
 refine ⟨by rw [hG];exact j,rfl,fun k d e h1 h2 => ?_⟩
 rw [h1] at h2;cases h2;rw [DL] at h1;obtain ⟨i,_,rfl⟩:=Fk.mp h1;exact Sm.int
theorem zR {M:Mem} {p:Pr} (h:p.1.length<=100000/\p.2.1.length<=100000/\p.2.2.length<=100000):Sm M 2 (prD p) (prD p):=by
 refine ⟨by simp,rfl,fun k d e h1 h2 => ?_⟩
 rw [h1] at h2;cases h2;have hm:=DZ h1;simp only [r4,DY,or_false] at hm
 rcases hm with rfl | rfl | rfl
 ·exact fL h.1
 ·exact fL h.2.1
 ·exact fL h.2.2
theorem pM {M:Mem} {x y z:Int} {a b:Addr} {qs:List Pr} (j:qs.length<=100000) (q:M a=some (.lst (qs.map prD))) (B:M b=some (.lst (qs.map prD))) (h:∀ p∈qs,p.1.length<=100000/\p.2.1.length<=100000/\p.2.2.length<=100000) :
 Sm M 4 (.tup [.int x, .int y, .int z, .ref a]) (.tup [.int x, .int y, .int z, .ref b]):=by
 refine ⟨by simp,rfl,fun k d e h1 h2 => ?_⟩
 have:k=0∨k=1∨k=2∨k=3:=by
  have:=(hD.mp h1).1;simp at this;lia
 rcases this with rfl | rfl | rfl | rfl
 ·cases h1;cases h2;exact Sm.int
 ·cases h1;cases h2;exact Sm.int
 ·cases h1;cases h2;exact Sm.int
 ·cases h1;cases h2
  refine ⟨_,_,q,B,by rw [hG];exact j,rfl,fun k d e h1 h2 => ?_⟩
  rw [h1] at h2;cases h2;rw [DL] at h1;obtain ⟨p,F,rfl⟩:=Fk.mp h1;exact zR (h p (DZ F))
theorem Bt:∀ ns:List Int,Ey (ns.map .int) (ns.map .int)=true
 | [] => rfl
 | n::ns=>by simp [Ey,Ep,Bt ns]
theorem Bu:∀ ps:List Pr,Ey (ps.map eK) (ps.map eK)=true
 | [] => rfl
 | p::ps=>by simp [Ey,Ep,Bu ps,eK,Bt]
theorem xM {M:Mem} {a:Addr} {ps:List Pr} (h:M a=some (.lst (ps.map prD))):rb 16 M (.ref a)=some (.list (ps.map eK)):=by rw [cj h,nj];rfl
theorem Cp {M:Mem} {a b:Addr} {ps:List Pr} {Q:QD} (j:M a=some (.lst (ps.map prD))) (z:M b=some (.lst (ps.map prD))) (q:Q (.bl false) M):wNe (.ref a) (.ref b) M Q:=by
 refine ⟨_,_,xM j,xM z, ?_⟩;rw [show Ep (.list (ps.map eK)) (.list (ps.map eK))=true by simp [Ep,Bu]]
 exact q
theorem nW {a b c:Nat}:∀ {ps:List Pr},(∀ p∈ps,p.1.length<=a/\p.2.1.length<=b/\p.2.2.length<=c)->(aQ ps).length<=ps.length*(a*(b*c))
 | [],_=>by simp [aQ]
 | p::ps,h=>by
   rw [show aQ (p::ps)=dO p++aQ ps by simp [aQ],DP,E9,Gp]
   have h1:=nW (ps:=ps) fun q j=>h q (by simp [j])
   obtain ⟨x,y,z⟩:=h p (by simp)
   have h2:(dO p).length<=a*(b*c):=by
    unfold dO;rw [gZ];have:=nB (l:=p.1);have:=nB (l:=p.2.1);have:=nB (l:=p.2.2);exact Nat.mul_le_mul (by lia) (Nat.mul_le_mul (by lia) (by lia))
   lia
theorem pN {L:List Tm}:∀ kv∈L.map kcD, ∃ i,kv.2 = .int i:=fun kv h=>by
 obtain ⟨t,_,rfl⟩:=ET.mp h;exact ⟨t.2,rfl⟩
end
section
namespace K34
noncomputable def ag (i:Nat):Stmt:=PySem.Challenge.pw_fewtimes_k34_tidied.main.body.getD i (.Pass ⟨0,0,0,0⟩)
noncomputable def d0:FD:=dL (ag 1)
noncomputable def d1:FD:=gm (ag 3)
noncomputable def d2:FD:=dM (ag 4)
noncomputable def d3:FD:=dZ (ag 5)
noncomputable def d4:FD:=hV (ag 6) 1 2
noncomputable def d5:FD:=gp (ag 7)
noncomputable def d6:FD:=cZ (ag 8) 3
noncomputable def d7:FD:=jB (ag 9) 0 5 6
noncomputable def d8:FD:=hW (ag 10) 4 7
noncomputable def d9:FD:=j7 (ag 12)
noncomputable def d10:FD:=jv (ag 13)
noncomputable def d11:FD:=qZ (ag 14) 9 10
noncomputable def d12:FD:=n9 (ag 15) 10
noncomputable def d13:FD:=gW (ag 16) 12
noncomputable def d14:FD:=nh (ag 17) 13
noncomputable def d15:FD:=gX (ag 18) 12 14
noncomputable def d16:FD:=ee "_law_due" (ag 19) 16
noncomputable def d17:FD:=fG "_law_part_here" "_law_number_here" (ag 20)
noncomputable def d18:FD:=nE "_law_scheme_here" (ag 21) 17
noncomputable def d19:FD:=nR "_law_number_here" (ag 22) 12
noncomputable def d20:FD:=nS (ag 23) 12 19
noncomputable def d21:FD:=hZ "_law_about" "_law_part_here" "_law_number_here" (ag 24)
noncomputable def d22:FD:=fJ "_law_number_here" (ag 25) 21
noncomputable def d23:FD:=i3 (ag 26)
noncomputable def b24:MSs :=
 (.cons (.for (.name 1) (.rng1 (.blt .len (.cons (.var 0) .nil))) (.cons (.ite (.cmp .ne (.comp [none] ["_law_part_here"] (.last (.seq (.ix (.var 0) (.var 1))) (.name 0) (.cons (.cmp .eq (.var 0) (.bin .mul (.tup (.cons (.int 0) .nil)) (.blt .len (.cons (.var 0) .nil)))) .nil) (.var 0))) (.lst .nil)) (.cons (.ret (.bin .add (.sl (.var 0) .none (.some (.var 1))) (.sl (.var 0) (.some (.bin .add (.var 1) (.int 1))) .none)))
 .nil) .nil)
 .nil))
 (.cons (.for (.name 2) (.rng1 (.blt .len (.cons (.var 0) .nil))) (.cons (.for (.name 3) (.rng2 (.bin .add (.var 2) (.int 1)) (.blt .len (.cons (.var 0) .nil))) (.cons (.asg (.name 4) (.comp [none,(some 0),(some 2),(some 3)] ["_law_side", "_law_products", "_law_r", "_law_s"] (.last (.rng1 (.int 3)) (.name 0) (.cons (.cmp .eq (.ix (.ix (.var 1) (.var 2)) (.var 0)) (.ix (.ix (.var 1) (.var 3)) (.var 0))) .nil) (.var 0))))
 (.cons (.ite (.cmp .gt (.blt .len (.cons (.var 4) .nil)) (.int 1)) (.cons (.asg (.name 5) (.ix (.comp [none,(some 4)] ["_law_side", "_law_alike"] (.last (.seq (.tup (.cons (.int 2) (.cons (.int 1) (.cons (.int 0) .nil))))) (.name 0) (.cons (.or (.cons (.cmp .ninS (.var 0) (.var 1)) (.cons (.cmp .eq (.var 1) (.lst (.cons (.int 0) (.cons (.int 1) (.cons (.int 2) .nil))))) .nil))) .nil) (.var 0))) (.int 0)))
 (.cons (.asg (.name 6) (.blt .list (.cons (.ix (.var 0) (.var 2)) .nil)))
 (.cons (.put (.var 6) (.var 5) (.call 23 (.cons (.ix (.ix (.var 0) (.var 2)) (.var 5)) (.cons (.ix (.ix (.var 0) (.var 3)) (.var 5)) .nil))))
 (.cons (.asg (.name 7) (.bin .add (.sl (.var 0) (.some (.bin .add (.var 2) (.int 1))) (.some (.var 3))) (.sl (.var 0) (.some (.bin .add (.var 3) (.int 1))) .none)))
 (.cons (.ret (.bin .add (.bin .add (.sl (.var 0) .none (.some (.var 2))) (.lst (.cons (.blt .tuple (.cons (.var 6) .nil)) .nil))) (.var 7)))
 .nil))))) .nil)
 .nil)))
 .nil))
 (.cons (.ret .non)
 .nil)))
noncomputable def d24:FD:=⟨"_law_less",ag 27,["_law_products", "_law_at", "_law_r", "_law_s", "_law_alike", "_law_third", "_law_both", "_law_rest"],1,b24⟩
noncomputable def d25:FD:=fK "_law_scheme_here" (ag 28) 22 24
noncomputable def b26:MSs :=
 (.cons (.for (.name 1) (.rng1 (.bin .add (.int 1) (.blt .min2 (.cons (.int 15) (.cons (.blt .len (.cons (.var 0) .nil)) .nil))))) (.cons (.asg (.name 2) (.call 11 (.cons (.var 0) (.cons (.var 1) .nil))))
 (.cons (.asg (.name 3) (.call 20 (.cons (.var 2) (.cons (.int 9) .nil))))
 (.cons (.ite (.cmp .eq (.call 12 (.cons (.var 2) (.cons (.int 4) .nil))) (.int 0)) (.cons (.asg (.name 3) (.call 15 (.cons (.var 2) (.cons (.comp [none,(some 2)] ["_law_side", "_law_box_here"] (.last (.rng1 (.int 3)) (.name 0) .nil (.bin .add (.int 1) (.call 12 (.cons (.var 1) (.cons (.int 5) .nil)))))) (.cons (.call 12 (.cons (.var 2) (.cons (.int 13) .nil))) .nil)))))
 .nil) .nil)
 (.cons (.asg (.name 4) (.blt .list (.cons (.ix (.var 3) (.int 3)) .nil)))
 (.cons (.asg (.name 5) (.call 25 (.cons (.var 3) .nil)))
 (.cons (.for (.name 6) (.rng1 (.int 2)) (.cons (.asg (.name 7) (.call 8 (.cons (.var 3) .nil)))
 (.cons (.ite (.not (.tru (.call 16 (.cons (.var 7) (.cons (.var 5) .nil))))) (.cons (.ret (.bl false))
 .nil) .nil)
 (.cons (.drop (.meth .append (.ix (.var 7) (.int 3)) (.tup .nil)))
 .nil))))
 (.cons (.ite (.or (.cons (.cmp .neD (.call 18 (.cons (.var 5) .nil)) (.call 18 (.cons (.var 3) .nil))) (.cons (.not (.tru (.call 16 (.cons (.call 8 (.cons (.call 8 (.cons (.var 3) .nil)) .nil)) (.cons (.var 5) .nil))))) (.cons (.cmp .ne (.ix (.var 3) (.int 3)) (.var 4)) .nil)))) (.cons (.ret (.bl false))
 .nil) .nil)
 .nil))))))))
 (.cons (.ret (.bl true))
 .nil))
noncomputable def d26:FD:=⟨"law",ag 29,["_law_script", "_law_k", "_law_box_here", "_law_scheme_here", "_law_kept", "_law_due", "_law_turn", "_law_found"],1,b26⟩
noncomputable def tab:List FD := [d0,d1,d2,d3,d4,d5,d6,d7,d8,d9,d10,d11,d12,d13,d14,d15,d16,d17,d18,d19,d20,d21,d22,d23,d24,d25,d26]
noncomputable def nX:List (Str×D) := []
end K34
end
section
namespace K34
theorem Bv:∀ d∈tab,qX (tab.map (·.name)) nX d=true:=by decide +kernel
noncomputable abbrev PA (K:Frag) (x:Str) (f:Addr):Prop:=GY K Ez x=some (some (.ref f))
noncomputable abbrev PL (K:Frag) (f:Addr) (x:Str) (s:Stmt) (oc:e6) (od:Option Addr) (kV dc pm:e6) (an:Option Addr) (cd ct:e6) (sl:Array (Option e6)):Prop:=K.lookup f=some ⟨oc,od, .func (FR x x (de s) (bE s) (ay s) .none kV dc pm an cd ct),sl⟩
noncomputable abbrev PC (K:Frag) (c:e6) (x:Str):Prop:=HJ K c x=true
noncomputable abbrev PK (K:Frag) (f:Addr):Prop:=Gc K (.ref f)=true
theorem all_mk {l:J2} {w:E4} {K:Frag} {h:Heap} {mg:Str->Option e6} {fa:Addr} (X:K.In h) (G:h.Ns Ez mg) (hfa:mg "law" = some (.ref fa)) (z:∀ x∈bltNames,GY K Ez x=some none)
 (a0:PA K "has_noughts" f0) (l0:PL K f0 "has_noughts" (ag 1) oc0 od0 kV0 dc0 pm0 an0 cd0 ct0 sl0) (c0:PC K cd0 "has_noughts") (k0:PK K f0)
 (a1:PA K "begins_below" f1) (l1:PL K f1 "begins_below" (ag 3) oc1 od1 kV1 dc1 pm1 an1 cd1 ct1 sl1) (c1:PC K cd1 "begins_below") (k1:PK K f1)
 (a2:PA K "negated" f2) (l2:PL K f2 "negated" (ag 4) oc2 od2 kV2 dc2 pm2 an2 cd2 ct2 sl2) (c2:PC K cd2 "negated") (k2:PK K f2)
 (a3:PA K "added" f3) (l3:PL K f3 "added" (ag 5) oc3 od3 kV3 dc3 pm3 an3 cd3 ct3 sl3) (c3:PC K cd3 "added") (k3:PK K f3)
 (a4:PA K "signed" f4) (l4:PL K f4 "signed" (ag 6) oc4 od4 kV4 dc4 pm4 an4 cd4 ct4 sl4) (c4:PC K cd4 "signed") (k4:PK K f4)
 (a5:PA K "first_alike" f5) (l5:PL K f5 "first_alike" (ag 7) oc5 od5 kV5 dc5 pm5 an5 cd5 ct5 sl5) (c5:PC K cd5 "first_alike") (k5:PK K f5)
 (a6:PA K "put_together" f6) (l6:PL K f6 "put_together" (ag 8) oc6 od6 kV6 dc6 pm6 an6 cd6 ct6 sl6) (c6:PC K cd6 "put_together") (k6:PK K f6)
 (a7:PA K "one_fewer" f7) (l7:PL K f7 "one_fewer" (ag 9) oc7 od7 kV7 dc7 pm7 an7 cd7 ct7 sl7) (c7:PC K cd7 "one_fewer") (k7:PK K f7)
 (a8:PA K "tidied" f8) (l8:PL K f8 "tidied" (ag 10) oc8 od8 kV8 dc8 pm8 an8 cd8 ct8 sl8) (c8:PC K cd8 "tidied") (k8:PK K f8)
 (a9:PA K "_law_cell_at" f9) (l9:PL K f9 "_law_cell_at" (ag 12) oc9 od9 kV9 dc9 pm9 an9 cd9 ct9 sl9) (c9:PC K cd9 "_law_cell_at") (k9:PK K f9)
 (a10:PA K "_law_mixed" f10) (l10:PL K f10 "_law_mixed" (ag 13) oc10 od10 kV10 dc10 pm10 an10 cd10 ct10 sl10) (c10:PC K cd10 "_law_mixed") (k10:PK K f10)
 (a11:PA K "_law_box" f11) (l11:PL K f11 "_law_box" (ag 14) oc11 od11 kV11 dc11 pm11 an11 cd11 ct11 sl11) (c11:PC K cd11 "_law_box") (k11:PK K f11)
 (a12:PA K "_law_take" f12) (l12:PL K f12 "_law_take" (ag 15) oc12 od12 kV12 dc12 pm12 an12 cd12 ct12 sl12) (c12:PC K cd12 "_law_take") (k12:PK K f12)
 (a13:PA K "_law_number" f13) (l13:PL K f13 "_law_number" (ag 16) oc13 od13 kV13 dc13 pm13 an13 cd13 ct13 sl13) (c13:PC K cd13 "_law_number") (k13:PK K f13)
 (a14:PA K "_law_part" f14) (l14:PL K f14 "_law_part" (ag 17) oc14 od14 kV14 dc14 pm14 an14 cd14 ct14 sl14) (c14:PC K cd14 "_law_part") (k14:PK K f14)
 (a15:PA K "_law_scheme" f15) (l15:PL K f15 "_law_scheme" (ag 18) oc15 od15 kV15 dc15 pm15 an15 cd15 ct15 sl15) (c15:PC K cd15 "_law_scheme") (k15:PK K f15)
 (a16:PA K "_law_same" f16) (l16:PL K f16 "_law_same" (ag 19) oc16 od16 kV16 dc16 pm16 an16 cd16 ct16 sl16) (c16:PC K cd16 "_law_same") (k16:PK K f16)
 (a17:PA K "_law_nonzero" f17) (l17:PL K f17 "_law_nonzero" (ag 20) oc17 od17 kV17 dc17 pm17 an17 cd17 ct17 sl17) (c17:PC K cd17 "_law_nonzero") (k17:PK K f17)
 (a18:PA K "_law_sums" f18) (l18:PL K f18 "_law_sums" (ag 21) oc18 od18 kV18 dc18 pm18 an18 cd18 ct18 sl18) (c18:PC K cd18 "_law_sums") (k18:PK K f18)
 (a19:PA K "_law_pool" f19) (l19:PL K f19 "_law_pool" (ag 22) oc19 od19 kV19 dc19 pm19 an19 cd19 ct19 sl19) (c19:PC K cd19 "_law_pool") (k19:PK K f19)
 (a20:PA K "_law_near_scheme" f20) (l20:PL K f20 "_law_near_scheme" (ag 23) oc20 od20 kV20 dc20 pm20 an20 cd20 ct20 sl20) (c20:PC K cd20 "_law_near_scheme") (k20:PK K f20)
 (a21:PA K "_law_about" f21) (l21:PL K f21 "_law_about" (ag 24) oc21 od21 kV21 dc21 pm21 an21 cd21 ct21 sl21) (c21:PC K cd21 "_law_about") (k21:PK K f21)
 (a22:PA K "_law_signed" f22) (l22:PL K f22 "_law_signed" (ag 25) oc22 od22 kV22 dc22 pm22 an22 cd22 ct22 sl22) (c22:PC K cd22 "_law_signed") (k22:PK K f22)
 (a23:PA K "_law_added" f23) (l23:PL K f23 "_law_added" (ag 26) oc23 od23 kV23 dc23 pm23 an23 cd23 ct23 sl23) (c23:PC K cd23 "_law_added") (k23:PK K f23)
 (a24:PA K "_law_less" f24) (l24:PL K f24 "_law_less" (ag 27) oc24 od24 kV24 dc24 pm24 an24 cd24 ct24 sl24) (c24:PC K cd24 "_law_less") (k24:PK K f24)
 (a25:PA K "_law_tidied" f25) (l25:PL K f25 "_law_tidied" (ag 28) oc25 od25 kV25 dc25 pm25 an25 cd25 ct25 sl25) (c25:PC K cd25 "_law_tidied") (k25:PK K f25)
 (a26:PA K "law" f26) (l26:PL K f26 "law" (ag 29) oc26 od26 kV26 dc26 pm26 an26 cd26 ct26 sl26) (c26:PC K cd26 "law") (k26:PK K f26)
 : ∃ fd:Gb,(∀ (s:h6) (v:e6),Ks s fd ⟨[v],[]⟩ [("_law_script",v)]) /\ ∀ base:Heap,K.In base->base.Ns Ez mg->dq l.prog w K mg base CX0 40 fa fd ["_law_script"] (lSp K (phi tab 40 26)):=by
 have e:=hfa.symm.trans (DO X G a26)
 cases e
 have O:xC K mg tab nX:=by
  refine ⟨fun x hx=>PySem.W.mg_none_of X G (z x hx), ?_,Bv, ?_⟩
  ·intro i d hd
   match i,hd with
   | 0,hd=>cases hd;exact ⟨_,_,af l0 c0 k0,DO X G a0,a0,(af l0 c0 k0).binds fun _ _ _ _ _ _ us hl=>by obtain ⟨u0,rfl⟩:=bj us hl;rfl⟩
   | 1,hd=>cases hd;exact ⟨_,_,af l1 c1 k1,DO X G a1,a1,(af l1 c1 k1).binds fun _ _ _ _ _ _ us hl=>by obtain ⟨u0,rfl⟩:=bj us hl;rfl⟩
   | 2,hd=>cases hd;exact ⟨_,_,af l2 c2 k2,DO X G a2,a2,(af l2 c2 k2).binds fun _ _ _ _ _ _ us hl=>by obtain ⟨u0,rfl⟩:=bj us hl;rfl⟩
   | 3,hd=>cases hd;exact ⟨_,_,af l3 c3 k3,DO X G a3,a3,(af l3 c3 k3).binds fun _ _ _ _ _ _ us hl=>by obtain ⟨u0,u1,rfl⟩:=bQ us hl;rfl⟩
   | 4,hd=>cases hd;exact ⟨_,_,af l4 c4 k4,DO X G a4,a4,(af l4 c4 k4).binds fun _ _ _ _ _ _ us hl=>by obtain ⟨u0,rfl⟩:=bj us hl;rfl⟩
   | 5,hd=>cases hd;exact ⟨_,_,af l5 c5 k5,DO X G a5,a5,(af l5 c5 k5).binds fun _ _ _ _ _ _ us hl=>by obtain ⟨u0,rfl⟩:=bj us hl;rfl⟩
   | 6,hd=>cases hd;exact ⟨_,_,af l6 c6 k6,DO X G a6,a6,(af l6 c6 k6).binds fun _ _ _ _ _ _ us hl=>by obtain ⟨u0,u1,rfl⟩:=bQ us hl;rfl⟩
   | 7,hd=>cases hd;exact ⟨_,_,af l7 c7 k7,DO X G a7,a7,(af l7 c7 k7).binds fun _ _ _ _ _ _ us hl=>by obtain ⟨u0,rfl⟩:=bj us hl;rfl⟩
   | 8,hd=>cases hd;exact ⟨_,_,af l8 c8 k8,DO X G a8,a8,(af l8 c8 k8).binds fun _ _ _ _ _ _ us hl=>by obtain ⟨u0,rfl⟩:=bj us hl;rfl⟩
   | 9,hd=>cases hd;exact ⟨_,_,af l9 c9 k9,DO X G a9,a9,(af l9 c9 k9).binds fun _ _ _ _ _ _ us hl=>by obtain ⟨u0,u1,rfl⟩:=bQ us hl;rfl⟩
   | 10,hd=>cases hd;exact ⟨_,_,af l10 c10 k10,DO X G a10,a10,(af l10 c10 k10).binds fun _ _ _ _ _ _ us hl=>by obtain ⟨u0,u1,rfl⟩:=bQ us hl;rfl⟩
   | 11,hd=>cases hd;exact ⟨_,_,af l11 c11 k11,DO X G a11,a11,(af l11 c11 k11).binds fun _ _ _ _ _ _ us hl=>by obtain ⟨u0,u1,rfl⟩:=bQ us hl;rfl⟩
   | 12,hd=>cases hd;exact ⟨_,_,af l12 c12 k12,DO X G a12,a12,(af l12 c12 k12).binds fun _ _ _ _ _ _ us hl=>by obtain ⟨u0,u1,rfl⟩:=bQ us hl;rfl⟩
   | 13,hd=>cases hd;exact ⟨_,_,af l13 c13 k13,DO X G a13,a13,(af l13 c13 k13).binds fun _ _ _ _ _ _ us hl=>by obtain ⟨u0,rfl⟩:=bj us hl;rfl⟩
   | 14,hd=>cases hd;exact ⟨_,_,af l14 c14 k14,DO X G a14,a14,(af l14 c14 k14).binds fun _ _ _ _ _ _ us hl=>by obtain ⟨u0,u1,rfl⟩:=bQ us hl;rfl⟩
   | 15,hd=>cases hd;exact ⟨_,_,af l15 c15 k15,DO X G a15,a15,(af l15 c15 k15).binds fun _ _ _ _ _ _ us hl=>by obtain ⟨u0,u1,u2,rfl⟩:=Cf us hl;rfl⟩
   | 16,hd=>cases hd;exact ⟨_,_,af l16 c16 k16,DO X G a16,a16,(af l16 c16 k16).binds fun _ _ _ _ _ _ us hl=>by obtain ⟨u0,u1,rfl⟩:=bQ us hl;rfl⟩
   | 17,hd=>cases hd;exact ⟨_,_,af l17 c17 k17,DO X G a17,a17,(af l17 c17 k17).binds fun _ _ _ _ _ _ us hl=>by obtain ⟨u0,rfl⟩:=bj us hl;rfl⟩
   | 18,hd=>cases hd;exact ⟨_,_,af l18 c18 k18,DO X G a18,a18,(af l18 c18 k18).binds fun _ _ _ _ _ _ us hl=>by obtain ⟨u0,rfl⟩:=bj us hl;rfl⟩
   | 19,hd=>cases hd;exact ⟨_,_,af l19 c19 k19,DO X G a19,a19,(af l19 c19 k19).binds fun _ _ _ _ _ _ us hl=>by obtain ⟨u0,u1,rfl⟩:=bQ us hl;rfl⟩
   | 20,hd=>cases hd;exact ⟨_,_,af l20 c20 k20,DO X G a20,a20,(af l20 c20 k20).binds fun _ _ _ _ _ _ us hl=>by obtain ⟨u0,u1,rfl⟩:=bQ us hl;rfl⟩
   | 21,hd=>cases hd;exact ⟨_,_,af l21 c21 k21,DO X G a21,a21,(af l21 c21 k21).binds fun _ _ _ _ _ _ us hl=>by obtain ⟨u0,rfl⟩:=bj us hl;rfl⟩
   | 22,hd=>cases hd;exact ⟨_,_,af l22 c22 k22,DO X G a22,a22,(af l22 c22 k22).binds fun _ _ _ _ _ _ us hl=>by obtain ⟨u0,rfl⟩:=bj us hl;rfl⟩
   | 23,hd=>cases hd;exact ⟨_,_,af l23 c23 k23,DO X G a23,a23,(af l23 c23 k23).binds fun _ _ _ _ _ _ us hl=>by obtain ⟨u0,u1,rfl⟩:=bQ us hl;rfl⟩
   | 24,hd=>cases hd;exact ⟨_,_,af l24 c24 k24,DO X G a24,a24,(af l24 c24 k24).binds fun _ _ _ _ _ _ us hl=>by obtain ⟨u0,rfl⟩:=bj us hl;rfl⟩
   | 25,hd=>cases hd;exact ⟨_,_,af l25 c25 k25,DO X G a25,a25,(af l25 c25 k25).binds fun _ _ _ _ _ _ us hl=>by obtain ⟨u0,rfl⟩:=bj us hl;rfl⟩
   | 26,hd=>cases hd;exact ⟨_,_,af l26 c26 k26,DO X G a26,a26,(af l26 c26 k26).binds fun _ _ _ _ _ _ us hl=>by obtain ⟨u0,rfl⟩:=bj us hl;rfl⟩
   | i+27,hd=>simp [tab] at hd
  ·intro x i hx;simp only [nX,r4,DY,or_false,Prod.mk.injEq] at hx
 refine ⟨FR "law" "law" (de (ag 29)) (bE (ag 29)) (ay (ag 29)) .none kV26 dc26 pm26 an26 cd26 ct26,fun s v => .of_eq rfl,fun base _ _ => ?_⟩;exact tS O 40 26 d26 _ _ rfl (af l26 c26 k26)
theorem walk {l:J2} {q:DQ} {loose:List Str} {XP:(Str->Option e6)->Heap->Prop} {YP:E4->Heap->Prop} {d:DefRec} {K:Params->Frag} (hn:l.most=some 63) (hdf:d.params.defaults=[])
 (hlaw:∀ ns:List Int,ns.length<=63->phi tab 40 26 [.con (ns.map D.int)] (fun _=>none) fun d _=>d = .bl true)
 (hY:∀ (w:E4) (h:Heap),YP w h->(K w.params).In h)
 (F:∀ (w:E4) (mg:Str->Option e6) (fa:Addr) (h:Heap),(K w.params).In h->h.Ns Ez mg->mg d.name=some (.ref fa) ->
   ∃ fd:Gb,(∀ (s:h6) (u:e6),Ks s fd ⟨[u],[]⟩ [("_law_script",u)]) /\ ∀ base:Heap,(K w.params).In base->base.Ns Ez mg->dq l.prog w (K w.params) mg base CX0 40 fa fd ["_law_script"] (lSp (K w.params) (phi tab 40 26))) :
 PySem.W.WalkO q loose XP YP l.row.toRowW d [] (fun f vs=>LP f vs) :=
 L2.walk_of (n := 63) (k := 40) (x := "_law_script") (CX:=fun _=>CX0) (sp:=fun w=>lSp (K w.params) (phi tab 40 26)) hn (by decide) hdf ⟨rfl,by decide,by decide⟩ hY F (fun w H a ns hl hO hS=>Bf hO hS (hlaw ns hl)) fun _ _ _ _ _ z=>z
end K34
end
section
namespace K34
open PySem PySem.Spec PyProof.Rows L2.Srt
theorem pO {n:Nat} (j : 1<=n):r6 tab n 10:=ud (x := "_law_number_here") (s:=ag 13) rfl j
theorem bv {n:Nat} (j : 2<=n):cI tab n 12:=fun z h1 h2 q=>zq (s:=ag 15) (fm := 10) rfl (pO (by lia)) j z h1 h2 q
theorem rC {n:Nat} (z : 3<=n):nc tab n 13:=fun j q=>ua (s:=ag 16) (ft := 12) rfl (bv (by lia)) (by lia) j q
theorem wV {n:Nat} (B : 4<=n):ub tab n 14:=fun j z q=>zr (s:=ag 17) (fn := 13) rfl (rC (by lia)) (by lia) j z q
theorem nY {n m:Nat} (j:n+1<=m) {u v:D} {M:Mem} {Q:QD} (h:Sm M n u v) (q:∀ M',Ge M M'->Q (.bl true) M'):phi tab m 16 [u,v] M Q:=zQ (s:=ag 19) (y := "_law_due") rfl j h q
theorem Bw {n:Nat} (j : 1<=n):Bm tab n 17:=fun z q=>rf (s:=ag 20) (xp := "_law_part_here") (xn := "_law_number_here") rfl j z q
theorem nZ {n:Nat} (J : 2<=n) {x0 j z:D} {p:Addr} {ps:List Pr} {M:Mem} {Q:QD} (B:M p=some (.lst (ps.map prD))) (F:(aQ ps).length<=10000000) (G:∀ p∈ps,wG p)
 (q:∀ (L:List Tm) d M',xJ ps L->L.length<=10000000->Ge M M'->M d=none->M' d=some (.dct true (L.map kcD))->Q (.ref d) M'):phi tab n 18 [.tup [x0,j,z, .ref p]] M Q:=zw (s:=ag 21) (xs := "_law_scheme_here") (fz := 17) rfl (Bw (by lia)) (by lia) B F G q
theorem rD {n:Nat} (j : 2<=n):cy tab n 4:=fun z q=>uq (s:=ag 6) (sb:=ag 3) (sn:=ag 4) (fb := 1) (fn := 2) rfl rfl rfl j z q
theorem uD {n:Nat} (q : 3<=n):e9 tab n 7:=fun j h0 z B=>wM (s:=ag 9) (sn:=ag 1) (sa:=ag 7) (st':=ag 8) (sd:=ag 5) (fn := 0) (fa := 5) (ft := 6) (fd := 3) rfl rfl rfl rfl rfl q j.ne j.lp (by have:=j.n;lia) h0 z B
theorem eP {n:Nat} (J : 4<=n) {B F L2:Nat} {x y z:D} {j:Addr} {ps:List Pr} (G:Tdy B F L2 ps) {M:Mem} {Q:QD} (h0:M j=some (.lst (ps.map prD)))
 (q:∀ qs pr M',Td (ps.map sgn) qs->Ge M M'->M pr=none->M' pr=some (.lst (qs.map prD))->Q (.tup [x,y,z, .ref pr]) M'):phi tab n 8 [.tup [x,y,z, .ref j]] M Q:=uu (s:=ag 10) (fs := 4) (fo := 7) rfl (rD (by lia)) (uD (by lia)) (by lia) G h0 q
theorem uE {n:Nat} (j : 1<=n):nO tab n 21:=fun z q=>uw (nm := "_law_about") (xp := "_law_part_here") (xn := "_law_number_here") (s:=ag 24) rfl j z q
theorem oB {n:Nat} (j : 2<=n):cy tab n 22:=rq (xn := "_law_number_here") (s:=ag 25) (fa := 21) rfl (uE (by lia)) (by lia)
theorem rE {n:Nat} (z : 1<=n):i4 tab n 23:=fun B j q=>uz (s:=ag 26) rfl z B j q
theorem wW {n:Nat} (j : 2<=n):e9 tab n 24:=zN (xp := "_law_part_here") (s:=ag 27) (fa := 23) rfl (rE (by lia)) (by lia)
theorem oC {n:Nat} (J : 4<=n) {B F L2:Nat} {x y z:Int} {j:Addr} {ps:List Pr} (G:Tdy B F L2 ps) {M:Mem} {Q:QD} (h0:M j=some (.lst (ps.map prD)))
 (q:∀ qs pr M',Td (ps.map sgn) qs->Ge M M'->M pr=none->M' pr=some (.lst (qs.map prD))->Q (.tup [.int x, .int y, .int z, .ref pr]) M'):phi tab n 25 [.tup [.int x, .int y, .int z, .ref j]] M Q:=rB (s:=ag 28) (xs := "_law_scheme_here") (fs := 22) (fl := 24) rfl (oB (by lia)) (wW (by lia)) (by lia) G h0 q
theorem wX {n:Nat} (B : 3<=n):uC tab n 19:=fun j z q=>zO (s:=ag 22) (xn := "_law_number_here") (ft := 12) rfl (bv (by lia)) (by lia) j z q
theorem fM {l:List Int} (h:dH l):Bdd 1000 l:=fun x hx=>by have:=h x hx;lia
theorem MJ {j q L2:Nat} {ps:List Pr} (h:Near j q L2 ps) (z:ps.length<=12):Tdy j q L2 ps:=⟨h.l,by have:=h.h0;lia,by have:=h.h1;lia,by have:=h.h2;lia,by lia⟩
theorem pQ {j q L2 B:Nat} (h0:j<=12) (h1:q<=12) (h2:L2<=12) (L:B<=1000000000000) {ps:List Pr} (F:Lns j q L2 ps) (G:∀ p∈ps,BdP B p):∀ p∈ps,wG p:=fun p z=>by
 obtain ⟨l0,l1,l2⟩:=F p z;obtain ⟨J,b1,b2⟩:=G p z;exact ⟨fun x hx=>by have:=J x hx;lia,fun x hx=>by have:=b1 x hx;lia,fun x hx=>by have:=b2 x hx;lia,by lia,by lia,by lia⟩
theorem uF {j q L2:Nat} (h0:j<=12) (h1:q<=12) (h2:L2<=12) {ps:List Pr} (z:Lns j q L2 ps) (F:ps.length<=12):(aQ ps).length<=10000000:=by
 have:=nW (a := 12) (b := 12) (c := 12) (ps:=ps) fun p B=>by obtain ⟨a,b,c⟩:=z p B;lia
 lia
theorem By {m:Nat} (h:m<=12) : 2 ^ m*1000<=1000000000000:=by
 have : 2 ^ m<=2 ^ 12:=Nat.pow_le_pow_right (by decide) h
 have e:(2:Nat) ^ 12=4096:=rfl;lia
theorem law_holds (ns:List Int) (hl:ns.length<=63):phi tab 40 26 [.con (ns.map D.int)] (fun _=>none) fun d _=>d = .bl true:=by
 refine al (by lia) rfl rfl (ρ := [some _,none,none,none,none,none,none,none]) rfl ?_
 unfold d26 L2.Mi.K34.b26;walk_at "st";rw [hG];refine ⟨by split <;> lia,by split <;> lia, ?_⟩
 refine b6 (I:=fun l ρ M' => ∃ o1 o2 o3 o4 o5 G J, ρ = [some (.con (ns.map D.int)),o1,o2,o3,o4,o5,G,J]) ck ⟨_,_,_,_,_,_,_,rfl⟩ (fun _ _ _ hI=>trivial) ?_ ?_
 ·rintro l k r ρ M8 e ⟨o1,o2,o3,o4,o5,G,J,rfl⟩;refine ⟨_,rfl,fun F hF => ?_⟩;walk_at "st";refine Bl (s:=ag 14) (fc := 9) (fm := 10) (sc:=ag 12) rfl rfl (pO (by lia)) (by lia) (by lia) fun bx x y B => ?_
  walk_at "st";refine zP (s:=ag 23) (ft := 12) (fp := 19) (most := 9) rfl (bv (by lia)) (wX (by lia)) (by lia) (by lia) ⟨_,_,_,aa⟩ fun Z L1 L2 ps pr M1 q hlen x1 D5 O mr => ?_
  refine bV (I:=fun ρ M' => ∃ (Z L1 L2:Nat) (ps:List Pr) (pr:Addr),Near Z L1 L2 ps/\ps.length<=12/\M' pr=some (.lst (ps.map prD)) /\ ρ = [some (.con (ns.map D.int)),some (.int (k:Nat)),some (.ref bx),some (.tup [.int (Z:Nat), .int (L1:Nat), .int (L2:Nat), .ref pr]),o4,o5,G,J]) (fun R hR => ?_) ?_
  ·walk_at "wp";refine bv (by lia) x1.box (by decide) (by decide) fun w M2 w0 w1 x2 => ?_
   walk_at "wp";have D6:=x2.keep _ _ O mr
   split
   ·walk_at "st";refine ⟨by decide,by decide, ?_⟩
    have er:aL 0 (3:Int).toNat=[.int 0, .int 1, .int 2]:=rfl;rw [er];simp only [aJ];refine ⟨trivial,_,rfl, ?_⟩;walk_at "wp";refine bv (by lia) x2.box (by decide) (by decide) fun i M3 i0 i1 x3 => ?_
    walk_at "wp";refine ⟨by simp [h8], ?_⟩
    refine bv (by lia) x3.box (by decide) (by decide) fun j M4 j0 j1 x4 => ?_
    walk_at "wp";refine ⟨by simp [h8], ?_⟩
    refine bv (by lia) x4.box (by decide) (by decide) fun t M5 t0 t1 x5 => ?_
    walk_at "wp";refine ⟨by simp [h8],fun pL D0 => ?_⟩
    have y5:=(x3.trans x4).trans x5;have D1:=bP y5.box D0;obtain ⟨N0,e0⟩:=Es (show 0<=1+i by lia)
    obtain ⟨N1,e1⟩:=Es (show 0<=1+j by lia)
    obtain ⟨N2,e2⟩:=Es (show 0<=1+t by lia)
    have y6:=y5.ge (Ge.new (o := .lst ([]++[.int (1+i)]++[.int (1+j)]++[.int (1+t)])) D0);have mL:ae M5 pL (.lst ([]++[.int (1+i)]++[.int (1+j)]++[.int (1+t)])) pL=some (.lst [.int (N0:Nat), .int (N1:Nat), .int (N2:Nat)]):=by rw [aa,e0,e1,e2];rfl
    generalize ae M5 pL (.lst ([]++[.int (1+i)]++[.int (1+j)]++[.int (1+t)]))=M6 at y6 mL;refine bv (by lia) y6.box (by decide) (by decide) fun c M7 c0 c1 x7 => ?_
    obtain ⟨C,rfl⟩:=Es c0;refine uc (s:=ag 18) (ft := 12) (fp := 14) rfl (bv (by lia)) (wV (by lia)) (by lia) (by lia) (by lia) (by lia) (by lia) x7.box D1 (x7.keep _ _ D1 mL) fun qs pq M9 hq hok x9 Dd mq => ?_
    refine hR _ _ ⟨N0,N1,N2,qs,pq,⟨by lia,by lia,by lia,fun p B=>⟨(hok p B).l0,(hok p B).l1,(hok p B).l2⟩,fun p B=>⟨fM (hok p B).s0,fM (hok p B).s1,fM (hok p B).s2⟩⟩,by lia,mq,rfl⟩
   ·exact hR _ _ ⟨Z,L1,L2,ps,pr,q,by lia,D6,rfl⟩
  clear q hlen x1 D5 O mr;rintro ρ M2 ⟨Z,L1,L2,ps,pr,q,hlen,mr,rfl⟩;have hT:=MJ q hlen;walk_at "st";refine ⟨_,rfl,_,_,rfl,ad mr,fun pk D2 => ?_⟩;have gk:=Ge.new (o := .lst (ps.map prD)) D2;have mk:ae M2 pk (.lst (ps.map prD)) pk=some (.lst (ps.map prD)):=aa;have mr:=gk _ _ mr;generalize ae M2 pk (.lst (ps.map prD))=M3 at mk mr;clear gk D2;walk_at "st";refine oC (by lia) hT mr fun qs pd M4 hd g4 _ md => ?_
  have mr:=g4 _ _ mr;have mk:=g4 _ _ mk;clear g4;have L:=hT.sg.td hd;have D7:qs.length<=12:=by have:=hd.len;rw [hG] at this;lia
  have D3:∀ p∈qs,p.1.length<=100000/\p.2.1.length<=100000/\p.2.2.length<=100000:=L.lp;walk_at "st";refine ⟨by decide,by decide, ?_⟩
  have D8:aL 0 (2:Int).toNat=[0,1].map fun i:Nat=>D.int (i:Nat):=rfl;rw [D8];refine b6 (f:=fun i:Nat=>D.int (i:Nat)) (ys := [0,1]) (I:=fun l ρ M' => ∃ G J:Option D, ρ = [some (.con (ns.map D.int)),some (.int (k:Nat)),some (.ref bx),some (.tup [.int (Z:Nat), .int (L1:Nat), .int (L2:Nat), .ref pr]),some (.ref pk),some (.tup [.int (Z:Nat), .int (L1:Nat), .int (L2:Nat), .ref pd]),G,J]/\M' pr=some (.lst (ps.map prD))/\M' pk=some (.lst (ps.map prD))/\M' pd=some (.lst (qs.map prD))) rfl
   ⟨G,J,rfl,mr,mk,md⟩ (fun _ _ _ _=>trivial) ?_ ?_
  ·rintro l' i' r' ρ M5 e' ⟨G,J,rfl,mr,mk,md⟩;refine ⟨_,rfl,fun F2 D9 => ?_⟩;walk_at "st";refine eP (by lia) hT mr fun De pf M6 hd2 g6 CY mf => ?_
   cases hd2.uniq hd
   have nr:pr≠pf:=fun z=>by rw [z,CY] at mr;cases mr
   have nk:pk≠pf:=fun z=>by rw [z,CY] at mk;cases mk
   have nd:pd≠pf:=fun z=>by rw [z,CY] at md;cases md
   have mr:=g6 _ _ mr;have mk:=g6 _ _ mk;have md:=g6 _ _ md;walk_at "st";refine nY (n := 4) (by lia) (pM (by lia) mf md D3) fun M7 U => ?_
   refine ⟨true,rfl, ?_⟩;rw [if_neg (by decide)]
   walk_at "st";refine ⟨_,rfl,⟨_,rfl,_,U _ _ mf⟩, ?_⟩;refine ⟨by rw [h8];lia,pf,_,_,rfl,rfl,U _ _ mf,by rw [hG,h8];lia, ?_⟩
   refine D9 _ _ ⟨_,_,rfl, ?_, ?_, ?_⟩
   ·rw [aj nr];exact U _ _ mr
   ·rw [aj nk];exact U _ _ mk
   ·rw [aj nd];exact U _ _ md
  ·rintro ρ M5 ⟨G,J,rfl,mr,mk,md⟩;walk_at "st";have Da:∀ p∈qs,BdP (2 ^ (ps.map sgn).length*1000) p:=hd.bdd fun p B=>by
    obtain ⟨u,hu,rfl⟩:=ET.mp B;exact zE (q.b u hu)
   have l0:=q.h0;have l1:=q.h1;have l2:=q.h2;refine nZ (by lia) md (uF l0.2 l1.2 l2.2 L.l D7) (pQ l0.2 l1.2 l2.2 (By (by rw [hG];exact hlen)) L.l Da) fun X dx M6 hX _ g6 Df ex => ?_
   refine nZ (by lia) (g6 _ _ mr) (uF l0.2 l1.2 l2.2 q.l hlen) (pQ l0.2 l1.2 l2.2 (by decide) q.l q.b) fun Y dy M7 hY _ U Dg ey => ?_
   refine ⟨dx,dy,_,_,rfl,rfl,⟨.inl (U _ _ ex),pN⟩,⟨.inl ey,pN⟩, ?_⟩;rw [wH hY.nd (zy hX.nd hY.nd hX.nz hY.nz fun k=>by
    obtain ⟨a,b,c⟩:=k;rw [hX.cf,hY.cf,pE,pE,hd.tn (pH q.l),pI])]
   refine ⟨_,rfl, ?_⟩;rw [if_neg (by decide)]
   have CZ:=g6.trans U;refine eP (by lia) hT (CZ _ _ mr) fun q1 p1 M9 Db g9 _ m1 => ?_
   cases Db.uniq hd
   refine eP (by lia) L m1 fun q2 p2 Dh hd2 D4 _ m2 => ?_
   cases hd2.uniq hd.again
   refine nY (n := 4) (by lia) (pM (by lia) m2 ((CZ.trans (g9.trans D4)) _ _ md) D3) fun Di Dc => ?_
   refine ⟨true,rfl, ?_⟩;rw [if_neg (by decide)]
   have gg:=CZ.trans (g9.trans (D4.trans Dc));refine ⟨_,rfl,Cp (gg _ _ mr) (gg _ _ mk) ?_⟩;refine ⟨false,rfl, ?_⟩;rw [if_neg (by decide)]
   exact hF _ _ ⟨_,_,_,_,_,_,_,rfl⟩
 ·rintro ρ M8 ⟨o1,o2,o3,o4,o5,G,J,rfl⟩;dsimp only;walk_at "st"
end K34
end
end
end Mi
end L2
namespace PySem.W.Fast
theorem tw16351780560521159982:True:=trivial
theorem tw721965062332007302:True:=trivial
theorem tw9371958493079189575:True:=trivial
theorem tw1944536132662869872:True:=trivial
theorem tw10623827334777927691:True:=trivial
theorem tw9748313694618256043:True:=trivial
theorem tw4806313493013590389:True:=trivial
theorem tw16571591545521146731:True:=trivial
theorem tw12662825753319892301:True:=trivial
theorem tw8816953159262807092:True:=trivial
theorem tw1086719270317035236:True:=trivial
theorem tw15152278406724437511:True:=trivial
theorem tw11282191374447312083:True:=trivial
theorem tw14256326227243429420:True:=trivial
theorem tw1140004365588536051:True:=trivial
theorem tw12262764876055625132:True:=trivial
theorem tw8613486263319684292:True:=trivial
theorem tw3364620609301642505:True:=trivial
theorem tw13111351528969319664:True:=trivial
theorem tw7684028333214524906:True:=trivial
theorem tw13143075821898843970:True:=trivial
theorem tw15190806174698301367:True:=trivial
theorem tw8417554745186920061:True:=trivial
theorem tw2396467780596250895:True:=trivial
theorem tw9845834217646626136:True:=trivial
theorem tw18186189785484499221:True:=trivial
theorem tw6377845766284224487:True:=trivial
theorem tw8917052663851346952:True:=trivial
theorem tw12016726409676968589:True:=trivial
theorem tw12567674406131361867:True:=trivial
theorem tw10742435481648267969:True:=trivial
theorem tw465621520909644625:True:=trivial
theorem tw2894486334344963750:True:=trivial
theorem tw499501491866711830:True:=trivial
theorem tw13377277743143397915:True:=trivial
theorem tw13252472303005679717:True:=trivial
theorem tw1016756368803305944:True:=trivial
theorem tw13278395828851169988:True:=trivial
theorem tw13696897765978439939:True:=trivial
theorem tw11758865590985815622:True:=trivial
theorem tw4246421279256475983:True:=trivial
theorem tw12455973296553708441:True:=trivial
theorem tw8298830367722038376:True:=trivial
theorem tw8764404447927173757:True:=trivial
theorem tw2487420350710259442:True:=trivial
theorem tw9454374194841983557:True:=trivial
theorem tw8225774419966747349:True:=trivial
theorem tw7248573456972464732:True:=trivial
theorem tw15378342895020256209:True:=trivial
theorem tw5821202963250995761:True:=trivial
theorem tw14023061666083166644:True:=trivial
theorem tw15639136419507915507:True:=trivial
theorem tw17673387957123654845:True:=trivial
theorem tw7180243940443352149:True:=trivial
theorem tw17371033021384951804:True:=trivial
theorem tw5524026924162969349:True:=trivial
theorem tw17905708367964478318:True:=trivial
theorem tw10791176374666868681:True:=trivial
theorem tw11216843348536385686:True:=trivial
theorem tw3566504988628259268:True:=trivial
theorem tw14292216568204033680:True:=trivial
theorem tw11053979715159389608:True:=trivial
theorem tw14196549309602729819:True:=trivial
theorem tw7268216918631339972:True:=trivial
theorem tw380421864689029451:True:=trivial
theorem tw504602237940571758:True:=trivial
end PySem.W.Fast
open PySem.W in
set_option maxRecDepth 100000 in
set_option maxHeartbeats 0 in
theorem PySem.Challenge.cw_fewtimes_k34_tidied_holds : PySem.Challenge.rw_fewtimes_k34_tidied.Holds := by
 w_on;o_law;k_head;(case hw=>w_witness2)
 k_fill
 refine L2.Mi.K34.walk (l:=PySem.Challenge.rw_fewtimes_k34_tidied) rfl rfl L2.Mi.K34.law_holds (fun w h Y=>PySem.W.kIn_of Y) ?F
 case F =>
  intro w mg fa h KX G hmg;refine' L2.Mi.K34.all_mk KX G hmg ?z ?_ ?_ ?_ ?_ ?_ ?_ ?_ ?_ ?_ ?_ ?_ ?_ ?_ ?_ ?_ ?_ ?_ ?_ ?_ ?_ ?_ ?_ ?_ ?_ ?_ ?_ ?_ ?_ ?_ ?_ ?_ ?_ ?_ ?_ ?_ ?_ ?_ ?_ ?_ ?_ ?_ ?_ ?_ ?_ ?_ ?_ ?_ ?_ ?_ ?_ ?_ ?_ ?_ ?_ ?_ ?_ ?_ ?_ ?_ ?_ ?_ ?_ ?_ ?_ ?_ ?_ ?_ ?_ ?_ ?_ ?_ ?_ ?_ ?_ ?_ ?_ ?_ ?_ ?_ ?_ ?_ ?_ ?_ ?_ ?_ ?_ ?_ ?_ ?_ ?_ ?_ ?_ ?_ ?_ ?_ ?_ ?_ ?_ ?_ ?_ ?_ ?_ ?_ ?_ ?_ ?_ ?_ ?_
  case z =>
   intro x hx;simp only [L2.Mi.bltNames,List.mem_cons,List.not_mem_nil,or_false] at hx
   rcases hx with rfl | rfl | rfl | rfl | rfl | rfl | rfl | rfl | rfl | rfl | rfl | rfl | rfl | rfl | rfl | rfl | rfl | rfl | rfl | rfl <;> k_is
  all_goals try (show _=_;k_is)
