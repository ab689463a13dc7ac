import PyProof.Rows.All
import Wide.All
import OpenK.AllK
import Wide.FinOn
import Lean
import PyProof.EqAt
import PyProof.EqKinds
import PyProof.TupleCall
import PyProof.StationsW
import PyProof.ExcClass3
import OpenK.KOwn
import PyProof.ExcBaseAll.ValueError
import PyProof.RulesAs
import PyProof.NsDelKeeps
import KE.KIsAll
import PyProof.ExcArgsOwn
import PyProof.ExcAttrAll.ValueError
import PyProof.ZipIter
import PyProof.EnumMake
import PyProof.EnumFor
import PyProof.CollectIter
import PyProof.TupleKey
import PyProof.DictRoadsH
import PyProof.P3Eq
import PyProof.Rows.SeqMore
import PyProof.ConsumeWalk
import PyProof.Rows.SortShellK
import PyProof.DictItems
import PyProof.DictWalks
import PyProof.AttrMissHeap
import PyProof.DictIter
import PyProof.MaxThree
import PyProof.SeqI3
import PyProof.DictTruth
import PyProof.Rows.TupDisplay
import PyProof.ListCopy
import PyProof.NeKinds
import PyProof.RaisesDict
import KE.KDictOf
import PyProof.Rows.CallKwBuiltin
import PyProof.DelItemList
import PySem.Challenge.RW_fewtimes_k36_flipped
set_option Elab.async false
set_option linter.all false
set_option compiler.extract_closed false
set_option genSizeOf false
set_option bootstrap.genMatcherCode false
set_option maxRecDepth 100000
set_option maxHeartbeats 4000000
open PySem.W (Frag)
open PySem renaming wpAny_bind → b0, Value → e6, Shared → h7, wpAny_pure → hh, sizeLine_eq → hB, sizeLine → hP, wpAny → CB, starEach → CF, Program → CG, wpAny_field → CS, World → CT, Paired → CU, wpAny_callSpecial?_slot → CW, wpAny_setField_rec → CY, Around → D1, compareOp → D2, Comprehension → D3, wpAny_call_entry → D8, wpAny_holding → De, sysModules → Dg, mainGlobals → Dl, wpAny_newObj_type → Dp, mem_of_lookup → Du, wpAny_truthy_bool → Dv, binaryOp → Dw, wpAny_pyIter_tuple → DA, swappedStores → DB, assignEach → DN, bootBuiltins → DR, wpAny_seqItems → DV, foldedSetIterable → DW, cellsFrom → DX, wpAny_pyIter_list → DZ, wpAny_attempt → E5, wpAny_mono → E8, wpAny_passesOwn → Eg, FuncData → Eh, IsPair → Eo, backTo → Es, swapsWith → Et, NameKind → Eu, wpAny_isInstance → Ew, wpAny_rule → EB, rawInt → EC, wpAny_Call_Name_kw → ED, tupleKind_room_in1 → EG, Builtin → EH, wpAny_loadPart' → EM, wpAny_standAt → EN, swapsWithSole → EO, wpAny_setField → EY, wpAny_typeOf → F6, DictEntry → F8, behindInMarks → Fg, cLine → Fi, tupleKind → Fu, sliceBounds → Fw, pyNext → FA, codeAny_mono → FF, wpAny_dictEntries → FK, standAt → FT, attributeBase → FU, wpAny_onRaise → FV, wpAny_of_eq → FX, wpAny_updateSeq_pair → FY, wpAny_execs_nil → FZ, letOwnedTupleGo → G0, codeAny → Gd, Keyword → Gf, call_meets → Gv, firstArgMember → Gy, wpAny_binaryOp_repeat_ref → GF, IsZip → GN, wpAny_comprehension_free → GR, wpAny_execs_cons → GU, lastMarks → GW, noFill_tuple_add → GY, setFlight → H0, checkBuiltinCall → H9, wpAny_pyNext_list_item → Hj, IsPart → Hk, getItem → Hl, typeIs_int → Ho, IsEnum → Hr, getAttrByItsOwn → HC, pushCells_keeps → HD, wpAny_ite_false → HE, wpAny_pyNext_list_end → HG, builtinLookup_eq_fast → HJ, wpAny_bindName → HM, keywordEach → HP, atKey → HQ, unbindBehindTheSuite → HR, newFunctionEnv → HU, ZipApart → HV, wpAny_letGo → HW, isSubtype_stop → HX, isSubtype_type → I9, callerA → Ii, valueAt → Ij, noteFrame → Ik, Model → Iw, assignInOrder → Iy, CmpOp → Iz, seq_tuple_add → IA, mroOf_keyiter → IB, foldedForSure → IF, pyIter → IK, setItem → J1, bindName → J3, Operator → J9, BindsTo → Jd, concat_meets → Je, wpAny_sequenceKey → Jf, seqIndex_neg → Jg, call_meetsIn → Jj, wpAny_loadPart_at → Jl, wpAny_pyIter_enum → Jo, wpAny_Dict_empty → JB, pushCells → JC, wpAny_pyIter_zip → JG, IsEnumOut → JH, entryFor_of_tree → JI, seqIndex_of → JS, wpAny_throw → JU, builtinsNs → K9, GenState → Ka, wpAny_Name → Kb, wpAny_call → Kc, bindL → Kd, bindC → Ke, backToKw → Kf, call → Kg, PyData → Ki
open Bool renaming and_eq_true → gV, false_ne_true → hG, not_eq_true' → Df, false_eq_true → Dz, not_eq_true → FR, false_and → Gn, false_or → GO, not_true → GP, or_eq_true → HF, and_eq_true_iff → I0
open List renaming getElem?_eq_getElem → h6, size_toArray → t2, length_map → v5, length_append → z4, mem_cons → CC, replicate → CD, getElem?_eq_some_iff → CI, map_cons → CJ, getElem?_map → CK, mem_cons_of_mem → CM, mem_append_right → CN, range → CP, mem_of_getElem? → CZ, not_mem_nil → D0, length_cons → D4, mem_cons_self → D5, filter_cons_of_neg → D9, filter_cons_of_pos → Dc, getElem?_set_self → Dh, replicate_succ → Dm, mem_append → Ds, mem_map_of_mem → DC, append_nil → DF, nodup_cons → DG, find?_cons → DI, length_take → DO, filter_append → DP, getElem?_set_ne → DU, flatten_cons → DY, flatMap_cons → E1, length_range → E2, lookup_cons → E6, getElem_mem → E7, length_filter_le → Ec, mem_or_eq_of_mem_set → Ee, mem_filter → Ef, append_assoc → Ei, mem_map → Ej, all_cons → Ep, map_congr_left → Er, any_eq_true → Ey, all_eq_true → Ez, find?_cons_of_neg → EJ, map_map → EK, any_cons → ER, reverse_cons → EV, getD_eq_getElem?_getD → F4, zipWith → F9, getElem?_append_left → Fb, drop_eq_getElem_cons → Fd, filterMap_cons → Fe, flatMap_append → Ff, forIn_cons → Fo, getElem?_drop → Fs, length_eq_zero_iff → Fy, mem_range → Fz, find?_cons_of_pos → FL, eraseIdx_eq_take_drop_succ → FN, length_drop → FQ, length_set → G2, foldl_cons → G3, map_append → G9, getElem?_range → Gb, map_nil → Gg, getElem?_append_right → Gq, set_cons_zero → GB, set_cons_succ → GC, getElem?_replicate → GX, drop_length → Hd, getElem?_cons_zero → Hf, getElem?_cons_succ → Hg, map_set → Hv, of_mem_zip → Hy, nil_append → Hz, length_nil → HB, length_singleton → HH, getElem?_zipWith → HI, mem_append_left → HL, getElem?_mapIdx → I7, mem_iff_getElem → I8, zip_eq_zipWith → Iv, mem_filterMap → IM, foldl → IU, nodup_append → Ju, filter_cons → JA, zipIdx_cons → JD, range'_succ → JK, map_zipWith → JO, cons_append → JP, zipIdx_nil → K1, map_const' → K6
open PySem.Heap renaming get?_push_of_some → h8, get?_push_size → hQ, lt_size → tv, get?_update_other → Di, SameBut → Dn, size_push → Dx, get?_update_self → DL, IsTuple → Gi, size_update → H8, get?_none_of_le → HK, IsList → HY, get?_push_cases → HZ, ExtBut → JT
open Nat renaming le_refl → q0, lt_of_lt_of_le → CL, ne_of_lt → CV, le_trans → Dt, zero_le → DH, lt_irrefl → DQ, ne_of_gt → E3, le_of_lt → F5, succ_mul → F7, mul_le_mul → GD, succ_le_succ → Hc, mul_le_mul_right → Ie, not_lt → Kh
open PySem.W renaming mg_of → CH, kia_one → Dj, findIn → Dr, keepIn → E9, fnOf → EE, excIn → ES, InstAt → EW, kitOne → EX, kitAny → F0, mroIn → Fh, subIn → Fl, kitx_list → FC, kitx_dict → FE, cellsFrom_some → FG, nsIn → FJ, findObj → G5, codeIn → Gr, methodObj → GK, specialIn → GL, clsIn → GQ, instObj → Hw, takesIn → Hx, OpenLaw → HA, lookIn → HN, looks_findIn → HS, looks_subIn → Iq, kitx_float → IP, kitx_tuple → IQ, callWith_K → IS, mg_none_of → J0, kitx_none → Ja, kitx_bool → Jb, plainGet → Jv, kitx_int → Jw, kitx_str → Jx, kia_tup → K0, isClsIn → K5
open PySem.Value renaming ref → CO, none → D7, type → FP, int → Ig, str → Ih, bool → II, float → JR
open PySem.NameKind renaming free → CQ, cell → DT
open PySem.Str renaming ofString → D6
open Int renaming eq_ofNat_of_zero_le → Dd, toNat_natCast → Dq, emod_lt_of_pos → Ft, emod_nonneg → G8, toNat → JQ
open True renaming intro → Dy
open Option renaming some → DE, isSome_iff_exists → DS, bind_some → Ex, map_eq_some_iff → EF, map_some → Fp, isSome_some → IV, getD_none → Jy, join_some → JL, bind_none → JM, join_none → JN
open PyProof.Rows renaming Keyed → DJ, slot_tuple_getitem → DK, callWith_type1 → E4, kindOf → ET, envOfC → Fq, AllBare → Gc, assignInOrder_cons → Gm, seqSlot_of → Hb, subscriptTail_builtinR → Hm, pendingOf → Im, entry_tuple_getitem → Io, args_tuple_getitem → IT, SortSt → IY, assignInOrder_nil → J2, failedOf → Jr, IntsAre → K7, SortKind → Kj
open PySem.Obj renaming isFreed_of_fields → DM, data_mapFields → Ea, mapFields → Em, mapSeq → Hn, cls_mapFields → Jk
open PySem.F renaming slot_tuple_iterator_next → Eb, slot_enumerate_next → EU, args_tuple_add_2 → Fj, entry_tuple_add → Fv, slot_tuple_add → FH, slot_dict_get → FO, slot_int_rmul → G4, args_tuple_iterator_next_1 → G6, slot_zip_next → G7, entry_tuple_iterator_next → Gh, args_dict_get_3 → GZ, args_enumerate_next_1 → Ha, plainAttrs_list → He, entry_dict_get → Hq, entry_enumerate_next → Hs, slot_dict_ne → Ia, args_int_rmul_2 → Jh, args_zip_next_1 → Jm, entry_int_rmul → Jz, entry_zip_next → JE, slot_dict_iter → JJ, fills_int_mul → JZ
open PySem.Builtin.Slice renaming slicePlaces → Ed, sliceAdjust → Fc, sliceApplied → Gs
open PySem.Paired renaming length → Ek
open PySem.Builtin.Tuple renaming tupleExact → El, tupleItemsOf → Gu, tupleIsExact → Gw, tupleTooMany → Gz, tupleHashOf → GH
open PySem.Shared renaming heap → EA
open PySem.PyData renaming eqv → EI, eqvAll → Fn, int → Ht, canLayAll0 → Jp, list → JV, depthAll → K2
open ForInStep renaming yield → EL
open Array renaming getElem?_eq_some_iff → EZ, length_toList → Ga, getElem?_eq_getElem → GI, append_assoc → IJ
open PySem.Builtin.List renaming listTooLong → Fk
open PySem.Calls renaming callWith_builtin → FI, evalArgs_plain → FW, Name_function_global → Gk, spliced_cons → Gp, spliced_nil → Jc
open PyProof.Rows.IsTup renaming new → Gj
open PySem.Builtin.Dict_items renaming isOneOf → GA
open PySem.Builtin.ObjectAttr renaming bindTo → GG
open PySem.Builtin.Dict renaming dictSlotArgs → GJ, samePairs → Hu
open PySem.Env renaming blockKind → GS, kindOf → IZ
open Sum renaming inl → Hh, inr → Hi
open PySem.Expr renaming Subscript → Ib, Attribute → Ic, Constant → IC, ListComp → ID, UnaryOp → Js, Compare → Jt, BoolOp → JW, BinOp → Kk, IfExp → Kl, Tuple → Km, Slice → Kn, Name → Kr, List → Ks, Call → Ku, Dict → Kv
open And renaming intro → Il
open PySem.EntryCells renaming newEntry → Ip
open PySem.Heap.SameBut renaming update → Ir
open PySem.Builtin.Int renaming intBits → Iu
open PySem.Stmt renaming Continue → IE, Assign → JX, Return → JY, While → Ko, Break → Kq, Expr → Kw, Pass → Kx
open Function renaming comp → IG
open PySem.Around renaming in1_handled → IW
open List.Pairwise renaming nil → Ji
open PySem.Heap.IsTuple renaming push → Jn
open Option.some renaming injEq → Jq
open PySem.Heap.IsList renaming push → JF
open Iff renaming rfl → K8
namespace L2
open PySem PySem.Spec PyProof.Rows
section
noncomputable abbrev Key:=Sum Int Str
noncomputable def fU:Key->e6->Bool
 | .inl k,v=>Value.isInt k v
 | .inr x,v=>Value.isStrOf x v
noncomputable def Bj (w:CT):Key->Int
 | .inl k=>hashInt k
 | .inr x=>hashStr w x
theorem aQ:∀ {k:Key} {v:e6},fU k v=true->(∃ i t,k=Hh i/\v=Ig i t)∨(∃ x t,k=Hi x/\v=Ih x t)
 | .inl i,v,h=>by
  obtain ⟨t,e⟩:=Value.isInt_shape (k:=i) (v:=v) h;exact .inl ⟨i,t,rfl,e⟩
 | .inr x,v,h=>by
  obtain ⟨t,e⟩:=Value.isStrOf_shape (x:=x) (v:=v) h;exact .inr ⟨x,t,rfl,e⟩
theorem qF (i:Int) (t:Tok):fU (.inl i) (.int i t)=true:=by simp [fU,Value.isInt]
theorem qG (x:Str) (t:Tok):fU (.inr x) (.str x t)=true:=by simp [fU,Value.isStrOf]
theorem yG (a b:Int):decide ((Hh a:Key)=Hh b)=(a==b):=by
 by_cases e:a=b
 ·subst e;simp
 ·have h : ¬ (Hh a:Key)=Hh b:=fun q=>e (Hh.inj q);rw [decide_eq_false h];exact (beq_eq_false_iff_ne.mpr e).symm
theorem yH (a b:Str):decide ((Hi a:Key)=Hi b)=decide (a=b):=by
 by_cases e:a=b
 ·subst e;simp
 ·have h : ¬ (Hi a:Key)=Hi b:=fun q=>e (Hi.inj q);rw [decide_eq_false h,decide_eq_false e]
theorem yI (a:Int) (b:Str):decide ((Hh a:Key)=Hi b)=false:=decide_eq_false (fun q=>nomatch q)
theorem yJ (a:Str) (b:Int):decide ((Hi a:Key)=Hh b)=false:=decide_eq_false (fun q=>nomatch q)
noncomputable def aE (prog:CG) (w:CT):PySem.KeyKind prog w Key where
 is:=fU
 hash:=Bj w
 inj:=fun v a b ha hb=>by
  rcases aQ ha with ⟨i,t,rfl,rfl⟩ | ⟨x,t,rfl,rfl⟩
  ·rcases aQ hb with ⟨j,u,rfl,e⟩ | ⟨y,u,rfl,e⟩
   ·injection e with e1 _;rw [e1]
   ·exact nomatch e
  ·rcases aQ hb with ⟨j,u,rfl,e⟩ | ⟨y,u,rfl,e⟩
   ·exact nomatch e
   ·injection e with e1 _;rw [e1]
 byValue:=fun k v h=>by
  rcases aQ h with ⟨i,t,rfl,rfl⟩ | ⟨x,t,rfl,rfl⟩ <;> rfl
 pyHash:=fun hv h=>by
  rcases aQ hv with ⟨i,t,rfl,rfl⟩ | ⟨x,t,rfl,rfl⟩
  ·exact wpAny_pyHash_int h
  ·exact wpAny_pyHash_str h
 eqBool:=fun hu hv h=>by
  rcases aQ hu with ⟨i,t,rfl,rfl⟩ | ⟨x,t,rfl,rfl⟩
  ·rcases aQ hv with ⟨j,u,rfl,rfl⟩ | ⟨y,u,rfl,rfl⟩
   ·rw [yG] at h;exact wpAny_eqBool_int h
   ·rw [yI] at h;exact SeqAt.EqAt.int_str i t y u _ _ _ _ h
  ·rcases aQ hv with ⟨j,u,rfl,rfl⟩ | ⟨y,u,rfl,rfl⟩
   ·rw [yJ] at h;exact SeqAt.EqAt.str_int x t j u _ _ _ _ h
   ·rw [yH] at h;exact wpAny_eqBool_str h
 «strs» := fun k x t v h=>by
  rcases aQ h with ⟨i,u,rfl,e⟩ | ⟨y,u,rfl,e⟩
  ·exact nomatch e
  ·injection e with e1 _
   subst e1
   cases v <;> rfl
theorem nj (prog:CG) (w:CT) (i:Int) (t:Tok):(aE prog w).is (.inl i) (.int i t)=true:=qF i t
theorem nk (prog:CG) (w:CT) (x:Str) (t:Tok):(aE prog w).is (.inr x) (.str x t)=true:=qG x t
end
section
inductive V where
 | non | bl (b:Bool) | int (i:Int) | str (x:Str) | byt (b:Array UInt8) | flt (b:UInt64) | ref (a:Addr) | ty (n:String)
 deriving DecidableEq
noncomputable def RelV:V->e6->Prop
 | .non,u=>u=D7
 | .bl b,u=>u=II b
 | .int i,u => ∃ t,u=Ig i t
 | .str x,u => ∃ t,u=Ih x t
 | .byt b,u => ∃ t,u=Value.bytes b t
 | .flt b,u => ∃ t,u=JR b t
 | .ref a,u=>u=CO a
 | .ty n,u=>u=FP n
noncomputable abbrev Vals:List V->List e6->Prop:=CU RelV
theorem Vals.length {xs:List V} {us:List e6} (r:Vals xs us):xs.length=us.length:=Ek r
theorem Vals.get:∀ {xs:List V} {us:List e6} {i:Nat} {x:V},Vals xs us->xs[i]? = some x -> ∃ u,us[i]? = some u/\RelV x u
 | _,_,_,_, .nil,e=>by simp at e
 | _,_,0,_, .cons r _,e=>by simp at e;subst e;exact ⟨_,rfl,r⟩
 | _,_,i+1,x, .cons _ t,e=>by
   obtain ⟨u,h1,h2⟩:=Vals.get (i:=i) (x:=x) t (by simpa using e)
   exact ⟨u,by simpa using h1,h2⟩
theorem Vals.set {x:V} {u:e6} (r:RelV x u):∀ {xs:List V} {us:List e6} (i:Nat),Vals xs us->Vals (xs.set i x) (us.set i u)
 | _,_,_, .nil => .nil
 | _,_,0, .cons _ t => .cons r t
 | _,_,i+1, .cons q t => .cons q (Vals.set r i t)
theorem Vals.append:∀ {xs ys:List V} {us ws:List e6},Vals xs us->Vals ys ws->Vals (xs++ys) (us++ws)
 | _,_,_,_, .nil,s=>s
 | _,_,_,_, .cons r t,s => .cons r (Vals.append t s)
theorem Vals.take:∀ {xs:List V} {us:List e6} (n:Nat),Vals xs us->Vals (xs.take n) (us.take n)
 | _,_,0,_ => .nil
 | _,_,_+1, .nil => .nil
 | _,_,n+1, .cons r t => .cons r (Vals.take n t)
theorem Vals.drop:∀ {xs:List V} {us:List e6} (n:Nat),Vals xs us->Vals (xs.drop n) (us.drop n)
 | _,_,0,r=>r
 | _,_,_+1, .nil => .nil
 | _,_,n+1, .cons _ t=>Vals.drop n t
noncomputable def RelO:Option V->Option e6->Prop
 | some v,some u=>RelV v u
 | none,none=>True
 | _,_=>False
noncomputable def KV {κ:Type}:List (κ × V)->List (κ × e6)->Prop:=CU fun (p : κ × V) (q : κ × e6)=>p.1=q.1/\RelV p.2 q.2
noncomputable def kV:Key->V
 | .inl i => .int i
 | .inr x => .str x
inductive HO where
 | lst (xs:List V)
 | tup (xs:List V)
 | dK (kvs:List (Key×V)) | dT (kvs:List (List Key×V))
 | set (S:Int->Bool) (n:Nat)
 | ins (C dx:Addr) (fs:List (Str×V))
 | own (x:Addr)
 | xd (fs:List (Str×V))
 | met (f x:Addr)
 | rng (lo hi:Int)
 | frz (o:Obj) (u:HO)
 | tbl (ps:Array e6)
 | ext (φ:Heap->Prop)
noncomputable abbrev Hp:=Addr->Option HO
noncomputable def upd (H:Hp) (a:Addr) (o:HO):Hp:=fun b=>if b=a then some o else H b
theorem ak {H:Hp} {a:Addr} {o:HO}:upd H a o a=some o:=by unfold upd;rw [if_pos rfl]
theorem ae {H:Hp} {a b:Addr} {o:HO} (h:b≠a):upd H a o b=H b:=by unfold upd;rw [if_neg h]
theorem wz {H:Hp} {a:Addr} {o u:HO}:upd (upd H a o) a u=upd H a u:=by
 funext b;unfold upd;split <;> rfl
theorem vL {H:Hp} {a b:Addr} {o u:HO} (h:H a=some o) (h':H b=some u) (d:o≠u):a≠b:=by
 intro e;subst e;rw [h] at h';exact d (DE.inj h')
theorem aR {H:Hp} {a b:Addr} {o:HO} (h:H a=some o) (h':H b=none):a≠b:=by
 intro e;subst e;rw [h] at h';cases h'
section
variable (P:CG) (w:CT)
noncomputable def ObjOk (H:Hp) (h:Heap) (a:Addr):HO->Prop
 | .lst xs=>xs.length<=hP /\ ∃ (its:List e6) (n:Nat),Vals xs its/\h.get? a=some { cls := .type "list",data := .seq its.toArray n }
 | .tup xs=>xs.length<=hP /\ ∃ its:List e6,Vals xs its/\IsTup h a its.toArray
 | .dK kvs=>kvs.length<=hP/\(a==Dg)=false /\ ∃ vs,KV kvs vs/\h.DictOf (aE P w) a vs
 | .dT kvs=>kvs.length<=hP/\(a==Dg)=false /\ ∃ xs:List (List Key×Addr×e6),
  CU (fun (p:List Key×V) (q:List Key×Addr×e6)=>p.1=q.1/\H q.2.1=some (.tup (p.1.map kV))/\RelV p.2 q.2.2) kvs xs /\
  ∃ o es ep,h.get? a=some o/\o.ExactDict/\o.data = .dict es ep/\es.toList=xs.map (entryOfKey (Fu (aE P w)))/\(xs.map (·.1)).Nodup
 | .set S n=>h.SetOf (intKind P w) a S n
 | .ins C dx fs=>H dx=some (.own a)/\fs.length<=1000/\dx≠a/\h.get? a=some (Hw C dx) /\
  ∃ mA,h.Ns1 dx mA/\(∀ f,RelO (fs.lookup f) (mA f))/\PySem.Within mA (fs.map (·.1))
 | .own _ => ∃ o,h.get? a=some o
 | .xd fs => ∃ mA,h.Ns1 a mA /\ ∀ f,RelO (fs.lookup f) (mA f)
 | .rng lo hi => ∃ t u v,h.get? a=some { cls := .type "range",data := .fields #[.int lo t, .int hi u, .int 1 v] }
 | .frz o u=>h.get? a=some o/\ObjOk H h a u
 | .tbl ps=>h.get? a=some { cls := .none,data := .fields ps }
 | .met f x=>h.get? a=some (GK (.ref f) (.ref x))
 | .ext φ => φ h/\(∃ o,h.get? a=some o) /\ ∀ h1 h2:Heap, φ h1->(∀ o,h1.get? a=some o->h2.get? a=some o) -> φ h2
def HOk (H:Hp) (h:Heap):Prop := ∀ a o,H a=some o->ObjOk P w H h a o
end
section
variable {P:CG} {w:CT} {H H':Hp} {h h':Heap} {a:Addr} {o:HO}
theorem ObjOk.lt (x:ObjOk P w H h a o):a < h.objs.size:=by
 cases o with
 | lst xs=>obtain ⟨_,_,_,_,e⟩:=x;exact tv e
 | tup xs=>obtain ⟨_,_,_,p⟩:=x;exact p.lt
 | dK kvs=>obtain ⟨_,_,_,_,o,_,_,e,_⟩:=x;exact tv e
 | dT kvs=>obtain ⟨_,_,_,_,o,_,_,e,_⟩:=x;exact tv e
 | set S n=>obtain ⟨o,_,_,_,e,_⟩:=x;exact tv e
 | ins C dx fs=>obtain ⟨_,_,_,e,_⟩:=x;exact tv e
 | own y=>obtain ⟨_,e⟩:=x;exact tv e
 | xd fs=>obtain ⟨_,⟨_,_,_,e,_⟩,_⟩:=x;exact tv e
 | rng lo hi=>obtain ⟨_,_,_,e⟩:=x;exact tv e
 | frz ob u=>obtain ⟨e,_⟩:=x;exact tv e
 | tbl ps=>exact tv (show h.get? a=some _ from x)
 | met f y=>exact tv (show h.get? a=some _ from x)
 | ext φ => obtain ⟨_,⟨_,e⟩,_⟩:=x;exact tv e
theorem KG {α β:Type} {F G : α -> β -> Prop}:∀ {l₁:List α} {l₂:List β},CU F l₁ l₂ -> (∀ a b,F a b->G a b)->CU G l₁ l₂
 | _,_, .nil,_ => .nil
 | _,_, .cons r t,f => .cons (f _ _ r) (KG t f)
theorem ObjOk.stay (x:ObjOk P w H h a o) (k:∀ b u,(b=a∨H b=some (.own a))->h.get? b=some u->h'.get? b=some u)
 (ho:∀ b,H b=some (.own a)->H' b=some (.own a)) (ht:∀ b xs,H b=some (.tup xs)->H' b=some (.tup xs)):ObjOk P w H' h' a o:=by
 induction o with
 | lst xs=>obtain ⟨z,its,n,r,e⟩:=x;exact ⟨z,its,n,r,k _ _ (.inl rfl) e⟩
 | tup xs=>obtain ⟨z,its,r,ob,e,c⟩:=x;exact ⟨z,its,r,ob,k _ _ (.inl rfl) e,c⟩
 | dK kvs=>obtain ⟨z,y,vs,r,ob,es,ep,e,c⟩:=x;exact ⟨z,y,vs,r,ob,es,ep,k _ _ (.inl rfl) e,c⟩
 | dT kvs =>
   obtain ⟨z,y,xs,r,ob,es,ep,e,c⟩:=x;exact ⟨z,y,xs,KG r fun p q z=>⟨z.1,ht _ _ z.2.1,z.2.2⟩,ob,es,ep,k _ _ (.inl rfl) e,c⟩
 | set S n=>obtain ⟨ob,es,ep,t,e,c⟩:=x;exact ⟨ob,es,ep,t,k _ _ (.inl rfl) e,c⟩
 | ins C dx fs =>
   obtain ⟨d,z,ne,e,mA,⟨od,es,ep,j,c⟩,r⟩:=x;exact ⟨ho _ d,z,ne,k _ _ (.inl rfl) e,mA,⟨od,es,ep,k _ _ (.inr d) j,c⟩,r⟩
 | own y=>obtain ⟨ob,e⟩:=x;exact ⟨ob,k _ _ (.inl rfl) e⟩
 | xd fs=>obtain ⟨mA,⟨od,es,ep,e,c⟩,r⟩:=x;exact ⟨mA,⟨od,es,ep,k _ _ (.inl rfl) e,c⟩,r⟩
 | rng lo hi=>obtain ⟨t,u,v,e⟩:=x;exact ⟨t,u,v,k _ _ (.inl rfl) e⟩
 | frz ob u ih=>obtain ⟨e,q⟩:=x;exact ⟨k _ _ (.inl rfl) e,ih q⟩
 | tbl ps =>
   have e:h.get? a=some { cls := .none,data := .fields ps }:=x;show h'.get? a=some { cls := .none,data := .fields ps };exact k a _ (.inl rfl) e
 | met f y =>
   have e:h.get? a=some (GK (.ref f) (.ref y)):=x;show h'.get? a=some (GK (.ref f) (.ref y));exact k a _ (.inl rfl) e
 | ext φ => obtain ⟨p,⟨o,e⟩,st⟩:=x;exact ⟨st _ _ p fun o q=>k _ _ (.inl rfl) q,⟨o,k _ _ (.inl rfl) e⟩,st⟩
theorem HOk.lt (x:HOk P w H h) (e:H a=some o):a < h.objs.size:=(x a o e).lt
theorem HOk.fresh (x:HOk P w H h) (e:h.objs.size<=a):H a=none:=by
 cases q:H a with
 | none=>rfl
 | some u=>exact absurd (CL (x.lt q) e) (DQ _)
theorem HOk.kept (x:HOk P w H h) (k:∀ b u,h.get? b=some u->h'.get? b=some u):HOk P w H h':=fun a o e =>
 (x a o e).stay (fun b u _ q=>k b u q) (fun _ q=>q) fun _ _ q=>q
theorem HOk.laid (x:HOk P w H h) (k:∀ b u,h.get? b=some u->h'.get? b=some u) (z:h.objs.size<=a) (new:ObjOk P w (upd H a o) h' a o):HOk P w (upd H a o) h':=fun b u e=>by
 have j:=x.fresh z
 by_cases hb:b=a
 ·subst hb;rw [ak] at e;cases e;exact new
 ·rw [ae hb] at e;exact (x b u e).stay (fun c v _ q=>k c v q) (fun c q=>by rw [ae (aR q j)];exact q) fun c xs q=>by rw [ae (aR q j)];exact q
end
def Rd (H:Hp) (a:Addr) (u:HO):Prop:=H a=some u ∨ ∃ o,H a=some (.frz o u)
theorem Rd.of {H:Hp} {a:Addr} {u:HO} (h:H a=some u):Rd H a u := .inl h
theorem Rd.ok {P:CG} {w:CT} {H:Hp} {h:Heap} {a:Addr} {u:HO} (r:Rd H a u) (x:HOk P w H h):ObjOk P w H h a u:=by
 rcases r with r | ⟨o,r⟩
 ·exact x a u r
 ·obtain ⟨_,q⟩:=x a _ r;exact q
noncomputable def Mut:Option HO->Prop
 | some (.lst _)=>True
 | some (.dK _)=>True
 | some (.dT _)=>True
 | some (.set _ _)=>True
 | some (.ins _ _ _)=>True
 | some (.ext _)=>True
 | _=>False
section
variable {P:CG} {w:CT} {H:Hp} {h h':Heap} {x e:Addr} {o':HO}
theorem HOk.write (ok:HOk P w H h) (mu:Mut (H x)) (he:e=x∨H e=some (.own x)) (k:∀ b u,b≠e->h.get? b=some u->h'.get? b=some u) (F:∃ u,h'.get? e=some u)
 (new:ObjOk P w (upd H x o') h' x o'):HOk P w (upd H x o') h':=fun b u q=>by
 have nown:∀ c y,H c=some (.own y)->c≠x:=fun c y r z=>by subst z;rw [r] at mu;exact mu
 have ntup:∀ c xs,H c=some (.tup xs)->c≠x:=fun c xs r z=>by subst z;rw [r] at mu;exact mu
 by_cases hb:b=x
 ·subst hb;rw [ak] at q;cases q;exact new
 ·rw [ae hb] at q
  by_cases j:b=e
  ·have q':H b=some (.own x):=by
    rcases he with z | z
    ·exact absurd (j.trans z) hb
    ·rw [j];exact z
   rw [q] at q';cases q';obtain ⟨v,G⟩:=F;exact ⟨v,by rw [j];exact G⟩
  ·refine (ok b u q).stay (fun c v B r=>k c v ?_ r) (fun c r=>by rw [ae (nown c b r)];exact r) fun c xs r=>by rw [ae (ntup c xs r)];exact r
   rcases B with rfl | B
   ·exact j
   ·rintro rfl
    rcases he with z | z
    ·exact nown c b B z
    ·rw [B] at z;cases z;exact hb rfl
end
structure Un (fs ex:List Addr) (H H':Hp) (h h':Heap):Prop where
 keep:∀ b o,h.get? b=some o->H b=none->b∉fs->b∉ex->h'.get? b=some o
 slot:∀ b o,h.get? b=some o->H b=none->b∈fs->b∉ex -> ∃ sl,h'.get? b=some { o with slots:=sl }
 free:∀ b o,h.get? b=some o->H b=none->b∉ex->H' b=none
 there:∀ b o,h.get? b=some o->b∉ex -> ∃ o',h'.get? b=some o'
 tups:∀ b xs,H b=some (.tup xs)->H' b=some (.tup xs)
 frzs:∀ b o u,H b=some (.frz o u)->H' b=some (.frz o u)
 tbls:∀ b ps,H b=some (.tbl ps) -> ∃ more,H' b=some (.tbl (ps++more))
section
variable {fs fs' ex ex':List Addr} {H H1 H2:Hp} {h h1 h2 h':Heap} {a x e:Addr} {o:HO}
theorem Un.any (u:Un fs ex H H1 h h1) {b:Addr} {ob:Obj} (q:h.get? b=some ob) (n:H b=none) (hx:b∉ex):∃ sl,h1.get? b=some { ob with slots:=sl }:=by
 by_cases j:b∈fs
 ·exact u.slot b ob q n j hx
 ·exact ⟨ob.slots,u.keep b ob q n j hx⟩
theorem Un.trans (a:Un fs ex H H1 h h1) (b:Un fs ex H1 H2 h1 h2):Un fs ex H H2 h h2 where
 keep:=fun c ob q n z hx=>b.keep c ob (a.keep c ob q n z hx) (a.free c ob q n hx) z hx
 slot:=fun c ob q n z hx=>by
  obtain ⟨sl,j⟩:=a.slot c ob q n z hx;obtain ⟨sl',B⟩:=b.slot c _ j (a.free c ob q n hx) z hx;exact ⟨sl',B⟩
 free:=fun c ob q n hx=>by
  obtain ⟨o',j⟩:=a.there c ob q hx;exact b.free c o' j (a.free c ob q n hx) hx
 there:=fun c ob q hx=>by
  obtain ⟨o',j⟩:=a.there c ob q hx;exact b.there c o' j hx
 tups:=fun c xs q=>b.tups c xs (a.tups c xs q)
 frzs:=fun c ob xs q=>b.frzs c ob xs (a.frzs c ob xs q)
 tbls:=fun c ps q=>by
  obtain ⟨m1,j⟩:=a.tbls c ps q;obtain ⟨m2,B⟩:=b.tbls c _ j;exact ⟨m1++m2,by rw [B,IJ]⟩
theorem Un.kept (k:∀ b u,h.get? b=some u->h'.get? b=some u):Un fs ex H H h h' :=
 ⟨fun b ob q _ _ _=>k b ob q,fun b ob q _ _ _=>⟨ob.slots,k b ob q⟩,fun _ _ _ n _=>n,fun b ob q _=>⟨ob,k b ob q⟩,fun _ _ q=>q,fun _ _ _ q=>q,fun _ ps q=>⟨#[],by rw [q];simp⟩⟩
theorem Un.refl:Un fs ex H H h h:=Un.kept fun _ _ q=>q
theorem Un.laid (k:∀ b u,h.get? b=some u->h'.get? b=some u) (z:h.objs.size<=a) (j:H a=none):Un fs ex H (upd H a o) h h' where
 keep:=fun b u q _ _ _=>k b u q
 slot:=fun b u q _ _ _=>⟨u.slots,k b u q⟩
 free:=fun b u q n _=>by rw [ae (CV (CL (tv q) z))];exact n
 there:=fun b u q _=>⟨u,k b u q⟩
 tups:=fun b xs q=>by rw [ae (aR q j)];exact q
 frzs:=fun b u xs q=>by rw [ae (aR q j)];exact q
 tbls:=fun b ps q=>⟨#[],by rw [ae (aR q j),q];simp⟩
theorem Un.write (mu:Mut (H x)) (he:e=x∨H e=some (.own x)) (k:∀ b u,b≠e->h.get? b=some u->h'.get? b=some u) (B:∃ u,h'.get? e=some u):Un fs ex H (upd H x o) h h':=by
 have hx:∀ b,H b=none->b≠x:=fun b n z=>by subst z;rw [n] at mu;exact mu
 have F:∀ b,H b=none->b≠e:=fun b n z=>by
  subst z
  rcases he with r | r
  ·exact hx b n r
  ·rw [n] at r;cases r
 have hm:∀ b u,H b=some u -> ¬ Mut (some u)->b≠x:=fun b u q nm z=>by subst z;rw [q] at mu;exact nm mu
 refine ⟨fun b u q n _ _=>k b u (F b n) q,fun b u q n _ _=>⟨u.slots,k b u (F b n) q⟩,fun b u q n _=>by rw [ae (hx b n)];exact n,fun b u q _ => ?_,
  fun b xs q=>by rw [ae (hm b _ q fun z=>z)];exact q,fun b u xs q=>by rw [ae (hm b _ q fun z=>z)];exact q,fun b ps q=>⟨#[],by rw [ae (hm b _ q fun z=>z),q];simp⟩⟩
 by_cases j:b=e
 ·subst j;exact B
 ·exact ⟨u,k b u j q⟩
end
noncomputable def trk (h:Heap) (H:Hp):List Addr:=(CP h.objs.size).filter fun a=>(H a).isSome
noncomputable def ef (h:Heap) (H:Hp):Heap:=PySem.W.hideAll h (trk h H)
theorem qH (h:Heap) (H:Hp):(ef h H).objs.size=h.objs.size:=PySem.W.hideAll_size _ _
theorem tJ {h:Heap} {H:Hp} {b:Addr} {o:Obj} (e:h.get? b=some o) (n:H b=none):(ef h H).get? b=some o :=
 PySem.W.hideAll_get _ e fun hm=>by
  have q:(H b).isSome=true:=(Ef.mp hm).2;rw [n] at q;simp at q
theorem wB {h:Heap} {H:Hp} {b:Addr} {o:Obj} (e:(ef h H).get? b=some o):h.get? b=some o/\H b=none:=by
 have e':h.get? b=some o:=PySem.W.of_hideAll (trk h H) e;refine ⟨e', ?_⟩
 cases q:H b with
 | none=>rfl
 | some x =>
   have hm:b∈trk h H:=Ef.mpr ⟨Fz.mpr (tv e'),by simp [q]⟩
   have z:(ef h H).get? b=none:=PySem.W.hideAll_none (trk h H) hm;rw [z] at e;cases e
noncomputable def wD (g h:Heap) (L:Addr):List (Addr×Obj):=(CP h.objs.size).filterMap fun a=>if a=L∨(g.get? a).isSome=true then none else (h.get? a).map fun o=>(a,o)
noncomputable def rest (g h:Heap) (L d:Addr):List (Addr×Obj):=(wD g h L).filter fun p=>decide (p.1≠d)
end
section
structure Mod (K:Frag) (mg:Str->Option e6) (base:Heap):Prop where
 kin:K.In base
 glob:base.Ns Dl mg
 blt:∃ mb,base.Ns K9 mb /\ ∀ x:Str,x ≠ "__name__" -> mb x=DR x
 nolimit:base.NoLimit
structure Cx where
 prog:CG
 w:CT
 K:Frag
 mg:Str->Option e6
 base:Heap
 A:D1
 N:List Str
 s₀:h7
 H₀:Hp
 env:Env
 outer:List Env
 stack:List Env
 ex:List Addr
 fn:Str->Bool
 calm:Bool
 pn:List (Addr×Obj)
 xe:e6->h7->Prop
noncomputable def frs (l:List Env):List Addr:=l.filterMap (·.frame)
noncomputable abbrev Cx.fs (X:Cx):List Addr:=frs X.outer
def Vis (sc:Scope) (x:Str):Prop:=sc.names.lookup x=some .local∨sc.names.lookup x=some .cell∨sc.names.lookup x=some .free
def Loc (sc:Scope) (x:Str):Prop:=sc.names.lookup x=some .local∨sc.names.lookup x=some .cell
def yK (env:Env) (h:Heap) (m:Str->Option e6) (x:Str) (u:e6):Prop :=
 (env.kindOf x=some .local/\m x=some u)∨((env.kindOf x=some .cell∨env.kindOf x=some .free) /\ ∃ c,env.cells.lookup x=some c/\h.IsCell c (some u))
structure Cx.Ok (X:Cx):Prop where
 mod:Mod X.K X.mg X.base
 kind:X.env.scope.kind = .function
 glob:X.env.globals=Dl
 blt:X.env.builtins=K9
 above:X.s₀.heap.objs.size<=X.env.locals
 inj:∀ x y c,X.env.cells.lookup x=some c->X.env.cells.lookup y=some c->x=y
 has:∀ x,(X.env.kindOf x=some .cell∨X.env.kindOf x=some .free) -> ∃ c,X.env.cells.lookup x=some c
 cab:∀ x c,X.fn x=true->X.env.cells.lookup x=some c->X.s₀.heap.objs.size<=c
 hd:X.calm=true->X.A.handled=none
 frames:X.A.frames=some X.stack
 stk:X.stack=X.outer∨(X.stack=X.env::X.outer/\X.env.frame=some X.env.locals)
 exf:∀ b∈X.ex,b≠X.env.locals /\ ∀ x c,X.env.cells.lookup x=some c->c≠b
 bs:∀ b o,X.base.get? b=some o->X.s₀.heap.get? b=some o/\X.H₀ b=none
 bsz:X.base.objs.size<=X.s₀.heap.objs.size
 noex:∀ b o,X.base.get? b=some o->b∉X.ex
 exfs:∀ b∈X.ex,b∉X.fs
 funs:X.s₀.heap.FunFrames X.base X.outer
 frf:∀ b∈X.fs,X.H₀ b=none
structure Inv (X:Cx) (pins:List (Addr×Obj)) (σ:List (Option V)) (H:Hp) (s:h7):Prop where
 ok:X.Ok
 os:s.os=X.s₀.os
 bare:Gc s.gens
 base:Un X.fs X.ex X.H₀ H X.s₀.heap s.heap
 loc:∃ m,s.heap.Ns X.env.locals m /\ ∀ (i:Nat) (x:Str) (v:V),X.N[i]? = some x -> σ[i]? = some (some v)->Vis X.env.scope x -> ∃ u,RelV v u/\yK X.env s.heap m x u
 cell:∀ x c,X.env.cells.lookup x=some c -> ∃ v,s.heap.IsCell c v
 free:H X.env.locals=none
 freeC:∀ x c,X.env.cells.lookup x=some c->H c=none
 pin:∀ p∈X.pn++pins,s.heap.get? p.1=some p.2/\H p.1=none/\p.1≠X.env.locals/\p.1∉X.fs /\ ∀ v,p.2.data ≠ .cell v
 hok:HOk X.prog X.w H s.heap
 len : σ.length=X.N.length
section
variable {X:Cx} {pins:List (Addr×Obj)} {σ:List (Option V)} {H H':Hp} {s:h7} {h':Heap}
theorem Cx.Ok.nofr (ok:X.Ok) {b:Addr} {o:Obj} (e:X.base.get? b=some o):b∉X.fs:=fun j=>by
 have:=(ok.funs.mem j).1;rw [e] at this;cases this
theorem Inv.bs (I:Inv X pins σ H s):∀ b o,X.base.get? b=some o->s.heap.get? b=some o/\H b=none:=fun b o e =>
 ⟨I.base.keep b o (I.ok.bs b o e).1 (I.ok.bs b o e).2 (I.ok.nofr e) (I.ok.noex b o e),I.base.free b o (I.ok.bs b o e).1 (I.ok.bs b o e).2 (I.ok.noex b o e)⟩
theorem Inv.bk (I:Inv X pins σ H s):∀ b o,X.base.get? b=some o->s.heap.get? b=some o:=fun b o e=>(I.bs b o e).1
theorem Inv.mod (I:Inv X pins σ H s):Mod X.K X.mg X.base:=I.ok.mod
theorem Inv.kIn (I:Inv X pins σ H s):X.K.In s.heap:=I.ok.mod.kin.keeps I.bk
theorem Inv.lt (I:Inv X pins σ H s):X.env.locals < s.heap.objs.size:=let ⟨_,j,_⟩:=I.loc;j.lt
theorem Inv.sz (I:Inv X pins σ H s):X.s₀.heap.objs.size<=s.heap.objs.size:=Dt I.ok.above (F5 I.lt)
theorem Inv.nofs (I:Inv X pins σ H s) {a:Addr} (h:s.heap.objs.size<=a):a∉X.fs:=fun j=>by
 obtain ⟨_,o,ho,_⟩:=I.ok.funs.mem j;exact absurd (CL (tv ho) (Dt I.sz h)) (DQ _)
theorem Inv.cne (I:Inv X pins σ H s):∀ x c,X.env.cells.lookup x=some c->c≠X.env.locals:=fun x c e z=>by
 obtain ⟨v,o,ho,hd⟩:=I.cell x c e;obtain ⟨m,⟨o',es,ep,j,q,_⟩,_⟩:=I.loc;rw [z,j] at ho;cases ho;rw [q] at hd;cases hd
theorem Inv.funs (I:Inv X pins σ H s):s.heap.FunFrames X.base X.outer:=by
 have all:∀ (l:List Env),(∀ b∈frs l,b∈X.fs)->X.s₀.heap.FunFrames X.base l->s.heap.FunFrames X.base l:=by
  intro l
  induction l with
  | nil=>intro _ _;trivial
  | cons env r ih =>
    intro hs B;obtain ⟨F,⟨L,o,hf,G,ho,hd⟩,hr⟩:=B;have j:L∈X.fs:=hs L (by unfold frs;rw [Fe,hf];exact D5)
    obtain ⟨sl,e⟩:=I.base.slot L o ho (I.ok.frf L j) j fun z=>I.ok.exfs L z j;exact ⟨F,⟨L,_,hf,G,e,hd⟩,ih (fun b q=>hs b (by unfold frs;rw [Fe,hf];exact CM _ q)) hr⟩
 exact all X.outer (fun _ q=>q) I.ok.funs
theorem Inv.stack (I:Inv X pins σ H s):s.heap.FunFrames X.base X.stack:=by
 rcases I.ok.stk with e | ⟨e,hf⟩
 ·rw [e];exact I.funs
 ·rw [e];obtain ⟨m,j,_⟩:=I.loc;refine .cons (by rw [I.ok.kind];decide) hf j ?_ I.funs
  exact HK (Dt I.ok.bsz I.ok.above)
theorem Inv.stkSub (I:Inv X pins σ H s):∀ b∈frs X.stack,b∈X.env.locals::X.fs:=fun b j=>by
 rcases I.ok.stk with e | ⟨e,hf⟩
 ·rw [e] at j;exact CM _ j
 ·rw [e] at j;unfold frs at j;rw [Fe,hf] at j;exact j
theorem Inv.stkFree (I:Inv X pins σ H s):∀ b∈frs X.stack,H b=none:=fun b j=>by
 rcases CC.mp (I.stkSub b j) with e | j
 ·rw [e];exact I.free
 ·obtain ⟨_,o,ho,_⟩:=I.ok.funs.mem j;exact I.base.free b o ho (I.ok.frf b j) fun z=>I.ok.exfs b z j
theorem Inv.step {g':Array Ka} {t':Nat} {d':Drawn} {ch:List Addr} (I:Inv X pins σ H s)
 (j:∀ b∈ch,(b∈X.ex∨X.s₀.heap.objs.size<=b)/\b≠X.env.locals/\(∀ x c,X.env.cells.lookup x=some c->c≠b) /\ ∀ p∈X.pn++pins,p.1≠b)
 (keep:∀ b o,b≠X.env.locals->b∉X.fs->b∉ch->s.heap.get? b=some o->H b=none->h'.get? b=some o)
 (slot:∀ b o,b≠X.env.locals->b∈X.fs->b∉ch->s.heap.get? b=some o->H b=none -> ∃ sl,h'.get? b=some { o with slots:=sl }) (free:∀ b o,b∉ch->s.heap.get? b=some o->H b=none->H' b=none)
 (there:∀ b o,b∉ch->s.heap.get? b=some o -> ∃ o',h'.get? b=some o')
 (tups:∀ b xs,H b=some (.tup xs)->H' b=some (.tup xs)) (frzs:∀ b o u,H b=some (.frz o u)->H' b=some (.frz o u)) (tbls:∀ b ps,H b=some (.tbl ps) -> ∃ more,H' b=some (.tbl (ps++more)))
 (ns:∀ m,s.heap.Ns X.env.locals m->h'.Ns X.env.locals m) (hok:HOk X.prog X.w H' h') (O:Gc g') :
 Inv X pins σ H' { s with heap:=h',gens:=g',drawn:=d',toks:=t' }:=by
 have neL:∀ b o,X.s₀.heap.get? b=some o->b≠X.env.locals:=fun b o e=>CV (CL (tv e) I.ok.above);have neC:∀ b o,X.s₀.heap.get? b=some o->b∉X.ex->b∉ch:=fun b o e hx F=>by
  rcases (j b F).1 with z | z
  ·exact hx z
  ·exact absurd (CL (tv e) z) (DQ _)
 have cellK:∀ x c,X.env.cells.lookup x=some c -> ∀ v,s.heap.IsCell c v->h'.IsCell c v:=fun x c e v ⟨o,ho,hd⟩=>by
  have nch:c∉ch:=fun z=>(j c z).2.2.1 x c e rfl
  by_cases J:c∈X.fs
  ·obtain ⟨sl,q⟩:=slot c o (I.cne x c e) J nch ho (I.freeC x c e);exact ⟨_,q,hd⟩
  ·exact ⟨o,keep c o (I.cne x c e) J nch ho (I.freeC x c e),hd⟩
 refine ⟨I.ok,I.os,O,⟨fun b o e n F hx => ?_,fun b o e n F hx => ?_,fun b o e n hx => ?_,fun b o e hx => ?_,fun b xs e=>tups b xs (I.base.tups b xs e),fun b o xs e=>frzs b o xs (I.base.frzs b o xs e),fun b ps e => ?_⟩, ?_,fun x c e => ?_, ?_,fun x c e => ?_,fun p L => ?_,hok,I.len⟩
 ·exact keep b o (neL b o e) F (neC b o e hx) (I.base.keep b o e n F hx) (I.base.free b o e n hx)
 ·obtain ⟨sl,B⟩:=I.base.slot b o e n F hx;obtain ⟨sl',G⟩:=slot b _ (neL b o e) F (neC b o e hx) B (I.base.free b o e n hx);exact ⟨sl',G⟩
 ·obtain ⟨o',B⟩:=I.base.there b o e hx;exact free b o' (neC b o e hx) B (I.base.free b o e n hx)
 ·obtain ⟨o',B⟩:=I.base.there b o e hx;exact there b o' (neC b o e hx) B
 ·obtain ⟨m1,B⟩:=I.base.tbls b ps e;obtain ⟨m2,G⟩:=tbls b _ B;exact ⟨m1++m2,by rw [G,IJ]⟩
 ·obtain ⟨m,U,Y⟩:=I.loc;refine ⟨m,ns m U,fun i x v B G Z => ?_⟩;obtain ⟨u,r,l⟩:=Y i x v B G Z;refine ⟨u,r, ?_⟩
  rcases l with l | ⟨k,c,e,z⟩
  ·exact .inl l
  ·exact .inr ⟨k,c,e,cellK x c e _ z⟩
 ·obtain ⟨v,z⟩:=I.cell x c e;exact ⟨v,cellK x c e v z⟩
 ·obtain ⟨m,⟨o,_,_,ho,_⟩,_⟩:=I.loc;exact free _ o (fun z=>(j _ z).2.1 rfl) ho I.free
 ·obtain ⟨v,o,ho,hd⟩:=I.cell x c e;exact free c o (fun z=>(j c z).2.2.1 x c e rfl) ho (I.freeC x c e)
 ·obtain ⟨e,n,ne,nf,d⟩:=I.pin p L;have nch:p.1∉ch:=fun z=>(j p.1 z).2.2.2 p L rfl;exact ⟨keep p.1 p.2 ne nf nch e n,free p.1 p.2 nch e n,ne,nf,d⟩
theorem Inv.un {t':Nat} (I:Inv X pins σ H s) (u:Un X.fs [] H H' s.heap h') (hok:HOk X.prog X.w H' h'):Inv X pins σ H' { s with heap:=h',toks:=t' }:=by
 obtain ⟨m,⟨o,es,ep,ho,r⟩,_⟩:=id I.loc;obtain ⟨sl,B⟩:=u.any ho I.free (by simp)
 exact I.step (g':=s.gens) (d':=s.drawn) (ch := []) (fun _ z=>nomatch z) (fun b o _ q _ e n=>u.keep b o e n q (by simp)) (fun b o _ q _ e n=>u.slot b o e n q (by simp)) (fun b o _ e n=>u.free b o e n (by simp)) (fun b o _ e=>u.there b o e (by simp)) u.tups u.frzs u.tbls (fun m' hm=>by
  obtain ⟨o',es',ep',j,r'⟩:=hm;rw [ho] at j;cases j;exact ⟨_,es',ep',B,r'⟩) hok I.bare
theorem Inv.call {g':Array Ka} {t':Nat} {d':Drawn} {ch:List Addr} (I:Inv X pins σ H s) (u:Un (frs X.stack) ch H H' s.heap h') (hok:HOk X.prog X.w H' h') (G:Gc g')
 (q:∀ b∈ch,(b∈X.ex∨X.s₀.heap.objs.size<=b)/\b≠X.env.locals/\(∀ x c,X.env.cells.lookup x=some c->c≠b) /\ ∀ p∈X.pn++pins,p.1≠b) :
 Inv X pins σ H' { s with heap:=h',gens:=g',drawn:=d',toks:=t' }:=by
 obtain ⟨m,⟨o,es,ep,ho,r⟩,_⟩:=id I.loc;obtain ⟨sl,F⟩:=u.any ho I.free fun z=>(q _ z).2.1 rfl;exact I.step (ch:=ch) q (fun b o F J j e n=>u.keep b o e n (fun z=>(CC.mp (I.stkSub b z)).elim F J) j) (fun b o _ _ j e n=>u.any e n j) (fun b o j e n=>u.free b o e n j) (fun b o j e=>u.there b o e j) u.tups u.frzs u.tbls (fun m' hm=>by
  obtain ⟨o',es',ep',B,r'⟩:=hm;rw [ho] at B;cases B;exact ⟨_,es',ep',F,r'⟩) hok G
theorem Inv.turned {t':Nat} {it:Addr} (I:Inv X pins σ H s) (k:∀ b o,b≠it->s.heap.get? b=some o->h'.get? b=some o) (F:H it=none) (B:it≠X.env.locals)
 (h1:it∈X.ex∨X.s₀.heap.objs.size<=it) (h2:∀ x c,X.env.cells.lookup x=some c->c≠it) (G:∀ p∈X.pn++pins,p.1≠it):Inv X pins σ H { s with heap:=h',toks:=t' }:=by
 have nit:∀ b u,H b=some u->b≠it:=fun b u e z=>by rw [z,F] at e;cases e
 refine I.step (g':=s.gens) (d':=s.drawn) (ch := [it]) (fun b J => ?_) (fun b o _ _ j e _=>k b o (fun z=>j (by simp [z])) e) (fun b o _ _ j e _=>⟨o.slots,k b o (fun z=>j (by simp [z])) e⟩) (fun _ _ _ _ n=>n)
  (fun b o j e=>⟨o,k b o (fun z=>j (by simp [z])) e⟩) (fun _ _ e=>e) (fun _ _ _ e=>e) (fun b ps e=>⟨#[],by rw [e];simp⟩) (fun m hm => ?_) (fun b u e => ?_) I.bare
 ·have e:b=it:=by simpa using J
  subst e;exact ⟨h1,B,h2,G⟩
 ·obtain ⟨o,es,ep,ho,r⟩:=hm;exact ⟨o,es,ep,k _ o (Ne.symm B) ho,r⟩
 ·refine (I.hok b u e).stay (fun c v j q=>k c v ?_ q) (fun _ q=>q) fun _ _ q=>q
  rcases j with z | z
  ·rw [z];exact nit b u e
  ·exact nit c _ z
theorem Inv.tok (I:Inv X pins σ H s) (t:Nat):Inv X pins σ H { s with toks:=t }:=I.un (h':=s.heap) (t':=t) Un.refl I.hok
theorem Inv.kept {t':Nat} (I:Inv X pins σ H s) (k:∀ b u,s.heap.get? b=some u->h'.get? b=some u):Inv X pins σ H { s with heap:=h',toks:=t' }:=I.un (Un.kept k) (I.hok.kept k)
theorem Inv.laid {a:Addr} {o:HO} {t':Nat} (I:Inv X pins σ H s) (k:∀ b u,s.heap.get? b=some u->h'.get? b=some u) (j:s.heap.objs.size<=a) (new:ObjOk X.prog X.w (upd H a o) h' a o) :
 Inv X pins σ (upd H a o) { s with heap:=h',toks:=t' }:=I.un (Un.laid k j (I.hok.fresh j)) (I.hok.laid k j new)
theorem Inv.write {x e:Addr} {o:HO} {t':Nat} (I:Inv X pins σ H s) (mu:Mut (H x)) (he:e=x∨H e=some (.own x)) (k:∀ b u,b≠e->s.heap.get? b=some u->h'.get? b=some u) (j:∃ u,h'.get? e=some u)
 (new:ObjOk X.prog X.w (upd H x o) h' x o):Inv X pins σ (upd H x o) { s with heap:=h',toks:=t' }:=I.un (Un.write mu he k j) (I.hok.write mu he k j new)
theorem Inv.pins_of {pins':List (Addr×Obj)} (I:Inv X pins σ H s) (h:∀ p∈pins',s.heap.get? p.1=some p.2/\H p.1=none/\p.1≠X.env.locals/\p.1∉X.fs /\ ∀ v,p.2.data ≠ .cell v):Inv X pins' σ H s :=
 ⟨I.ok,I.os,I.bare,I.base,I.loc,I.cell,I.free,I.freeC,fun p j=>(Ds.mp j).elim (fun z=>I.pin p (HL _ z)) (h p),I.hok,I.len⟩
theorem gE {N:List Str} (q:N.Nodup) {i j:Nat} {x:Str} (a:N[i]? = some x) (b:N[j]? = some x):i=j:=by
 obtain ⟨h1,z⟩:=CI.mp a;obtain ⟨h2,B⟩:=CI.mp b;exact (List.getElem_inj q).mp (z.trans B.symm)
theorem jl {M:Iw} {A:D1} {E:e6->h7->Prop} {i:Nat} {x:Str} {v:V} {u:e6} {Q:Unit->h7->Prop} (I:Inv X pins σ H s) (hN:X.N.Nodup) (hi:X.N[i]? = some x) (hx:Loc X.env.scope x) (r:RelV v u)
 (h:∀ s',Inv X pins (σ.set i (some v)) H s'->(∃ a,Dn a s.heap s'.heap/\(a=X.env.locals∨X.env.cells.lookup x=some a))->Q () s') (hf:X.fn x=true∨X.env.scope.names.lookup x=some .local:=by first | exact .inl rfl | exact .inr rfl | assumption):CB M A (storeName X.env x u) Q E s:=by
 obtain ⟨m,hn,hl⟩:=id I.loc;have Z:(X.env.scope.kind == .class || (X.env.scope.kind == .module&&X.env.locals != X.env.globals))=false:=by rw [I.ok.kind];rfl
 have BN:i < σ.length:=by rw [I.len];exact (CI.mp hi).1
 have cne:=I.cne;have tracked:∀ {a:Addr} {h':Heap},(∃ o,s.heap.get? a=some o/\H a=none)->Dn a s.heap h'->HOk X.prog X.w H h':=fun {a h'} ha hs b ob e=>by
  obtain ⟨_,_,G⟩:=ha;refine (I.hok b ob e).stay (fun c w' F q=>(hs.2 c ?_).trans q) (fun _ q=>q) fun _ _ q=>q;rintro rfl
  rcases F with rfl | F
  ·rw [G] at e;cases e
  ·rw [G] at F;cases F
 rcases hx with L | L
 ·refine wpAny_storeName_local L hn (fun h' BS hs => ?_) Z;obtain ⟨oL,_,_,BU,_⟩:=id hn;refine h _ ⟨I.ok,I.os,I.bare,⟨fun b o e n O hx => ?_,fun b o e n O hx => ?_,I.base.free,fun b o e hx => ?_,I.base.tups,I.base.frzs,I.base.tbls⟩,⟨_,BS,fun j y v' B J e3 => ?_⟩,fun y c e => ?_,I.free,I.freeC,fun p hp => ?_,tracked ⟨oL,BU,I.free⟩ hs,by simpa using I.len⟩ ⟨_,hs, .inl rfl⟩
  ·exact (hs.2 b (CV (CL (tv e) I.ok.above))).trans (I.base.keep b o e n O hx)
  ·obtain ⟨sl,B⟩:=I.base.slot b o e n O hx;exact ⟨sl,(hs.2 b (CV (CL (tv e) I.ok.above))).trans B⟩
  ·obtain ⟨o',B⟩:=I.base.there b o e hx;exact ⟨o',(hs.2 b (CV (CL (tv e) I.ok.above))).trans B⟩
  ·by_cases U:j=i
   ·subst U;rw [hi] at B;cases B;rw [Dh BN] at J
    cases J
    exact ⟨u,r, .inl ⟨L,by simp⟩⟩
   ·rw [DU (Ne.symm U)] at J;obtain ⟨u',r',q⟩:=hl j y v' B J e3;refine ⟨u',r', ?_⟩
    rcases q with ⟨k,e⟩ | ⟨k,c,e,z⟩
    ·refine .inl ⟨k, ?_⟩;have:y≠x:=fun e=>U (gE hN B (e ▸ hi));simp [this,e]
    ·exact .inr ⟨k,c,e,z.sameBut hs (cne y c e)⟩
  ·obtain ⟨w',z⟩:=I.cell y c e;exact ⟨w',z.sameBut hs (cne y c e)⟩
  ·obtain ⟨e,n,ne,nf,d⟩:=I.pin p hp;exact ⟨(hs.2 p.1 ne).trans e,n,ne,nf,d⟩
 ·have Y:X.fn x=true:=by
   rcases hf with z | z
   ·exact z
   ·rw [z] at L;cases L
  obtain ⟨c,F⟩:=I.ok.has x (.inl L);obtain ⟨w',z⟩:=I.cell x c F;refine wpAny_storeName_cell I.ok.kind L F z (fun h' BO hs => ?_);obtain ⟨oc,BP,BQ⟩:=id z;refine h { s with heap:=h' } ⟨I.ok,I.os,I.bare,⟨fun b o e n O hx => ?_,fun b o e n O hx => ?_,I.base.free,fun b o e hx => ?_,I.base.tups,I.base.frzs,I.base.tbls⟩,⟨m,hn.sameBut hs (Ne.symm (cne x c F)),fun j y v' B J e3 => ?_⟩,fun y c' e => ?_,I.free,I.freeC,fun p hp => ?_,tracked ⟨oc,BP,I.freeC x c F⟩ hs,by simpa using I.len⟩ ⟨c,hs, .inr F⟩
  ·exact (hs.2 b (CV (CL (tv e) (I.ok.cab x c Y F)))).trans (I.base.keep b o e n O hx)
  ·obtain ⟨sl,B⟩:=I.base.slot b o e n O hx;exact ⟨sl,(hs.2 b (CV (CL (tv e) (I.ok.cab x c Y F)))).trans B⟩
  ·obtain ⟨o',B⟩:=I.base.there b o e hx;exact ⟨o',(hs.2 b (CV (CL (tv e) (I.ok.cab x c Y F)))).trans B⟩
  ·by_cases U:j=i
   ·subst U;rw [hi] at B;cases B;rw [Dh BN] at J
    cases J
    exact ⟨u,r, .inr ⟨.inl L,c,F,BO⟩⟩
   ·rw [DU (Ne.symm U)] at J;obtain ⟨u',r',q⟩:=hl j y v' B J e3;refine ⟨u',r', ?_⟩
    rcases q with q | ⟨k,c',e,z'⟩
    ·exact .inl q
    ·refine .inr ⟨k,c',e,z'.sameBut hs ?_⟩;rintro rfl;exact U (gE hN B (I.ok.inj _ _ _ e F ▸ hi))
  ·by_cases BR:c'=c
   ·subst BR;exact ⟨_,BO⟩
   ·obtain ⟨w2,z2⟩:=I.cell y c' e;exact ⟨w2,z2.sameBut hs BR⟩
  ·obtain ⟨e,n,ne,nf,d⟩:=I.pin p hp;refine ⟨(hs.2 p.1 ?_).trans e,n,ne,nf,d⟩;intro q;rw [q,BP] at e;have q':oc=p.2:=DE.inj e;exact d w' (by rw [<- q'];exact BQ)
theorem df {M:Iw} {A:D1} {E:e6->h7->Prop} {i:Nat} {x:Str} {v:V} {u:e6} {Q:Unit->h7->Prop} (I:Inv X pins σ H s) (j:X.N.Nodup) (hi:X.N[i]? = some x) (hx:Loc X.env.scope x) (r:RelV v u)
 (h:∀ s',Inv X pins (σ.set i (some v)) H s'->Q () s') (hf:X.fn x=true∨X.env.scope.names.lookup x=some .local:=by first | exact .inl rfl | exact .inr rfl | assumption):CB M A (storeName X.env x u) Q E s :=
 jl I j hi hx r (fun s' I' _=>h s' I') hf
theorem Inv.call' {s':h7} {ch:List Addr} (I:Inv X pins σ H s) (ho:s'.os=s.os) (u:Un (frs X.stack) ch H H' s.heap s'.heap) (hok:HOk X.prog X.w H' s'.heap) (q:Gc s'.gens)
 (j:∀ b∈ch,(b∈X.ex∨X.s₀.heap.objs.size<=b)/\b≠X.env.locals/\(∀ x c,X.env.cells.lookup x=some c->c≠b) /\ ∀ p∈X.pn++pins,p.1≠b):Inv X pins σ H' s':=by
 obtain ⟨h',g',d',t',o'⟩:=s';have e:o'=s.os:=ho;subst e;exact I.call (g':=g') (t':=t') (d':=d') u hok q j
end
noncomputable abbrev XK:=e6->Option Addr->Hp->Prop
noncomputable abbrev St:=List (Option V)
noncomputable abbrev VK:=V->Hp->Prop
noncomputable abbrev TE:=St->Hp->VK->Prop
noncomputable abbrev TT:=St->Hp->(Bool->Hp->Prop)->Prop
noncomputable abbrev TA:=St->Hp->(List V->Hp->Prop)->Prop
structure br where
 nx:St->Hp->Prop
 rt:VK
 bk:St->Hp->Prop:=fun _ _=>False
 ct:St->Hp->Prop:=fun _ _=>False
noncomputable abbrev TS:=br->St->Hp->Prop
def EP (X:Cx) (pins:List (Addr×Obj)) (σ:St) (Q:VK) (u:e6) (s':h7):Prop := ∃ v H',Inv X pins σ H' s'/\RelV v u/\Q v H'
def TP (X:Cx) (pins:List (Addr×Obj)) (σ:St) (Q:Bool->Hp->Prop) (b:Bool) (s':h7):Prop := ∃ H',Inv X pins σ H' s'/\Q b H'
def AP (X:Cx) (pins:List (Addr×Obj)) (σ:St) (Q:List V->Hp->Prop) (us:List e6) (s':h7):Prop := ∃ vs H',Inv X pins σ H' s'/\Vals vs us/\Q vs H'
def SP (X:Cx) (pins:List (Addr×Obj)) (D:br) (f:Flow) (s':h7):Prop :=
 match f with
 | .next => ∃ σ' H',Inv X pins σ' H' s'/\D.nx σ' H'
 | .brk => ∃ σ' H',Inv X pins σ' H' s'/\D.bk σ' H'
 | .cont => ∃ σ' H',Inv X pins σ' H' s'/\D.ct σ' H'
 | .ret u => ∃ v σ' H',Inv X pins σ' H' s'/\RelV v u/\D.rt v H'
def PE (X:Cx) (e:Expr) (t:TE):Prop :=
 ∀ (pins:List (Addr×Obj)) (s:h7) (σ:St) (H:Hp) (Q:VK),Inv X pins σ H s->t σ H Q->CB (model X.prog X.w) X.A (eval e X.env) (EP X pins σ Q) X.xe s
def PT (X:Cx) (e:Expr) (t:TT):Prop :=
 ∀ (pins:List (Addr×Obj)) (s:h7) (σ:St) (H:Hp) (Q:Bool->Hp->Prop),Inv X pins σ H s->t σ H Q->CB (model X.prog X.w) X.A (isTrue e X.env (eval e X.env)) (TP X pins σ Q) X.xe s
def PW (X:Cx) (e:Expr) (t:TT):Prop :=
 ∀ (whole:Sem e6) (pins:List (Addr×Obj)) (s:h7) (σ:St) (H:Hp) (Q:Bool->Hp->Prop),Inv X pins σ H s->t σ H Q->CB (model X.prog X.w) X.A (isTrue e X.env whole) (TP X pins σ Q) X.xe s
theorem PW.pt {X:Cx} {e:Expr} {t:TT} (h:PW X e t):PT X e t:=h _
def PA (X:Cx) (es:List Expr) (t:TA):Prop :=
 ∀ (pos:Pos) (pins:List (Addr×Obj)) (s:h7) (σ:St) (H:Hp) (Q:List V->Hp->Prop),Inv X pins σ H s->t σ H Q->CB (model X.prog X.w) X.A (spliced (Es pos (CF es X.env))) (AP X pins σ Q) X.xe s
def PS (X:Cx) (st:Stmt) (t:TS):Prop :=
 ∀ (pins:List (Addr×Obj)) (s:h7) (σ:St) (H:Hp) (D:br),Inv X pins σ H s->t D σ H->CB (model X.prog X.w) X.A (exec st X.env) (SP X pins D) X.xe s
def PSs (X:Cx) (st:List Stmt) (t:TS):Prop :=
 ∀ (pins:List (Addr×Obj)) (s:h7) (σ:St) (H:Hp) (D:br),Inv X pins σ H s->t D σ H->CB (model X.prog X.w) X.A (execs st X.env) (SP X pins D) X.xe s
theorem thn {α:Type} {t:Sem α} {Q Q' : α -> h7->Prop} {M:Iw} {A:D1} {E:e6->h7->Prop} {s:h7} (h:CB M A t Q E s) (j:∀ a s,Q a s->Q' a s):CB M A t Q' E s:=E8 h j fun _ _ x=>x
end
section
section
variable {X:Cx}
noncomputable def yL (i:Nat):TE:=fun σ H Q => ∃ v, σ[i]? = some (some v)/\Q v H
noncomputable def tC (v:V):TE:=fun _ H Q=>Q v H
theorem kf {i:Nat} {x:Str} {pos:Pos} (F:X.N[i]? = some x) (G:Vis X.env.scope x) (hd:(x==("__debug__":Str))=false:=by decide) (z:(x==("__classdict__":Str))=false:=by decide):PE X (.Name x pos) (yL i):=by
 intro pins s σ H Q I h;obtain ⟨v,e,h⟩:=h;obtain ⟨m,J,L⟩:=I.loc;obtain ⟨u,r,l⟩:=L i x v F e G;have fin:EP X pins σ Q u s:=⟨v,H,I,r,h⟩
 rcases l with ⟨q,hm⟩ | ⟨q,c,B,j⟩
 ·exact Kb (wpAny_loadName_local I.ok.kind q J hm fin) hd
 ·rcases q with q | q
  ·exact Kb (wpAny_loadName_cell I.ok.kind q B j fin) hd
  ·exact Kb (wpAny_loadName_free I.ok.kind q B j fin z) hd
theorem yM {i j pos}:PE X (.Constant (.int i) j pos) (tC (.int i)):=fun _ _ _ H _ I h=>wpAny_Constant_int ⟨.int i,H,I.tok _,⟨_,rfl⟩,h⟩
theorem vM {b j pos}:PE X (.Constant (.bool b) j pos) (tC (.bl b)):=fun _ _ _ H _ I h=>Constant_bool ⟨.bl b,H,I,rfl,h⟩
theorem yN {j pos}:PE X (.Constant .none j pos) (tC .non):=fun _ _ _ H _ I h=>Constant_none ⟨.non,H,I,rfl,h⟩
theorem yO {x j pos}:PE X (.Constant (.str x) j pos) (tC (.str x)):=fun _ _ _ H _ I h=>Calls.Constant_str ⟨.str x,H,I.tok _,⟨_,rfl⟩,h⟩
def Gl (X:Cx) (x:Str):Prop:=X.env.kindOf x=some .globalImplicit
theorem cR {E:e6->h7->Prop} {pins:List (Addr×Obj)} {s:h7} {σ:St} {H:Hp} {x:Str} {u:e6} {pos:Pos} {Q:e6->h7->Prop} (I:Inv X pins σ H s) (j:Gl X x) (hm:X.mg x=some u) (h:Q u s)
 (hd:(x==("__debug__":Str))=false:=by decide):CB (model X.prog X.w) X.A (eval (.Name x pos) X.env) Q E s :=
 Gk I.ok.kind j (Calls.loadGlobal_global (by rw [I.ok.glob];exact I.mod.glob.keeps I.bk) hm h) hd
theorem dP {E:e6->h7->Prop} {pins:List (Addr×Obj)} {s:h7} {σ:St} {H:Hp} {x:Str} {u:e6} {pos:Pos} {Q:e6->h7->Prop} (I:Inv X pins σ H s) (j:Gl X x) (hm:X.mg x=none) (q:DR x=some u) (h:Q u s)
 (z:x ≠ "__name__" := by decide) (hd:(x==("__debug__":Str))=false:=by decide):CB (model X.prog X.w) X.A (eval (.Name x pos) X.env) Q E s:=by
 obtain ⟨mb,h1,h2⟩:=I.mod.blt;exact Gk I.ok.kind j (Calls.loadGlobal_builtin (by rw [I.ok.glob];exact I.mod.glob.keeps I.bk) hm (by rw [I.ok.blt];exact h1.keeps I.bk) ((h2 x z).trans q) h) hd
theorem fV {x:Str} {v:V} {u:e6} {pos:Pos} (j:Gl X x) (hm:X.mg x=none) (q:DR x=some u) (r:RelV v u) (z:x ≠ "__name__" := by decide) (hd:(x==("__debug__":Str))=false:=by decide):PE X (.Name x pos) (tC v) :=
 fun _ _ _ H _ I h=>dP I j hm q ⟨v,H,I,r,h⟩ z hd
variable {a b:Expr} {ta tb:TE} {pos:Pos}
variable {tA tB':TT} {rest:List Expr}
noncomputable def Bk (t u:TT):TT:=fun σ H Q=>t σ H fun c H1=>if c=true then u σ H1 Q else Q false H1
noncomputable def tOr (t u:TT):TT:=fun σ H Q=>t σ H fun c H1=>if c=true then Q true H1 else u σ H1 Q
noncomputable def Bl (t:TT):TT:=fun σ H Q=>t σ H fun c H1=>Q (!c) H1
theorem wF (j:PT X a tA):PW X (.BoolOp .And [a] pos) tA:=by
 intro wh pins s σ H Q I h;refine isTrue_and (thn (j pins s σ H Q I h) fun c s1 e => ?_)
 cases c with
 | true=>exact isTrue_and_nil e
 | false=>exact e
theorem yP (j:PT X a tA):PW X (.BoolOp .Or [a] pos) tA:=by
 intro wh pins s σ H Q I h;refine isTrue_or (thn (j pins s σ H Q I h) fun c s1 e => ?_)
 cases c with
 | false=>exact isTrue_or_nil e
 | true=>exact e
theorem yQ (z:PT X a tA) (B:PW X (.BoolOp .And (b::rest) pos) tB'):PW X (.BoolOp .And (a::b::rest) pos) (Bk tA tB'):=by
 intro wh pins s σ H Q I h;refine isTrue_and (thn (z pins s σ H _ I h) fun c s1 ⟨H1,j,q⟩ => ?_)
 cases c with
 | true=>exact B wh pins s1 σ H1 Q j q
 | false=>exact ⟨H1,j,q⟩
theorem Aw (z:PT X a tA) (B:PW X (.BoolOp .Or (b::rest) pos) tB'):PW X (.BoolOp .Or (a::b::rest) pos) (tOr tA tB'):=by
 intro wh pins s σ H Q I h;refine isTrue_or (thn (z pins s σ H _ I h) fun c s1 ⟨H1,j,q⟩ => ?_)
 cases c with
 | true=>exact ⟨H1,j,q⟩
 | false=>exact B wh pins s1 σ H1 Q j q
theorem yR (j:PT X a tA):PT X (.UnaryOp .Not a pos) (Bl tA):=by
 intro pins s σ H Q I h;exact isTrue_not (j pins s σ H (fun c H1=>Q (!c) H1) I h)
noncomputable def Ax (ta tb:TE):TE:=fun σ H Q=>ta σ H fun x H1 => ∃ c,x = .bl c/\if c=true then tb σ H1 Q else Q (.bl false) H1
noncomputable def Bm (ta tb:TE):TE:=fun σ H Q=>ta σ H fun x H1 => ∃ c,x = .bl c/\if c=true then Q (.bl true) H1 else tb σ H1 Q
noncomputable def Ay (ta:TE):TE:=fun σ H Q=>ta σ H fun x H1 => ∃ c,x = .bl c/\Q (.bl (!c)) H1
theorem qI {op} {t:TE} (h:PE X a t):PE X (.BoolOp op [a] pos) t:=fun pins s σ H Q I hw=>BoolOp_one (h pins s σ H Q I hw)
theorem kg (z:PE X a ta) (B:PE X (.BoolOp .And (b::rest) pos) tb):PE X (.BoolOp .And (a::b::rest) pos) (Ax ta tb):=by
 intro pins s σ H Q I h;refine BoolOp_and (thn (z pins s σ H _ I h) fun v s1 ⟨x,H1,q,F,j⟩ => ?_);obtain ⟨c,rfl,j⟩:=j
 cases F
 refine Dv ?_
 cases c with
 | true=>exact B pins s1 σ H1 Q q j
 | false=>exact ⟨.bl false,H1,q,rfl,j⟩
theorem Az (z:PE X a ta) (B:PE X (.BoolOp .Or (b::rest) pos) tb):PE X (.BoolOp .Or (a::b::rest) pos) (Bm ta tb):=by
 intro pins s σ H Q I h;refine BoolOp_or (thn (z pins s σ H _ I h) fun v s1 ⟨x,H1,q,F,j⟩ => ?_);obtain ⟨c,rfl,j⟩:=j
 cases F
 refine Dv ?_
 cases c with
 | false=>exact B pins s1 σ H1 Q q j
 | true=>exact ⟨.bl true,H1,q,rfl,j⟩
theorem qJ (q:PE X a ta):PE X (.UnaryOp .Not a pos) (Ay ta):=by
 intro pins s σ H Q I h;refine UnaryOp_ (thn (q pins s σ H _ I h) fun v s1 ⟨x,H1,z,B,j⟩ => ?_);obtain ⟨c,rfl,j⟩:=j
 cases B
 exact not_of (Dv ⟨.bl (!c),H1,z,rfl,j⟩)
noncomputable def tIf (t:TT) (ta tb:TE):TE:=fun σ H Q=>t σ H fun c H1=>if c=true then ta σ H1 Q else tb σ H1 Q
theorem tK {c:Expr} (z:PT X c tA) (B:PE X a ta) (F:PE X b tb):PE X (.IfExp c a b pos) (tIf tA ta tb):=by
 intro pins s σ H Q I h;refine wpAny_IfExp (thn (z pins s σ H _ I h) fun d s1 ⟨H1,j,q⟩ => ?_)
 cases d with
 | true=>exact B pins s1 σ H1 Q j q
 | false=>exact F pins s1 σ H1 Q j q
end
end
section
def SqL (K:Frag) (H:Hp) (a:Addr) (xs:List V):Prop :=
 Rd H a (.lst xs) ∨
  ∃ (o:Obj) (its:Array e6) (n:Nat),K.lookup a=some o/\o.cls = .type "list" /\ o.dict=none/\o.data = .seq its n/\its.size<=hP/\Vals xs its.toList
def SqT (K:Frag) (H:Hp) (a:Addr) (xs:List V):Prop :=
 Rd H a (.tup xs) ∨
  ∃ (o:Obj) (its:Array e6) (n:Nat),K.lookup a=some o/\o.cls = .type "tuple" /\ o.data = .seq its n/\its.size<=hP/\Vals xs its.toList
noncomputable def Bn:e6->Option V
 | .none=>some .non
 | .bool b=>some (.bl b)
 | .int i _=>some (.int i)
 | .str x _=>some (.str x)
 | .bytes b _=>some (.byt b)
 | .float b _=>some (.flt b)
 | .ref a=>some (.ref a)
 | .type n=>some (.ty n)
 | _=>none
theorem RelV.abs {x:V} {u:e6} (r:RelV x u):Bn u=some x:=by
 cases x with
 | non=>cases r;rfl
 | bl _=>cases r;rfl
 | int _=>obtain ⟨t,rfl⟩:=r;rfl
 | str _=>obtain ⟨t,rfl⟩:=r;rfl
 | byt _=>obtain ⟨t,rfl⟩:=r;rfl
 | flt _=>obtain ⟨t,rfl⟩:=r;rfl
 | ref _=>cases r;rfl
 | ty _=>cases r;rfl
theorem RelV.inj {x y:V} {u:e6} (r:RelV x u) (q:RelV y u):x=y:=DE.inj (r.abs.symm.trans q.abs)
theorem Vals.inj:∀ {xs ys:List V} {us:List e6},Vals xs us->Vals ys us->xs=ys
 | _,_,_, .nil, .nil=>rfl
 | _,_,_, .cons r t, .cons r' t'=>by rw [r.inj r',Vals.inj t t']
section
variable {X:Cx} {pins:List (Addr×Obj)} {σ:St} {H:Hp} {s:h7} {a:Addr} {xs ys:List V}
theorem SqL.of {K:Frag} (h:H a=some (.lst xs)):SqL K H a xs := .inl (.inl h)
theorem SqT.of {K:Frag} (h:H a=some (.tup xs)):SqT K H a xs := .inl (.inl h)
theorem Inv.list (I:Inv X pins σ H s) (h:SqL X.K H a xs):∃ its:List e6,Vals xs its/\PlainL s.heap a its.toArray/\xs.length<=hP:=by
 rcases h with h | ⟨o,its,n,j,q,hd,hs,B,r⟩
 ·obtain ⟨z,its,n,r,e⟩:=h.ok I.hok;exact ⟨its,r,⟨_,n,e,rfl,rfl,rfl⟩,z⟩
 ·refine ⟨its.toList,r,⟨o,n,I.kIn a o j,q,hd,by simpa using hs⟩, ?_⟩
  have e:=r.length;simp only [Ga] at e;omega
theorem Inv.tuple (I:Inv X pins σ H s) (h:SqT X.K H a xs):∃ its:List e6,Vals xs its/\IsTup s.heap a its.toArray/\xs.length<=hP:=by
 rcases h with h | ⟨o,its,n,j,q,hs,B,r⟩
 ·obtain ⟨z,its,r,p⟩:=h.ok I.hok;exact ⟨its,r,p,z⟩
 ·refine ⟨its.toList,r,⟨o,I.kIn a o j,q,n,by simpa using hs⟩, ?_⟩
  have e:=r.length;simp only [Ga] at e;omega
theorem Inv.list_inj (I:Inv X pins σ H s) (h:SqL X.K H a xs) (h':SqL X.K H a ys):xs=ys:=by
 obtain ⟨its,r,⟨o,n,e,_,_,d⟩,_⟩:=I.list h;obtain ⟨its',r',⟨o',n',e',_,_,d'⟩,_⟩:=I.list h';rw [e] at e';cases e';rw [d] at d'
 injection d' with d1 _
 have:its=its':=by simpa using congrArg Array.toList d1
 subst this;exact r.inj r'
theorem Inv.tuple_inj (I:Inv X pins σ H s) (h:SqT X.K H a xs) (h':SqT X.K H a ys):xs=ys:=by
 obtain ⟨its,r,⟨o,e,_,n,d⟩,_⟩:=I.tuple h;obtain ⟨its',r',⟨o',e',_,n',d'⟩,_⟩:=I.tuple h';rw [e] at e';cases e';rw [d] at d'
 injection d' with d1 _
 have:its=its':=by simpa using congrArg Array.toList d1
 subst this;exact r.inj r'
end
noncomputable abbrev Cx.wish (X:Cx) (E:e6->h7->Prop):Cx := { X with xe:=E }
noncomputable abbrev Cx.nox (X:Cx):Cx:=X.wish fun _ _=>False
theorem Cx.Ok.wish {X:Cx} (ok:X.Ok) (E:e6->h7->Prop):(X.wish E).Ok :=
 ⟨ok.mod,ok.kind,ok.glob,ok.blt,ok.above,ok.inj,ok.has,ok.cab,ok.hd,ok.frames,ok.stk,ok.exf,ok.bs,ok.bsz,ok.noex,ok.exfs,ok.funs,ok.frf⟩
theorem Cx.Ok.unwish {X:Cx} {E:e6->h7->Prop} (ok:(X.wish E).Ok):X.Ok :=
 ⟨ok.mod,ok.kind,ok.glob,ok.blt,ok.above,ok.inj,ok.has,ok.cab,ok.hd,ok.frames,ok.stk,ok.exf,ok.bs,ok.bsz,ok.noex,ok.exfs,ok.funs,ok.frf⟩
section
variable {X:Cx} {pins:List (Addr×Obj)} {σ:St} {H:Hp} {s:h7} {E:e6->h7->Prop}
theorem Inv.wish (I:Inv X pins σ H s) (E:e6->h7->Prop):Inv (X.wish E) pins σ H s:=⟨I.ok.wish E,I.os,I.bare,I.base,I.loc,I.cell,I.free,I.freeC,I.pin,I.hok,I.len⟩
theorem Inv.unwish (I:Inv (X.wish E) pins σ H s):Inv X pins σ H s:=⟨I.ok.unwish,I.os,I.bare,I.base,I.loc,I.cell,I.free,I.freeC,I.pin,I.hok,I.len⟩
theorem SP.unwish {D:br} {f:Flow} {s':h7} (h:SP (X.wish E) pins D f s'):SP X pins D f s':=by
 cases f with
 | next=>obtain ⟨σ',H',I,q⟩:=h;exact ⟨σ',H',I.unwish,q⟩
 | brk=>obtain ⟨σ',H',I,q⟩:=h;exact ⟨σ',H',I.unwish,q⟩
 | cont=>obtain ⟨σ',H',I,q⟩:=h;exact ⟨σ',H',I.unwish,q⟩
 | ret u=>obtain ⟨v, σ',H',I,r,q⟩:=h;exact ⟨v, σ',H',I.unwish,r,q⟩
theorem PT.nox {e:Expr} {t:TT} (h:PT X.nox e t):PT X e t:=fun pins s σ H Q I hw =>
 E8 (h pins s σ H Q (I.wish _) hw) (fun _ _ ⟨H',I',q⟩=>⟨H',I'.unwish,q⟩) fun _ _ z=>False.elim z
theorem PSs.nox {st:List Stmt} {t:TS} (h:PSs X.nox st t):PSs X st t:=fun pins s σ H D I hw =>
 E8 (h pins s σ H D (I.wish _) hw) (fun _ _ q=>q.unwish) fun _ _ z=>False.elim z
end
section
variable {X:Cx} {st:Stmt} {rest:List Stmt} {t u:TS} {e:Expr} {te:TE} {pos:Pos}
noncomputable def oU:TS:=fun D σ H=>D.nx σ H
noncomputable def yS (t u:TS):TS:=fun D σ H=>t { D with nx:=u D } σ H
theorem wG:PSs X [] oU:=fun _ _ σ H _ I h=>FZ ⟨σ,H,I,h⟩
theorem dg (h1:PS X st t) (h2:PSs X rest u):PSs X (st::rest) (yS t u):=by
 intro pins s σ H D I h;refine GU (thn (h1 pins s σ H { D with nx:=u D } I h) fun f s1 q => ?_)
 cases f with
 | next =>
   obtain ⟨σ',H',I',q⟩:=q;exact h2 pins s1 σ' H' D I' q
 | ret v=>exact q
 | brk=>exact q
 | cont=>exact q
theorem iV (h1:PS X st t):PSs X [st] t:=by
 intro pins s σ H D I h;refine GU (thn (h1 pins s σ H D I h) fun f s1 q => ?_)
 cases f with
 | next=>exact FZ q
 | ret v=>exact q
 | brk=>exact q
 | cont=>exact q
noncomputable def qK:TS:=fun D σ H=>D.bk σ H
noncomputable def vN:TS:=fun D σ H=>D.ct σ H
theorem wH:PS X (.Pass pos) oU:=fun _ _ σ H _ I h=>wpAny_Pass ⟨σ,H,I,h⟩
theorem tL:PS X (.Break pos) qK:=fun _ _ σ H _ I h=>wpAny_Break ⟨σ,H,I,h⟩
theorem nv:PS X (.Continue pos) vN:=fun _ _ σ H _ I h=>wpAny_Continue ⟨σ,H,I,h⟩
theorem Inv.quiet {pins:List (Addr×Obj)} {σ:St} {H:Hp} {s:h7} (I:Inv X pins σ H s):interactive X.env=false:=by simp [interactive,I.ok.kind]
noncomputable def vO (te:TE):TS:=fun D σ H=>te σ H fun _ H1=>D.nx σ H1
theorem wJ (he:PE X e te) (hs:Et e none pos.line X.env=pure false:=by rfl):PS X (.Expr e pos) (vO te):=by
 intro pins s σ H D I h;exact wpAny_Expr_any (thn (he pins s σ H _ I h) fun v s1 ⟨x,H1,j,z,q⟩=>⟨σ,H1,j,q⟩) I.quiet hs
noncomputable def yT (te:TE):TS:=fun D σ H=>te σ H D.rt
theorem qL (he:PE X e te):PS X (.Return (some e) pos) (yT te):=by
 intro pins s σ H D I h;exact wpAny_Return_some (thn (he pins s σ H _ I h) fun v s1 ⟨x,H1,j,q,z⟩=>⟨x, σ,H1,j,q,z⟩)
noncomputable def yU (c:TT) (t u:TS):TS:=fun D σ H=>c σ H fun b H1=>if b=true then t D σ H1 else u D σ H1
theorem vP {c:Expr} {a b:List Stmt} {tc:TT} (z:PT X c tc) (B:PSs X a t) (F:PSs X b u):PS X (.If c a b pos) (yU tc t u):=by
 intro pins s σ H D I h;refine wpAny_If (thn (z pins s σ H _ I h) fun d s1 ⟨H1,j,q⟩ => ?_)
 cases d with
 | true=>exact B pins s1 σ H1 D j q
 | false=>exact F pins s1 σ H1 D j q
end
noncomputable abbrev TG:=V->St->Hp->(St->Hp->Prop)->Prop
noncomputable abbrev TGs:=List V->St->Hp->(St->Hp->Prop)->Prop
def PG (X:Cx) (target:Expr) (t:TG):Prop :=
 ∀ (pins:List (Addr×Obj)) (s:h7) (σ:St) (H:Hp) (v:V) (u:e6) (Q:St->Hp->Prop),Inv X pins σ H s->RelV v u->t v σ H Q ->
  CB (model X.prog X.w) X.A (assign target X.env u) (fun _ s' => ∃ σ' H',Inv X pins σ' H' s'/\Q σ' H') X.xe s
def PGs (X:Cx) (ts:List Expr) (t:TGs):Prop :=
 ∀ (pins:List (Addr×Obj)) (s:h7) (σ:St) (H:Hp) (vs:List V) (us:List e6) (Q:St->Hp->Prop),Inv X pins σ H s->Vals vs us->t vs σ H Q ->
  CB (model X.prog X.w) X.A (Iy ((DN ts X.env).map (·.2)) us) (fun _ s' => ∃ σ' H',Inv X pins σ' H' s'/\Q σ' H') X.xe s
noncomputable abbrev oV:=V->V->V->Hp->(Hp->Prop)->Prop
def PSet (X:Cx) (t:oV):Prop :=
 ∀ (pins:List (Addr×Obj)) (s:h7) (σ:St) (H:Hp) (o i v:V) (ov iv u:e6) (Q:Hp->Prop),Inv X pins σ H s->RelV o ov->RelV i iv->RelV v u->t o i v H Q ->
  CB (model X.prog X.w) X.A (J1 ov iv u) (fun _ s' => ∃ H',Inv X pins σ H' s'/\Q H') X.xe s
section
variable {X:Cx} {pos:Pos}
noncomputable def fW (i:Nat):TG:=fun v σ H Q=>Q (σ.set i (some v)) H
theorem nH {i:Nat} {x:Str} (j:X.N.Nodup) (hi:X.N[i]? = some x) (hx:Loc X.env.scope x) (hf:X.fn x=true∨X.env.scope.names.lookup x=some .local:=by first | exact .inl rfl | exact .inr rfl | assumption):PG X (.Name x pos) (fW i):=by
 intro pins s σ H v u Q I r h;exact wpAny_assign_Name (df I j hi hx r (fun s' I'=>⟨_,H,I',h⟩) hf)
noncomputable def Bo:TGs:=fun vs σ H Q=>vs=[]/\Q σ H
noncomputable def AA (t:TG) (u:TGs):TGs:=fun vs σ H Q => ∃ v r,vs=v::r/\t v σ H fun σ' H'=>u r σ' H' Q
theorem nI:PGs X [] Bo:=by
 intro pins s σ H vs us Q I r h;obtain ⟨e,h⟩:=h;subst e
 cases r
 exact J2 ⟨σ,H,I,h⟩
theorem gF {e:Expr} {es:List Expr} {t:TG} {u:TGs} (h1:PG X e t) (h2:PGs X es u)
 (hs:(DN (e::es) X.env).map (·.2)=assign e X.env::(DN es X.env).map (·.2):=by rfl):PGs X (e::es) (AA t u):=by
 intro pins s σ H vs us Q I r h;obtain ⟨v,vr,j,h⟩:=h;subst j
 cases r with
 | cons r rr =>
   rw [hs];refine Gm (thn (h1 pins s σ H _ _ _ I r h) fun _ s1 ⟨σ1,H1,q,z⟩ => ?_);exact h2 pins s1 σ1 H1 _ _ Q q rr z
noncomputable def Bp (K:Frag) (n:Nat) (t:TGs):TG:=fun v σ H Q => ∃ a xs,v = .ref a/\SqT K H a xs/\xs.length=n/\t xs σ H Q
theorem qM {es:List Expr} {k:Nat} {t:TGs} {n:Nat} (q:X.calm=true) (h:PGs X es t)
 (z:(DN es X.env).length=n:=by rfl) (j:(DN es X.env).findIdx? (·.1)=none:=by rfl):PG X (.Tuple es k pos) (Bp X.K n t):=by
 intro pins s σ H v u Q I r hw;obtain ⟨a,xs,B,F,G,hw⟩:=hw;subst B
 cases r
 obtain ⟨its,rv,ht,L⟩:=I.tuple F;refine assign_Tuple_tuple (I.ok.hd q) ht (by simp [z, <- G,rv.length]) j fun h' hx => ?_
 have J:Inv X pins σ H { s with heap:=h' }:=I.kept (t':=s.toks) fun b o e=>hx b o (CV (tv e)) e
 exact h pins _ σ H xs _ Q J (by simpa using rv) hw
noncomputable def Bq (to ti:TE) (t:oV):TG:=fun v σ H Q=>to σ H fun o H1=>ti σ H1 fun i H2=>t o i v H2 fun H3=>Q σ H3
theorem kh {o i:Expr} {to ti:TE} {t:oV} (ho:PE X o to) (hi:PE X i ti) (hs:PSet X t)
 (j:∀ v,assign (.Subscript o i pos) X.env v=(do
   let ov <- holding [v] (eval o X.env)
   let iv <- holding [v,ov] (eval i X.env)
   FT pos
   holding [v,ov,iv] (J1 ov iv v)
   release [v,ov,iv] []):=by intro _;rfl):PG X (.Subscript o i pos) (Bq to ti t):=by
 intro pins s σ H v u Q I r h;rw [j];refine b0 (De (thn (ho pins s σ H _ I h) fun ov s1 ⟨x,H1,q,z,B⟩ => ?_));refine b0 (De (thn (hi pins s1 σ H1 _ q B) fun iv s2 ⟨y,H2,F,G,J⟩ => ?_));refine b0 (EN (b0 (De (thn (hs pins s2 σ H2 x y v ov iv u _ F z G r J) fun _ s3 ⟨L,O,U⟩ => ?_))));exact wpAny_release ⟨σ,L,O,U⟩
noncomputable def ki (te:TE) (g:TG):TS:=fun D σ H=>te σ H fun x H1=>g x σ H1 D.nx
theorem kj {tg e:Expr} {te:TE} {g:TG} (he:PE X e te) (j:PG X tg g) (hs:EO [tg] e pos.line X.env=pure false:=by rfl) (hw:DB [tg] e X.env=pure none:=by rfl)
 (h1:(DN [tg] X.env).map (·.2)=[assign tg X.env]:=by rfl):PS X (.Assign [tg] e pos) (ki te g):=by
 intro pins s σ H D I h;refine wpAny_Assign_stores (thn (he pins s σ H _ I h) fun v s1 ⟨x,H1,z,B,F⟩ => ?_) hs hw;rw [h1];exact thn (j pins s1 σ H1 x v _ z B F) fun _ s2 q=>q
theorem qN {i:Nat} {x:Str} {e:Expr} {te:TE} {pos':Pos} (j:X.N.Nodup) (hi:X.N[i]? = some x) (hx:Loc X.env.scope x) (he:PE X e te) (hs:Et e (some (.Name x pos')) pos.line X.env=pure false:=by rfl) (hf:X.fn x=true∨X.env.scope.names.lookup x=some .local:=by first | exact .inl rfl | exact .inr rfl | assumption) :
 PS X (.Assign [.Name x pos'] e pos) (ki te (fW i)):=by
 intro pins s σ H D I h;refine wpAny_Assign_Name (thn (he pins s σ H _ I h) fun v s1 ⟨y,H1,q,z,B⟩ => ?_) hs;exact df q j hi hx z (fun s2 F=>⟨_,H1,F,B⟩) hf
noncomputable def yV (i j:Nat) (ta:TA):TS:=fun D σ H=>ta σ H fun vs H1 => ∃ v w,vs=[v,w]/\D.nx ((σ.set i (some v)).set j (some w)) H1
theorem yW {i j:Nat} {x y:Str} {a b:Expr} {ta:TA} {px py pt:Pos} {kt k2 z} (Z:X.calm=true) (O:X.N.Nodup) (hi:X.N[i]? = some x) (hj:X.N[j]? = some y) (G:i≠j)
 (hx:X.env.scope.names.lookup x=some .local) (U:X.env.scope.names.lookup y=some .local) (ha:PA X [a,b] ta)
 (hw:DB [.Tuple [.Name x px, .Name y py] kt pt] (.Tuple [a,b] k2 z) X.env=pure (some [x,y]))
 (hs:EO [.Tuple [.Name x px, .Name y py] kt pt] (.Tuple [a,b] k2 z) pos.line X.env=pure false:=by rfl) :
 PS X (.Assign [.Tuple [.Name x px, .Name y py] kt pt] (.Tuple [a,b] k2 z) pos) (yV i j ta):=by
 intro pins s σ H D I h;rw [exec_Assign_arm];refine b0 (EN ?_);rw [hs];refine b0 (hh ?_);rw [if_neg (by decide)]
 refine b0 (Tuple_ (thn (ha _ pins s σ H _ I h) fun us s1 ⟨vs,H1,I1,r1,J⟩ => ?_));obtain ⟨v,w,e1,J⟩:=J;subst e1;obtain ⟨B,F,rfl,rv,rw'⟩:∃ B F,us=[B,F]/\RelV v B/\RelV w F:=by
  cases r1 with
  | cons p q =>
    cases q with
    | cons p' q' =>
      cases q'
      exact ⟨_,_,rfl,p,p'⟩
 refine Dp ?_ (by show 2<=hP;decide)
 have I2:Inv X pins σ H1 { s1 with heap:=s1.heap.push { cls := .type "tuple",data := .seq [B,F].toArray } }:=I1.kept (t':=s1.toks) fun b o e=>h8 _ e
 rw [hw];refine b0 (hh ?_);show CB (model X.prog X.w) X.A (do rule "assign.swapped-stores";let items <- unpackItems (.ref s1.heap.objs.size) 2 none;Iy [fun v=>J3 X.env y v,fun v=>J3 X.env x v] items.reverse;pure Flow.next) _ _ _
 refine b0 (EB (b0 (unpackItems_tuple (items := #[B,F]) (I.ok.hd Z) (Gj s1.heap _) fun h' L => ?_)));have I3:=I2.kept (h':=h') (t':=s1.toks) fun b o e=>L b o (CV (tv e)) e;show CB _ _ (Iy [fun v=>J3 X.env y v,fun v=>J3 X.env x v] [F,B] >>= fun _=>pure Flow.next) _ _ _;refine b0 (Gm (HM (df I3 O hj (.inl U) rw' (fun s2 I4 => ?_) (.inr U))));refine Gm (HM (df I4 O hi (.inl hx) rv (fun s3 Y=>J2 (hh ?_)) (.inr hx)));rw [List.set_comm _ _ (Ne.symm G)] at Y;exact ⟨_,H1,Y,J⟩
end
section
variable {X:Cx} {pos:Pos}
noncomputable def qO (c:TT) (tb:TS):TS:=fun D σ H => ∃ W:Nat->St->Hp->Prop,(∃ m,W m σ H) /\ ∀ m σ H,W m σ H ->
 c σ H fun b H1=>if b=true then ∃ N:St->Hp->Prop,(∀ σ' H',N σ' H' -> ∃ m',m' < m/\W m' σ' H')/\tb { D with nx:=N,ct:=N,bk:=D.nx } σ H1 else D.nx σ H1
theorem tM {c:Expr} {body:List Stmt} {tc:TT} {tb:TS} (J:PassesOwn (model X.prog X.w) X.A X.env X.xe) (U:PT X c tc) (Y:PSs X body tb):PS X (.While c body [] pos) (qO tc tb):=by
 intro pins s σ H D I h;obtain ⟨W,⟨m0,Z⟩,turn⟩:=h;refine wpAny_While (codeAny_whileLoop (fun n s' => ∃ σ' H',Inv X pins σ' H' s'/\W n σ' H') ?_ m0 ⟨σ,H,I,Z⟩);rintro n s1 ⟨σ1,H1,I1,w1⟩;refine Eg J (thn (U pins s1 σ1 H1 _ I1 (turn n σ1 H1 w1)) fun b s2 ⟨H2,L,q⟩ => ?_)
 cases b with
 | true =>
   obtain ⟨N,O,q⟩:=q;rw [if_pos rfl];refine Eg J (thn (Y pins s2 σ1 H2 _ L q) fun f s3 z => ?_)
   cases f with
   | next =>
     obtain ⟨σ3,j,B,F⟩:=z;obtain ⟨m',hm,G⟩:=O σ3 j F;exact ⟨m',hm, σ3,j,B,G⟩
   | cont =>
     obtain ⟨σ3,j,B,F⟩:=z;obtain ⟨m',hm,G⟩:=O σ3 j F;exact ⟨m',hm, σ3,j,B,G⟩
   | brk=>exact z
   | ret v=>exact z
 | false =>
   rw [if_neg hG];exact FZ ⟨σ1,H2,L,q⟩
end
structure It where
 go:Nat->Hp->Prop
 yld:Nat->Hp->V->Hp->Prop
 stop:Nat->Hp->Prop
def bS (X:Cx) (pins:List (Addr×Obj)) (H:Hp) (b:Addr):Prop :=
 H b=none/\b≠X.env.locals/\b∉X.fs/\(b∈X.ex∨X.s₀.heap.objs.size<=b)/\(∀ x c,X.env.cells.lookup x=some c->c≠b) /\ ∀ p∈X.pn++pins,p.1≠b
theorem Inv.fpOk {X:Cx} {pins:List (Addr×Obj)} {σ:St} {H H':Hp} {s:h7} {b:Addr} (I:Inv X pins σ H s) (j:s.heap.objs.size<=b) (B:H' b=none):bS X pins H' b:=by
 refine ⟨B,E3 (CL I.lt j),I.nofs j, .inr (Dt I.sz j),fun x c e z => ?_,fun p F z => ?_⟩
 ·obtain ⟨v,q⟩:=I.cell x c e;exact absurd (CL q.lt (by rw [z];exact j)) (DQ _)
 ·exact absurd (CL (tv (I.pin p F).1) (by rw [z];exact j)) (DQ _)
structure fe (P:CG) (w:CT) (K:Frag) (tg:Expr) (J:It) (fp:List Addr) (it:Addr) (tn:Nat->Heap->Prop):Prop where
 mem:it∈fp
 obj:∀ i h,tn i h -> ∀ b∈fp, ∃ o,h.get? b=some o /\ ∀ v,o.data ≠ .cell v
 keep:∀ i h h',tn i h->(∀ b∈fp, ∀ o,h.get? b=some o->h'.get? b=some o)->tn i h'
 item:∀ (X:Cx),X.prog=P->X.w=w->X.K=K->X.calm=true -> ∀ (i:Nat) (pins:List (Addr×Obj)) (s:h7) (σ:St) (H:Hp) (E:e6->h7->Prop),Inv X pins σ H s->(∀ b∈fp,bS X pins H b)->tn i s.heap->J.go i H ->
  CB (model P w) X.A (FA (.ref it)) (fun r s1 => ∃ u,r=some u /\
   CB (model P w) X.A (G0 tg (.ref it) u) (fun _ s2 => ∃ x H',Inv X pins σ H' s2/\RelV x u/\J.yld i H x H'/\tn (i+1) s2.heap /\ ∀ b∈fp,H' b=none) E s1) E s
 done:∀ (X:Cx),X.prog=P->X.w=w->X.K=K->X.calm=true -> ∀ (i:Nat) (pins:List (Addr×Obj)) (s:h7) (σ:St) (H:Hp) (E:e6->h7->Prop),Inv X pins σ H s->(∀ b∈fp,bS X pins H b)->tn i s.heap->J.stop i H ->
  CB (model P w) X.A (FA (.ref it)) (fun r s1=>r=none/\Inv X pins σ H s1) E s
 self:∀ (A:D1) (i:Nat) (s:h7) (Q:e6->h7->Prop) (E:e6->h7->Prop),tn i s.heap->Q (.ref it) s->CB (model P w) A (IK (.ref it)) Q E s
noncomputable abbrev TI:=St->Hp->(It->Hp->Prop)->Prop
def PIE (X:Cx) (pins:List (Addr×Obj)) (σ:St) (tg:Expr) (R:It->Hp->Prop) (itv:e6) (s2:h7):Prop :=
 ∃ (it:Addr) (fp:List Addr) (tn:Nat->Heap->Prop) (J:It) (H':Hp),itv = .ref it/\Inv X pins σ H' s2/\fe X.prog X.w X.K tg J fp it tn/\tn 0 s2.heap/\(∀ b∈fp,bS X pins H' b)/\R J H'
def PI (X:Cx) (tg iter:Expr) (wi:TI):Prop :=
 ∀ (pins:List (Addr×Obj)) (s:h7) (σ:St) (H:Hp) (R:It->Hp->Prop),Inv X pins σ H s->wi σ H R ->
  CB (model X.prog X.w) X.A (eval iter X.env) (fun v s1=>CB (model X.prog X.w) X.A (IK v) (PIE X pins σ tg R) X.xe s1) X.xe s
theorem jR {M:Iw} {A:D1} {E:e6->h7->Prop} {s:h7} {tg:Expr} {it:Addr} {u:e6} {o:Obj} {n:String} {vs:Array e6} {Q:Unit->h7->Prop} (ho:s.heap.get? it=some o) (q:o.cls = .type n) (hd:o.data = .fields vs)
 (z : ["enumerate", "zip", "dict_itemiterator", "dict_reverseitemiterator", "odict_iterator", "itertools.zip_longest", "itertools.pairwise"].contains n=false) (j:Q () s):CB M A (G0 tg (.ref it) u) Q E s:=by
 unfold G0
 cases tg <;> first
  | exact hh j
  | (cases u <;> first
      | exact hh j
      | (refine b0 (wpAny_load ho ?_)
         rw [q,hd];show CB M A (if (["enumerate", "zip", "dict_itemiterator", "dict_reverseitemiterator", "odict_iterator", "itertools.zip_longest", "itertools.pairwise"].contains n&&vs[0]? == some (EC _))=true then _ else _) Q E s
         rw [if_neg (by intro h;rw [z,Gn] at h;cases h)]
         exact hh j))
noncomputable def Itl (K:Frag) (a:Addr):It :=
 ⟨fun i H => ∃ xs x,SqL K H a xs/\xs[i]? = some x,fun i H x H'=>H'=H /\ ∀ xs,SqL K H a xs->xs[i]? = some x,fun i H => ∃ xs,SqL K H a xs/\xs.length<=i⟩
noncomputable def Itt (K:Frag) (a:Addr):It :=
 ⟨fun i H => ∃ xs x,SqT K H a xs/\xs[i]? = some x,fun i H x H'=>H'=H /\ ∀ xs,SqT K H a xs->xs[i]? = some x,fun i H => ∃ xs,SqT K H a xs/\xs.length<=i⟩
noncomputable def Itr (lo:Int) (n:Nat):It:=⟨fun i _=>i < n,fun i H x H'=>H'=H/\x = .int (lo+i),fun i _=>n<=i⟩
theorem qP {P:CG} {w:CT} {K:Frag} {tg:Expr} (a it:Addr):fe P w K tg (Itl K a) [it] it (fun i h=>h.IsListIter it a i) where
 mem:=by simp
 obj:=fun i h st b j=>by
  have e:b=it:=by simpa using j
  subst e;obtain ⟨o,e,c,d⟩:=st;exact ⟨o,e,fun v z=>by rw [d] at z;cases z⟩
 keep:=fun i h h' st k=>st.at fun o e=>k it (by simp) o e
 item:=by
  intro X B hw F L i pins s σ H E I hf st hg;subst B hw F;obtain ⟨xs,x,q,hx⟩:=hg;obtain ⟨its,rv,p,O⟩:=I.list q;obtain ⟨u,U,ru⟩:=rv.get hx;obtain ⟨f0,f1,f2,G,f4,J⟩:=hf it (by simp)
  refine Hj st p.isList (x:=u) (by simpa using U) fun h' st' sb => ?_
  have Y:Inv X pins σ H { s with heap:=h' }:=I.turned (t':=s.toks) (fun b o j e=>(sb.2 b j).trans e) f0 f1 G f4 J
  obtain ⟨o,e,c,d⟩:=id st';exact ⟨u,rfl,jR (s := { s with heap:=h' }) e c d (by decide) ⟨x,H,Y,ru,⟨rfl,fun ys Z=>by rw [I.list_inj Z q];exact hx⟩,st',fun b j=>(hf b j).1⟩⟩
 done:=by
  intro X B hw F L i pins s σ H E I hf st hg;subst B hw F;obtain ⟨xs,q,hx⟩:=hg;obtain ⟨its,rv,p,O⟩:=I.list q;obtain ⟨f0,f1,f2,G,f4,J⟩:=hf it (by simp)
  have hl:=rv.length;exact HG (I.ok.hd L) st p.isList (by simp;omega) fun h' eb=>⟨rfl,I.turned (t':=s.toks) (fun b o j e=>eb b o j e) f0 f1 G f4 J⟩
 self:=fun _ _ _ _ _ st h=>wpAny_pyIter_listiter st h
theorem oW {P:CG} {w:CT} {K:Frag} {tg:Expr} (a it:Addr):fe P w K tg (Itt K a) [it] it (fun i h=>h.IsTupleIter it a i) where
 mem:=by simp
 obj:=fun i h st b j=>by
  have e:b=it:=by simpa using j
  subst e;obtain ⟨o,e,c,d⟩:=st;exact ⟨o,e,fun v z=>by rw [d] at z;cases z⟩
 keep:=fun i h h' st k=>st.at fun o e=>k it (by simp) o e
 item:=by
  intro X B hw F L i pins s σ H E I hf st hg;subst B hw F;obtain ⟨xs,x,q,hx⟩:=hg;obtain ⟨its,rv,p,O⟩:=I.tuple q;obtain ⟨u,U,ru⟩:=rv.get hx;obtain ⟨f0,f1,f2,G,f4,J⟩:=hf it (by simp)
  refine wpAny_pyNext_tuple_item st (show s.heap.IsTuple a its.toArray from p) (x:=u) (by simpa using U) fun h' st' sb => ?_
  have Y:Inv X pins σ H { s with heap:=h' }:=I.turned (t':=s.toks) (fun b o j e=>(sb.2 b j).trans e) f0 f1 G f4 J
  obtain ⟨o,e,c,d⟩:=id st';exact ⟨u,rfl,jR (s := { s with heap:=h' }) e c d (by decide) ⟨x,H,Y,ru,⟨rfl,fun ys Z=>by rw [I.tuple_inj Z q];exact hx⟩,st',fun b j=>(hf b j).1⟩⟩
 done:=by
  intro X B hw F L i pins s σ H E I hf st hg;subst B hw F;obtain ⟨xs,q,hx⟩:=hg;obtain ⟨its,rv,p,O⟩:=I.tuple q;obtain ⟨f0,f1,f2,G,f4,J⟩:=hf it (by simp)
  have hl:=rv.length;exact wpAny_pyNext_tuple_end (I.ok.hd L) st (show s.heap.IsTuple a its.toArray from p) (by simp;omega) fun h' eb=>⟨rfl,I.turned (t':=s.toks) (fun b o j e=>eb b o j e) f0 f1 G f4 J⟩
 self:=fun _ _ _ _ _ st h=>wpAny_pyIter_tupleiter st h
theorem oX {P:CG} {w:CT} {K:Frag} {tg:Expr} (it:Addr) (lo:Int) (n:Nat):fe P w K tg (Itr lo n) [it] it (fun i h=>IsRangeIter h it (lo+(i:Nat)*1) ((n:Int) - (i:Nat)) 1) where
 mem:=by simp
 obj:=fun i h st b j=>by
  have e:b=it:=by simpa using j
  subst e;exact ⟨_,st,fun v z=>by
   have z':Data.fields _=Data.cell v:=z
   cases z'⟩
 keep:=fun i h h' st k=>k it (by simp) _ st
 item:=by
  intro X q hw B F i pins s σ H E I hf st hg;subst q hw B;obtain ⟨f0,f1,f2,G,f4,J⟩:=hf it (by simp)
  have W:=Walks.range (prog:=X.prog) (w:=X.w) (I.ok.hd F) it lo 1 n;refine W.item i s _ _ hg st fun v h' tk L st' kk => ?_;obtain ⟨t,rfl⟩:=L;have O:Inv X pins σ H { s with heap:=h',toks:=tk }:=I.turned (fun b o j e=>kk b o (by simpa using j) e) f0 f1 G f4 J
  refine ⟨_,rfl,jR (s := { s with heap:=h',toks:=tk }) (n := "range_iterator") st' rfl rfl (by decide) ⟨.int (lo+i),H,O,⟨t, ?_⟩,⟨rfl,rfl⟩,st',fun b j=>(hf b j).1⟩⟩
  rw [Int.mul_one]
 done:=by
  intro X q hw B F i pins s σ H E I hf st hg;subst q hw B;obtain ⟨f0,f1,f2,G,f4,J⟩:=hf it (by simp)
  exact wpAny_pyNext_range_end (I.ok.hd F) st (by have:n<=i:=hg;omega) fun h' eb=>⟨rfl,I.turned (t':=s.toks) (fun b o j e=>eb b o j e) f0 f1 G f4 J⟩
 self:=fun _ _ _ _ _ st h=>wpAny_pyIter_rangeiter st h
end
section
section
variable {X:Cx} {tg:Expr}
theorem tN {pins:List (Addr×Obj)} {σ:St} {H:Hp} {s:h7} {R:It->Hp->Prop} {E:e6->h7->Prop} {lo hi:Int} {t u v:Tok} {tk:Nat} (I:Inv X pins σ H s) (h1 : -(2 ^ 62)<=lo) (h2:lo < 2 ^ 62) (z : -(2 ^ 62)<=hi) (B:hi < 2 ^ 62)
 (q:R (Itr lo (hi - lo).toNat) H):CB (model X.prog X.w) X.A (IK (.ref s.heap.objs.size)) (PIE X pins σ tg R) E { s with heap:=s.heap.push { cls := .type "range",data := .fields #[.int lo t, .int hi u, .int 1 v] },toks:=tk }:=by
 refine wpAny_pyIter_range (IsRange.new ..) (small_one h1 h2 z B) ?_;have j:Inv X pins σ H { s with heap:=s.heap.push { cls := .type "range",data := .fields #[.int lo t, .int hi u, .int 1 v] },toks:=tk }:=I.kept fun b o e=>h8 _ e
 refine ⟨(s.heap.push { cls := .type "range",data := .fields #[.int lo t, .int hi u, .int 1 v] }).objs.size,[(s.heap.push { cls := .type "range",data := .fields #[.int lo t, .int hi u, .int 1 v] }).objs.size],_,_,H,rfl,
  j.kept (t':=tk) fun b o e=>h8 _ e,oX _ lo (hi - lo).toNat, ?_,fun b F => ?_,q⟩
 ·have G:lo+((0:Nat):Int)*1=lo:=by simp
  have J:(((hi - lo).toNat:Nat):Int) - ((0:Nat):Int)=Builtin.Range.rangeSize lo hi 1:=by rw [rangeSize_one];split <;> omega
  show IsRangeIter _ _ (lo+((0:Nat):Int)*1) ((((hi - lo).toNat:Nat):Int) - ((0:Nat):Int)) 1;rw [G,J];exact hQ _ rfl
 ·have e:b=(s.heap.push { cls := .type "range",data := .fields #[.int lo t, .int hi u, .int 1 v] }).objs.size:=by simpa using F
  subst e;exact j.fpOk (q0 _) (j.hok.fresh (q0 _))
noncomputable def AB (ta:TA):TI:=fun σ H R=>ta σ H fun vs H1 => ∃ j:Int,vs=[.int j] /\ -(2 ^ 62)<=j/\j < 2 ^ 62/\R (Itr 0 j.toNat) H1
theorem qQ {a:Expr} {ta:TA} {p pos:Pos} (B:Gl X "range") (hm:X.mg "range" = none) (F:PA X [a] ta) (hs:CF [a] X.env=[(false,eval a X.env)]:=by rfl):PI X tg (.Call (.Name "range" p) [a] [] pos) (AB ta):=by
 intro pins s σ H R I h;refine Call_ (dP I B hm boot_range (E4 (thn (F pos pins s σ H _ I h) fun us s1 ⟨vs,H1,G,J,z⟩ => ?_) hs rfl));obtain ⟨j,e,z,L,q⟩:=z;subst e
 cases J with
 | cons r rr =>
   cases rr
   obtain ⟨t,rfl⟩:=r;exact call_range_1 (tN G (by omega) (by omega) z L (by simpa using q))
noncomputable def yX (wi:TI) (g:TG) (tb:TS):TS:=fun D σ H=>wi σ H fun J H1 => ∃ W:Nat->Nat->St->Hp->Prop,(∃ m,W 0 m σ H1) /\ ∀ i m σ H,W i m σ H ->
 (J.stop i H/\D.nx σ H)∨(J.go i H /\ ∃ N:St->Hp->Prop,(∀ σ' H',N σ' H' -> ∃ m',m' < m/\W (i+1) m' σ' H') /\ ∀ x H',J.yld i H x H'->g x σ H' fun σ2 H2=>tb { D with nx:=N,ct:=N,bk:=D.nx } σ2 H2)
noncomputable def hZ (fp:List Addr) (h:Heap):List (Addr×Obj):=fp.filterMap fun b=>(h.get? b).map fun o=>(b,o)
theorem cL {fp:List Addr} {h:Heap} {b:Addr} {o:Obj} (j:b∈fp) (e:h.get? b=some o):(b,o)∈hZ fp h:=IM.mpr ⟨b,j,by rw [e];rfl⟩
theorem qR {fp:List Addr} {h:Heap} {p:Addr×Obj} (j:p∈hZ fp h):p.1∈fp/\h.get? p.1=some p.2:=by
 obtain ⟨b,z,e⟩:=IM.mp j
 cases q:h.get? b with
 | none=>rw [q] at e;cases e
 | some o =>
   rw [q] at e;have e':(b,o)=p:=DE.inj e;subst e';exact ⟨z,q⟩
theorem Inv.pinned {pins:List (Addr×Obj)} {σ:St} {H:Hp} {s:h7} {fp:List Addr} (I:Inv X pins σ H s) (hf:∀ b∈fp,bS X pins H b) (ho:∀ b∈fp, ∃ o,s.heap.get? b=some o /\ ∀ v,o.data ≠ .cell v):Inv X (pins++hZ fp s.heap) σ H s :=
 I.pins_of fun p q=>(Ds.mp q).elim (fun z=>I.pin p (CN _ z)) fun z=>by
  obtain ⟨j,e⟩:=qR z;obtain ⟨f0,f1,f2,_⟩:=hf p.1 j;obtain ⟨o,e',d⟩:=ho p.1 j;rw [e] at e';cases e';exact ⟨e,f0,f1,f2,d⟩
theorem Inv.unpinned {pins pl:List (Addr×Obj)} {σ:St} {H:Hp} {s:h7} (I:Inv X (pins++pl) σ H s):Inv X pins σ H s:=I.pins_of fun p j=>I.pin p (CN _ (HL _ j))
theorem yY {iter:Expr} {body:List Stmt} {wi:TI} {g:TG} {tb:TS} {pos:Pos} (G:PassesOwn (model X.prog X.w) X.A X.env X.xe) (hc:X.calm=true) (hi:PI X tg iter wi) (hg:PG X tg g) (j:PSs X body tb)
 (hs:∀ x,DW iter X.env x=pure x:=by intro _;rfl):PS X (.For tg iter body [] pos) (yX wi g tb):=by
 intro pins s σ H D I h;refine wpAny_For (thn (hi pins s σ H _ I h) fun v s1 h1=>thn h1 fun itv s2 h2 => ?_) hs;obtain ⟨it,fp,tn,J,H2,e,I2,T,Z,f2,W,⟨m0,w0⟩,turn⟩:=h2;subst e;have stat:∀ {H':Hp},(∀ b∈fp,H' b=none) -> ∀ b∈fp,bS X pins H' b:=fun hn b j=>⟨hn b j,(f2 b j).2⟩;refine codeAny_forLoop_any (fun n s' => ∃ i σ' H',Inv X pins σ' H' s'/\tn i s'.heap/\(∀ b∈fp,H' b=none)/\W i n σ' H') ?_ m0 ⟨0, σ,H2,I2,Z,fun b j=>(f2 b j).1,w0⟩;rintro n s3 ⟨i, σ3,Y,I3,L,O,w3⟩
 rcases turn i n σ3 Y w3 with ⟨stop,qn⟩ | ⟨go,N,hN,step⟩
 ·refine Eg G (thn (T.done X rfl rfl rfl hc i pins s3 σ3 Y X.xe I3 (stat O) L stop) fun r s4 ⟨hr,I4⟩ => ?_);subst hr;exact FZ ⟨σ3,Y,I4,qn⟩
 ·refine Eg G (thn (T.item X rfl rfl rfl hc i pins s3 σ3 Y X.xe I3 (stat O) L go) fun r s4 ⟨u,hr,h4⟩ => ?_);subst hr;refine Eg G (thn h4 fun _ s5 ⟨x,H5,I5,r5,y5,F,BN⟩ => ?_);have BO:=I5.pinned (stat BN) (T.obj _ _ F);refine Eg G (thn (hg _ s5 σ3 H5 x u _ BO r5 (step x H5 y5)) fun _ s6 ⟨σ6,H6,I6,q6⟩ => ?_);refine Eg G (thn (j _ s6 σ6 H6 _ I6 q6) fun f s7 B => ?_);have again:∀ {σ7:St} {q:Hp},Inv X (pins++hZ fp s5.heap) σ7 q s7->N σ7 q -> ∃ m,m < n /\ ∃ i σ' H',Inv X pins σ' H' s7/\tn i s7.heap/\(∀ b∈fp,H' b=none)/\W i m σ' H':=fun {σ7 q} z U=>by
   obtain ⟨m',hm,w7⟩:=hN σ7 q U;refine ⟨m',hm,i+1, σ7,q,z.unpinned,T.keep _ _ _ F fun b j o e=>(z.pin (b,o) (CN _ (CN _ (cL j e)))).1,fun b j => ?_,w7⟩;obtain ⟨o,e,d⟩:=T.obj _ _ F b j;exact (z.pin (b,o) (CN _ (CN _ (cL j e)))).2.1
  cases f with
  | next=>obtain ⟨σ7,q,z,U⟩:=B;exact again z U
  | cont=>obtain ⟨σ7,q,z,U⟩:=B;exact again z U
  | brk=>obtain ⟨σ7,q,z,B⟩:=B;exact ⟨σ7,q,z.unpinned,B⟩
  | ret v=>obtain ⟨x7, σ7,q,z,r7,B⟩:=B;exact ⟨x7, σ7,q,z.unpinned,r7,B⟩
end
end
section
noncomputable abbrev R2:=V->V->Hp->VK->Prop
def OpR (X:Cx) (f:e6->e6->Sem e6) (r:R2):Prop :=
 ∀ (pins:List (Addr×Obj)) (s:h7) (σ:St) (H:Hp) (x y:V) (v u:e6) (Q:VK),Inv X pins σ H s->RelV x v->RelV y u->r x y H Q ->
  CB (model X.prog X.w) X.A (f v u) (EP X pins σ Q) X.xe s
def UnR (X:Cx) (f:e6->Sem e6) (r:V->Hp->VK->Prop):Prop :=
 ∀ (pins:List (Addr×Obj)) (s:h7) (σ:St) (H:Hp) (x:V) (v:e6) (Q:VK),Inv X pins σ H s->RelV x v->r x H Q ->
  CB (model X.prog X.w) X.A (f v) (EP X pins σ Q) X.xe s
def CallR (X:Cx) (f:e6) (r:List V->Hp->VK->Prop):Prop :=
 ∀ (pins:List (Addr×Obj)) (s:h7) (σ:St) (H:Hp) (xs:List V) (us:List e6) (Q:VK),Inv X pins σ H s->Vals xs us->r xs H Q ->
  CB (model X.prog X.w) X.A (call f us) (EP X pins σ Q) X.xe s
def Br (X:Cx) (r:V->Hp->(Bool->Hp->Prop)->Prop):Prop :=
 ∀ (pins:List (Addr×Obj)) (s:h7) (σ:St) (H:Hp) (x:V) (v:e6) (Q:Bool->Hp->Prop),Inv X pins σ H s->RelV x v->r x H Q ->
  CB (model X.prog X.w) X.A (truthy v) (TP X pins σ Q) X.xe s
noncomputable def tOp (r:R2) (ta tb:TE):TE:=fun σ H Q=>ta σ H fun x H1=>tb σ H1 fun y H2=>r x y H2 Q
noncomputable def tUn (r:V->Hp->VK->Prop) (ta:TE):TE:=fun σ H Q=>ta σ H fun x H1=>r x H1 Q
noncomputable def rI (C:Int->Int->Prop) (g:Int->Int->V):R2:=fun x y H Q => ∃ i j,x = .int i/\y = .int j/\C i j/\Q (g i j) H
noncomputable def rI0 (g:Int->Int->V):R2:=fun x y H Q => ∃ i j,x = .int i/\y = .int j/\Q (g i j) H
noncomputable def rU (g:Int->V):V->Hp->VK->Prop:=fun x H Q => ∃ i,x = .int i/\Q (g i) H
section
variable {X:Cx} {a b c:Expr} {ta tb tc:TE} {pos:Pos}
theorem tO (j:PE X a ta) (q:PE X b tb) {pins:List (Addr×Obj)} {s:h7} {σ:St} {H:Hp} {R:V->V->Hp->Prop} (I:Inv X pins σ H s)
 (h:ta σ H fun x H1=>tb σ H1 fun y H2=>R x y H2) {Q:e6->h7->Prop} {f:e6->e6->Sem e6}
 (hf:∀ v u s2 x y H2,Inv X pins σ H2 s2->RelV x v->RelV y u->R x y H2->CB (model X.prog X.w) X.A (f v u) Q X.xe s2) :
 CB (model X.prog X.w) X.A (eval a X.env) (fun v s₁ => CB (model X.prog X.w) X.A (eval b X.env) (fun u s₂ => CB (model X.prog X.w) X.A (f v u) Q X.xe s₂) X.xe s₁) X.xe s:=by
 refine thn (j pins s σ H _ I h) fun v s1 ⟨x,H1,z,B,F⟩ => ?_;refine thn (q pins s1 σ H1 _ z F) fun u s2 ⟨y,H2,G,J,L⟩ => ?_;exact hf v u s2 x y H2 G B J L
theorem AC {op:J9} {r:R2} (ho:OpR X (Dw op) r) (j:PE X a ta) (z:PE X b tb):PE X (.BinOp a op b pos) (tOp r ta tb):=by
 intro pins s σ H Q I h;exact wpAny_BinOp (tO j z I h fun v u s2 x y H2 B rx ry q=>ho pins s2 σ H2 x y v u Q B rx ry q)
theorem AD {op:UnaryOp} {r:V->Hp->VK->Prop} (ho:UnR X (unaryOp op) r) (j:PE X a ta):PE X (.UnaryOp op a pos) (tUn r ta):=by
 intro pins s σ H Q I h;exact UnaryOp_ (thn (j pins s σ H _ I h) fun v s1 ⟨x,H1,q,z,B⟩=>ho pins s1 σ H1 x v Q q z B)
theorem opI {f:e6->e6->Sem e6} {C:Int->Int->Prop} {g:Int->Int->Int}
 (rule:∀ (i j:Int) (t u:Tok) (s:h7) (Q:e6->h7->Prop) (E:e6->h7->Prop),C i j->Q (.int (g i j) s.toks) { s with toks:=s.toks+1 }->CB (model X.prog X.w) X.A (f (.int i t) (.int j u)) Q E s) :
 OpR X f (rI C fun i j => .int (g i j)):=by
 intro pins s σ H x y v u Q I rx ry h;obtain ⟨i,j,rfl,rfl,z,q⟩:=h;obtain ⟨t,rfl⟩:=rx;obtain ⟨t',rfl⟩:=ry;exact rule i j t t' s _ _ z ⟨.int (g i j),H,I.tok _,⟨_,rfl⟩,q⟩
theorem yZ {f:e6->e6->Sem e6} {g:Int->Int->Int}
 (rule:∀ (i j:Int) (t u:Tok) (s:h7) (Q:e6->h7->Prop) (E:e6->h7->Prop),Q (.int (g i j) s.toks) { s with toks:=s.toks+1 }->CB (model X.prog X.w) X.A (f (.int i t) (.int j u)) Q E s) :
 OpR X f (rI0 fun i j => .int (g i j)):=by
 intro pins s σ H x y v u Q I rx ry h;obtain ⟨i,j,rfl,rfl,q⟩:=h;obtain ⟨t,rfl⟩:=rx;obtain ⟨t',rfl⟩:=ry;exact rule i j t t' s _ _ ⟨.int (g i j),H,I.tok _,⟨_,rfl⟩,q⟩
theorem oY {f:e6->e6->Sem e6} {g:Int->Int->Bool}
 (rule:∀ (i j:Int) (t u:Tok) (s:h7) (Q:e6->h7->Prop) (E:e6->h7->Prop),Q (.bool (g i j)) s->CB (model X.prog X.w) X.A (f (.int i t) (.int j u)) Q E s) :
 OpR X f (rI0 fun i j => .bl (g i j)):=by
 intro pins s σ H x y v u Q I rx ry h;obtain ⟨i,j,rfl,rfl,q⟩:=h;obtain ⟨t,rfl⟩:=rx;obtain ⟨t',rfl⟩:=ry;exact rule i j t t' s _ _ ⟨.bl (g i j),H,I,rfl,q⟩
def Bs (i j:Int):Prop := 0<=j/\j<=1000000/\i.natAbs < 2 ^ 64
theorem op_add:OpR X (Dw .Add) (rI0 fun i j => .int (i+j)):=yZ fun _ _ _ _ _ _ _ q=>add_int q
theorem z9:OpR X (Dw .Sub) (rI0 fun i j => .int (i - j)):=yZ fun _ _ _ _ _ _ _ q=>sub_int q
theorem zc:OpR X (Dw .Mod) (rI (fun _ j => 0 < j) fun i j => .int (i % j)):=opI fun i j _ _ _ _ _ z q=>by
 have h1:(0:Int) < j:=z;exact mod_int' (by omega) (by rw [Int.fmod_eq_emod_of_nonneg i (by omega)];exact q)
theorem zd:OpR X (Dw .Pow) (rI Bs fun i j => .int (i ^ j.toNat)):=opI fun _ _ _ _ _ _ _ z q=>pow_int_small z.1 z.2.1 z.2.2 q
theorem unI {f:e6->Sem e6} {g:Int->Int}
 (rule:∀ (i:Int) (t:Tok) (s:h7) (Q:e6->h7->Prop) (E:e6->h7->Prop),Q (.int (g i) s.toks) { s with toks:=s.toks+1 }->CB (model X.prog X.w) X.A (f (.int i t)) Q E s) :
 UnR X f (rU fun i => .int (g i)):=by
 intro pins s σ H x v Q I rx h;obtain ⟨i,rfl,q⟩:=h;obtain ⟨t,rfl⟩:=rx;exact rule i t s _ _ ⟨.int (g i),H,I.tok _,⟨_,rfl⟩,q⟩
theorem ze:UnR X (unaryOp .USub) (rU fun i => .int (-i)):=unI fun _ _ _ _ _ q=>neg_int q
end
section
variable {X:Cx} {a b c:Expr} {ta tb tc:TE} {pos:Pos}
theorem AE:OpR X (D2 .Lt) (rI0 fun i j => .bl (decide (i < j))):=oY fun _ _ _ _ _ _ _ q=>lt_int q
theorem AF:OpR X (D2 .LtE) (rI0 fun i j => .bl (decide (i<=j))):=oY fun _ _ _ _ _ _ _ q=>le_int q
theorem AG:OpR X (D2 .Gt) (rI0 fun i j => .bl (decide (j < i))):=oY fun _ _ _ _ _ _ _ q=>gt_int q
theorem AH:OpR X (D2 .GtE) (rI0 fun i j => .bl (decide (j<=i))):=oY fun _ _ _ _ _ _ _ q=>ge_int q
theorem OpR.or {f:e6->e6->Sem e6} {r r':R2} (h:OpR X f r) (h':OpR X f r'):OpR X f (fun x y H Q=>r x y H Q∨r' x y H Q):=by
 intro pins s σ H x y v u Q I rx ry q
 rcases q with q | q
 ·exact h pins s σ H x y v u Q I rx ry q
 ·exact h' pins s σ H x y v u Q I rx ry q
theorem wK {op:Iz} {r:R2} (ho:OpR X (D2 op) r) (j:PE X a ta) (z:PE X b tb) (hm:Fg op b=false):PE X (.Compare a [op] [b] pos) (tOp r ta tb):=by
 intro pins s σ H Q I h;exact wpAny_Compare1 (tO j z I h fun v u s2 x y H2 B rx ry q=>ho pins s2 σ H2 x y v u Q B rx ry q) hm
noncomputable def oZ (t:TE):TT:=fun σ H Q=>t σ H fun x H' => ∃ k,x = .bl k/\Q k H'
theorem wL {op:Iz} {r:R2} (ho:OpR X (D2 op) r) (j:PE X a ta) (q:PE X b tb) (hm:Fg op b=false):PT X (.Compare a [op] [b] pos) (oZ (tOp r ta tb)):=by
 intro pins s σ H Q I h;refine wpAny_isTrue_Compare1 (thn (j pins s σ H _ I h) fun v s1 ⟨x,H1,B,F,G⟩=>thn (q pins s1 σ H1 _ B G) fun u s2 ⟨y,H2,J,L,O⟩ =>
  thn (ho pins s2 σ H2 x y v u _ J F L O) fun c s3 ⟨z,U,Y,Z,k,e,q3⟩ => ?_) hm
 subst e
 cases Z
 exact Dv ⟨U,Y,q3⟩
noncomputable def kl (r r':R2) (ta tb tc:TE):TE:=fun σ H Q=>ta σ H fun x H1=>tb σ H1 fun y H2=>r x y H2 fun z H3 => ∃ k,z = .bl k /\
 (if k=true then tc σ H3 fun w' H4=>r' y w' H4 Q else Q (.bl false) H3)
theorem tP {op op':Iz} {r r':R2} (ho:OpR X (D2 op) r) (j:OpR X (D2 op') r') (J:PE X a ta) (L:PE X b tb) (O:PE X c tc)
 (hm:GW [op,op'] [b,c]=false:=by with_unfolding_all rfl):PE X (.Compare a [op,op'] [b,c] pos) (kl r r' ta tb tc):=by
 intro pins s σ H Q I h;refine Compare_chain (thn (J pins s σ H _ I h) fun v s1 ⟨x,H1,U,Y,Z⟩=>chain_link (thn (L pins s1 σ H1 _ U Z) fun u s2 ⟨y,H2,I2,q,q2⟩ =>
  thn (ho pins s2 σ H2 x y v u _ I2 Y q q2) fun d s3 ⟨z,B,F,r3,k,e,G⟩ => ?_)) hm
 subst e
 cases r3
 refine Dv ?_
 cases k with
 | false=>exact ite_ff ⟨.bl false,B,F,rfl,G⟩
 | true=>exact ite_tt (chain_last (thn (O pins s3 σ B _ F G) fun w' s4 ⟨z',H4,I4,r4,q4⟩=>j pins s4 σ H4 y z' u w' Q I4 q r4 q4))
theorem tQ {op op':Iz} {r r':R2} (ho:OpR X (D2 op) r) (j:OpR X (D2 op') r') (J:PE X a ta) (L:PE X b tb) (O:PE X c tc)
 (hm:GW [op,op'] [b,c]=false:=by with_unfolding_all rfl):PT X (.Compare a [op,op'] [b,c] pos) (oZ (kl r r' ta tb tc)):=by
 intro pins s σ H Q I h;refine isTrue_chain (thn (J pins s σ H _ I h) fun v s1 ⟨x,H1,U,Y,Z⟩=>test_link (thn (L pins s1 σ H1 _ U Z) fun u s2 ⟨y,H2,I2,q,q2⟩ =>
  thn (ho pins s2 σ H2 x y v u _ I2 Y q q2) fun d s3 ⟨z,B,F,r3,k,e,G⟩ => ?_)) hm
 subst e
 cases r3
 refine Dv ?_
 cases k with
 | false =>
   obtain ⟨k',e',q'⟩:=G
   cases e'
   exact ite_ff ⟨B,F,q'⟩
 | true =>
   refine ite_tt (test_last (thn (O pins s3 σ B _ F G) fun w' s4 ⟨z',H4,I4,r4,q4⟩=>thn (j pins s4 σ H4 y z' u w' _ I4 q r4 q4) fun d' s5 ⟨z2,H5,I5,r5,k2,e2,q5⟩ => ?_));subst e2
   cases r5
   exact Dv ⟨H5,I5,q5⟩
def tR (K:Frag) (x:V) (H:Hp) (k:Bool):Prop :=
 match x with
 | .non=>k=false
 | .bl b=>k=b
 | .int i=>k=(i != 0)
 | .str y=>y.length<=hP/\k=((y.length:Int) != 0)
 | .byt y=>y.size<=hP/\k=((y.size:Int) != 0)
 | .ref p=>(∃ xs,SqL K H p xs/\k = !xs.isEmpty)∨(∃ xs,SqT K H p xs/\k = !xs.isEmpty) ∨ ∃ kvs,H p=some (.dK kvs)/\k = !kvs.isEmpty
 | _=>False
theorem ph {κ:Type} {kvs:List (κ × V)} {vs:List (κ × e6)} (r:KV kvs vs):(!vs.isEmpty) = !kvs.isEmpty:=by
 cases r <;> rfl
theorem i3 {xs:List V} {its:List e6} (r:Vals xs its):(!its.toArray.isEmpty) = !xs.isEmpty:=by
 cases r <;> simp
theorem fg:(hP:Nat) < 2 ^ 63:=by rw [hB];decide
theorem zf:Br X (fun x H Q => ∃ k,tR X.K x H k/\Q k H):=by
 intro pins s σ H x v Q I rx h;obtain ⟨k,e,q⟩:=h;have F:=fg;have hs:hP=16777216:=hB
 cases x with
 | non =>
   cases rx
   have e':k=false:=e;subst e';exact truthy_none ⟨H,I,q⟩
 | bl b =>
   cases rx
   have e':k=b:=e;subst e';exact Dv ⟨H,I,q⟩
 | int i =>
   obtain ⟨t,rfl⟩:=rx;have e':k=(i != 0):=e;subst e';exact PySem.P.truthy_int ⟨H,I,q⟩
 | str y =>
   obtain ⟨t,rfl⟩:=rx;obtain ⟨z,e'⟩:y.length<=hP/\k=((y.length:Int) != 0):=e;subst e';exact PySem.P.truthy_str (by omega) ⟨H,I.tok _,q⟩
 | byt y =>
   obtain ⟨t,rfl⟩:=rx;obtain ⟨z,e'⟩:y.size<=hP/\k=((y.size:Int) != 0):=e;subst e';exact PySem.W.truthy_bytes (by omega) ⟨H,I.tok _,q⟩
 | ref p =>
   cases rx
   have e':(∃ xs,SqL X.K H p xs/\k = !xs.isEmpty)∨(∃ xs,SqT X.K H p xs/\k = !xs.isEmpty) ∨ ∃ kvs,H p=some (.dK kvs)/\k = !kvs.isEmpty:=e
   rcases e' with ⟨xs,hx,e'⟩ | ⟨xs,hx,e'⟩ | ⟨kvs,hx,e'⟩
   ·subst e';obtain ⟨its,r,pl,j⟩:=I.list hx;have hlen:=r.length;exact wpAny_truthy_list pl.isList (by simp only [t2];omega) ⟨H,I.tok _,by rw [i3 r];exact q⟩
   ·subst e';obtain ⟨its,r,pl,j⟩:=I.tuple hx;have hlen:=r.length;exact truthy_tuple pl (by simp only [t2];omega) ⟨H,I.tok _,by rw [i3 r];exact q⟩
   ·subst e';obtain ⟨j,B,vs,r,m⟩:kvs.length<=hP/\(p==Dg)=false /\ ∃ vs,KV kvs vs/\s.heap.DictOf (aE X.prog X.w) p vs:=I.hok p _ hx;have hlen:kvs.length=vs.length:=Ek r;exact wpAny_truthy_dict B m (by omega) ⟨H,I.tok _,by rw [ph r];exact q⟩
 | _=>exact (show False from e).elim
theorem tS (j:PE X a ta) (he:∀ whole,isTrue a X.env whole=(do let v <- whole;FT a.pos;holding [v] (truthy v))) :
 PT X a (fun σ H Q=>ta σ H fun x H' => ∃ k,tR X.K x H' k/\Q k H'):=by
 intro pins s σ H Q I h;exact isTrue_plain (thn (j pins s σ H _ I h) fun v s1 ⟨x,H1,q,z,B⟩=>zf pins s1 σ H1 x v Q q z B) (he _)
theorem pi:OpR X (Dw .Add) (fun x y H Q => ∃ i j,x = .str i/\y = .str j/\i.length+j.length<=hP/\Q (.str (i++j)) H):=by
 intro pins s σ H x y v u Q I rx ry h;obtain ⟨i,j,rfl,rfl,z,q⟩:=h;obtain ⟨t,rfl⟩:=rx;obtain ⟨t',rfl⟩:=ry;exact add_str (fun t' tk=>⟨.str (i++j),H,I.tok _,⟨_,rfl⟩,q⟩) z
theorem eh {x:V} {us:List e6} (r:Vals [x] us):∃ u,us=[u]/\RelV x u:=by
 cases r with
 | cons j q=>cases q;exact ⟨_,rfl,j⟩
theorem pj {x y:V} {us:List e6} (r:Vals [x,y] us):∃ u w',us=[u,w']/\RelV x u/\RelV y w':=by
 cases r with
 | cons j q =>
   cases q with
   | cons z B=>cases B;exact ⟨_,_,rfl,j,z⟩
theorem tT:CallR X (.builtin "abs") (fun xs H Q => ∃ i,xs=[.int i]/\Q (.int (if i < 0 then -i else i)) H):=by
 intro pins s σ H xs us Q I r h;obtain ⟨i,rfl,q⟩:=h;obtain ⟨u,rfl,t,rfl⟩:=eh r;exact call_abs_int fun u tk=>⟨.int (if i < 0 then -i else i),H,I.tok _,⟨_,rfl⟩,q⟩
theorem qS (B:X.calm=true):CallR X (.builtin "min") (fun xs H Q => ∃ i j,xs=[.int i, .int j]/\Q (.int (if j < i then j else i)) H):=by
 intro pins s σ H xs us Q I r h;obtain ⟨i,j,rfl,q⟩:=h;obtain ⟨u,w',rfl,⟨t,rfl⟩,⟨t',rfl⟩⟩:=pj r;refine min_two_ints (I.ok.hd B) fun h' tk k=>⟨_,H,I.kept k, ?_,q⟩
 by_cases z:j < i
 ·rw [if_pos z,if_pos z];exact ⟨_,rfl⟩
 ·rw [if_neg z,if_neg z];exact ⟨_,rfl⟩
theorem qT:CallR X (.type "int") (fun xs H Q=>(∃ i,xs=[.int i]/\Q (.int i) H) ∨ ∃ k,xs=[.bl k]/\Q (.int (if k then 1 else 0)) H):=by
 intro pins s σ H xs us Q I r h
 rcases h with ⟨i,rfl,q⟩ | ⟨k,rfl,q⟩
 ·obtain ⟨u,rfl,t,rfl⟩:=eh r;exact call_int_int ⟨.int i,H,I,⟨_,rfl⟩,q⟩
 ·obtain ⟨u,rfl,j⟩:=eh r
  cases j
  exact call_int_bool ⟨.int (if k then 1 else 0),H,I.tok _,⟨_,rfl⟩,q⟩
def Bt (K:Frag) (x:V) (H:Hp) (n:Nat):Prop :=
 match x with
 | .str y=>y.length<=hP/\n=y.length
 | .byt y=>y.size<=hP/\n=y.size
 | .ref p=>(∃ xs,SqL K H p xs/\n=xs.length) ∨ ∃ xs,SqT K H p xs/\n=xs.length
 | _=>False
theorem tU:CallR X (.builtin "len") (fun xs H Q => ∃ x n,xs=[x]/\Bt X.K x H n/\Q (.int n) H):=by
 intro pins s σ H xs us Q I r h;obtain ⟨x,n,rfl,e,q⟩:=h;obtain ⟨u,rfl,rx⟩:=eh r;have B:=fg;have hs:hP=16777216:=hB
 cases x with
 | str y =>
   obtain ⟨t,rfl⟩:=rx;obtain ⟨j,e'⟩:y.length<=hP/\n=y.length:=e;subst e';exact len_str (by omega) ⟨.int _,H,I.tok _,⟨_,rfl⟩,q⟩
 | byt y =>
   obtain ⟨t,rfl⟩:=rx;obtain ⟨j,e'⟩:y.size<=hP/\n=y.size:=e;subst e';exact PySem.W.len_bytes (by omega) ⟨.int _,H,I.tok _,⟨_,rfl⟩,q⟩
 | ref p =>
   cases rx
   have e':(∃ xs,SqL X.K H p xs/\n=xs.length) ∨ ∃ xs,SqT X.K H p xs/\n=xs.length:=e
   rcases e' with ⟨xs,hx,e'⟩ | ⟨xs,hx,e'⟩
   ·subst e';obtain ⟨its,r',pl,z⟩:=I.list hx;have hlen:=r'.length;exact Calls.call_len_list pl.isList (by simp only [t2];omega) ⟨.int xs.length,H,I.tok _,⟨_,by simp only [t2];rw [hlen]⟩,q⟩
   ·subst e';obtain ⟨its,r',pl,z⟩:=I.tuple hx;have hlen:=r'.length;exact len_tuple pl (by simp only [t2];omega) ⟨.int xs.length,H,I.tok _,⟨_,by simp only [t2];rw [hlen]⟩,q⟩
 | _=>exact (show False from e).elim
end
end
section
structure ObjM (h:Heap) (x dx C:Addr) (mA:Str->Option e6):Prop where
 obj:h.get? x=some (Hw C dx)
 ns:h.Ns1 dx mA
 ne:dx≠x
theorem qU {h:Heap} {dx:Addr} {mA:Str->Option e6} (n:h.Ns1 dx mA):∃ od,h.get? dx=some od /\ ∀ name,HN name od=some (mA name):=by
 obtain ⟨o,es,ep,ho,hd,B,_,hm⟩:=n;refine ⟨o,ho,fun name => ?_⟩;have e:=hm name;unfold nsFind findBy at e;rw [<- Array.find?_toList] at e;unfold HN;rw [hd];dsimp only
 split
 ·rename_i y q;rw [q] at e;exact congrArg some e
 ·rename_i q;rw [q] at e;have a:es.toList.any (·.refKey)=false:=by
   rw [List.any_eq_false];intro y F;obtain ⟨z,t,j⟩:=B y (Array.mem_toList_iff.mp F);simp [DictEntry.refKey,j]
  have a' : ¬ es.toList.any (·.refKey)=true:=by rw [a];exact hG
  rw [if_neg a'];exact congrArg some e
theorem ObjM.look {h:Heap} {x dx C:Addr} {mA:Str->Option e6} (I:ObjM h x dx C mA):∃ od,EW h x (Hw C dx) C (some od) /\ ∀ name,HN name od=some (mA name) :=
 let ⟨od,ho,j⟩:=qU I.ns
 ⟨od,⟨I.obj,rfl,rfl,ho⟩,j⟩
theorem KS {v:V} {o:Option e6} (r:RelO (some v) o):∃ u,o=some u/\RelV v u:=by
 cases o with
 | none=>exact (show False from r).elim
 | some u=>exact ⟨u,rfl,r⟩
section
variable {P:CG} {w:CT} {H H':Hp} {h h':Heap} {a C dx:Addr} {fs fs':List (Str×V)}
theorem wM (hok:HOk P w H h) (e:H a=some (.ins C dx fs)):∃ mA,ObjM h a dx C mA/\(∀ f,RelO (fs.lookup f) (mA f))/\PySem.Within mA (fs.map (·.1))/\fs.length<=1000/\H dx=some (.own a):=by
 obtain ⟨d,z,ne,ob,mA,n,r,q⟩:=(show ObjOk P w H h a (.ins C dx fs) from hok a _ e);exact ⟨mA,⟨ob,n,ne⟩,r,q,z,d⟩
end
structure Cls (K:Frag) (C:Addr):Prop where
 pg:Jv K C Str.empty=true
 hd:PySem.W.hasDictIn K C=true
 po:PySem.W.plainOver K C=true
 sa:Dr K (.ref C) "__setattr__" = some (some (.builtin "object.__setattr__"))
theorem Cls.get {K:Frag} {C:Addr} (c:Cls K C) (f:Str):Jv K C f=true:=c.pg
section
variable {X:Cx} {pins:List (Addr×Obj)} {σ:St} {H:Hp} {s:h7} {A:D1} {E:e6->h7->Prop} {Q:e6->h7->Prop} {c:e6} {b:Bool}
inductive bT (K:Frag) (H:Hp):V->e6->Prop where
 | non:bT K H .non (.type "NoneType")
 | bl (x:Bool):bT K H (.bl x) (.type "bool")
 | int (i:Int):bT K H (.int i) (.type "int")
 | str (x:Str):bT K H (.str x) (.type "str")
 | flt (x:UInt64):bT K H (.flt x) (.type "float")
 | lst {a:Addr} {xs:List V} (e:H a=some (.lst xs)):bT K H (.ref a) (.type "list")
 | frz {a:Addr} {o:Obj} {xs:List V} (e:H a=some (.frz o (.lst xs))):bT K H (.ref a) (.type "list")
 | tup {a:Addr} {xs:List V} (e:SqT K H a xs):bT K H (.ref a) (.type "tuple")
 | dK {a:Addr} {kvs:List (Key×V)} (e:H a=some (.dK kvs)):bT K H (.ref a) (.type "dict")
 | dT {a:Addr} {kvs:List (List Key×V)} (e:H a=some (.dT kvs)):bT K H (.ref a) (.type "dict")
 | ins {a C dx:Addr} {fs:List (Str×V)} (e:H a=some (.ins C dx fs)) (cl:Cls K C) (ha:Dr K (.ref C) "__class__" = some (some (.builtin "object.__class__")))
    (hn:GL K (.builtin "object.__class__") "__get__" = some (some (.builtin "getset_descriptor.__get__"))) (htk:Hx K (.builtin "object.__class__")=some true)
    (hm:Fh K C (.type "object")=some true):bT K H (.ref a) (.ref C)
theorem qV {x:V} {u t:e6} (I:Inv X pins σ H s) (rx:RelV x u) (ty:bT X.K H x t) (e:EX X.K t c=some b) (h:∀ tk,Q (.bool b) { s with toks:=tk }) :
 CB (model X.prog X.w) A (call (.builtin "isinstance") [u,c]) Q E s:=by
 cases ty with
 | non=>cases (show u=D7 from rx);exact Dj Ja I.kIn Dy e (fun z=>nomatch z) h
 | bl y=>cases (show u=II y from rx);exact Dj Jb I.kIn Dy e (fun z=>nomatch z) h
 | int i=>obtain ⟨t,q⟩:=(show ∃ t,u=Ig i t from rx);cases q;exact Dj Jw I.kIn Dy e (fun z=>nomatch z) h
 | str y=>obtain ⟨t,q⟩:=(show ∃ t,u=Ih y t from rx);cases q;exact Dj Jx I.kIn Dy e (fun z=>nomatch z) h
 | flt y=>obtain ⟨t,q⟩:=(show ∃ t,u=JR y t from rx);cases q;exact Dj IP I.kIn Dy e (fun z=>nomatch z) h
 | @lst a xs ea =>
  cases (show u=CO a from rx)
  obtain ⟨_,_,n,_,h1⟩:=(show ObjOk X.prog X.w H s.heap a (.lst xs) from I.hok a _ ea);exact Dj FC I.kIn ⟨_,h1,rfl⟩ e (fun z=>nomatch z) h
 | @frz a ob xs ea =>
  cases (show u=CO a from rx)
  obtain ⟨_,_,_,n,_,h1⟩:=(show ObjOk X.prog X.w H s.heap a (.frz ob (.lst xs)) from I.hok a _ ea);exact Dj FC I.kIn ⟨_,h1,rfl⟩ e (fun z=>nomatch z) h
 | @tup a xs ea =>
  cases (show u=CO a from rx)
  obtain ⟨_,_,p,_⟩:=I.tuple ea;obtain ⟨o,h1,h2,_⟩:=p;exact Dj IQ I.kIn ⟨o,h1,h2⟩ e (fun z=>nomatch z) h
 | @dK a kvs ea =>
  cases (show u=CO a from rx)
  obtain ⟨_,_,vs,_,p⟩:=(show ObjOk X.prog X.w H s.heap a (.dK kvs) from I.hok a _ ea);obtain ⟨o,es,ep,h1,h2,_⟩:=p;exact Dj FE I.kIn ⟨o,h1,h2.1⟩ e (fun z=>nomatch z) h
 | @dT a kvs ea =>
  cases (show u=CO a from rx)
  obtain ⟨_,_,xs,_,o,es,ep,h1,h2,_⟩:=(show ObjOk X.prog X.w H s.heap a (.dT kvs) from I.hok a _ ea);exact Dj FE I.kIn ⟨o,h1,h2.1⟩ e (fun z=>nomatch z) h
 | @ins a C dx fs ea cl ha hn htk hm =>
  cases (show u=CO a from rx)
  obtain ⟨mA,O,_⟩:=wM I.hok ea;obtain ⟨od,J,_⟩:=O.look;exact Dj (PySem.W.kitx_own (cl.get _) cl.hd ha hn htk hm) I.kIn J e (fun z=>nomatch z) h
end
end
section
structure Room (k:Nat) (A:D1):Prop where
 hd:A.handled=none
 dp:A.depth+3*k+5 < recursionLimit
 un:A.units+16*k+200 < Fi
theorem Room.deeper {k:Nat} {A:D1} (r:Room (k+1) A) (env:Env):Room k (A.deeper env) :=
 ⟨r.hd,by have:=r.dp;show A.depth+1+3*k+5 < _;omega,by have:=r.un;show A.units+3+16*k+200 < _;omega⟩
theorem Room.depth {k:Nat} {A:D1} (r:Room k A):A.depth < recursionLimit:=by have:=r.dp;omega
theorem Room.units {k:Nat} {A:D1} (r:Room k A):A.units+64 < Fi:=by have:=r.un;omega
noncomputable def zg:TA:=fun _ H Q=>Q [] H
noncomputable def vQ (ta:TE) (tr:TA):TA:=fun σ H Q=>ta σ H fun x H1=>tr σ H1 fun xs H2=>Q (x::xs) H2
section
variable {X:Cx} {e:Expr} {es:List Expr} {te:TE} {t:TA} {pos:Pos}
theorem ci:PA X [] zg:=fun _ _ _ _ H Q I h=>Jc ⟨[],H,I, .nil,h⟩
theorem aM (j:PE X e te) (hr:PA X es t) (hs:CF (e::es) X.env=(false,eval e X.env)::CF es X.env:=by rfl):PA X (e::es) (vQ te t):=by
 intro pos pins s σ H Q I h;rw [hs];show CB _ _ (spliced ((false,eval e X.env)::Es pos (CF es X.env))) _ _ s;refine Gp (thn (j pins s σ H _ I h) fun u s1 ⟨x,H1,q,z,B⟩ => ?_);exact thn (hr pos pins s1 σ H1 _ q B) fun us s2 ⟨xs,H2,F,G,J⟩=>⟨x::xs,H2,F, .cons z G,J⟩
noncomputable def Bu (t:TA):TE:=fun σ H Q=>t σ H fun xs H1=>xs.length<=hP /\ ∀ p,H1 p=none->Q (.ref p) (upd H1 p (.tup xs))
noncomputable def Bv (t:TA):TE:=fun σ H Q=>t σ H fun xs H1=>xs.length<=hP /\ ∀ p,H1 p=none->Q (.ref p) (upd H1 p (.lst xs))
theorem km {x1} (h:PA X es t):PE X (.Tuple es x1 pos) (Bu t):=by
 intro pins s σ H Q I hq;refine wpAny_Tuple_spliced (thn (h pos pins s σ H _ I hq) fun us s1 ⟨xs,H1,j,r,z,q⟩=>⟨by rw [<- r.length];exact z, ?_⟩)
 have hf:H1 s1.heap.objs.size=none:=j.hok.fresh (q0 _);refine ⟨.ref s1.heap.objs.size,upd H1 s1.heap.objs.size (.tup xs),j.laid (t':=s1.toks) (fun b u e=>h8 _ e) (q0 _) ?_,rfl,q _ hf⟩;exact ⟨z,us,r,⟨_,hQ _ rfl,rfl,_,rfl⟩⟩
theorem zh (h:PA X es t):PE X (.List es pos) (Bv t):=by
 intro pins s σ H Q I hq;refine wpAny_List_spliced (thn (h pos pins s σ H _ I hq) fun us s1 ⟨xs,H1,j,r,z,q⟩=>⟨by rw [<- r.length];exact z, ?_⟩)
 have hf:H1 s1.heap.objs.size=none:=j.hok.fresh (q0 _);refine ⟨.ref s1.heap.objs.size,upd H1 s1.heap.objs.size (.lst xs),j.laid (t':=s1.toks) (fun b u e=>h8 _ e) (q0 _) ?_,rfl,q _ hf⟩;exact ⟨z,us,0,r,hQ _ rfl⟩
end
noncomputable abbrev Sp:=List V->Hp->VK->XK->Prop
noncomputable abbrev CXT:=List Env->Hp->h7->XK->e6->h7->Prop
structure pv (P:CG) (w:CT) (K:Frag) (mg:Str->Option e6) (base:Heap) (A:D1) (outer:List Env) (s:h7) (H:Hp):Prop where
 frames:A.frames=some outer
 mod:Mod K mg base
 bs:∀ b o,base.get? b=some o->s.heap.get? b=some o/\H b=none
 bsz:base.objs.size<=s.heap.objs.size
 funs:s.heap.FunFrames base outer
 frf:∀ b∈frs outer,H b=none
 hok:HOk P w H s.heap
 bare:Gc s.gens
def CE (outer:List Env) (P:CG) (w:CT) (H:Hp) (s:h7) (Q:VK) (u:e6) (s':h7):Prop :=
 ∃ v H',s'.os=s.os/\Gc s'.gens/\Un (frs outer) [] H H' s.heap s'.heap/\HOk P w H' s'.heap/\RelV v u/\Q v H'
def CR (CX:CXT) (outer:List Env) (P:CG) (w:CT) (H:Hp) (s:h7) (Q:VK) (E:XK) (r:Result) (s':h7):Prop :=
 match r with
 | .ok (.ret u)=>CE outer P w H s Q u s'
 | .ok _=>False
 | .error e=>CX outer H s E e s'
structure bu (P:CG) (w:CT) (K:Frag) (mg:Str->Option e6) (base:Heap) (CX:CXT) (k:Nat) (f:Addr) (fd:Eh) (ps:List Str) (sp:Sp):Prop where
 len:∀ vs H Q E,sp vs H Q E->vs.length=ps.length
 run:∀ (A:D1) (outer:List Env) (s:h7) (H:Hp) (args:Args) (us:List e6) (vs:List V) (Q:VK) (E:XK),Room k A->pv P w K mg base A outer s H->Jd s fd args (ps.zip us)->Vals vs us->sp vs H Q E ->
  Gd (model P w) A (.call (.ref f) args) (CR CX outer P w H s Q E) s
section
variable {X:Cx} {pins:List (Addr×Obj)} {σ:St} {H:Hp} {s s':h7}
theorem Inv.env0 (I:Inv X pins σ H s):pv X.prog X.w X.K X.mg X.base X.A X.stack s H :=
 ⟨I.ok.frames,I.ok.mod,I.bs,Dt I.ok.bsz I.sz,I.stack,I.stkFree,I.hok,I.bare⟩
theorem Inv.after {Q:VK} {u:e6} (I:Inv X pins σ H s) (h:CE X.stack X.prog X.w H s Q u s'):EP X pins σ Q u s':=by
 obtain ⟨v,H',os,bare,un,hok,r,q⟩:=h;obtain ⟨j,g,d,t,os'⟩:=s';obtain rfl:os'=s.os:=os;exact ⟨v,H',I.call (h':=j) (g':=g) (d':=d) (t':=t) (ch := []) un hok bare (fun b z=>absurd z (by simp)),r,q⟩
end
noncomputable def vR (sp:Sp) (dvs:List V) (E:XK) (t:TA):TE:=fun σ H Q=>t σ H fun vs H1=>sp (vs++dvs) H1 Q E
def Binds (K:Frag) (fd:Eh) (ps:List Str) (ds:List e6):Prop :=
 ∀ (s:h7) (us:List e6),K.In s.heap->(us++ds).length=ps.length->Jd s fd ⟨us,[]⟩ (ps.zip (us++ds))
theorem Binds.all {K:Frag} {fd:Eh} {ps:List Str} (h:∀ us:List e6,us.length=ps.length->bindArgs fd ⟨us,[]⟩=pure (ps.zip us)):Binds K fd ps []:=fun s us _ j=>by
 rw [DF] at j ⊢;exact .of_eq (h us j)
def i4 (CX:CXT) (X:Cx) (E:XK):Prop := ∀ (pins:List (Addr×Obj)) (σ:St) (H:Hp) (s:h7) (e:e6) (s':h7),Inv X pins σ H s->CX X.stack H s E e s'->X.xe e s'
section
variable {X:Cx} {CX:CXT} {k:Nat} {f C:Addr} {fd:Eh} {ps:List Str} {sp:Sp} {dvs:List V} {ds:List e6} {E:XK} {x m:Str} {p pos apos:Pos} {e o:Expr} {es:List Expr} {ta:TE} {t:TA}
theorem qW {pins:List (Addr×Obj)} {σ:St} {H:Hp} {s:h7} {Q:VK} {us:List e6} {vs:List V} (F:bu X.prog X.w X.K X.mg X.base CX k f fd ps sp) (hr:Room k X.A) (z:Binds X.K fd ps ds) (hd:Vals dvs ds) (hx:i4 CX X E)
 (I:Inv X pins σ H s) (r:Vals vs us) (h:sp (vs++dvs) H Q E):CB (model X.prog X.w) X.A (call (.ref f) us) (EP X pins σ Q) X.xe s:=by
 have q:Vals (vs++dvs) (us++ds):=r.append hd;have B:(us++ds).length=ps.length:=by rw [<- q.length];exact F.len _ _ _ _ h
 refine Kc (FF (F.run X.A X.stack s H ⟨us,[]⟩ (us++ds) (vs++dvs) Q E hr I.env0 (z s us I.kIn B) q h) fun r s' j => ?_)
 cases r with
 | error e=>exact hx pins σ H s e s' I j
 | ok fl =>
   cases fl with
   | ret u=>exact I.after j
   | next=>exact False.elim j
   | brk=>exact False.elim j
   | cont=>exact False.elim j
theorem wN (F:bu X.prog X.w X.K X.mg X.base CX k f fd ps sp) (hr:Room k X.A) (G:Gl X x) (hm:X.mg x=some (.ref f)) (J:E9 X.K (.ref f)=true) (L:Binds X.K fd ps ds) (hd:Vals dvs ds) (hx:i4 CX X E)
 (O:PA X (e::es) t) (j:(x==("__debug__":Str))=false:=by decide) (he:CF (e::es) X.env=(false,eval e X.env)::CF es X.env:=by rfl) (z:(Es pos (CF es X.env)).any (·.1)=false:=by rfl) :
 PE X (.Call (.Name x p) (e::es) [] pos) (vR sp dvs E t):=by
 intro pins s σ H Q I h;refine ED (cR I G hm ?_ j);refine IS (h₀ := X.base) I.ok.mod.kin J (thn (O pos pins s σ H _ I h) fun us s1 ⟨vs,H1,B,r,q⟩=>⟨B.kIn, ?_⟩) he z;exact qW F hr L hd hx B r q
theorem tV (F:bu X.prog X.w X.K X.mg X.base CX k f fd ps sp) (hr:Room k X.A) (q:Gl X x) (hm:X.mg x=some (.ref f)) (z:E9 X.K (.ref f)=true) (B:Binds X.K fd ps ds) (hd:Vals dvs ds) (hx:i4 CX X E)
 (j:(x==("__debug__":Str))=false:=by decide):PE X (.Call (.Name x p) [] [] pos) (vR sp dvs E zg):=by
 intro pins s σ H Q I h;refine ED (cR I q hm ?_ j);exact PySem.W.callWith_K0 I.kIn z (qW (us := []) F hr B hd hx I .nil h)
end
structure cS (N P:List Str) (sc:Scope):Prop where
 kind:sc.kind = .function
 co:sc.isCoroutine=false
 gen:sc.isGenerator=false
 nd:N.Nodup
 pre:N.take P.length=P
 par:∀ x∈P,sc.names.lookup x=some .local∨sc.names.lookup x=some .cell
 nofree:∀ y∈sc.names,y.2 ≠ .free
theorem jm {ET:Str->Option Eu} {x:Str}:∀ {binds:List (Str×e6)} {m:Str->Option e6},(∀ v,(x,v)∉binds)->Kd ET binds m x=m x
 | [],_,_=>rfl
 | (n,v)::r,m,h=>by
  unfold Kd;rw [jm fun w hw=>h w (CM _ hw)]
  split
  ·have:x≠n:=by rintro rfl;exact h v D5
   simp [this]
  ·rfl
theorem jn {ET:Str->Option Eu} {x:Str}:∀ {binds:List (Str×e6)} {m:Str->Option e6},(∀ v,(x,v)∉binds)->Ke ET binds m x=m x
 | [],_,_=>rfl
 | (n,v)::r,m,h=>by
  unfold Ke;rw [jn fun w hw=>h w (CM _ hw)]
  split
  ·rfl
  ·have:x≠n:=by rintro rfl;exact h v D5
   simp [this]
theorem jo {ET:Str->Option Eu} {x:Str} {v:e6}:∀ {P:List Str} {vs:List e6} {i:Nat} {m:Str->Option e6},P.Nodup->P[i]? = some x->vs[i]? = some v->ET x=some .local ->
 Kd ET (P.zip vs) m x=some v
 | [],_,_,_,_,h,_,_=>by simp at h
 | _::_,[],_,_,_,_,h,_=>by simp at h
 | p::P,w::vs,0,m,nd,h1,h2,j=>by
   simp at h1 h2;subst h1;subst h2;show Kd ET ((p,w)::P.zip vs) m p=_;unfold Kd;rw [jm fun v q=>(DG.mp nd).1 (Hy q).1,if_pos j];simp
 | p::P,w::vs,i+1,m,nd,h1,h2,j=>by
   show Kd ET ((p,w)::P.zip vs) m x=_;unfold Kd;exact jo (i:=i) (DG.mp nd).2 (by simpa using h1) (by simpa using h2) j
theorem jp {ET:Str->Option Eu} {x:Str} {v:e6}:∀ {P:List Str} {vs:List e6} {i:Nat} {m:Str->Option e6},P.Nodup->P[i]? = some x->vs[i]? = some v->ET x≠some .local ->
 Ke ET (P.zip vs) m x=some v
 | [],_,_,_,_,h,_,_=>by simp at h
 | _::_,[],_,_,_,_,h,_=>by simp at h
 | p::P,w::vs,0,m,nd,h1,h2,j=>by
   simp at h1 h2;subst h1;subst h2;show Ke ET ((p,w)::P.zip vs) m p=_;unfold Ke;rw [jn fun v q=>(DG.mp nd).1 (Hy q).1,if_neg j];simp
 | p::P,w::vs,i+1,m,nd,h1,h2,j=>by
   show Ke ET ((p,w)::P.zip vs) m x=_;unfold Ke;exact jp (i:=i) (DG.mp nd).2 (by simpa using h1) (by simpa using h2) j
noncomputable def start (N:List Str) (vs:List V):St:=vs.map some++CD (N.length - vs.length) none
noncomputable def dh (CX:CXT) (P:CG) (w:CT) (K:Frag) (mg:Str->Option e6) (base:Heap) (N:List Str) (qual:Str) (scope:Scope) (f:Addr) (cd:e6) (A:D1) (outer:List Env) (s:h7) (H:Hp) (E:XK):Cx where
 prog:=P
 w:=w
 K:=K
 mg:=mg
 base:=base
 A:=A.deeper (Fq qual scope s.heap.objs.size f cd)
 N:=N
 s₀ := s
 H₀ := H
 env:=Fq qual scope s.heap.objs.size f cd
 outer:=outer
 stack:=Fq qual scope s.heap.objs.size f cd::outer
 ex := []
 calm:=true
 fn:=fun _=>true
 pn := []
 xe:=fun e s'=>CB (model P w) (A.deeper (Fq qual scope s.heap.objs.size f cd)) (leaving (Fq qual scope s.heap.objs.size f cd) e) (fun _ s''=>CX outer H s E e s'') (fun e' s''=>CX outer H s E e' s'') s'
theorem kn {sc:Scope} {n:Nat} {x:Str} (h:sc.names.lookup x=some .cell):∃ c,(DX n sc.names []).lookup x=some c:=by
 have q:=FG sc.names n [] (.inl h);exact DS.mp q
theorem qX {CX:CXT} {P:CG} {w:CT} {K:Frag} {mg:Str->Option e6} {base:Heap} {N ps:List Str} {qual:Str} {scope:Scope} {f:Addr} {cd:e6} {A:D1} {outer:List Env} {s s1:h7} {H:Hp} {E:XK} {us:List e6} {vs:List V}
 (S:cS N ps scope) (hd:A.handled=none) (j:pv P w K mg base A outer s H) (U:vs.length=ps.length) (r:Vals vs us)
 (x:InCallC s s.heap.objs.size (Kd (Fq qual scope s.heap.objs.size f cd).kindOf (ps.zip us) fun _=>none) (DX (s.heap.objs.size+1) scope.names []) (Ke (Fq qual scope s.heap.objs.size f cd).kindOf (ps.zip us) fun _=>none) s1) :
 Inv (dh CX P w K mg base N qual scope f cd A outer s H E) [] (start N vs) H s1:=by
 have L:ps.length<=N.length:=by have:=congrArg List.length S.pre;rw [DO] at this;omega
 obtain ⟨h1,tk,rfl,G⟩:=x.done;have noA:∀ b:Addr,b∉(dh CX P w K mg base N qual scope f cd A outer s H E).ex:=fun b z=>absurd (show b∈([]:List Addr) from z) (by simp)
 refine ⟨⟨j.mod,S.kind,rfl,rfl,q0 _,fun y z c h1 h2 => ?_,fun y B => ?_,fun y c _ h => ?_,fun _=>hd,Around.frames_deeper j.frames, .inr ⟨rfl,rfl⟩,fun b z=>absurd z (noA b),j.bs,j.bsz,fun b _ _=>noA b,fun b z=>absurd z (noA b),j.funs,j.frf⟩,
  rfl,j.bare,Un.kept G,⟨_,x.toInCall.ns,fun i y v h1 h2 Y => ?_⟩,fun y c h=>⟨_,x.cell y c h⟩,j.hok.fresh (q0 _),fun y c h => ?_,fun p F=>absurd (show p∈([]:List (Addr×Obj)) from F) (by simp),j.hok.kept G, ?_⟩
 ·exact name_of_addr x.apart (Du h1) (Du h2)
 ·have B:scope.names.lookup y=some .cell∨scope.names.lookup y=some .free:=B
  rcases B with B | B
  ·exact kn B
  ·exact absurd rfl (S.nofree _ (Du B))
 ·exact F5 (x.above y c (Du h))
 ·have hi:i < vs.length:=by
   unfold start at h2
   by_cases hi:i < vs.length
   ·exact hi
   ·rw [Gq (by simpa using hi)] at h2
    rw [GX] at h2
    split at h2 <;> cases h2
  have O:vs[i]? = some v:=by
   unfold start at h2;rw [Fb (by simpa using hi),CK] at h2
   cases e:vs[i]? with
   | none=>rw [e] at h2;cases h2
   | some a=>rw [e] at h2;cases h2;rfl
  obtain ⟨u,J,rv⟩:=r.get O;have F:ps[i]? = some y:=by
   rw [<- S.pre,List.getElem?_take_of_lt (by omega)];exact h1
  have ndP:ps.Nodup:=by rw [<- S.pre];exact S.nd.sublist (List.take_sublist _ _)
  refine ⟨u,rv, ?_⟩
  rcases S.par y (CZ F) with k | k
  ·exact .inl ⟨k,jo ndP F J k⟩
  ·obtain ⟨c,e⟩:=kn (n:=s.heap.objs.size+1) k;refine .inr ⟨.inl k,c,e, ?_⟩;have q:=x.cell y c e;rw [jp ndP F J (by show scope.names.lookup y≠_;rw [k];decide)] at q
   exact q
 ·exact j.hok.fresh (F5 (x.above y c (Du h)))
 ·unfold start;show _=N.length;rw [z4,v5,List.length_replicate];omega
theorem vS {CX:CXT} {P:CG} {w:CT} {K:Frag} {mg:Str->Option e6} {base:Heap} {k:Nat} {f:Addr} {name qual:Str} {params:Arguments} {body:List Stmt} {scope:Scope} {dV kV doc pm cdv ct oc:e6} {an od:Option Addr}
 {osl:Array (Option e6)} {N ps:List Str} {sp:Sp} (lk:K.lookup f=some ⟨oc,od, .func (EE name qual params body scope dV kV doc pm an cdv ct),osl⟩) (G:Gr K cdv qual=true) (S:cS N ps scope)
 (len:∀ vs H Q E,sp vs H Q E->vs.length=ps.length)
 (j:∀ (A:D1) (outer:List Env) (s:h7) (H:Hp) (vs:List V) (Q:VK) (E:XK),Room k (A.deeper (Fq qual scope s.heap.objs.size f cdv))->sp vs H Q E ->
   ∃ t,PSs (dh CX P w K mg base N qual scope f cdv A outer s H E) body t/\t { nx:=fun _ H'=>Q .non H',rt:=Q } (start N vs) H) :
 bu P w K mg base CX (k+1) f (EE name qual params body scope dV kV doc pm an cdv ct) ps sp:=by
 refine ⟨len,fun A outer s H args us vs Q E hr B L r F => ?_⟩;have O:=len _ _ _ _ F;have KX:K.In s.heap:=B.mod.kin.keeps fun b o e=>(B.bs b o e).1;have lim:s.heap.NoLimit:=B.mod.nolimit.keeps fun b o e=>(B.bs b o e).1;have z:∀ y∈ps.zip us,scope.names.lookup y.1=some .local∨(scope.names.lookup y.1=some .cell/\((DX (s.heap.objs.size+1) scope.names []).lookup y.1).isSome=true):=fun ⟨n,v⟩ hy=>by
  rcases S.par n (Hy hy).1 with q | q
  ·exact .inl q
  ·exact .inr ⟨q,FG _ _ _ (.inl q)⟩
 refine codeAny_call_function hr.depth (KX _ _ lk) rfl S.co S.gen rfl (PySem.W.codeRec_of KX G) (L _ _ _ _ ?_);refine wpAny_newFunctionEnv_cells S.kind z fun env he s1 x => ?_;subst he;refine ⟨lim.keeps x.toInCall.keep,codeAny_func ?_⟩;obtain ⟨t,ht,U⟩:=j A outer s H vs Q E (hr.deeper _) F;have I:Inv (dh CX P w K mg base N qual scope f cdv A outer s H E) [] (start N vs) H s1:=qX S hr.hd B O r x;refine E8 (ht [] s1 (start N vs) H _ I U) (fun fl s' hs => ?_) fun e s' hs=>hs;have fin:∀ {σ':St} {H':Hp} {v:V} {u:e6},Inv (dh CX P w K mg base N qual scope f cdv A outer s H E) [] σ' H' s'->RelV v u->Q v H'->CE outer P w H s Q u s' :=
  fun {σ' H' v u} J rv q=>⟨v,H',J.os,J.bare,J.base,J.hok,rv,q⟩
 cases fl with
 | ret u =>
   obtain ⟨v, σ',H',J,rv,q⟩:=hs;exact fin J rv q
 | next =>
   obtain ⟨σ',H',J,q⟩:=hs;exact fin (v:=V.non) (u:=D7) J rfl q
 | brk =>
   obtain ⟨_,_,_,q⟩:=hs;exact False.elim q
 | cont =>
   obtain ⟨_,_,_,q⟩:=hs;exact False.elim q
end
section
section
variable {X:Cx} {x:Str} {p pos:Pos} {e:Expr} {es:List Expr} {t:TA} {id T:String} {r:List V->Hp->VK->Prop}
noncomputable def tCB (r:List V->Hp->VK->Prop) (t:TA):TE:=fun σ H Q=>t σ H fun vs H1=>r vs H1 Q
theorem bv (z:CallR X (.builtin id) r) (B:Gl X x) (hm:X.mg x=none) (F:DR x=some (.builtin id)) (G:PA X (e::es) t) (J:x ≠ "__name__" := by decide) (j:(x==("__debug__":Str))=false:=by decide)
 (he:CF (e::es) X.env=(false,eval e X.env)::CF es X.env:=by rfl) (q:(Es pos (CF es X.env)).any (·.1)=false:=by rfl):PE X (.Call (.Name x p) (e::es) [] pos) (tCB r t):=by
 intro pins s σ H Q I h;refine ED (dP I B hm F ?_ J j);exact PyProof.Rows.callWith_builtin1 (thn (G pos pins s σ H _ I h) fun us s1 ⟨vs,H1,L,O,U⟩=>z pins s1 σ H1 vs us Q L O U) he q
theorem dA (z:CallR X (.type T) r) (B:Gl X x) (hm:X.mg x=none) (F:DR x=some (.type T)) (G:PA X (e::es) t) (J:x ≠ "__name__" := by decide) (j:(x==("__debug__":Str))=false:=by decide)
 (he:CF (e::es) X.env=(false,eval e X.env)::CF es X.env:=by rfl) (q:(Es pos (CF es X.env)).any (·.1)=false:=by rfl):PE X (.Call (.Name x p) (e::es) [] pos) (tCB r t):=by
 intro pins s σ H Q I h;refine ED (dP I B hm F ?_ J j);exact E4 (thn (G pos pins s σ H _ I h) fun us s1 ⟨vs,H1,L,O,U⟩=>z pins s1 σ H1 vs us Q L O U) he q
end
end
end L2
namespace HT
open PySem PyProof.Rows
noncomputable def lexLt:List Int->List Int->Bool
 | [],[] => false
 | [],_::_=>true
 | _::_,[] => false
 | x::xs,y::ys=>if x=y then lexLt xs ys else decide (x < y)
section
variable {prog:CG} {w:CT} {A:D1} {E:e6->h7->Prop} {s:h7}
theorem cat_tup {t b:Addr} {vs ws:List e6} {Q:e6->h7->Prop} (ht:IsTup s.heap t vs.toArray) (O:IsTup s.heap b ws.toArray) (G:vs≠[])
 (h1:ws=[]->Q (.ref t) s) (h2:ws≠[]->Q (.ref s.heap.objs.size) { s with heap:=s.heap.push { cls := .type "tuple",data := .seq (vs++ws).toArray } })
 (hsz:vs.length+ws.length<=hP):CB (model prog w) A (Dw .Add (.ref t) (.ref b)) Q E s:=by
 obtain ⟨⟨cls,dd,data,sl⟩,ho,J,n,hd⟩:=id ht;obtain ⟨⟨L,q,data2,z⟩,j,B,n2,hd2⟩:=id O;simp only at J hd B hd2;subst J hd B hd2;have e:vs.toArray++ws.toArray=(vs++ws).toArray:=by simp
 by_cases hw:ws=[]
 ·exact Je ⟨_,ho,rfl⟩ ⟨_,j,rfl⟩ GY IA FH Fv (Fj _ _)
   (tuple_addW1 t b vs.toArray ws.toArray n n2 dd q sl z (by simpa using G) (by simp [hw])) ⟨ho,j,h1 hw⟩
 ·refine Je ⟨_,ho,rfl⟩ ⟨_,j,rfl⟩ GY IA FH Fv (Fj _ _)
   (tuple_addW2 t b vs.toArray ws.toArray n n2 dd q sl z (by simpa using G) (by simpa using hw) (by rw [t2,t2];exact hsz)) ⟨ho,j, ?_⟩
  rw [e];exact h2 hw
noncomputable def sIx (n d:Nat):Option Int->Nat
 | none=>d
 | some v=>if v < 0 then (v+(n:Int)).toNat else min v.toNat n
theorem zi (n d:Nat) (hd:d<=n) (o:Option Int):sIx n d o<=n:=by
 cases o with
 | none=>exact hd
 | some v =>
   show (if v < 0 then (v+(n:Int)).toNat else min v.toNat n)<=n
   by_cases hv:v < 0
   ·rw [if_pos hv];omega
   ·rw [if_neg hv];exact Nat.min_le_right _ _
theorem nJ (v:Int) (n d:Nat):(if v < 0 then max (v+(n:Int)) 0 else min v (n:Int))=((sIx n d (some v):Nat):Int):=by
 show (if v < 0 then max (v+(n:Int)) 0 else min v (n:Int))=(((if v < 0 then (v+(n:Int)).toNat else min v.toNat n):Nat):Int)
 by_cases hv:v < 0
 ·simp only [if_pos hv];omega
 ·simp only [if_neg hv];omega
theorem pz (lo hi:Option Int) (n:Nat):Fc lo hi 1 (n:Int)=(((sIx n 0 lo:Nat):Int),((sIx n n hi:Nat):Int)):=by
 have h1 : ¬ ((1:Int) < 0):=by omega
 unfold Fc;simp only [h1,if_false];refine Prod.ext ?_ ?_
 ·cases lo with
  | none=>rfl
  | some v=>exact nJ v n 0
 ·cases hi with
  | none=>rfl
  | some v=>exact nJ v n n
theorem pA (i j:Nat):Ed (i:Int) (j:Int) 1=j - i:=by
 unfold Ed;have h1:(1:Int) > 0:=by omega
 simp only [h1,if_true,Int.ediv_one]
 split <;> omega
theorem i5 {v:e6} {o:Option Int} {Q:Option Int->h7->Prop} (p:Hk v o) (h:Q o s):CB (model prog w) A (Builtin.Slice.slicePartIndex v) Q E s:=by
 cases p with
 | none=>exact slicePart_none h
 | int i t=>exact slicePart_int h
theorem di {sl:Addr} {vl vu:e6} {lo hi:Option Int} {n:Nat} {Q:Int×Int×Nat->h7->Prop} (hs:s.heap.IsSliceOf sl vl vu .none) (pl:Hk vl lo) (pu:Hk vu hi)
 (h:Q (((sIx n 0 lo:Nat):Int),1,sIx n n hi - sIx n 0 lo) s):CB (model prog w) A (Gs (.ref sl) (pure (n:Int))) Q E s:=by
 obtain ⟨os,j,z,q⟩:=id hs;unfold Gs Builtin.Slice.sliceFields;refine b0 (b0 (CS j q (x:=vl) rfl (b0 (CS j q (x:=vu) rfl (b0 (CS j q (x := .none) rfl (hh ?_)))))));refine b0 (slicePart_none ?_);show CB _ _ (if ((1:Int)==0)=true then _ else _) _ _ s
 rw [if_neg (by decide)]
 refine b0 (i5 pl (b0 (i5 pu (b0 (hh ?_)))));show CB _ _ (match Fc lo hi 1 (n:Int) with | (lo,hi)=>pure (lo,(1:Int),Ed lo hi 1)) _ _ s
 rw [pz lo hi n];show CB _ _ (pure (((sIx n 0 lo:Nat):Int),(1:Int),Ed ((sIx n 0 lo:Nat):Int) ((sIx n n hi:Nat):Int) 1)) _ _ s;rw [pA];exact hh h
theorem tW (xs:Array e6) (i k:Nat):((CP k).filterMap fun (m:Nat)=>xs[((i:Int)+(m:Int)*1).toNat]?).toArray=((xs.toList.drop i).take k).toArray:=by
 have e:(fun (m:Nat)=>xs[((i:Int)+(m:Int)*1).toNat]?)=fun m=>xs[i+m]? := by
  funext m
  have:((i:Int)+(m:Int)*1).toNat=i+m:=by omega
  rw [this]
 rw [e];have:=pick_run xs i k;rw [List.filterMap_map] at this;have j:((fun x=>xs[x]?) ∘ fun x=>i+x)=fun m=>xs[i+m]? := rfl;rw [j] at this;rw [this]
theorem getItem_tuple_cut {t sl:Addr} {items:Array e6} {vl vu:e6} {lo hi:Option Int} {Q:e6->h7->Prop} (ht:IsTup s.heap t items) (hs:s.heap.IsSliceOf sl vl vu .none) (pl:Hk vl lo) (pu:Hk vu hi)
 (hw : ¬ (sIx items.size 0 lo=0/\sIx items.size items.size hi=items.size))
 (h:Q (.ref s.heap.objs.size) { s with heap:=s.heap.push { cls := .type "tuple",data := .seq ((items.toList.drop (sIx items.size 0 lo)).take (sIx items.size items.size hi - sIx items.size 0 lo)).toArray } })
 (hsz:items.size<=hP):CB (model prog w) A (Hl (.ref t) (.ref sl)) Q E s:=by
 have j:sizeOk (.seq ((items.toList.drop (sIx items.size 0 lo)).take (sIx items.size items.size hi - sIx items.size 0 lo)).toArray):=by
  show ((items.toList.drop (sIx items.size 0 lo)).take (sIx items.size items.size hi - sIx items.size 0 lo)).toArray.size<=hP;rw [t2,DO,FQ,Ga];omega
 have L:sIx items.size items.size hi<=items.size:=zi _ _ (q0 _) hi;obtain ⟨os,z,B,J⟩:=id hs;have F:s.TypeIs (.ref sl) "slice" := ⟨os,z,B⟩;unfold Hl
 try with_reducible refine De ?_
 first | refine b0 (hh ?_) | skip
 refine b0 (Jf ht.typeIs (by decide) ?_)
 refine b0 (CW (name:=D6 "__getitem__") ht.typeIs DK
  (D8 DK ht.typeIs Io ?_ (IT _ _)))
 show CB _ _ (Gu (.ref t) >>= _) _ _ s;refine b0 (tupleItemsOf_ ht ?_);refine b0 (F6 F ?_);rw [if_pos (by decide)]
 refine b0 (di hs pl pu ?_);have G : ¬ ((((sIx items.size 0 lo:Nat):Int)==0&&(1:Int)==1&&(sIx items.size items.size hi - sIx items.size 0 lo)==items.size)=true):=by
  intro q;rw [gV,gV] at q;have O:((sIx items.size 0 lo:Nat):Int)=0:=eq_of_beq q.1.1;have U:sIx items.size items.size hi - sIx items.size 0 lo=items.size:=eq_of_beq q.2;exact hw ⟨by omega,by omega⟩
 show CB _ _ (if (((sIx items.size 0 lo:Nat):Int)==0&&(1:Int)==1&&(sIx items.size items.size hi - sIx items.size 0 lo)==items.size)=true then _ else _) _ _ s
 rw [if_neg G,tW]
 first
  | exact b0 (m:=El _) (Dp (hh ⟨_,rfl,hh h⟩) j)
  | exact b0 (m:=El _) (Dp (b0 (hh (hh ⟨_,rfl,hh h⟩))) j)
  | exact b0 (b0 (m:=El _) (Dp (hh (hh ⟨_,rfl,hh h⟩)) j))
  | exact b0 (b0 (m:=El _) (Dp (hh ⟨_,rfl,hh h⟩) j))
end
end HT
namespace L2
open PySem PySem.Spec PyProof.Rows
section
noncomputable abbrev TO:=St->Hp->(Option Int->Hp->Prop)->Prop
def PO (X:Cx) (e:Option Expr) (t:TO):Prop :=
 ∀ (pins:List (Addr×Obj)) (s:h7) (σ:St) (H:Hp) (Q:Option Int->Hp->Prop),Inv X pins σ H s->t σ H Q ->
  CB (model X.prog X.w) X.A (evalPart e X.env) (fun u s' => ∃ o H',Inv X pins σ H' s'/\Hk u o/\Q o H') X.xe s
noncomputable def wP:TO:=fun _ H Q=>Q none H
noncomputable def AI (t:TE):TO:=fun σ H Q=>t σ H fun x H1 => ∃ i,x = .int i/\Q (some i) H1
section
variable {X:Cx} {e:Expr} {te:TE} {lo hi:Option Expr} {tl th:TO} {pos p2:Pos}
theorem wQ:PO X none wP:=by
 intro pins s σ H Q I h;rw [evalPart_none];exact hh ⟨none,H,I, .none,h⟩
theorem wR (h:PE X e te):PO X (some e) (AI te):=by
 intro pins s σ H Q I hw;rw [evalPart_some];refine thn (h pins s σ H _ I hw) fun u s1 ⟨x,H1,j,z,B⟩ => ?_;obtain ⟨i,rfl,q⟩:=B;obtain ⟨t,rfl⟩:=z;exact ⟨some i,H1,j, .int i t,q⟩
def SlR (X:Cx) (r:V->Option Int->Option Int->Hp->VK->Prop):Prop :=
 ∀ (pins:List (Addr×Obj)) (s:h7) (σ:St) (H:Hp) (x:V) (v vl vu:e6) (lo hi:Option Int) (sl:Addr) (Q:VK),Inv X pins σ H s->RelV x v->s.heap.IsSliceOf sl vl vu .none->Hk vl lo->Hk vu hi->r x lo hi H Q ->
  ∃ T id,typeLookup (.type T) "__getitem__" = pure (some (.builtin id))/\s.TypeIs v T/\CB (model X.prog X.w) X.A (Hl v (.ref sl)) (EP X pins σ Q) X.xe s
theorem SlR.or {r r':V->Option Int->Option Int->Hp->VK->Prop} (h:SlR X r) (h':SlR X r'):SlR X (fun x lo hi H Q=>r x lo hi H Q∨r' x lo hi H Q):=by
 intro pins s σ H x v vl vu lo hi sl Q I rx hs pl pu q
 rcases q with q | q
 ·exact h pins s σ H x v vl vu lo hi sl Q I rx hs pl pu q
 ·exact h' pins s σ H x v vl vu lo hi sl Q I rx hs pl pu q
noncomputable def tSl (r:V->Option Int->Option Int->Hp->VK->Prop) (te:TE) (tl th:TO):TE:=fun σ H Q=>te σ H fun x H1=>tl σ H1 fun l H2=>th σ H2 fun u H3=>r x l u H3 Q
theorem tX {r:V->Option Int->Option Int->Hp->VK->Prop} (hr:SlR X r) (he:PE X e te) (z:PO X lo tl) (B:PO X hi th):PE X (.Subscript e (.Slice lo hi none p2) pos) (tSl r te tl th):=by
 intro pins s σ H Q I h;refine Subscript_ (thn (he pins s σ H _ I h) fun v s1 ⟨x,H1,F,G,J⟩ => ?_);refine wpAny_Slice (thn (z pins s1 σ H1 _ F J) fun vl s2 ⟨l,H2,L,pl,O⟩=>thn (B pins s2 σ H2 _ L O) fun vu s3 ⟨u,j,U,pu,Y⟩ => ?_);rw [evalPart_none];refine hh ?_;have Z:Inv X pins σ j { s3 with heap:=s3.heap.push { cls := .type "slice",data := .fields #[vl,vu, .none] } }:=U.kept (t':=s3.toks) fun b ob q=>h8 _ q
 obtain ⟨T,id,hT,ht,hg⟩:=hr pins { s3 with heap:=s3.heap.push { cls := .type "slice",data := .fields #[vl,vu, .none] } } σ j x v vl vu l u s3.heap.objs.size Q Z G (Heap.IsSliceOf.new ..) pl pu Y
 show CB (model X.prog X.w) X.A (subscriptTail e (.Slice lo hi none p2) v (.ref s3.heap.objs.size)) (EP X pins σ Q) X.xe { s3 with heap:=s3.heap.push { cls := .type "slice",data := .fields #[vl,vu, .none] } }
 exact tail_any (ops := [.ref s3.heap.objs.size,v]) ht hT hg (by with_unfolding_all rfl)
noncomputable def fh (xs:List V) (lo hi:Option Int):List V:=(xs.drop (HT.sIx xs.length 0 lo)).take (HT.sIx xs.length xs.length hi - HT.sIx xs.length 0 lo)
theorem gw (xs:List V) (lo hi:Option Int):(fh xs lo hi).length<=xs.length:=by
 unfold fh;rw [DO,FQ];omega
noncomputable def Bw (K:Frag):V->Option Int->Option Int->Hp->VK->Prop:=fun x lo hi H Q => ∃ a xs,x = .ref a/\SqT K H a xs /\
 ¬ (HT.sIx xs.length 0 lo=0/\HT.sIx xs.length xs.length hi=xs.length) /\ ∀ p,H p=none->Q (.ref p) (upd H p (.tup (fh xs lo hi)))
theorem sl_tup:SlR X (Bw X.K):=by
 intro pins s σ H x v vl vu lo hi sl Q I rx hs pl pu h;obtain ⟨a,xs,rfl,hx,hw,q⟩:=h
 cases rx
 obtain ⟨its,r,ht,j⟩:=I.tuple hx;have hlen:its.toArray.size=xs.length:=by rw [t2];exact r.length.symm
 refine ⟨"tuple",_,PyProof.Rows.slot_tuple_getitem.lookup,ht.typeIs, ?_⟩;refine HT.getItem_tuple_cut ht hs pl pu (by rw [hlen];exact hw) ?_ (by rw [hlen];exact j)
 rw [hlen];refine ⟨.ref s.heap.objs.size,_,I.laid (t':=s.toks) (o := .tup (fh xs lo hi)) (fun b ob q=>h8 _ q) (q0 _) ?_,rfl,q _ (I.hok.fresh (q0 _))⟩;exact ⟨Dt (gw xs lo hi) j,_,(r.drop (HT.sIx xs.length 0 lo)).take (HT.sIx xs.length xs.length hi - HT.sIx xs.length 0 lo),Gj _ _⟩
noncomputable def vT (K:Frag):R2:=fun x y H Q => ∃ a b xs ys,x = .ref a/\y = .ref b/\SqT K H a xs/\SqT K H b ys/\xs≠[]/\xs.length+ys.length<=hP /\
 (ys=[]->Q (.ref a) H)/\(ys≠[] -> ∀ p,H p=none->Q (.ref p) (upd H p (.tup (xs++ys))))
theorem Vals.nil_iff {xs:List V} {us:List e6} (r:Vals xs us):us=[]↔xs=[]:=by
 cases r with
 | nil=>simp
 | cons _ _=>simp
theorem op_catT:OpR X (Dw .Add) (vT X.K):=by
 intro pins s σ H x y v u Q I rx ry h;obtain ⟨a,b,xs,ys,rfl,rfl,J,L,hx,F,O,U⟩:=h
 cases rx
 cases ry
 obtain ⟨its,B,p1,_⟩:=I.tuple J;obtain ⟨G,j,p2,_⟩:=I.tuple L;refine HT.cat_tup p1 p2 (fun z=>hx (B.nil_iff.mp z)) (fun z=>⟨.ref a,H,I,rfl,O (j.nil_iff.mp z)⟩) (fun z => ?_) (by rw [<- B.length, <- j.length];exact F)
 refine ⟨.ref s.heap.objs.size,_,I.laid (t':=s.toks) (o := .tup (xs++ys)) (fun b ob q=>h8 _ q) (q0 _) ?_,rfl,U (fun w=>z (j.nil_iff.mpr w)) _ (I.hok.fresh (q0 _))⟩;exact ⟨by rw [z4];exact F,_,B.append j,Gj _ _⟩
end
end
section
noncomputable def ixN (n:Nat) (i:Int):Option Nat:=if 0<=i then (if i < n then some i.toNat else none) else if -(n:Int)<=i then some (i+n).toNat else none
noncomputable def atI {α:Type} (xs:List α) (i:Int):Option α := (ixN xs.length i).bind fun j=>xs[j]?
theorem nK {n:Nat} {i:Int} {j:Nat} (h:ixN n i=some j):seqIndex? i n=some j/\j < n /\ -(n:Int)<=i/\i < n:=by
 unfold ixN at h
 by_cases h0 : 0<=i
 ·rw [if_pos h0] at h
  by_cases h1:i < n
  ·rw [if_pos h1] at h;have e:i.toNat=j:=DE.inj h;exact ⟨by rw [JS h0 h1,e],by omega,by omega,h1⟩
  ·rw [if_neg h1] at h;cases h
 ·rw [if_neg h0] at h
  by_cases h1 : -(n:Int)<=i
  ·rw [if_pos h1] at h;have e:(i+n).toNat=j:=DE.inj h;exact ⟨by rw [Jg (by omega) h1,e],by omega,h1,by omega⟩
  ·rw [if_neg h1] at h;cases h
theorem nM {α:Type} {xs:List α} {i:Int} {v : α} (h:atI xs i=some v):∃ j,seqIndex? i xs.length=some j/\xs[j]? = some v/\j < xs.length /\ -(xs.length:Int)<=i/\i < xs.length:=by
 unfold atI at h
 cases e:ixN xs.length i with
 | none=>rw [e] at h;cases h
 | some j =>
   rw [e] at h;obtain ⟨h1,h2,q,z⟩:=nK e;exact ⟨j,h1,h,h2,q,z⟩
def iW (b:Expr):Prop := ∀ o i,subscripted b false o i=operate [o,i] (Hl o i)
def IxR (X:Cx) (r:R2):Prop :=
 ∀ (value slice:Expr) (pins:List (Addr×Obj)) (s:h7) (σ:St) (H:Hp) (x y:V) (v u:e6) (Q:VK),Inv X pins σ H s->RelV x v->RelV y u->r x y H Q ->
  subscripted slice false v u=operate [v,u] (Hl v u)->CB (model X.prog X.w) X.A (subscriptTail value slice v u) (EP X pins σ Q) X.xe s
def MtR (X:Cx) (id:String) (r:V->List V->Hp->VK->Prop):Prop :=
 ∀ (pins:List (Addr×Obj)) (s:h7) (σ:St) (H:Hp) (x:V) (xs:List V) (v:e6) (us:List e6) (Q:VK),Inv X pins σ H s->RelV x v->Vals xs us->r x xs H Q ->
  CB (model X.prog X.w) X.A (call (.builtin id) (v::us)) (EP X pins σ Q) X.xe s
section
variable {X:Cx} {a b:Expr} {ta tb:TE} {pos:Pos}
theorem IxR.or {r r':R2} (h:IxR X r) (h':IxR X r'):IxR X (fun x y H Q=>r x y H Q∨r' x y H Q):=by
 intro value slice pins s σ H x y v u Q I rx ry q hs
 rcases q with q | q
 ·exact h value slice pins s σ H x y v u Q I rx ry q hs
 ·exact h' value slice pins s σ H x y v u Q I rx ry q hs
theorem AJ {r:R2} (hr:IxR X r) (j:PE X a ta) (z:PE X b tb) (hs:iW b):PE X (.Subscript a b pos) (tOp r ta tb):=by
 intro pins s σ H Q I h;exact Subscript_ (tO j z I h fun v u s2 x y H2 B rx ry q=>hr a b pins s2 σ H2 x y v u Q B rx ry q (hs _ _))
noncomputable def By (K:Frag):R2:=fun x y H Q => ∃ p xs i v,x = .ref p/\y = .int i/\SqL K H p xs/\atI xs i=some v/\Q v H
noncomputable def Bz (K:Frag):R2:=fun x y H Q => ∃ p xs i v,x = .ref p/\y = .int i/\SqT K H p xs/\atI xs i=some v/\Q v H
theorem ix_list:IxR X (By X.K):=by
 intro value slice pins s σ H x y v u Q I rx ry h hs;obtain ⟨p,xs,i,z,rfl,rfl,F,he,q⟩:=h
 cases rx
 obtain ⟨t,rfl⟩:=ry;obtain ⟨its,r,pl,O⟩:=I.list F;obtain ⟨j,h1,h2,U,G,J⟩:=nM he;obtain ⟨w,ew,rw'⟩:=r.get h2;have L:=r.length;have Y:=fg;have fin:EP X pins σ Q w s:=⟨z,H,I,rw',q⟩
 by_cases h0 : 0<=i
 ·have B:i.toNat=j:=by
   rw [JS h0 J] at h1;exact DE.inj h1
  exact item_listR pl.isList h0 (by omega) (by rw [B];simpa using ew) fin hs
 ·have B:(i+(its.toArray.size:Int)).toNat=j:=by
   rw [Jg (by omega) G] at h1
   rw [t2, <- L];exact DE.inj h1
  exact Hm (x:=w) pl.isList.typeIs slot_list_getitem.lookup
   (wpAny_getItem_list_neg (Q:=fun r s'=>r=w/\EP X pins σ Q r s') pl.isList (by omega) (by rw [t2] <;> omega) (by omega) (by rw [B];simpa using ew) ⟨rfl,fin⟩) hs
theorem ix_tup:IxR X (Bz X.K):=by
 intro value slice pins s σ H x y v u Q I rx ry h hs;obtain ⟨p,xs,i,z,rfl,rfl,B,he,q⟩:=h
 cases rx
 obtain ⟨t,rfl⟩:=ry;obtain ⟨its,r,pl,G⟩:=I.tuple B;obtain ⟨j,h1,h2,J,L,O⟩:=nM he;obtain ⟨w,ew,rw'⟩:=r.get h2;have F:=r.length;have U:=fg;have fin:EP X pins σ Q w s:=⟨z,H,I,rw',q⟩;exact Hm (x:=w) pl.typeIs slot_tuple_getitem.lookup
  (getItem_tuple (j:=j) (Q:=fun r s'=>r=w/\EP X pins σ Q r s') pl (by omega) (by omega) (by rw [t2, <- F];exact h1) (by simpa using ew) ⟨rfl,fin⟩) hs
theorem pB (its:List e6) (n j:Nat) (u:e6):Hn (·.setIfInBounds j u) { cls := .type "list",data := .seq its.toArray n } = { cls := .type "list",data := .seq (its.set j u).toArray n }:=by
 simp [Hn]
theorem Inv.lst {pins:List (Addr×Obj)} {σ:St} {H:Hp} {s:h7} {p:Addr} {xs:List V} (I:Inv X pins σ H s) (h:H p=some (.lst xs)) :
 ∃ (its:List e6) (n:Nat),Vals xs its/\s.heap.get? p=some { cls := .type "list",data := .seq its.toArray n }/\xs.length<=hP:=by
 obtain ⟨z,its,n,r,e⟩:=I.hok p _ h;exact ⟨its,n,r,e,z⟩
theorem Inv.lstUpd {pins:List (Addr×Obj)} {σ:St} {H:Hp} {s:h7} {p:Addr} {xs ys:List V} {its its':List e6} {n n':Nat} {f:Obj->Obj} (I:Inv X pins σ H s) (h:H p=some (.lst xs))
 (ho:s.heap.get? p=some { cls := .type "list",data := .seq its.toArray n }) (hf:f { cls := .type "list",data := .seq its.toArray n } = { cls := .type "list",data := .seq its'.toArray n' }) (r:Vals ys its') (j:ys.length<=hP) (t:Nat) :
 Inv X pins σ (upd H p (.lst ys)) { s with heap:=s.heap.update p f,toks:=t }:=by
 have e:(s.heap.update p f).get? p=some { cls := .type "list",data := .seq its'.toArray n' }:=by
  rw [DL f ho (by rw [hf] <;> rfl),hf]
 refine I.write (x:=p) (e:=p) (by rw [h];trivial) (.inl rfl) (fun b u z q=>(Di _ _ (Ne.symm z)).trans q) ⟨_,e⟩ ?_
 exact ⟨j,its',n',r,e⟩
noncomputable def vU:V->V->V->Hp->(Hp->Prop)->Prop:=fun o i v H Q => ∃ p xs k j,o = .ref p/\i = .int k/\H p=some (.lst xs)/\ixN xs.length k=some j/\Q (upd H p (.lst (xs.set j v)))
theorem ko:PSet X vU:=by
 intro pins s σ H o i v ov iv u Q I ro ri rv h;obtain ⟨p,xs,k,j,rfl,rfl,F,L,q⟩:=h
 cases ro
 obtain ⟨t,rfl⟩:=ri;obtain ⟨its,n,r,ho,O⟩:=I.lst F;obtain ⟨h1,h2,G,J⟩:=nK L;have z:=r.length;have U:=fg;have I':Inv X pins σ (upd H p (.lst (xs.set j v))) { s with heap:=s.heap.update p (Hn (·.setIfInBounds j u)) } :=
  I.lstUpd F ho (pB its n j u) (r.set rv j) (by rw [G2];exact O) s.toks
 by_cases h0 : 0<=k
 ·have B:k.toNat=j:=by
   rw [JS h0 J] at h1;exact DE.inj h1
  exact PySem.W.ki_setAt ho h0 (by omega) (by rw [t2, <- z];exact J) (by rw [B];exact ⟨_,I',q⟩)
 ·have B:(k+(its.toArray.size:Int)).toNat=j:=by
   rw [Jg (by omega) G] at h1
   rw [t2, <- z];exact DE.inj h1
  exact PySem.W.ki_setBack ho (by omega) (by rw [t2, <- z];exact G) (by omega) (by rw [B];exact ⟨_,I',q⟩)
theorem kr (lo hi:Option Int) (n:Nat):(Fw lo hi none n).1=((HT.sIx n 0 lo:Nat):Int)/\(Fw lo hi none n).2.1=((HT.sIx n n hi:Nat):Int)/\(Fw lo hi none n).2.2=1:=by
 refine ⟨?_, ?_,rfl⟩
 ·cases lo with
  | none=>simp [Fw,HT.sIx]
  | some i =>
    simp only [Fw,HT.sIx,Jy,show (1:Int) > 0 by decide,if_true]
    by_cases h:i < 0
    ·simp only [h,if_true] <;> omega
    ·simp only [h,if_false] <;> omega
 ·cases hi with
  | none=>simp [Fw,HT.sIx]
  | some i =>
    simp only [Fw,HT.sIx,Jy,show (1:Int) > 0 by decide,if_true]
    by_cases h:i < 0
    ·simp only [h,if_true] <;> omega
    ·simp only [h,if_false] <;> omega
theorem jN (its:List e6) (lo hi:Option Int):slicePick its.toArray lo hi none=((its.drop (HT.sIx its.length 0 lo)).take (HT.sIx its.length its.length hi - HT.sIx its.length 0 lo)).toArray:=by
 obtain ⟨h1,h2,j⟩:=kr lo hi its.toArray.size;unfold slicePick;rw [h1,h2,j];simp only [sliceRange_one,pick_run,t2] <;> rfl
noncomputable def BA (K:Frag):V->Option Int->Option Int->Hp->VK->Prop:=fun x lo hi H Q => ∃ a xs,x = .ref a/\SqL K H a xs /\ ∀ p,H p=none->Q (.ref p) (upd H p (.lst (fh xs lo hi)))
theorem sl_list:SlR X (BA X.K):=by
 intro pins s σ H x v vl vu lo hi sl Q I rx hs pl pu h;obtain ⟨a,xs,rfl,hx,q⟩:=h
 cases rx
 obtain ⟨its,r,ht,j⟩:=I.list hx;have hlen:=r.length;refine ⟨"list",_,slot_list_getitem.lookup,ht.isList.typeIs, ?_⟩;refine wpAny_getItem_list_slice ht.isList hs pl pu .none (by simp) ?_ (by rw [t2] <;> omega)
 rw [jN, <- hlen];refine ⟨.ref s.heap.objs.size,_,I.laid (t':=s.toks) (o := .lst (fh xs lo hi)) (fun b ob q=>h8 _ q) (q0 _) ?_,rfl,q _ (I.hok.fresh (q0 _))⟩;exact ⟨Dt (gw xs lo hi) j,_,0,(r.drop (HT.sIx xs.length 0 lo)).take (HT.sIx xs.length xs.length hi - HT.sIx xs.length 0 lo),hQ _ rfl⟩
theorem ku:CallR X (.type "list") (fun xs H Q => ∃ p ys,xs=[.ref p]/\(SqL X.K H p ys∨SqT X.K H p ys) /\ ∀ l,H l=none->Q (.ref l) (upd H l (.lst ys))):=by
 intro pins s σ H xs us Q I r h;obtain ⟨p,ys,rfl,j,q⟩:=h;obtain ⟨u,rfl,rx⟩:=eh r
 cases rx
 have fin:∀ (its:List e6),Vals ys its->ys.length<=hP -> ∀ (h':Heap) (c':Nat),(∀ b o',s.heap.get? b=some o'->h'.get? b=some o') ->
  h'.get? s.heap.objs.size=some { cls := .type "list",dict:=none,data := .seq its.toArray c',slots := #[] }->EP X pins σ Q (.ref s.heap.objs.size) { s with heap:=h' }:=fun its r' z h' c' kp e =>
  ⟨.ref s.heap.objs.size,_,I.laid (t':=s.toks) kp (q0 _) (show ObjOk X.prog X.w _ h' _ (.lst ys) from ⟨z,its,c',r',e⟩),rfl,q _ (I.hok.fresh (q0 _))⟩
 rcases j with j | j
 ·obtain ⟨its,r',pl,z⟩:=I.list j;have hlen:=r'.length;obtain ⟨o,ho,B,n,hd⟩:=pl.isList;exact call_list_seq p (.inl rfl) ho B hd (fun h' c' kp e=>fin its r' z h' c' kp e) (by simp only [t2] <;> omega)
 ·obtain ⟨its,r',pl,z⟩:=I.tuple j;have hlen:=r'.length;obtain ⟨o,ho,B,n,hd⟩:=pl;exact call_list_seq p (.inr rfl) ho B hd (fun h' c' kp e=>fin its r' z h' c' kp e) (by simp only [t2] <;> omega)
theorem jO:CallR X (.type "tuple") (fun xs H Q => ∃ p ys,xs=[.ref p]/\((SqL X.K H p ys /\ ∀ l,H l=none->Q (.ref l) (upd H l (.tup ys)))∨(SqT X.K H p ys/\Q (.ref p) H))):=by
 intro pins s σ H xs us Q I r h;obtain ⟨p,ys,rfl,h⟩:=h;obtain ⟨u,rfl,rx⟩:=eh r
 cases rx
 rcases h with ⟨j,q⟩ | ⟨j,q⟩
 ·obtain ⟨its,r',pl,z⟩:=I.list j;have hlen:=r'.length;refine call_tuple_list pl.isList (fun h' kp => ?_) (by simp only [t2] <;> omega)
  have B:Inv X pins σ H { s with heap:=h' }:=I.kept (t':=s.toks) kp
  have F:Inv X pins σ (upd H h'.objs.size (.tup ys)) { s with heap:=h'.push { cls := .type "tuple",data := .seq its.toArray } } :=
   B.laid (t':=s.toks) (fun b o e=>h8 _ e) (q0 _) (show ObjOk X.prog X.w _ _ _ (.tup ys) from ⟨z,its,r',Gj _ _⟩)
  exact ⟨.ref h'.objs.size,_,F,rfl,q _ (B.hok.fresh (q0 _))⟩
 ·obtain ⟨its,r',pl,z⟩:=I.tuple j;exact call_tuple_same pl ⟨.ref p,H,I,rfl,q⟩
def tyV (K:Frag) (T:String) (x:V) (H:Hp):Prop:=match x with
 | .str _=>T = "str"
 | .int _=>T = "int"
 | .ref p=>(T = "list" /\ ∃ xs,SqL K H p xs)∨(T = "tuple" /\ ∃ o,K.lookup p=some o/\o.cls = .type "tuple" /\ o.dict=none) ∨
  (T = "dict" /\ ((∃ kvs,H p=some (.dK kvs)) ∨ ∃ kvs,H p=some (.dT kvs)))∨(T = "set" /\ ∃ S n,H p=some (.set S n))
 | _=>False
theorem qY {pins:List (Addr×Obj)} {σ:St} {H:Hp} {s:h7} {T:String} {x:V} {v:e6} (I:Inv X pins σ H s) (r:RelV x v) (ty:tyV X.K T x H) :
 s.TypeIs v T /\ ∀ a,v = .ref a -> ∃ ob,s.heap.get? a=some ob/\ob.dict=none:=by
 cases x with
 | str z =>
   obtain ⟨t,rfl⟩:=r
   cases (show T = "str" from ty)
   exact ⟨typeIs_str s z t,fun _ e=>nomatch e⟩
 | int i =>
   obtain ⟨t,rfl⟩:=r
   cases (show T = "int" from ty)
   exact ⟨Ho s i t,fun _ e=>nomatch e⟩
 | ref p =>
   cases r
   rcases ty with ⟨rfl,xs,B⟩ | ⟨rfl,o,j,F,hd⟩ | ⟨rfl,j⟩ | ⟨rfl,S,n,j⟩
   ·obtain ⟨its,_,pl,_⟩:=I.list B;refine ⟨pl.isList.typeIs,fun a e => ?_⟩
    cases e
    obtain ⟨o,n,e,c,hd,_⟩:=pl;exact ⟨o,e,hd⟩
   ·refine ⟨⟨o,I.kIn p o j,F⟩,fun a e => ?_⟩
    cases e
    exact ⟨o,I.kIn _ o j,hd⟩
   ·have z:∃ o,s.heap.get? p=some o/\o.ExactDict:=by
     rcases j with ⟨kvs,j⟩ | ⟨kvs,j⟩
     ·obtain ⟨_,_,_,_,o,_,_,e,ex,_⟩:=I.hok p _ j;exact ⟨o,e,ex⟩
     ·obtain ⟨_,_,_,_,o,_,_,e,ex,_⟩:=I.hok p _ j;exact ⟨o,e,ex⟩
    obtain ⟨o,e,ex⟩:=z;refine ⟨⟨o,e,ex.1⟩,fun a q => ?_⟩
    cases q
    exact ⟨o,e,ex.2.1⟩
   ·obtain ⟨o,_,_,_,e,ex,_⟩:=I.hok p _ j;refine ⟨⟨o,e,ex.1⟩,fun a q => ?_⟩
    cases q
    exact ⟨o,e,ex.2.1⟩
 | _=>exact False.elim ty
noncomputable def zj (K:Frag) (T:String) (r:V->List V->Hp->VK->Prop) (to:TE):TE:=fun σ H Q=>to σ H fun x H1=>tyV K T x H1/\r x [] H1 Q
noncomputable def tBM (K:Frag) (T:String) (r:V->List V->Hp->VK->Prop) (to:TE) (t:TA):TE:=fun σ H Q=>to σ H fun x H1=>tyV K T x H1/\t σ H1 fun xs H2=>r x xs H2 Q
variable {o e:Expr} {es:List Expr} {to:TE} {t:TA} {name:Str} {apos cpos:Pos} {T id:String} {r:V->List V->Hp->VK->Prop}
theorem zk (pa:PlainAttrs T) (slot:Slot T name id) (z:typeOf (.builtin id)=pure (.type "method_descriptor")) (hm:MtR X id r) (ho:PE X o to)
 (j:FU o name X.env (eval o X.env)=eval o X.env:=by rfl) (q:(apos.endLine==cpos.line)=true:=by rfl):PE X (.Call (.Attribute o name apos) [] [] cpos) (zj X.K T r to):=by
 intro pins s σ H Q I h;refine wpAny_Call_method0_late j q (thn (ho pins s σ H _ I h) fun v s1 ⟨x,H1,B,F,ty,G⟩ => ?_);obtain ⟨h1,h2⟩:=qY B F ty;exact ⟨T,id,pa,slot,z,h1,h2,FI rfl (PySem.evalArgs_none (hm pins s1 σ H1 x [] v [] Q B F .nil G))⟩
theorem AK (pa:PlainAttrs T) (slot:Slot T name id) (F:typeOf (.builtin id)=pure (.type "method_descriptor")) (hm:MtR X id r) (ho:PE X o to) (O:PA X (e::es) t)
 (q:FU o name X.env (eval o X.env)=eval o X.env:=by rfl)
 (B:((Es cpos (CF (e::es) X.env)).all (fun x => !x.1)&&(Kf cpos (HP [] X.env)).all (fun x=>x.1.isSome)
   && decide ((e::es).length+([]:List Gf).length+(if ([]:List Gf).isEmpty then 0 else 1) < 30))=true:=by rfl)
 (z:(apos.endLine==cpos.line)=true:=by rfl) (hs:CF (e::es) X.env=(false,eval e X.env)::CF es X.env:=by rfl) (j:(Es cpos (CF es X.env)).any (·.1)=false:=by rfl) :
 PE X (.Call (.Attribute o name apos) (e::es) [] cpos) (tBM X.K T r to t):=by
 intro pins s σ H Q I h;refine wpAny_Call_method_late q B z rfl (thn (ho pins s σ H _ I h) fun v s1 ⟨x,H1,G,J,ty,U⟩ => ?_);obtain ⟨h1,h2⟩:=qY G J ty;refine ⟨T,id,pa,slot,F,h1,h2, ?_⟩;have L:=O cpos pins s1 σ H1 _ G U;rw [hs] at L ⊢;refine FI (by show (false || (Es cpos (CF es X.env)).any (·.1))=false;rw [j] <;> rfl) (FW ?_)
 exact thn L fun us s2 ⟨vs,H2,Y,Z,q2⟩=>hm pins s2 σ H2 x vs v us Q Y J Z q2
end
end
section
def MtM (X:Cx) (id:String) (r:V->List V->Hp->VK->Prop):Prop :=
 ∀ (pins:List (Addr×Obj)) (s:h7) (σ:St) (H:Hp) (x:V) (xs:List V) (v:e6) (us:List e6) (Q:VK),Inv X pins σ H s->RelV x v->Vals xs us->r x xs H Q ->
  CB (model X.prog X.w) X.A (call (.builtin id) (v::us)) (EP X pins σ Q) X.xe s
theorem Vals.one:∀ {x:V} {us:List e6},Vals [x] us -> ∃ u,us=[u]/\RelV x u
 | _,_, .cons r .nil=>⟨_,rfl,r⟩
theorem Vals.zero:∀ {us:List e6},Vals [] us->us=[]
 | _, .nil=>rfl
theorem Vals.eraseIdx:∀ {xs:List V} {us:List e6} (i:Nat),Vals xs us->Vals (xs.eraseIdx i) (us.eraseIdx i)
 | _,_,_, .nil => .nil
 | _,_,0, .cons _ t=>t
 | _,_,i+1, .cons r t => .cons r (Vals.eraseIdx i t)
theorem Vals.reverse {xs:List V} {us:List e6} (h:Vals xs us):Vals xs.reverse us.reverse:=by
 induction h with
 | nil=>exact .nil
 | cons r t ih=>rw [EV,EV];exact Vals.append ih (.cons r .nil)
theorem Vals.rep {xs:List V} {us:List e6} (h:Vals xs us):∀ k:Nat,Vals (CD k xs).flatten (CD k us).flatten
 | 0 => .nil
 | k+1=>by
   rw [Dm,Dm,DY,DY];exact Vals.append h (Vals.rep h k)
theorem fj (its:List e6):∀ (k:Nat) (acc:List e6),
 IU (fun x1 j=>x1++j) acc.toArray (CD k its.toArray)=(acc++(CD k its).flatten).toArray
 | 0,acc=>by simp
 | k+1,acc=>by
   have e:acc.toArray++its.toArray=(acc++its).toArray:=by simp
   have q:(acc++its)++(CD k its).flatten=acc++(CD (k+1) its).flatten:=by
    rw [Dm,DY,Ei]
   rw [<- q, <- fj its k (acc++its), <- e,Dm,G3]
section
variable {X:Cx} {pins:List (Addr×Obj)} {σ:St} {H:Hp} {s:h7} {l b:Addr} {xs ys zs:List V}
theorem Inv.lset {its its':List e6} {n:Nat} {f:Array e6->Array e6} {t':Nat} (I:Inv X pins σ H s) (j:H l=some (.lst xs))
 (e:s.heap.get? l=some { cls := .type "list",data := .seq its.toArray n }) (hf:f its.toArray=its'.toArray) (z:Vals ys its') (B:ys.length<=hP) :
 Inv X pins σ (upd H l (.lst ys)) { s with heap:=s.heap.update l (Hn f),toks:=t' }:=by
 have q:=PySem.IsL.update e f;rw [hf] at q;refine I.write (x:=l) (e:=l) (by rw [j];exact trivial) (.inl rfl) (fun b' u F G=>(Di s.heap (Hn f) (Ne.symm F)).trans G) ⟨_,q⟩ ?_
 exact ⟨B,its',_,z,q⟩
theorem Inv.lnew {its:List e6} {t':Nat} (I:Inv X pins σ H s) (j:Vals ys its) (z:ys.length<=hP) :
 Inv X pins σ (upd H s.heap.objs.size (.lst ys)) { s with heap:=s.heap.push { cls := .type "list",data := .seq its.toArray },toks:=t' } :=
 I.laid (fun _ _ q=>h8 _ q) (q0 _) ⟨z,its,0,j,hQ _ rfl⟩
theorem Inv.fresh (I:Inv X pins σ H s):H s.heap.objs.size=none:=I.hok.fresh (q0 _)
theorem Inv.lstM (I:Inv X pins σ H s) (j:H l=some (.lst xs)):xs.length<=hP /\ ∃ (its:List e6) (n:Nat),Vals xs its/\xs.length=its.length/\s.heap.get? l=some { cls := .type "list",data := .seq its.toArray n }:=by
 obtain ⟨z,its,n,r,e⟩:=I.hok l _ j;exact ⟨z,its,n,r,r.length,e⟩
theorem tY {n:Nat} (h:n<=hP):Fk n=false:=by
 unfold Fk;exact decide_eq_false (by omega)
end
section
variable {X:Cx}
noncomputable def nN:V->List V->Hp->VK->Prop:=fun x vs H Q => ∃ l xs y,x = .ref l/\vs=[y]/\H l=some (.lst xs)/\xs.length < hP/\Q .non (upd H l (.lst (xs++[y])))
theorem jq:MtM X "list.append" nN:=by
 intro pins s σ H x vs v us Q I rx rv h;obtain ⟨l,xs,y,rfl,rfl,j,B,q⟩:=h
 cases rx
 obtain ⟨u,rfl,ru⟩:=rv.one;obtain ⟨z,its,n,r,G,e⟩:=I.lstM j;refine Gv F.slot_list_append ⟨_,e,rfl⟩ F.entry_list_append (F.args_list_append_2 _ _) (PySem.list_append l its.toArray n u (by rw [t2];omega)) ⟨e, ?_⟩
 refine ⟨.non,_,I.lset (its':=its++[u]) j e (by simp) (r.append (.cons ru .nil)) ?_,rfl,q⟩
 rw [z4,HH];omega
noncomputable def qZ:V->List V->Hp->VK->Prop:=fun x vs H Q => ∃ l xs,x = .ref l/\vs=[]/\H l=some (.lst xs)/\Q .non (upd H l (.lst []))
theorem tZ:MtM X "list.clear" qZ:=by
 intro pins s σ H x vs v us Q I rx rv h;obtain ⟨l,xs,rfl,rfl,B,q⟩:=h
 cases rx
 have j:=rv.zero;subst j;obtain ⟨z,its,n,r,G,e⟩:=I.lstM B;refine Gv F.slot_list_clear ⟨_,e,rfl⟩ F.entry_list_clear (F.args_list_clear_1 _) (AutoSeq1.list_clear_list_0 l its.toArray n (by rw [t2];omega)) ⟨e, ?_⟩
 exact ⟨.non,_,I.lset (its' := []) (ys := []) B e rfl .nil (DH _),rfl,q⟩
noncomputable def BB:R2:=fun x y H Q => ∃ l b xs zs,x = .ref l/\y = .ref b/\H l=some (.lst xs)/\H b=some (.lst zs)/\xs.length+zs.length<=hP /\ ∀ p,H p=none->Q (.ref p) (upd H p (.lst (xs++zs)))
theorem op_cat:OpR X (Dw .Add) BB:=by
 intro pins s σ H x y v u Q I rx ry h;obtain ⟨l,b,xs,zs,rfl,rfl,B,F,O,q⟩:=h
 cases rx
 cases ry
 obtain ⟨z,its,n,r,U,e⟩:=I.lstM B;obtain ⟨Y,j,n2,G,J,L⟩:=I.lstM F;refine PySem.P.add_list e L ?_ (by rw [t2,t2];omega)
 have ea:its.toArray++j.toArray=(its++j).toArray:=by simp
 rw [ea];exact ⟨.ref _,_,I.lnew (t':=s.toks) (r.append G) (by rw [z4];omega),rfl,q _ I.fresh⟩
noncomputable def BC:R2:=fun x y H Q => ∃ l k xs,x = .ref l/\y = .int k/\H l=some (.lst xs) /\ -(2 ^ 63)<=k/\k < 2 ^ 63/\xs.length*k.toNat<=hP /\
 ∀ p,H p=none->Q (.ref p) (upd H p (.lst (CD k.toNat xs).flatten))
theorem nO {α:Type} (xs:List α) (k:Nat):(CD k xs).flatten.length=k*xs.length:=by
 induction k with
 | zero=>simp
 | succ k ih=>rw [Dm,DY,z4,ih,F7,Nat.add_comm]
theorem op_rep:OpR X (Dw .Mult) BC:=by
 intro pins s σ H x y v u Q I rx ry h;obtain ⟨l,k,xs,rfl,rfl,Y,h1,h2,O,q⟩:=h
 cases rx
 obtain ⟨t,rfl⟩:=ry;obtain ⟨z,its,n,r,Z,e⟩:=I.lstM Y;have hlen:its.toArray.size*k.toNat<=hP:=by rw [t2, <- Z];exact O
 have B : ¬ its.toArray.size*k.toNat > (2 ^ 63 - 1) / 8:=by
  have:(hP:Nat)<=(2 ^ 63 - 1) / 8:=by decide
  omega
 have G : ¬ (!Builtin.List.listFitsIndex k)=true:=by
  rw [fitsIndex_both h1 h2];exact hG
 have j : ¬ Fk (its.toArray.size*k.toNat)=true:=by
  rw [tY hlen];exact hG
 have J:IU (fun x1 L=>x1++L) #[] (CD (if its.toArray.isEmpty=true then 0 else k.toNat) its.toArray)=(CD k.toNat its).flatten.toArray:=by
  have f0:∀ m:Nat,IU (fun x1 L=>x1++L) #[] (CD m its.toArray)=(CD m its).flatten.toArray:=fun m=>by
   have:=fj its m [];rw [Hz] at this;exact this
  rw [f0]
  cases its with
  | nil=>simp
  | cons a r'=>rw [if_neg (by simp)]
 refine GF (T := "list") (U := "int") (by decide) ⟨_,e,rfl⟩ (fun s'=>Ho s' k t) noFill_list_mul JZ G4 repeat_list F.slot_int_index.lookup
  (Gv G4 (Ho s k t) Jz (Jh _ _) (int___rmul___int_list k t l its.toArray n)
    ⟨e,rfl,⟨_,e,rfl⟩,Gv F.slot_list_mul ⟨_,e,rfl⟩ F.entry_list_mul (F.args_list_mul_2 _ _) (AutoListH.list___mul___list_int_3 l its.toArray n k t G B j) ⟨e, ?_⟩⟩)
 rw [J];exact ⟨.ref _,_,I.lnew (t':=s.toks) (r.rep k.toNat) (by rw [nO,Nat.mul_comm];exact O),rfl,q _ I.fresh⟩
end
end
end L2
namespace Att
open PySem PySem.W PySem.Calls PyProof.Rows
theorem i6 {P:Params} {h:Heap}:∀ (ns:List Int) (vs:List e6),WellAll P h vs (ns.map WData.int)->K7 vs ns:=by
 intro ns
 induction ns with
 | nil =>
   intro vs w;rw [Gg] at w
   cases w
   exact .nil
 | cons n ns ih =>
   intro vs w;rw [CJ] at w
   cases w with
   | cons a b =>
     cases a
     exact .cons _ _ (ih _ b)
theorem r6 {l:OpenLaw} {n:Nat} (O:l.most=some n) {P:Params} {h:Heap} {args:List WData} {vals:List e6}
 (j:l.row.toRowW.claim.pre args=true) (G:WellAll P h vals args) :
 ∃ a vs ns,vals=[CO a]/\args=[WData.list (ns.map WData.int)]/\h.get? a=some { cls := .type "list",data := .seq vs.toArray }/\K7 vs ns/\ns.length<=n:=by
 have J:WShape.hasAll [] args [.list .int]=true:=(pre_splitW j).1;have L:l.pre.holds [] { args:=args }=true:=(pre_splitW j).2;obtain ⟨d,r,rfl,h1,h2⟩:=hasAllW_cons J;obtain rfl:=hasAllW_nil h2;obtain ⟨xs,rfl,U⟩:=hasW_list h1;obtain ⟨ns,rfl⟩:=items_int U;have hlen:ns.length<=n:=by
  unfold OpenLaw.pre at L;have B:(WTm.not (.lt (.lit (.int (n:Int))) (.len (.arg 0)))).holds [] { args := [.list (ns.map .int)] }=true:=by
   have B:=(holds_andW L).1;rw [O] at B;exact B
  have F:=condW_of B (w_not (w_lt w_lit (w_len_list (w_arg rfl))));rw [v5] at F;refine Nat.le_of_not_lt fun q => ?_;have q':(n:Int) < ((ns.length:Nat):Int):=by omega
  first
   | (rw [decide_eq_true q'] at F;exact absurd F (by decide))
   | (simp at F;omega)
 cases G with
 | cons Y Z =>
   cases Z
   cases Y with
   | list ho z=>exact ⟨_,_,ns,rfl,rfl,ho,i6 ns _ z,hlen⟩
theorem r8 (l:OpenLaw) (args:List WData):l.row.toRowW.claim.post args (.bool true) args=true :=
 postW_of (r:=l.row.toRowW) (X:=(true==true))
  (show WShape.has [] (.bool true) .bool=true by first | rfl | decide | simp [WShape.has,WShape.arms,WShape.armsAll])
  (show (WTm.eq .res (.lit (.bool true))).value [] { args:=args,res:=some (.bool true),after:=args }=some (.bool (true==true)) from w_eq_bool (w_res rfl) w_lit) rfl
theorem attach_call {l:OpenLaw} {n:Nat} {q:CG} {loose:List Str} {XP:(Str->Option e6)->Heap->Prop} {YP:CT->Heap->Prop} {d:DefRec}
 (Z:l.most=some n) (B:d.params.defaults=[])
 (call:∀ (w:CT) (s₀ s₁:h7) (mg mb:Str->Option e6) (fa:Addr) (o:Obj) (pm cd doc:e6) (a:Addr) (vs:List e6) (ns:List Int),
   Ground q loose [] XP w s₀ mg mb s₁.heap->YP w s₁.heap ->
   s₁.heap.get? fa=some o->o.data = .func (docDef d.name d.params d.body d.scope pm cd doc)->s₁.heap.CodeRec cd d.name->mg d.name=some (.ref fa) ->
   s₁.heap.get? a=some { cls := .type "list",data := .seq vs.toArray }->K7 vs ns->ns.length<=n->s₁.gens = #[] ->
   Gd (model l.prog w) Ii (.call (.ref fa) ⟨[.ref a],[]⟩) (fun r s'=>r = .ok (.ret (.bool true))/\OldK s₁.heap s'.heap/\s'.os=s₁.os/\Gc s'.gens) s₁) :
 WalkO q loose XP YP l.row.toRowW d [] (fun f vs=>Kg f vs):=by
 intro w s₀ s₁ mg mb G Y fa o pm cd doc dV kV ho hd F O J hg args vals as j U BN L BO;obtain rfl:dV = .none:=Dflts.none O B;obtain rfl:kV = .none:=Dflts.noKw O;obtain ⟨a,vs,ns,rfl,rfl,z,hints,hlen⟩:=r6 Z j L;refine enter_call (FF (call w s₀ s₁ mg mb fa o pm cd doc a vs ns G Y ho (fd_plain hd) F J z hints hlen hg) fun r s' hq => ?_);obtain ⟨rfl,h2,h3,h4⟩:=hq;exact ⟨.inl ⟨.bool true, .bool true,[],rfl,fun _=>rfl, .bool true,r8 l _,fun _=>⟨Ji,fun _ hm=>(nomatch hm)⟩⟩,h2,h3,h4⟩
section
variable {prog:CG} {w:CT} {A:D1} {E:e6->h7->Prop} {s:h7} {K:Frag}
noncomputable def BM (h:Heap) (L d:Addr):List (Addr×Obj):=(CP h.objs.size).filterMap fun a=>if a=L∨a=d then none else (h.get? a).map fun o=>(a,o)
end
end Att
namespace L2
open PySem PySem.Spec PyProof.Rows
section
theorem jr:∀ {vs:List e6} {ns:List Int},K7 vs ns->Vals (ns.map V.int) vs
 | _,_, .nil => .nil
 | _,_, .cons n t h => .cons ⟨t,rfl⟩ (jr h)
def pC (H:Hp):Prop := ∀ b,H b=none ∨ ∃ o xs,H b=some (.frz o (.lst xs))
theorem u4 {P:CG} {w:CT} {K:Frag} {mg mb:Str->Option e6} {CX:CXT} {k:Nat} {fa a:Addr} {fd:Eh} {x:Str} {sp:Sp} {s₁:h7} {vs:List e6} {ns:List Int}
 (KX:K.In s₁.heap) (G:s₁.heap.Ns Dl mg) (j:s₁.heap.Ns K9 mb) (Y:∀ x:Str,x ≠ "__name__" -> mb x=DR x) (J:s₁.heap.NoLimit) (hg:s₁.gens = #[])
 (U:s₁.heap.get? a=some { cls := .type "list",data := .seq vs.toArray }) (hi:K7 vs ns) (hl:ns.length<=hP) (hr:Room k Ii)
 (F:∀ base:Heap,K.In base->base.Ns Dl mg->bu P w K mg base CX k fa fd [x] sp) (B:∀ (s:h7) (u:e6),Jd s fd ⟨[u],[]⟩ [(x,u)])
 (Z:∀ H:Hp,pC H->SqL K H a (ns.map V.int)->sp [.ref a] H (fun v _=>v = .bl true) fun _ _ _=>False)
 (BN:∀ H e s',CX [] H s₁ (fun _ _ _=>False) e s'->False) :
 Gd (model P w) Ii (.call (.ref fa) ⟨[.ref a],[]⟩) (fun r s'=>r = .ok (.ret (.bool true))/\OldK s₁.heap s'.heap/\s'.os=s₁.os/\Gc s'.gens) s₁ := by
 have rv:=jr hi;have lenV:=hi.length;have core:∀ H:Hp,pC H->SqL K H a (ns.map V.int)->HOk P w H s₁.heap->(∀ b,H b≠none->b=a)->(H a≠none->K.lookup a=none) ->
  Gd (model P w) Ii (.call (.ref fa) ⟨[.ref a],[]⟩) (fun r s'=>r = .ok (.ret (.bool true))/\OldK s₁.heap s'.heap/\s'.os=s₁.os/\Gc s'.gens) s₁ := by
  intro H hO hS hok hA hK;have base_of:∀ {b:Addr} {o:Obj},s₁.heap.get? b=some o->H b=none->(ef s₁.heap H).get? b=some o:=fun e n=>tJ e n;have noA:∀ {b:Addr} {o:Obj} {es:Array F8} {ep:Nat},s₁.heap.get? b=some o->o.data = .dict es ep->H b=none:=fun {b o es ep} e d=>by
   cases q:H b with
   | none=>rfl
   | some u =>
     have e':b=a:=hA b (by rw [q];simp)
     subst e';rw [U] at e;cases e;have d':Data.seq vs.toArray _=Data.dict es ep:=d
     cases d'
  have nsK:∀ {b:Addr} {m:Str->Option e6},s₁.heap.Ns b m->(ef s₁.heap H).Ns b m:=fun {b m} ⟨o,es,ep,e,d,r⟩=>⟨o,es,ep,base_of e (noA e d),d,r⟩;have L:K.In (ef s₁.heap H):=fun b o e=>base_of (KX b o e) (by
   cases q:H b with
   | none=>rfl
   | some u =>
     have e':b=a:=hA b (by rw [q];simp)
     subst e';rw [hK (by rw [q];simp)] at e;cases e)
  have hM:Mod K mg (ef s₁.heap H):=⟨L,nsK G,⟨mb,nsK j,Y⟩,let ⟨mc,h1,h2⟩:=J; ⟨mc,nsK h1,h2⟩⟩;have e0:pv P w K mg (ef s₁.heap H) Ii [] s₁ H:=⟨rfl,hM,fun b o e=>wB e,Nat.le_of_eq (qH _ _),trivial,fun b j=>absurd (show b∈([]:List Addr) from j) (by simp),hok, .of_eq hg⟩
  refine FF ((F _ L (nsK G)).run Ii [] s₁ H ⟨[.ref a],[]⟩ [.ref a] [.ref a] _ _ hr e0 (B s₁ (.ref a)) (.cons rfl .nil) (Z H hO hS)) fun r s' h => ?_
  cases r with
  | error e=>exact (BN H e s' h).elim
  | ok fl =>
    cases fl with
    | next=>exact False.elim h
    | brk=>exact False.elim h
    | cont=>exact False.elim h
    | ret u =>
      obtain ⟨v,H',os,bare,un,O,r',q⟩:=h;have q':v = .bl true:=q;subst q';obtain rfl:u=II true:=r';refine ⟨rfl,OldK.of_keep fun b o e => ?_,os,bare⟩
      cases q:H b with
      | none=>exact un.keep b o e q (by intro z;exact absurd (show b∈([]:List Addr) from z) (by simp)) (by simp)
      | some u =>
        rcases hO b with z | ⟨ob,xs,z⟩
        ·rw [q] at z;cases z
        ·have z2:=un.frzs b ob _ z;obtain ⟨e1,_⟩:=hok b _ z;obtain ⟨e2,_⟩:=O b _ z2;rw [e] at e1;cases e1;exact e2
 cases hk:K.lookup a with
 | some o =>
   have e:=KX a o hk;rw [U] at e
   cases e
   refine core (fun _=>none) (fun _ => .inl rfl) (.inr ⟨_,vs.toArray,_,hk,rfl,rfl,rfl,by rw [t2,lenV];exact hl,by simpa using rv⟩) (fun b u z=>by have z':(none:Option HO)=some u:=z;cases z') (fun b z=>absurd rfl z) fun z=>absurd rfl z
 | none =>
   refine core (fun b=>if b=a then some (.frz { cls := .type "list",data := .seq vs.toArray } (.lst (ns.map V.int))) else none) (fun b => ?_) (.inl (.inr ⟨{ cls := .type "list",data := .seq vs.toArray },if_pos rfl⟩)) (fun b u z => ?_) (fun b z => ?_) fun _=>hk
   ·by_cases j:b=a
    ·exact .inr ⟨_,_,if_pos j⟩
    ·exact .inl (if_neg j)
   ·by_cases j:b=a
    ·have z':=(if_pos j).symm.trans z
     cases z'
     subst j;exact ⟨U,by rw [v5];exact hl,vs,_,rv,U⟩
    ·have z':=(if_neg j).symm.trans z
     cases z'
   ·by_cases j:b=a
    ·exact j
    ·exact absurd (if_neg j) z
end
section
theorem walk_of {l:HA} {n k:Nat} {q:CG} {loose:List Str} {XP:(Str->Option e6)->Heap->Prop} {YP:CT->Heap->Prop} {d:DefRec} {K:Params->Frag} {CX:CT->CXT} {sp:CT->Sp} {x:Str}
 (U:l.most=some n) (z:n<=hP) (B:d.params.defaults=[]) (hr:Room k Ii)
 (Z:∀ (w:CT) (h:Heap),YP w h->(K w.params).In h)
 (F:∀ (w:CT) (mg:Str->Option e6) (fa:Addr) (h:Heap),(K w.params).In h->h.Ns Dl mg->mg d.name=some (.ref fa) ->
   ∃ fd:Eh,(∀ (s:h7) (u:e6),Jd s fd ⟨[u],[]⟩ [(x,u)]) /\
    ∀ base:Heap,(K w.params).In base->base.Ns Dl mg->bu l.prog w (K w.params) mg base (CX w) k fa fd [x] (sp w))
 (J:∀ (w:CT) (H:Hp) (a:Addr) (ns:List Int),ns.length<=n->pC H->SqL (K w.params) H a (ns.map V.int)->sp w [.ref a] H (fun v _=>v = .bl true) fun _ _ _=>False)
 (L:∀ (w:CT) (H:Hp) (s:h7) (e:e6) (s':h7),CX w [] H s (fun _ _ _=>False) e s'->False) :
 PySem.W.WalkO q loose XP YP l.row.toRowW d [] (fun f vs=>Kg f vs):=by
 refine Att.attach_call U B fun w s₀ s₁ mg mb fa o pm cd doc a vs ns G Y ho hd BN O j hints hlen hg => ?_;have KX:=Z w _ Y;obtain ⟨fd,hb,hF⟩:=F w mg fa _ KX G.T.g O;exact u4 KX G.T.g G.T.b G.T.builtins G.T.nolimit hg j hints (Dt hlen z) hr hF hb (fun H hO hS=>J w H a ns hlen hO hS) fun H e s'=>L w H s₁ e s'
end
section
noncomputable def cT (s:Stmt):Arguments:=match s with
 | .FunctionDef _ a _ _ _ _ _ _ _ _=>a
 | _ => { posonlyargs := [],args := [],vararg:=none,kwonlyargs := [],kw_defaults := [],kwarg:=none,defaults := [] }
noncomputable def bh (s:Stmt):List Stmt:=match s with
 | .FunctionDef _ _ b _ _ _ _ _ _ _=>b
 | _ => []
noncomputable def aj (s:Stmt):Scope:=match s with
 | .FunctionDef _ _ _ _ _ _ sc _ _ _=>sc
 | _ => { kind := .function,names := [],isGenerator:=false,isCoroutine:=false }
noncomputable abbrev CX0:CXT:=fun _ _ _ _ _ _=>False
noncomputable abbrev E0:XK:=fun _ _ _=>False
theorem vW {X:Cx}:i4 CX0 X E0:=fun _ _ _ _ _ _ _ h=>h.elim
structure Fun (K:Frag) (x qual:Str) (st:Stmt) (f:Addr) (fd:Eh):Prop where
 ex:∃ (oc:e6) (od:Option Addr) (kV doc pm:e6) (an:Option Addr) (cdv ct:e6) (osl:Array (Option e6)),
  fd=EE x qual (cT st) (bh st) (aj st) .none kV doc pm an cdv ct/\K.lookup f=some ⟨oc,od, .func fd,osl⟩/\Gr K cdv qual=true
 kp:E9 K (.ref f)=true
section
variable {P:CG} {w:CT} {K:Frag} {mg:Str->Option e6} {base:Heap}
theorem Fun.ok {x qual:Str} {st:Stmt} {f:Addr} {fd:Eh} {N ps:List Str} {k:Nat} {sp:Sp} (F:Fun K x qual st f fd) (S:cS N ps (aj st)) (len:∀ vs H Q E,sp vs H Q E->vs.length=ps.length)
 (j:∀ (cdv:e6) (A:D1) (outer:List Env) (s:h7) (H:Hp) (vs:List V) (Q:VK) (E:XK),Room k (A.deeper (Fq qual (aj st) s.heap.objs.size f cdv))->sp vs H Q E ->
   ∃ t,PSs (dh CX0 P w K mg base N qual (aj st) f cdv A outer s H E).nox (bh st) t/\t { nx:=fun _ H'=>Q .non H',rt:=Q } (start N vs) H):bu P w K mg base CX0 (k+1) f fd ps sp:=by
 obtain ⟨oc,od,kV,doc,pm,an,cdv,ct,osl,rfl,lk,z⟩:=F.ex;refine vS lk z S len fun A outer s H vs Q E hr B => ?_;obtain ⟨t,h,q⟩:=j cdv A outer s H vs Q E hr B;exact ⟨t,h.nox,q⟩
theorem Fun.binds {x qual:Str} {st:Stmt} {f:Addr} {fd:Eh} {ps:List Str} (F:Fun K x qual st f fd)
 (h:∀ (kV doc pm:e6) (an:Option Addr) (cdv ct:e6) (us:List e6),us.length=ps.length->bindArgs (EE x qual (cT st) (bh st) (aj st) .none kV doc pm an cdv ct) ⟨us,[]⟩=pure (ps.zip us)):Binds K fd ps []:=by
 obtain ⟨oc,od,kV,doc,pm,an,cdv,ct,osl,rfl,lk,j⟩:=F.ex;exact .all (h kV doc pm an cdv ct)
theorem ah {x qual:Str} {st:Stmt} {f:Addr} {oc:e6} {od an:Option Addr} {osl:Array (Option e6)} {kV doc pm cdv ct:e6} (l:K.lookup f=some ⟨oc,od, .func (EE x qual (cT st) (bh st) (aj st) .none kV doc pm an cdv ct),osl⟩)
 (c:Gr K cdv qual=true) (k:E9 K (.ref f)=true):Fun K x qual st f (EE x qual (cT st) (bh st) (aj st) .none kV doc pm an cdv ct):=⟨⟨oc,od,kV,doc,pm,an,cdv,ct,osl,rfl,l,c⟩,k⟩
end
def Same (H H':Hp):Prop := ∀ b o,H b=some o->H' b=some o
theorem Same.refl (H:Hp):Same H H:=fun _ _ h=>h
theorem Same.trans {H H1 H2:Hp} (a:Same H H1) (b:Same H1 H2):Same H H2:=fun c o h=>b c o (a c o h)
theorem Same.free {H H':Hp} (e:Same H H') {l:Addr} (h:H' l=Option.none):H l=Option.none:=by
 cases q:H l with
 | none=>rfl
 | some o =>
   rw [e l o q] at h
   cases h
theorem Same.seq {K:Frag} {H H':Hp} {a:Addr} {xs:List V} (e:Same H H') (h:SqL K H a xs):SqL K H' a xs:=by
 rcases h with (h | ⟨o,h⟩) | h
 ·exact .inl (.inl (e _ _ h))
 ·exact .inl (.inr ⟨o,e _ _ h⟩)
 ·exact .inr h
end
end L2
namespace HT
open PySem PySem.Spec PyProof.Rows
section
variable {prog:CG} {w:CT} {A:D1} {E:e6->h7->Prop} {s:h7}
theorem getItem_tuple_whole {t sl:Addr} {items:Array e6} {vl vu:e6} {lo hi:Option Int} {Q:e6->h7->Prop} (ht:IsTup s.heap t items) (hs:s.heap.IsSliceOf sl vl vu .none) (pl:Hk vl lo) (pu:Hk vu hi)
 (hw:sIx items.size 0 lo=0/\sIx items.size items.size hi=items.size) (h:Q (.ref t) s):CB (model prog w) A (Hl (.ref t) (.ref sl)) Q E s:=by
 obtain ⟨os,j,q,F⟩:=id hs;have z:s.TypeIs (.ref sl) "slice" := ⟨os,j,q⟩;unfold Hl
 try with_reducible refine De ?_
 first | refine b0 (hh ?_) | skip
 refine b0 (Jf ht.typeIs (by decide) ?_)
 refine b0 (CW (name:=D6 "__getitem__") ht.typeIs DK
  (D8 DK ht.typeIs Io ?_ (IT _ _)))
 show CB _ _ (Gu (.ref t) >>= _) _ _ s;refine b0 (tupleItemsOf_ ht ?_);refine b0 (F6 z ?_);rw [if_pos (by decide)]
 refine b0 (di hs pl pu ?_);have B:(((sIx items.size 0 lo:Nat):Int)==0&&(1:Int)==1&&(sIx items.size items.size hi - sIx items.size 0 lo)==items.size)=true:=by
  rw [hw.1,hw.2];simp
 show CB _ _ (if (((sIx items.size 0 lo:Nat):Int)==0&&(1:Int)==1&&(sIx items.size items.size hi - sIx items.size 0 lo)==items.size)=true then _ else _) _ _ s
 rw [if_pos B];refine b0 (m:=Gw (.ref t)) ?_;unfold Gw;refine b0 (F6 ht.typeIs (hh ?_));show CB _ _ (if true=true then _ else _) _ _ s
 rw [if_pos rfl];exact b0 (EB (hh ⟨_,rfl,hh h⟩))
end
end HT
namespace L2
open PySem PySem.Spec PyProof.Rows
section
section
variable {X:Cx}
noncomputable def BD (K:Frag):V->Option Int->Option Int->Hp->VK->Prop:=fun x lo hi H Q => ∃ a xs,x = .ref a/\SqT K H a xs/\(HT.sIx xs.length 0 lo=0/\HT.sIx xs.length xs.length hi=xs.length)/\Q x H
theorem u5:SlR X (BD X.K):=by
 intro pins s σ H x v vl vu lo hi sl Q I rx hs pl pu h;obtain ⟨a,xs,rfl,hx,hw,q⟩:=h
 cases rx
 obtain ⟨its,r,ht,j⟩:=I.tuple hx;have hlen:=r.length;refine ⟨"tuple",_,slot_tuple_getitem.lookup,ht.typeIs, ?_⟩;refine HT.getItem_tuple_whole ht hs pl pu (by rw [t2, <- hlen];exact hw) ⟨.ref a,H,I,rfl,q⟩
end
end
section
section
variable {κ:Type} [DecidableEq κ]
noncomputable def bI (kvs:List (κ × V)) (k : κ):Option V:=(kvs.find? fun kv=>decide (kv.1=k)).map (·.2)
noncomputable def b5 (kvs:List (κ × V)) (k : κ) (v:V):List (κ × V) :=
 if (kvs.any fun kv=>decide (kv.1=k))=true then kvs.map (fun kv=>if kv.1=k then (kv.1,v) else kv) else kvs++[(k,v)]
noncomputable def jS (kvs:List (κ × V)) (k : κ):List (κ × V):=kvs.filter fun kv=>decide (kv.1≠k)
theorem en {p : κ × V} {r:List (κ × V)} {k : κ} (e:p.1=k):bI (p::r) k=some p.2:=by simp [bI,DI,e]
theorem eA {p : κ × V} {r:List (κ × V)} {k : κ} (e : ¬ p.1=k):bI (p::r) k=bI r k:=by simp [bI,DI,e]
theorem kw (k : κ):∀ kvs:List (κ × V),(kvs.any fun kv=>decide (kv.1=k))=(bI kvs k).isSome
 | [] => rfl
 | p::r=>by
   rw [ER]
   by_cases e:p.1=k
   ·simp only [en e,decide_eq_true e,Bool.true_or,IV]
   ·rw [eA e,decide_eq_false e,GO];exact kw k r
theorem cA (kvs:List (κ × V)) (k : κ) (v:V):(b5 kvs k v).length<=kvs.length+1:=by
 unfold b5
 split
 ·rw [v5];omega
 ·rw [z4,D4,HB];omega
theorem RelO.isSome_eq {o:Option V} {u:Option e6} (r:RelO o u):o.isSome=u.isSome:=by
 cases o with
 | none=>cases u with
   | none=>rfl
   | some _=>exact (show False from r).elim
 | some _=>cases u with
   | none=>exact (show False from r).elim
   | some _=>rfl
theorem RelO.getD {o:Option V} {u:Option e6} {d:V} {d':e6} (r:RelO o u) (rd:RelV d d'):RelV (o.getD d) (u.getD d'):=by
 cases o with
 | none=>cases u with
   | none=>exact rd
   | some _=>exact (show False from r).elim
 | some _=>cases u with
   | none=>exact (show False from r).elim
   | some _=>exact r
theorem KV.val {kvs:List (κ × V)} {vs:List (κ × e6)} (r:KV kvs vs) (k : κ):RelO (bI kvs k) (Ij vs k):=by
 unfold KV at r
 induction r with
 | nil=>exact Dy
 | @cons p q ps qs h t ih =>
  obtain ⟨h1,h2⟩:=h
  by_cases e:p.1=k
  ·have e':q.1=k:=h1.symm.trans e;have b:Ij (q::qs) k=some q.2:=by simp [Ij,DI,e']
   rw [en e,b];exact h2
  ·have e' : ¬ q.1=k:=fun z=>e (h1.trans z);have b:Ij (q::qs) k=Ij qs k:=by simp [Ij,DI,e']
   rw [eA e,b];exact ih
theorem KV.any {kvs:List (κ × V)} {vs:List (κ × e6)} (r:KV kvs vs) (k : κ):(kvs.any fun kv=>decide (kv.1=k))=vs.any fun kv=>decide (kv.1=k):=by
 unfold KV at r
 induction r with
 | nil=>rfl
 | cons h t ih=>rw [ER,ER,ih,h.1]
theorem KV.repl {kvs:List (κ × V)} {vs:List (κ × e6)} (r:KV kvs vs) (k : κ) {y:V} {u:e6} (ry:RelV y u) :
 KV (kvs.map fun kv=>if kv.1=k then (kv.1,y) else kv) (vs.map fun kv=>if kv.1=k then (kv.1,u) else kv):=by
 unfold KV at r ⊢
 induction r with
 | nil=>exact .nil
 | @cons p q ps qs h t ih =>
  rw [CJ,CJ];refine .cons ?_ ih;obtain ⟨h1,h2⟩:=h
  by_cases e:p.1=k
  ·rw [if_pos e,if_pos (h1.symm.trans e)];exact ⟨h1,ry⟩
  ·rw [if_neg e,if_neg (fun z=>e (h1.trans z))];exact ⟨h1,h2⟩
theorem KV.put {kvs:List (κ × V)} {vs:List (κ × e6)} (r:KV kvs vs) (k : κ) {y:V} {u:e6} (ry:RelV y u):KV (b5 kvs k y) (stored vs k u):=by
 unfold b5 stored;rw [r.any k]
 by_cases e:(vs.any fun kv=>decide (kv.1=k))=true
 ·rw [if_pos e,if_pos e];exact r.repl k ry
 ·rw [if_neg e,if_neg e];exact Paired.snoc r ⟨rfl,ry⟩
theorem KV.drop {kvs:List (κ × V)} {vs:List (κ × e6)} (r:KV kvs vs) (k : κ):KV (jS kvs k) (without vs k):=by
 unfold KV at r ⊢;unfold jS without
 induction r with
 | nil=>exact .nil
 | @cons p q ps qs h t ih =>
  obtain ⟨h1,h2⟩:=h;rw [JA,JA]
  by_cases e:p.1=k
  ·have a : ¬ decide (p.1≠k)=true:=by simp [e]
   have b : ¬ decide (q.1≠k)=true:=by simp [h1.symm.trans e]
   rw [if_neg a,if_neg b];exact ih
  ·have e' : ¬ q.1=k:=fun z=>e (h1.trans z);have a:decide (p.1≠k)=true:=by simp [e]
   have b:decide (q.1≠k)=true:=by simp [e']
   rw [if_pos a,if_pos b];exact .cons ⟨h1,h2⟩ ih
theorem KV.keys {kvs:List (κ × V)} {vs:List (κ × e6)} (r:KV kvs vs):kvs.map (·.1)=vs.map (·.1):=by
 unfold KV at r
 induction r with
 | nil=>rfl
 | cons h t ih=>rw [CJ,CJ,ih,h.1]
theorem KV.length {kvs:List (κ × V)} {vs:List (κ × e6)} (r:KV kvs vs):kvs.length=vs.length:=Ek r
end
theorem jT {P:CG} {w:CT} {k:Key} {u:e6} (r:RelV (kV k) u):(aE P w).is k u=true:=by
 cases k with
 | inl i=>obtain ⟨t,e⟩:=(show ∃ t,u=Ig i t from r);subst e;exact nj P w i t
 | inr x=>obtain ⟨t,e⟩:=(show ∃ t,u=Ih x t from r);subst e;exact nk P w x t
theorem jt {P:CG} {w:CT}:∀ {ks:List Key} {us:List e6},Vals (ks.map kV) us->ItemsAre (aE P w) ks us
 | [],_,r=>by rw [Gg] at r;cases r;exact .nil
 | k::ks,_,r=>by
   rw [CJ] at r
   cases r with
   | cons h t=>exact .cons (jT h) (jt t)
noncomputable abbrev KT (H:Hp):List (List Key×V)->List (List Key×Addr×e6)->Prop:=CU fun p q=>p.1=q.1/\H q.2.1=some (.tup (p.1.map kV))/\RelV p.2 q.2.2
theorem KT.val {H:Hp} {kvs:List (List Key×V)} {xs:List (List Key×Addr×e6)} (r:KT H kvs xs) (k:List Key):RelO (bI kvs k) ((HQ xs k).map (·.2)):=by
 induction r with
 | nil=>exact Dy
 | @cons p q ps qs h t ih =>
  obtain ⟨h1,_,h2⟩:=h
  by_cases e:p.1=k
  ·have e':q.1=k:=h1.symm.trans e;have b:HQ (q::qs) k=some q.2:=by simp [HQ,DI,e']
   rw [en e,b];exact h2
  ·have e' : ¬ q.1=k:=fun z=>e (h1.trans z);have b:HQ (q::qs) k=HQ qs k:=by simp [HQ,DI,e']
   rw [eA e,b];exact ih
theorem KT.repl {H:Hp} {kvs:List (List Key×V)} {xs:List (List Key×Addr×e6)} (r:KT H kvs xs) (k:List Key) {y:V} {u:e6} (ry:RelV y u) :
 KT H (kvs.map fun kv=>if kv.1=k then (kv.1,y) else kv) (xs.map (putAt k u)):=by
 induction r with
 | nil=>exact .nil
 | @cons p q ps qs h t ih =>
  rw [CJ,CJ];refine .cons ?_ ih;obtain ⟨h1,h2,j⟩:=h;unfold putAt
  by_cases e:p.1=k
  ·rw [if_pos e,if_pos (h1.symm.trans e)];exact ⟨h1,h2,ry⟩
  ·rw [if_neg e,if_neg (fun z=>e (h1.trans z))];exact ⟨h1,h2,j⟩
theorem KT.put {H:Hp} {kvs:List (List Key×V)} {xs:List (List Key×Addr×e6)} (r:KT H kvs xs) (k:List Key) {b:Addr} {y:V} {u:e6} (j:H b=some (.tup (k.map kV))) (ry:RelV y u) :
 KT H (b5 kvs k y) (storedH xs k b u):=by
 have e:(kvs.any fun kv=>decide (kv.1=k))=(HQ xs k).isSome:=by
  rw [kw,(r.val k).isSome_eq,Option.isSome_map]
 unfold b5 storedH;rw [e]
 by_cases q:(HQ xs k).isSome=true
 ·rw [if_pos q,if_pos q];exact r.repl k ry
 ·rw [if_neg q,if_neg q];exact Paired.snoc r ⟨rfl,j,ry⟩
theorem KT.keeps {H H':Hp} {kvs:List (List Key×V)} {xs:List (List Key×Addr×e6)} (r:KT H kvs xs) (ht:∀ b ys,H b=some (.tup ys)->H' b=some (.tup ys)):KT H' kvs xs :=
 KG r fun _ _ z=>⟨z.1,ht _ _ z.2.1,z.2.2⟩
section
variable {P:CG} {w:CT} {H:Hp} {h:Heap} {a:Addr}
theorem vX {u:HO} (ok:HOk P w H h) (e:Rd H a u):ObjOk P w H h a u:=e.ok ok
theorem jU {kvs:List (Key×V)} (ok:HOk P w H h) (e:Rd H a (.dK kvs)):kvs.length<=hP/\(a==Dg)=false /\ ∃ vs,KV kvs vs/\h.DictOf (aE P w) a vs :=
 show ObjOk P w H h a (.dK kvs) from vX ok e
theorem AL {kvs:List (Key×V)} (ok:HOk P w H h) (e:H a=some (.dK kvs)):kvs.length<=hP/\(a==Dg)=false /\ ∃ vs,KV kvs vs/\h.DictOf (aE P w) a vs:=jU ok (.inl e)
theorem fq {ks:List Key} (ok:HOk P w H h) (e:H a=some (.tup (ks.map kV))):(Fu (aE P w)).is h ks a:=by
 obtain ⟨_,its,r,o,h1,h2,n,j⟩:=(show ObjOk P w H h a (.tup (ks.map kV)) from ok a _ e);exact ⟨o,its.toArray,n,h1,h2,j,by simpa using jt r⟩
theorem fX {kvs:List (List Key×V)} (ok:HOk P w H h) (e:Rd H a (.dT kvs)):kvs.length<=hP/\(a==Dg)=false /\
 ∃ xs,KT H kvs xs/\h.DictOfH (Fu (aE P w)) a xs:=by
 obtain ⟨z,y,xs,r,o,es,ep,h1,h2,j,B,F⟩:=(show ObjOk P w H h a (.dT kvs) from vX ok e);refine ⟨z,y,xs,r,o,es,ep,h1,h2,j,B,fun x hx => ?_,F⟩;have all:∀ {l:List (List Key×V)} {m:List (List Key×Addr×e6)},KT H l m -> ∀ x∈m,(Fu (aE P w)).is h x.1 x.2.1:=by
  intro l m q
  induction q with
  | nil=>intro x hx;exact nomatch hx
  | @cons p q ps qs hq t ih =>
   intro x hx
   rcases CC.mp hx with e | hx
   ·subst e;exact fq ok (by rw [<- hq.1];exact hq.2.1)
   ·exact ih x hx
 exact all r x hx
theorem vY {kvs:List (List Key×V)} (ok:HOk P w H h) (e:H a=some (.dT kvs)):kvs.length<=hP/\(a==Dg)=false /\
 ∃ xs,KT H kvs xs/\h.DictOfH (Fu (aE P w)) a xs:=fX ok (.inl e)
end
def DGet (H:Hp) (a:Addr) (y:V) (r:Option V):Prop :=
 (∃ kvs k,Rd H a (.dK kvs)/\y=kV k/\r=bI kvs k) ∨ ∃ kvs k b,Rd H a (.dT kvs)/\y = .ref b/\H b=some (.tup (k.map kV))/\r=bI kvs k
def DPut (H:Hp) (a:Addr) (y v:V) (H':Hp):Prop :=
 (∃ kvs k,H a=some (.dK kvs)/\y=kV k/\kvs.length < hP/\H'=upd H a (.dK (b5 kvs k v))) ∨
 ∃ kvs k b,H a=some (.dT kvs)/\y = .ref b/\H b=some (.tup (k.map kV))/\kvs.length < hP/\H'=upd H a (.dT (b5 kvs k v))
theorem DGet.k {H:Hp} {a:Addr} {kvs:List (Key×V)} {k:Key} (e:H a=some (.dK kvs)):DGet H a (kV k) (bI kvs k) := .inl ⟨kvs,k, .inl e,rfl,rfl⟩
theorem DGet.t {H:Hp} {a b:Addr} {kvs:List (List Key×V)} {k:List Key} (e:H a=some (.dT kvs)) (eb:H b=some (.tup (k.map kV))):DGet H a (.ref b) (bI kvs k) := .inr ⟨kvs,k,b, .inl e,rfl,eb,rfl⟩
theorem DPut.k {H:Hp} {a:Addr} {kvs:List (Key×V)} {k:Key} {v:V} (e:H a=some (.dK kvs)) (j:kvs.length < hP):DPut H a (kV k) v (upd H a (.dK (b5 kvs k v))) := .inl ⟨kvs,k,e,rfl,j,rfl⟩
theorem DPut.t {H:Hp} {a b:Addr} {kvs:List (List Key×V)} {k:List Key} {v:V} (e:H a=some (.dT kvs)) (eb:H b=some (.tup (k.map kV))) (j:kvs.length < hP) :
 DPut H a (.ref b) v (upd H a (.dT (b5 kvs k v))) := .inr ⟨kvs,k,b,e,rfl,eb,j,rfl⟩
section
variable {X:Cx} {pins:List (Addr×Obj)} {σ:St} {H:Hp} {s:h7} {a:Addr} {y v:V} {u r:e6} {o:Option V} {A:D1} {E:e6->h7->Prop}
theorem Inv.big (I:Inv X pins σ H s):Dg < s.heap.objs.size:=by
 have h:Dl < s.heap.objs.size:=(I.mod.glob.keeps I.bk).lt;exact Nat.lt_trans (by decide) h
theorem r9 {Q:e6->h7->Prop} (q:A.units+1 < Fi) (I:Inv X pins σ H s) (g:DGet H a y (some v)) (ry:RelV y u) (h:∀ w' s',Inv X pins σ H s'->RelV v w'->Q w' s') :
 CB (model X.prog X.w) A (Hl (.ref a) u) Q E s:=by
 rcases g with ⟨kvs,k,e,ey,l⟩ | ⟨kvs,k,b,e,ey,eb,l⟩
 ·subst ey;obtain ⟨z,hd,vs,rel,dd⟩:=jU I.hok e;obtain ⟨w',hw,rw'⟩:=KS (v:=v) (o:=Ij vs k) (by rw [l];exact rel.val k)
  exact wpAny_getItem_of (jT ry) dd.mapOf hw (h w' _ (I.tok _) rw')
 ·subst ey
  cases (show u=CO b from ry)
  obtain ⟨z,hd,xs,rel,dd⟩:=fX I.hok e;obtain ⟨w',hw,rw'⟩:=KS (v:=v) (o:=(HQ xs k).map (·.2)) (by rw [l];exact rel.val k)
  obtain ⟨p,B,j⟩:=EF.mp hw;refine wpAny_getItem_heap (EG q) (fq I.hok eb) dd B ?_;rw [j];exact h w' _ (I.tok _) rw'
theorem iX {h':Heap} {t':Nat} {ob:HO} (I:Inv X pins σ H s) (mu:Mut (H a)) (hs:Dn a s.heap h') (he:∃ q,h'.get? a=some q) (new:ObjOk X.prog X.w (upd H a ob) h' a ob) :
 Inv X pins σ (upd H a ob) { s with heap:=h',toks:=t' } :=
 I.write (x:=a) (e:=a) mu (.inl rfl) (fun b q j z=>(hs.2 b j).trans z) he new
theorem zm {P:CG} {w:CT} {H':Hp} {h':Heap} {kvs:List (Key×V)} {vs:List (Key×e6)} (z:kvs.length<=hP) (hd:(a==Dg)=false) (rel:KV kvs vs) (dd:h'.DictOf (aE P w) a vs) :
 ObjOk P w H' h' a (.dK kvs):=⟨z,hd,vs,rel,dd⟩
theorem rf {H':Hp} {Q:Unit->h7->Prop} (G:A.units+1 < Fi) (I:Inv X pins σ H s) (g:DPut H a y v H') (ry:RelV y u) (rv:RelV v r) (h:∀ s',Inv X pins σ H' s'->Q () s') :
 CB (model X.prog X.w) A (J1 (.ref a) u r) Q E s:=by
 rcases g with ⟨kvs,k,e,ey,l,eH⟩ | ⟨kvs,k,b,e,ey,eb,l,eH⟩
 ·subst ey eH;obtain ⟨z,hd,vs,rel,dd⟩:=AL I.hok e;have B:vs.length<=hP:=by rw [<- rel.length];exact z
  have F:(b5 kvs k v).length<=hP:=by have:=cA kvs k v;omega
  refine wpAny_setItem_pairs (hsz:=B) (jT ry) dd fun h' dd' hs=>h _ ?_;have he:∃ q,h'.get? a=some q:=let ⟨q,_,_,j,_⟩:=dd'; ⟨q,j⟩;exact iX I (by rw [e];exact Dy) hs he (zm F hd (rel.put k rv) dd')
 ·subst ey eH
  cases (show u=CO b from ry)
  obtain ⟨z,hd,xs,rel,dd⟩:=vY I.hok e;have B:xs.length<=hP:=by rw [<- Ek rel];exact z
  have F:(b5 kvs k v).length<=hP:=by have:=cA kvs k v;omega
  refine wpAny_setItem_heap (hsz:=B) (EG G) (fq I.hok eb) dd fun h' dd' hs=>h _ ?_;obtain ⟨q,es,ep,j,h2,J,L,_,O⟩:=dd';refine iX I (by rw [e];exact Dy) hs ⟨q,j⟩ ⟨F,hd,_,(rel.put k eb rv).keeps fun c ys ec => ?_,q,es,ep,j,h2,J,L,O⟩
  rw [ae (vL ec e (fun z=>nomatch z))];exact ec
end
theorem u6 {P:CG} {w:CT} {H:Hp} (h:Heap) (j:Dg < h.objs.size):ObjOk P w H (h.push { cls := .type "dict",data := .dict #[] }) h.objs.size (.dK []) :=
 ⟨DH _,beq_eq_false_iff_ne.mpr (Ne.symm (CV j)),[], .nil,Heap.DictOf.new h⟩
theorem kx {P:CG} {w:CT} {H:Hp} (h:Heap) (j:Dg < h.objs.size):ObjOk P w H (h.push { cls := .type "dict",data := .dict #[] }) h.objs.size (.dT []) :=
 ⟨DH _,beq_eq_false_iff_ne.mpr (Ne.symm (CV j)),[], .nil,_, #[],0,hQ _ rfl,⟨rfl,rfl,rfl⟩,rfl,rfl,List.nodup_nil⟩
noncomputable def zn:TE:=fun _ H Q => ∀ p,H p=none->Q (.ref p) (upd H p (.dK []))
noncomputable def zo:TE:=fun _ H Q => ∀ p,H p=none->Q (.ref p) (upd H p (.dT []))
section
variable {X:Cx} {pos:Pos}
theorem u7:PE X (.Dict [] [] pos) zn:=fun pins s σ H Q I h =>
 JB ⟨.ref s.heap.objs.size,_,I.laid (a:=s.heap.objs.size) (o := .dK []) (t':=s.toks) (fun _ _ q=>h8 _ q) (q0 _) (u6 s.heap I.big),rfl,h _ (I.hok.fresh (q0 _))⟩
theorem u8:PE X (.Dict [] [] pos) zo:=fun pins s σ H Q I h =>
 JB ⟨.ref s.heap.objs.size,_,I.laid (a:=s.heap.objs.size) (o := .dT []) (t':=s.toks) (fun _ _ q=>h8 _ q) (q0 _) (kx s.heap I.big),rfl,h _ (I.hok.fresh (q0 _))⟩
end
structure M1 (X:Cx) (o:Expr) (m:Str) (apos:Pos) (e:Expr) (cpos:Pos):Prop where
 base:FU o m X.env (eval o X.env)=eval o X.env
 few:((Es cpos (CF [e] X.env)).all (fun x => !x.1)&&(Kf cpos (HP [] X.env)).all (fun x=>x.1.isSome)
  && decide (([e]:List Expr).length+([]:List Gf).length+(if ([]:List Gf).isEmpty then 0 else 1) < 30))=true
 line:(apos.endLine==cpos.line)=true
 trees:Es cpos (CF [e] X.env)=[(false,eval e X.env)]
structure M2 (X:Cx) (o:Expr) (m:Str) (apos:Pos) (e f:Expr) (cpos:Pos):Prop where
 base:FU o m X.env (eval o X.env)=eval o X.env
 few:((Es cpos (CF [e,f] X.env)).all (fun x => !x.1)&&(Kf cpos (HP [] X.env)).all (fun x=>x.1.isSome)
  && decide (([e,f]:List Expr).length+([]:List Gf).length+(if ([]:List Gf).isEmpty then 0 else 1) < 30))=true
 line:(apos.endLine==cpos.line)=true
 trees:Es cpos (CF [e,f] X.env)=[(false,eval e X.env),(false,eval f X.env)]
def IsD (H:Hp) (a:Addr):Prop:=(∃ kvs,Rd H a (.dK kvs)) ∨ ∃ kvs,Rd H a (.dT kvs)
theorem ky {X:Cx} {pins:List (Addr×Obj)} {σ:St} {H:Hp} {s:h7} {a:Addr} (I:Inv X pins σ H s) (d:IsD H a) :
 s.TypeIs (.ref a) "dict" /\ (∀ b,CO a = .ref b -> ∃ ob,s.heap.get? b=some ob/\ob.dict=none)/\(a==Dg)=false:=by
 rcases d with ⟨kvs,e⟩ | ⟨kvs,e⟩
 ·obtain ⟨_,hd,vs,_,dd⟩:=jU I.hok e;refine ⟨dd.typeIs,fun b q => ?_,hd⟩
  cases q
  obtain ⟨ob,_,_,h1,h2,_⟩:=dd;exact ⟨ob,h1,h2.2.1⟩
 ·obtain ⟨_,hd,xs,_,dd⟩:=fX I.hok e;refine ⟨dd.typeIs,fun b q => ?_,hd⟩
  cases q
  obtain ⟨ob,_,_,h1,h2,_⟩:=dd;exact ⟨ob,h1,h2.2.1⟩
section
variable {X:Cx} {pins:List (Addr×Obj)} {σ:St} {H:Hp} {s:h7} {a:Addr} {y d:V} {u r:e6} {o:Option V} {A:D1} {E:e6->h7->Prop}
theorem zp {Q:e6->h7->Prop} (j:A.units+1 < Fi) (I:Inv X pins σ H s) (g:DGet H a y o) (ry:RelV y u) (rd:RelV d r) (h:∀ w' s',Inv X pins σ H s'->RelV (o.getD d) w'->Q w' s') :
 CB (model X.prog X.w) A (call (.builtin "dict.get") [.ref a,u,r]) Q E s:=by
 rcases g with ⟨kvs,k,e,ey,l⟩ | ⟨kvs,k,b,e,ey,eb,l⟩
 ·subst ey;obtain ⟨z,hd,vs,rel,dd⟩:=jU I.hok e;refine Jj FO dd.typeIs Hq (GZ _ _ _) (meets_dict_get_default (aE X.prog X.w) a (jT ry) hd r) ⟨_,dd.mapOf,h _ _ (I.tok _) ?_⟩;rw [l];exact (rel.val k).getD rd
 ·subst ey
  cases (show u=CO b from ry)
  obtain ⟨z,hd,xs,rel,dd⟩:=fX I.hok e;refine Jj FO dd.typeIs Hq (GZ _ _ _) (meetsH_dict_get_default (Fu (aE X.prog X.w)) a b hd r) ⟨EG j,k,xs,fq I.hok eb,dd,h _ _ (I.tok _) ?_⟩;rw [l];exact (rel.val k).getD rd
end
noncomputable def zq (td ty tx:TE):TE:=fun σ H Q=>td σ H fun x H1 => ∃ a,x = .ref a/\IsD H1 a/\ty σ H1 fun y H2=>tx σ H2 fun z H3 => ∃ o,DGet H3 a y o/\Q (o.getD z) H3
section
variable {X:Cx} {o e f:Expr} {apos cpos:Pos} {td ty tx:TE}
theorem u9 (q:X.A.units+1 < Fi) (ho:PE X o td) (he:PE X e ty) (hf:PE X f tx) (m:M2 X o "get" apos e f cpos):PE X (.Call (.Attribute o "get" apos) [e,f] [] cpos) (zq td ty tx):=by
 intro pins s σ H Q I h;refine wpAny_Call_method m.base m.few m.line PySem.F.plainAttrs_dict FO PySem.F.type_dict_get (thn (ho pins s σ H _ I h) fun u s1 ⟨x,H1,j,rx,a,ex,d,B⟩ => ?_);subst ex;obtain rfl:u=CO a:=rx;obtain ⟨t1,G,_⟩:=ky j d;refine ⟨t1,G, ?_⟩;rw [m.trees];refine FI rfl (FW (Gp (thn (he pins s1 σ H1 _ j B) fun iv s2 ⟨y,H2,J,ry,L⟩ =>
  Gp (thn (hf pins s2 σ H2 _ J L) fun fv s3 ⟨z,O,U,rz,ov,g,Y⟩=>Jc ?_))))
 exact zp q U g ry rz fun w' s4 Z rw'=>⟨_,O,Z,rw',Y⟩
end
end
section
structure Exc (h:Heap) (e:Addr) (cls:e6) (hd:Option Addr):Prop where
 obj:∃ oe vs,h.get? e=some oe/\oe.cls=cls/\oe.dict=none/\oe.data = .fields vs/\vs[1]? = some (match hd with | none=>D7 | some T => .ref T)
 way:∀ T,hd=some T->T≠e /\ ∃ oT ts,h.get? T=some oT/\oT.data = .fields ts/\ts[3]? = some .none
structure Lft (fs:List Addr) (e:Addr) (hd:Option Addr) (h h':Heap):Prop where
 keep:∀ b o,b≠e->some b≠hd->b∉fs->h.get? b=some o->h'.get? b=some o
 slot:∀ b o,b≠e->some b≠hd->h.get? b=some o -> ∃ sl,h'.get? b=some { o with slots:=sl }
 lt:h.objs.size<=h'.objs.size
theorem iY (o:Obj) (f:Array e6->Array e6):(o.mapFields f).dict=o.dict:=by
 obtain ⟨c,d,dt,sl⟩:=o
 cases dt <;> rfl
section
variable {M:Iw} {A:D1} {E:e6->h7->Prop} {s:h7}
theorem kz {base:Heap} {env:Env} {outer:List Env} {L e:Addr} {oe:Obj} {vs:Array e6} {cls head:e6} {b:Bool} {Q:Unit->h7->Prop} (z:A.frames=some (env::outer)) (Y:s.heap.FunFrames base (env::outer)) (hf:env.frame=some L)
 (he:s.heap.get? e=some oe) (hc:oe.cls=cls) (B:oe.dict=none) (hd:oe.data = .fields vs) (F : 1 < vs.size)
 (q:∀ h' T,Lft (frs (env::outer)) e none s.heap h'->Exc h' e cls (some T)->s.heap.get? T=none->Q () { s with heap:=h' }) :
 CB M A (do let a <- frameOf env;let pl <- entryPlaceOf L b;let t <- Ip head a .none (EC L) .none pl;setField (.ref e) 1 t) (fun _ s'=>CB M A (H0 (.ref e) none) Q E s') E s:=by
 have G:e∉frs (env::outer):=fun hm=>by
  obtain ⟨_,o,ho,J⟩:=Y.mem hm;rw [he] at ho;cases ho;exact J vs hd
 refine b0 (wpAny_frameOf_fun z Y hf fun h1 ⟨Z,z2,z3⟩ => ?_);refine b0 (wpAny_entryPlaceOf fun pl O => ?_);unfold Ip newFields;refine b0 (Dp ?_ (O.sizeOk5 _ _ _ _ _));generalize hO:({ cls := .type "traceback",dict:=none,data := .fields ([head, .ref L, .none,EC L, .none]++(if pl.isEmpty then CD 6 D7 else pl)).toArray }:Obj)=oT
 have dT:∃ ts,oT.data = .fields ts/\3 < ts.size:=⟨_,by rw [<- hO],by simp only [t2,z4,D4];lia⟩
 clear hO;obtain ⟨ts,dT,lT⟩:=dT;have e1:h1.get? e=some oe:=(z2 e G).trans he;have e2:(h1.push oT).get? e=some oe:=h8 _ e1;refine EY e2 hd F ?_;have nT:h1.objs.size≠e:=E3 (tv e1);have d3:=Ea hd (·.setIfInBounds 1 (CO h1.objs.size));have e3:=DL (Em (·.setIfInBounds 1 (CO h1.objs.size))) e2 (DM d3);have t3:((h1.push oT).update e (Em (·.setIfInBounds 1 (CO h1.objs.size)))).get? h1.objs.size=some oT:=by
  rw [Di _ _ (Ne.symm nT)];exact hQ h1 (DM dT)
 unfold H0;refine b0 (CS e3 d3 (x := .ref h1.objs.size) (by simp [F]) ?_)
 rw [if_pos (show (CO h1.objs.size != D7)=true by simp)]
 refine EY t3 dT lT ?_;have d4:=Ea dT (·.setIfInBounds 3 ((none:Option Addr).elim D7 fun f=>EC f));have t4:=DL (Em (·.setIfInBounds 3 ((none:Option Addr).elim D7 fun f=>EC f))) t3 (DM d4);have kp:∀ b o,b≠e->h1.get? b=some o->(((h1.push oT).update e (Em (·.setIfInBounds 1 (CO h1.objs.size)))).update h1.objs.size (Em (·.setIfInBounds 3 ((none:Option Addr).elim D7 fun f=>EC f)))).get? b=some o:=fun b o j h=>by
  rw [Di _ _ (E3 (tv h)),Di _ _ (Ne.symm j)];exact h8 _ h
 refine q _ h1.objs.size ⟨fun b o j _ U h=>kp b o j ((z2 b U).trans h),fun b o j _ h => ?_, ?_⟩ ⟨⟨_,_, ?_, ?_, ?_,d3,by simp [F]⟩,fun T hT => ?_⟩ ?_
 ·obtain ⟨sl,h2⟩:=z3 b o h;exact ⟨sl,kp b _ j h2⟩
 ·rw [H8,H8,Dx,Z];exact Nat.le_succ _
 ·rw [Di _ _ nT];exact e3
 ·rw [Jk];exact hc
 ·rw [iY];exact B
 ·cases hT
  refine ⟨nT,_,_,t4,d4, ?_⟩;simp [lT]
 ·exact HK (by rw [Z];exact q0 _)
theorem nQ {base:Heap} {env:Env} {outer:List Env} {L e:Addr} {cls:e6} {hd:Option Addr} {Q:Unit->h7->Prop} (G:A.frames=some (env::outer)) (Z:s.heap.FunFrames base (env::outer)) (hf:env.frame=some L)
 (x:Exc s.heap e cls hd) (q:∀ h' T,Lft (frs (env::outer)) e hd s.heap h'->Exc h' e cls (some T)->s.heap.get? T=none->Q () { s with heap:=h' }) :
 CB M A (Ik (.ref e) env) (fun _ s'=>CB M A (H0 (.ref e) none) Q E s') E s:=by
 obtain ⟨⟨oe,vs,he,hc,J,dv,h1⟩,way⟩:=x;have hz : 1 < vs.size:=(EZ.mp h1).1;unfold Ik;simp only [hf];refine b0 (CS he dv h1 ?_)
 cases hd with
 | none =>
   rw [if_neg (by decide)]
   exact kz G Z hf he hc J dv hz q
 | some T =>
   obtain ⟨nT,oT,ts,O,dT,h3⟩:=way T rfl;dsimp only;rw [if_pos (show (CO T != D7)=true by simp)]
   refine b0 (CS O dT h3 ?_);rw [if_neg (show ¬ ((D7==EC L)=true) by simp [EC])]
   refine b0 (EY O dT (EZ.mp h3).1 ?_);have ot:∀ b,b≠T->(s.heap.update T (Em (·.setIfInBounds 3 D7))).get? b=s.heap.get? b:=fun b j=>Di _ _ (Ne.symm j);have nr:∀ b o,s.heap.get? b=some o->(∀ vs,o.data ≠ .fields vs)->b≠T:=fun b o j B z=>by
    rw [z,O] at j;cases j;exact B ts dT
   refine kz (s := { s with heap:=s.heap.update T (Em (·.setIfInBounds 3 D7)) }) G (Z.of_keeps fun b o j B=>⟨o,(ot b (nr b o j B)).trans j,rfl⟩) hf ((ot e (Ne.symm nT)).trans he) hc J dv hz fun h' U l x F=>q h' U ⟨fun b o j B Y h => ?_,fun b o j B h => ?_, ?_⟩ x ?_
   ·exact l.keep b o j (by simp) Y ((ot b fun z=>B (by rw [z])).trans h)
   ·exact l.slot b o j (by simp) ((ot b fun z=>B (by rw [z])).trans h)
   ·have:=l.lt
    rwa [H8] at this
   ·by_cases z:U=T
    ·subst z;rw [DL _ O (DM (Ea dT _))] at F;cases F
    ·rw [<- ot U z];exact F
theorem ua {base:Heap} {env:Env} {outer:List Env} {L e:Addr} {cls:e6} {hd:Option Addr} {Q:Unit->h7->Prop} (j:A.frames=some (env::outer)) (z:s.heap.FunFrames base (env::outer)) (hf:env.frame=some L)
 (x:Exc s.heap e cls hd) (q:∀ h' T,Lft (frs (env::outer)) e hd s.heap h'->Exc h' e cls (some T)->s.heap.get? T=none->Q () { s with heap:=h' }):CB M A (leaving env (.ref e)) Q E s:=by
 unfold leaving;exact b0 (nQ j z hf x q)
theorem rg {e T:Addr} {cls:e6} {Q:Unit->h7->Prop} (x:Exc s.heap e cls (some T)) (q:∀ h',Dn T s.heap h'->Exc h' e cls (some T)->Q () { s with heap:=h' }):CB M A (H0 (.ref e) none) Q E s:=by
 obtain ⟨⟨oe,vs,he,F,j,dv,h1⟩,way⟩:=x;obtain ⟨nT,oT,ts,B,dT,G⟩:=way T rfl;have l3 : 3 < ts.size:=(EZ.mp G).1;unfold H0;refine b0 (CS he dv h1 ?_);rw [if_pos (show (CO T != D7)=true by simp)]
 refine EY B dT l3 ?_;have d4:=Ea dT (·.setIfInBounds 3 ((none:Option Addr).elim D7 fun f=>EC f));have J:=DL (Em (·.setIfInBounds 3 ((none:Option Addr).elim D7 fun f=>EC f))) B (DM d4);refine q _ (.update ..) ⟨⟨oe,vs,(Di _ _ nT).trans he,F,j,dv,h1⟩,fun T' z => ?_⟩
 cases z
 exact ⟨nT,_,_,J,d4,by simp [l3]⟩
end
end
section
noncomputable abbrev vbm:List e6 := [.type "ValueError", .type "Exception", .type "BaseException", .type "object"]
theorem nR {K:Frag} {h:Heap} {C:Addr} {bmB:List e6} {newId:String} (X:K.In h) (q:ES K C bmB newId=true):∃ bm N nm qn bs hd sn sub ab col dd k0 k1 k2 k3 k5 mN,
 h.get? C=some (excClassObj nm qn C N bs bm hd sn sub ab col dd k0 k1 k2 k3 k5 newId)/\h.Ns N mN/\mN "__init__" = none/\OwnTail h bmB bm:=by
 unfold ES at q
 split at q
 ·next dd cd sl ho =>
  split at q
  ·next C' bm k0 k1 k2 k3 n k5 hm hs =>
   simp only [gV,beq_iff_eq,Df] at q;obtain ⟨⟨⟨⟨⟨rfl,rfl⟩,j⟩,ht⟩,hok⟩,z⟩:=q
   cases cd
   cases sl
   dsimp only at hm j hok z hs;subst hm j hs;exact ⟨bm,_,_,_,_,_,_,_,_,_,dd,k0,k1,k2,k3,k5,_,X _ _ ho, .of_isNs (PySem.W.isNs_of_in X hok),PySem.W.nsMap_none_of_in X hok z,PySem.W.tail_of_in X ht⟩
  ·cases q
 ·cases q
section
variable {X:Cx} {pins:List (Addr×Obj)} {σ:St} {H:Hp} {s:h7}
theorem ub {x:Str} {np cpos pos:Pos} {j:Expr} {t:TA} {C:Addr} {Q:Flow->h7->Prop} (I:Inv X pins σ H s) (U:X.calm=true) (Y:Gl X x) (hm:X.mg x=some (.ref C)) (hx:ES X.K C vbm "ValueError.__new__" = true) (Z:PA X [j] t)
 (h:t σ H fun vs H1=>vs.length<=10 /\ ∀ s1,Inv X pins σ H1 s1 -> ∀ h' e args,Heap.MadeExcOf s1.heap h' e (.ref C) args->X.xe (.ref e) { s1 with heap:=h' })
 (B:(x==("__debug__":Str))=false:=by decide) (he:CF [j] X.env=[(false,eval j X.env)]:=by rfl) (G:(Es cpos (CF [j] X.env)).any (·.1)=false:=by rfl) :
 CB (model X.prog X.w) X.A (exec (.Raise (some (.Call (.Name x np) [j] [] cpos)) none pos) X.env) Q X.xe s:=by
 obtain ⟨bm,N,nm,qn,bs,hd,sn,sub,ab,col,dd,k0,k1,k2,k3,k5,mN,hC,hN,J,L⟩:=nR I.ok.mod.kin hx;refine wpAny_Raise_call_subT (C:=C) (nm:=nm) (q:=qn) (N:=N) (bs:=bs) (bm:=bm) (hdct:=hd) (sn:=sn) (sub:=sub) (ab:=ab) (col:=col) (dd:=dd) (k0:=k0) (k1:=k1) (k2:=k2) (k3:=k3) (k5:=k5) (mN:=mN) F.excBase_ValueError (L.hasType (by decide)) (I.ok.hd U) G J ?_
 refine cR I Y hm ⟨rfl, ?_⟩ B;have O:=Z cpos pins s σ H _ I h;rw [he] at O ⊢;refine FW (thn O fun us s1 ⟨vs,H1,z,r,hl,q⟩=>⟨rfl, ?_,z.bk _ _ hC,hN.keeps z.bk,L.keeps z.bk,fun h' e m=>q s1 z h' e us m⟩);have:us.length<=10:=by rw [<- r.length];exact hl
 exact Dt this (by decide)
end
end
section
noncomputable def CXR (P:CG) (w:CT) (base:Heap) (cls:e6):CXT:=fun outer H s E u s' => ∃ a T H',u = .ref a/\s'.os=s.os/\Gc s'.gens/\Un (frs outer) [] H H' s.heap s'.heap/\HOk P w H' s'.heap/\s'.heap.FunFrames base outer/\Exc s'.heap a cls (some T) /\
 H' a=none/\H' T=none/\s.heap.get? a=none/\s.heap.get? T=none/\E cls none H'
theorem ObjOk.obj {P:CG} {w:CT} {H:Hp} {h:Heap} {a:Addr} {o:HO} (x:ObjOk P w H h a o):∃ u,h.get? a=some u:=by
 cases o with
 | lst xs=>obtain ⟨_,_,_,_,e⟩:=x;exact ⟨_,e⟩
 | tup xs=>obtain ⟨_,_,_,_,e,_⟩:=x;exact ⟨_,e⟩
 | dK kvs=>obtain ⟨_,_,_,_,o,_,_,e,_⟩:=x;exact ⟨_,e⟩
 | dT kvs=>obtain ⟨_,_,_,_,o,_,_,e,_⟩:=x;exact ⟨_,e⟩
 | set S n=>obtain ⟨o,_,_,_,e,_⟩:=x;exact ⟨_,e⟩
 | ins C dx fs=>obtain ⟨_,_,_,e,_⟩:=x;exact ⟨_,e⟩
 | own y=>exact x
 | xd fs=>obtain ⟨_,⟨_,_,_,e,_⟩,_⟩:=x;exact ⟨_,e⟩
 | rng lo hi=>obtain ⟨_,_,_,e⟩:=x;exact ⟨_,e⟩
 | frz ob u=>obtain ⟨e,_⟩:=x;exact ⟨_,e⟩
 | tbl ps=>exact ⟨_,x⟩
 | met f y=>exact ⟨_,x⟩
 | ext φ => obtain ⟨_,e,_⟩:=x;exact e
theorem HOk.no {P:CG} {w:CT} {H:Hp} {h:Heap} {a:Addr} (x:HOk P w H h) (n:h.get? a=none):H a=none:=by
 cases e:H a with
 | none=>rfl
 | some o=>obtain ⟨u,j⟩:=(x a o e).obj;rw [n] at j;cases j
section
variable {P:CG} {w:CT} {K:Frag} {mg:Str->Option e6} {base:Heap} {N:List Str} {qual:Str} {scope:Scope} {f:Addr} {cd:e6} {A:D1} {outer:List Env} {s s1:h7} {H H1:Hp} {E:XK} {pins:List (Addr×Obj)} {σ:St} {C:Addr}
theorem jP (hE:E (.ref C) none H1) (I:Inv (dh (CXR P w base (.ref C)) P w K mg base N qual scope f cd A outer s H E) pins σ H1 s1) {h':Heap} {e:Addr} {args:List e6} (m:Heap.MadeExcOf s1.heap h' e (.ref C) args) :
 (dh (CXR P w base (.ref C)) P w K mg base N qual scope f cd A outer s H E).xe (.ref e) { s1 with heap:=h' }:=by
 obtain ⟨kp,ne,t,ee,nt,et⟩:=m;have O:s1.heap.FunFrames base (Fq qual scope s.heap.objs.size f cd::outer):=I.stack;have B:h'.FunFrames base (Fq qual scope s.heap.objs.size f cd::outer):=O.of_keeps fun b o j _=>⟨o,kp _ _ j,rfl⟩;show CB _ _ (leaving _ _) _ _ _;refine ua (base:=base) (L:=s.heap.objs.size) (cls := .ref C) (hd:=none) I.ok.frames B rfl ⟨⟨_,_,ee,rfl,rfl,rfl,rfl⟩,fun T hT=>by cases hT⟩ fun h2 T l x nT => ?_
 have U:∀ b∈frs (Fq qual scope s.heap.objs.size f cd::outer),H1 b=none:=I.stkFree;have q:∀ b o,s1.heap.get? b=some o->b≠e:=fun b o j z=>by rw [z,ne] at j;cases j
 have bs:=I.base;have sz:∀ b o,s.heap.get? b=some o->b∈frs (Fq qual scope s.heap.objs.size f cd::outer)->b∈frs outer:=fun b o j hm=>by
  unfold frs at hm;rw [Fe] at hm
  rcases CC.mp hm with z | z
  ·have:=tv j;rw [z] at this;exact absurd this (DQ _)
  ·exact z
 refine ⟨e,T,H1,rfl,I.os,I.bare,⟨fun b o j G hf hx => ?_,fun b o j G hf hx => ?_,bs.free,fun b o j hx => ?_,bs.tups,bs.frzs,bs.tbls⟩,fun a o Z => ?_, ?_,x, ?_, ?_, ?_, ?_,hE⟩
 ·have h1:=bs.keep b o j G hf hx;exact l.keep b o (q b o h1) (by simp) (fun z=>hf (sz b o j z)) (kp _ _ h1)
 ·obtain ⟨sl,h1⟩:=bs.slot b o j G hf hx;obtain ⟨J,F⟩:=l.slot b _ (q b _ h1) (by simp) (kp _ _ h1)
  exact ⟨J,F⟩
 ·obtain ⟨o',h1⟩:=bs.there b o j hx;obtain ⟨J,F⟩:=l.slot b _ (q b _ h1) (by simp) (kp _ _ h1)
  exact ⟨_,F⟩
 ·refine (I.hok a o Z).stay (fun b u j hu => ?_) (fun b z=>z) (fun b xs z=>z);have hH:H1 b≠none:=by
   rcases j with z | z
   ·rw [z,Z];simp
   ·rw [z];simp
  exact l.keep b u (q b u hu) (by simp) (fun z=>hH (U b z)) (kp _ _ hu)
 ·exact (B.of_keeps fun b o j G=>(by
   have Y:b≠e:=fun z=>by
    rw [z,ee] at j
    cases j
    exact G _ rfl
   obtain ⟨sl,h3⟩:=l.slot b o Y (by simp) j
   exact ⟨_,h3,rfl⟩)).2.2
 ·exact I.hok.no ne
 ·refine I.hok.no ?_
  cases hz:s1.heap.get? T with
  | none=>rfl
  | some o=>rw [kp _ _ hz] at nT;cases nT
 ·cases hz:s.heap.get? e with
  | none=>rfl
  | some o=>obtain ⟨o',h1⟩:=bs.there e o hz (by intro z;cases z);rw [ne] at h1;cases h1
 ·cases hz:s.heap.get? T with
  | none=>rfl
  | some o=>obtain ⟨o',h1⟩:=bs.there T o hz (by intro z;cases z);rw [kp _ _ h1] at nT;cases nT
end
end
section
section
variable {X:Cx} {pins:List (Addr×Obj)} {σ:St} {H:Hp} {s:h7}
theorem rh {i:Nat} {n:Str} {v0:Option e6} {m:Str->Option e6} {h':Heap} {tk:Nat} (I:Inv X pins σ H s) (Z:X.N.Nodup) (hi:X.N[i]? = some n) (hk:X.env.scope.names.lookup n=some .local) (hn:s.heap.Ns X.env.locals m)
 (hm:∀ (j:Nat) (y:Str) (v:V),X.N[j]? = some y -> σ[j]? = some (some v)->Vis X.env.scope y -> ∃ u,RelV v u/\yK X.env s.heap m y u)
 (J:h'.Ns X.env.locals fun x=>if x=n then v0 else m x) (hs:Dn X.env.locals s.heap h'):Inv X pins (σ.set i none) H { s with heap:=h',toks:=tk }:=by
 have L:i < σ.length:=by rw [I.len];exact (CI.mp hi).1
 have cne:=I.cne;have ab:∀ b o,X.s₀.heap.get? b=some o->b≠X.env.locals:=fun b o e=>CV (CL (tv e) I.ok.above);refine ⟨I.ok,I.os,I.bare,⟨fun b o e n O hx=>(hs.2 b (ab b o e)).trans (I.base.keep b o e n O hx),fun b o e n O hx => ?_,I.base.free,fun b o e hx => ?_,I.base.tups,I.base.frzs,I.base.tbls⟩,⟨_,J,fun j y v B F e3 => ?_⟩,fun y c e => ?_,I.free,I.freeC,fun p hp => ?_,fun a o U => ?_,by simpa using I.len⟩
 ·obtain ⟨sl,B⟩:=I.base.slot b o e n O hx;exact ⟨sl,(hs.2 b (ab b o e)).trans B⟩
 ·obtain ⟨o',B⟩:=I.base.there b o e hx;exact ⟨o',(hs.2 b (ab b o e)).trans B⟩
 ·have Y:j≠i:=fun z=>by
   rw [z,Dh L] at F;cases F
  rw [DU (Ne.symm Y)] at F;obtain ⟨u,r,q⟩:=hm j y v B F e3;refine ⟨u,r, ?_⟩
  rcases q with ⟨k,e⟩ | ⟨k,c,e,z⟩
  ·refine .inl ⟨k, ?_⟩;have:y≠n:=fun e=>Y (gE Z B (e ▸ hi));simp [this,e]
  ·exact .inr ⟨k,c,e,z.sameBut hs (cne y c e)⟩
 ·obtain ⟨w',z⟩:=I.cell y c e;exact ⟨w',z.sameBut hs (cne y c e)⟩
 ·obtain ⟨e,n,ne,nf,d⟩:=I.pin p hp;exact ⟨(hs.2 p.1 ne).trans e,n,ne,nf,d⟩
 ·refine (I.hok a o U).stay (fun c w' G q=>(hs.2 c ?_).trans q) (fun _ q=>q) fun _ _ q=>q;rintro rfl
  rcases G with rfl | G
  ·rw [I.free] at U;cases U
  ·rw [I.free] at G;cases G
theorem wU {M:Iw} {A:D1} {E:e6->h7->Prop} {i:Nat} {n:Str} {pos:Pos} {Q:Unit->h7->Prop} (I:Inv X pins σ H s) (Y:X.N.Nodup) (hi:X.N[i]? = some n) (j:X.env.scope.names.lookup n=some .local)
 (h:∀ s',Inv X pins (σ.set i none) H s'->Q () s'):CB M A (do J3 X.env n .none;HR X.env n pos) Q E s:=by
 have B:(X.env.scope.kind == .class || (X.env.scope.kind == .module&&X.env.locals != X.env.globals))=false:=by rw [I.ok.kind];rfl
 refine b0 (HM (df (v := .non) I Y hi (.inl j) rfl (fun s1 Z => ?_) (.inr j)));unfold HR;refine FV ?_;unfold unbindName;refine b0 (wpAny_point (b0 ?_));unfold deleteName;have F:X.env.kindOf n=some .local:=j;simp only [F,B];rw [if_neg (by decide)]
 obtain ⟨m,hn,hl⟩:=id Z.loc;have G:i < σ.length:=by rw [I.len];exact (CI.mp hi).1
 have L:(m n).isSome=true:=by
  obtain ⟨u,_,q⟩:=hl i n .non hi (by rw [Dh G]) (.inl j)
  rcases q with ⟨_,e⟩ | ⟨z,_⟩
  ·rw [e];rfl
  ·rw [F] at z
   rcases z with z | z <;> cases z
 refine b0 (wpAny_nsDel_keeps hn fun h2 v0 O U => ?_);rw [L];simp only [if_true,GP,Dz,if_false];have J:=rh (tk:=s1.toks) Z Y hi j hn hl O U;rw [List.set_set] at J;exact hh (wpAny_point (h _ J))
end
end
section
section
variable {prog:CG} {w:CT} {A:D1} {E:e6->h7->Prop} {h:Heap} {g:Array Ka} {d:Drawn} {t:Nat} {os:OsState} {a C:Addr} {o:Obj} {K:Frag}
theorem rj {tk:Tok} {Q:Fin->h7->Prop} (X:K.In h) (I:EW h a o C none) (hf:G5 K C none "__class__" = some (.bind (.builtin "getset_descriptor.__get__") (.builtin "object.__class__"))) (hm:Fh K C (.type "object")=some true)
 (j:Q (.done (.ret (.ref C))) ⟨h,g,d,t,os⟩):CB (model prog w) A (EH.«object.__getattribute__» ⟨[.ref a, .str "__class__" tk],[]⟩) Q E ⟨h,g,d,t,os⟩:=by
 have q:=I.type (M:=model prog w);have z:=PySem.W.looks_find (M:=model prog w) X I hf;refine b0 (hh (b0 (hh (b0 (q.at (b0 (z.at ?_)))))));show CB _ _ (GG (.builtin "getset_descriptor.__get__") (.builtin "object.__class__") (.ref a) (.ref C)) _ _ _;unfold GG;dsimp only;refine b0 (De (Kc (PySem.W.class_get X I hm ?_)));exact hh j
theorem uc (X:K.In h) (I:EW h a o C none) (hs:Fl K (.ref C) (.type "BaseException")=some true) (M:Iw) (A:D1) (E:e6->h7->Prop) (nameV:e6) (R:Unit->h7->Prop) (q:R () ⟨h,g,d,t,os⟩) :
 CB M A (H9 "BaseException.__getattribute__" ⟨[.ref a,nameV],[]⟩) R E ⟨h,g,d,t,os⟩:=by
 have z:builtinKind "BaseException.__getattribute__" = some .slot:=by decide +kernel
 have j:splitId "BaseException.__getattribute__" = some ("BaseException", "__getattribute__"):=by decide +kernel
 have B:=F.args_bexc_ga (.ref a) nameV;have LI:PySem.W.Looks M h (isInstance (.ref a) (.type "BaseException")) true:=I.type.andThen (Iq X hs);simp only [H9,z,j];refine b0 (LI.at ?_)
 repeat (any_goals (first | assumption | wp_step))
theorem zr {tk:Tok} {fill expr:Bool} {Q:e6->h7->Prop} (X:K.In h) (I:EW h a o C none) (j:Dr K (.ref C) "__getattribute__" = some (some (.builtin "BaseException.__getattribute__"))) (q:Dr K (.ref C) "__getattr__" = some none)
 (hf:G5 K C none "__class__" = some (.bind (.builtin "getset_descriptor.__get__") (.builtin "object.__class__"))) (hm:Fh K C (.type "object")=some true)
 (z:∀ (M:Iw) (A:D1) (E:e6->h7->Prop) (nameV:e6) (R:Unit->h7->Prop),R () ⟨h,g,d,t,os⟩->CB M A (H9 "BaseException.__getattribute__" ⟨[.ref a,nameV],[]⟩) R E ⟨h,g,d,t,os⟩)
 (L:Q (.ref C) ⟨h,g,d,t,os⟩):CB (model prog w) A (getAttrBy (.ref a) (.str "__class__" tk) fill expr) Q E ⟨h,g,d,t,os⟩:=by
 have B:=I.type (M:=model prog w);have G:=HS (M:=model prog w) X j;have L2:=HS (M:=model prog w) X q;unfold getAttrBy;refine De (b0 (B.at (b0 (G.at ?_))));show CB _ _ (HC _ _ _ _ _ _) _ _ _;unfold HC;have O:=F.attrBase_ValueError.ga.bind (.ref a);have J:(expr&&onTheHeap (Value.builtin "BaseException.__getattribute__"))=false:=by cases expr <;> rfl
 repeat (any_goals (first | assumption | with_reducible refine L2.at ?_ | wp_step))
 refine codeAny_call_builtin F.attrBase_ValueError.ga.plain F.entry_bexc_ga (z _ _ _ _ _ (rj X I hf hm ?_))
 repeat (any_goals (first | assumption | wp_step))
structure kA (K:Frag) (C:Addr):Prop where
 ga:Dr K (.ref C) "__getattribute__" = some (some (.builtin "BaseException.__getattribute__"))
 gn:Dr K (.ref C) "__getattr__" = some none
 fo:G5 K C none "__class__" = some (.bind (.builtin "getset_descriptor.__get__") (.builtin "object.__class__"))
 mr:Fh K C (.type "object")=some true
 sb:Fl K (.ref C) (.type "BaseException")=some true
 cl:(GQ K C).isSome=true
theorem kB (Z:kA K C):PySem.W.KitX K (.ref a) (.ref C) (fun h => ∃ o,EW h a o C none) where
 ty:=fun _ _ _ ⟨o,I⟩=>I.type
 it:=fun _ _ X _=>by
  have j:=Z.cl;unfold GQ at j
  split at j
  ·next c' d' cd' sl' ho =>
   intro A' Q' E' s' k q;unfold isType loadHead;exact b0 (wpAny_loadPart (k _ _ (X _ _ ho)) (hh q))
  ·cases j
 ne:=fun h tp dd its n sl X B=>by
  have j:=Z.cl;refine Bool.eq_false_iff.mpr fun q => ?_;have e:C=tp:=CO.inj (beq_iff_eq.mp q);subst e;unfold GQ at j
  split at j
  ·next c' d' cd' sl' ho =>
   have z:=(X _ _ ho).symm.trans B
   cases z
  ·cases j
 ca:=fun {prog w A E Q s} X I k=>by
  obtain ⟨F,g,d,t,os⟩:=s;obtain ⟨o,I⟩:=I;unfold getAttr? getAttrBy?;refine b0 (wpAny_mkText (b0 (E5 (zr X I Z.ga Z.gn Z.fo Z.mr (uc X I Z.sb) ?_))));exact hh k
end
end
section
noncomputable def Cx.hld (X:Cx) (a:Addr):Cx := { X with A:=X.A.mark (some (.ref a)),calm:=false,xe:=fun _ _=>False }
def clsAt (a C:Addr) (h:Heap):Prop := ∃ o,h.get? a=some o/\o.cls = .ref C/\PySem.W.notCls o=true/\o.dict=none
section
variable {X:Cx} {pins:List (Addr×Obj)} {σ:St} {H:Hp} {s:h7} {a C:Addr}
theorem Inv.hld (I:Inv X pins σ H s) (a:Addr):Inv (X.hld a) pins σ H s :=
 ⟨⟨I.ok.mod,I.ok.kind,I.ok.glob,I.ok.blt,I.ok.above,I.ok.inj,I.ok.has,I.ok.cab,fun z=>(by cases z),I.ok.frames,I.ok.stk,I.ok.exf,I.ok.bs,I.ok.bsz,I.ok.noex,I.ok.exfs,I.ok.funs,I.ok.frf⟩,I.os,I.bare,I.base,I.loc,I.cell,I.free,I.freeC,I.pin,I.hok,I.len⟩
theorem Inv.unhld (I:Inv (X.hld a) pins σ H s) (ok:X.Ok):Inv X pins σ H s:=⟨ok,I.os,I.bare,I.base,I.loc,I.cell,I.free,I.freeC,I.pin,I.hok,I.len⟩
theorem clsAt.inst {h:Heap} (x:clsAt a C h):∃ o,EW h a o C none:=by
 obtain ⟨o,e,c,n,d⟩:=x;exact ⟨o,e,c,n,by rw [d];trivial⟩
theorem KZ (I:Inv X pins σ H s) (F:X.s₀.heap.get? a=none) (G:H a=none) (x:clsAt a C s.heap) (J:a≠X.env.locals) (L:∀ y c,X.env.cells.lookup y=some c->c≠a) (O:∀ p∈X.pn++pins,p.1≠a):Inv X pins σ (upd H a (.ext (clsAt a C))) s:=by
 have ne:∀ b o,X.s₀.heap.get? b=some o->b≠a:=fun b o e z=>by rw [z,F] at e;cases e
 have nt:∀ b o,H b=some o->b≠a:=fun b o e z=>by rw [z,G] at e;cases e
 refine ⟨I.ok,I.os,I.bare,⟨I.base.keep,I.base.slot,fun b o e n hx=>by rw [ae (ne b o e)];exact I.base.free b o e n hx,I.base.there,fun b xs e => ?_,fun b o u e => ?_,fun b ps e => ?_⟩,I.loc,I.cell,by rw [ae (Ne.symm J)];exact I.free,fun y c e=>by rw [ae (L y c e)];exact I.freeC y c e,fun p j => ?_,fun b o e => ?_,I.len⟩
 ·have h1:=I.base.tups b xs e;rw [ae (nt b _ h1)];exact h1
 ·have h1:=I.base.frzs b o u e;rw [ae (nt b _ h1)];exact h1
 ·obtain ⟨more,h1⟩:=I.base.tbls b ps e;exact ⟨more,by rw [ae (nt b _ h1)];exact h1⟩
 ·obtain ⟨e,n,r⟩:=I.pin p j;exact ⟨e,by rw [ae (O p j)];exact n,r⟩
 ·by_cases z:b=a
  ·subst z;rw [ak] at e;cases e;obtain ⟨o,B,r⟩:=id x;exact ⟨x,⟨o,B⟩,fun h1 h2 ⟨o,B,r⟩ k=>⟨o,k _ B,r⟩⟩
  ·rw [ae z] at e;exact (I.hok b o e).stay (fun c u _ q=>q) (fun c q=>by rw [ae (nt c _ q)];exact q) fun c xs q=>by rw [ae (nt c _ q)];exact q
theorem Inv.untrack (I:Inv X pins σ (upd H a (.ext (clsAt a C))) s) (F:X.s₀.heap.get? a=none) (B:H a=none):Inv X pins σ H s:=by
 have ne:∀ b o,X.s₀.heap.get? b=some o->b≠a:=fun b o e z=>by rw [z,F] at e;cases e
 have nt:∀ b o,H b=some o->b≠a:=fun b o e z=>by rw [z,B] at e;cases e
 have back:∀ b,upd H a (.ext (clsAt a C)) b=none->H b=none:=fun b e=>by
  by_cases z:b=a
  ·rw [z];exact B
  ·rw [ae z] at e;exact e
 refine ⟨I.ok,I.os,I.bare,⟨I.base.keep,I.base.slot,fun b o e n hx=>back b (I.base.free b o e n hx),I.base.there,fun b xs e => ?_,fun b o u e => ?_,fun b ps e => ?_⟩,I.loc,I.cell,back _ I.free,fun y c e=>back _ (I.freeC y c e),fun p j => ?_,fun b o e => ?_,I.len⟩
 ·have h1:=I.base.tups b xs e
  by_cases z:b=a
  ·rw [z,ak] at h1;cases h1
  ·rw [ae z] at h1;exact h1
 ·have h1:=I.base.frzs b o u e
  by_cases z:b=a
  ·rw [z,ak] at h1;cases h1
  ·rw [ae z] at h1;exact h1
 ·obtain ⟨more,h1⟩:=I.base.tbls b ps e
  by_cases z:b=a
  ·rw [z,ak] at h1;cases h1
  ·rw [ae z] at h1;exact ⟨more,h1⟩
 ·obtain ⟨e,n,r⟩:=I.pin p j;exact ⟨e,back _ n,r⟩
 ·have h1:=I.hok b o (by rw [ae (nt b o e)];exact e)
  exact h1.stay (fun c u _ q=>q) (fun c q=>(by
   by_cases z:c=a
   ·rw [z,ak] at q;cases q
   ·rw [ae z] at q;exact q)) fun c xs q=>(by
   by_cases z:c=a
   ·rw [z,ak] at q;cases q
   ·rw [ae z] at q;exact q)
noncomputable def cV:V->e6
 | .ref D => .ref D
 | .ty T => .type T
 | _ => .none
noncomputable def isC:V->Bool
 | .ref _=>true
 | .ty _=>true
 | _=>false
theorem kC:CallR X (.builtin "isinstance") (fun vs H Q => ∃ a C c b,vs=[.ref a,c]/\isC c=true/\H a=some (.ext (clsAt a C))/\kA X.K C/\EX X.K (.ref C) (cV c)=some b/\Q (.bl b) H):=by
 intro pins s σ H xs us Q I r h;obtain ⟨a,C,c,b,rfl,F,G,Z,j,q⟩:=h
 cases r with
 | cons J r =>
 cases r with
 | cons B r =>
 cases r
 cases J
 have e:cV c=_:=(by
  cases c <;> first | cases F | skip
  ·exact (show _=CO _ from B).symm
  ·exact (show _=FP _ from B).symm)
 rw [e] at j;obtain ⟨φ,_,_⟩:=(show ObjOk X.prog X.w H s.heap a (.ext (clsAt a C)) from I.hok a _ G);exact Dj (kB Z) I.kIn φ.inst j (fun z=>nomatch z) fun tk=>⟨.bl b,H,I.tok tk,rfl,q⟩
theorem rl:CallR X (.builtin "isinstance") (fun vs H Q => ∃ a C p B1 B2 b,vs=[.ref a, .ref p]/\H a=some (.ext (clsAt a C))/\kA X.K C/\H p=some (.tup [.ref B1, .ref B2])/\F0 X.K (.ref C) [.ref B1, .ref B2]=some b/\Q (.bl b) H):=by
 intro pins s σ H xs us Q I r h;obtain ⟨a,C,p,B1,B2,b,rfl,G,Z,J,L,q⟩:=h
 cases r with
 | cons j r =>
 cases r with
 | cons B r =>
 cases r
 cases j
 cases B
 obtain ⟨φ,_,_⟩:=(show ObjOk X.prog X.w H s.heap a (.ext (clsAt a C)) from I.hok a _ G);obtain ⟨_,its,rv,⟨cls,dd,dat,sl⟩,h1,h2,n,F⟩:=(show ObjOk X.prog X.w H s.heap p (.tup [.ref B1, .ref B2]) from I.hok p _ J);dsimp only at h2 F;subst h2 F
 cases rv with
 | cons j rv =>
 cases rv with
 | cons B rv =>
 cases rv
 cases j
 cases B
 exact K0 (kB Z) I.kIn φ.inst h1 L (fun z=>nomatch z) fun tk=>⟨.bl b,H,I.tok tk,rfl,q⟩
end
end
section
section
variable {M:Iw} {A:D1} {E:e6->h7->Prop} {h:Heap} {g:Array Ka} {d:Drawn} {t:Nat} {os:OsState}
theorem ny {C:Addr} {nm' qn':Str} {D N':Addr} {bs' bm':List e6} {q:Bool} {sn':List Str} {sub':List e6} {ab':Bool} {col':Option Bool} {dd':Option Addr} {z B F G J:Option e6} {newId':String} {e:Addr} {oe:Obj} {Q:Bool->h7->Prop}
 (LS:PySem.W.Looks M h (isSubtype (.ref C) (.ref D)) true) (O:h.get? D=some (excClassObj nm' qn' D N' bs' bm' q sn' sub' ab' col' dd' z B F G J newId')) (he:h.get? e=some oe) (j:oe.cls = .ref C)
 (U:bm'.contains (.type "BaseException")=true) (Y:Q true ⟨h,g,d,t,os⟩):CB M A (excMatches (.ref e) (.ref D)) Q E ⟨h,g,d,t,os⟩:=by
 have L:(CO D::bm').contains (.type "BaseException")=true:=by rw [List.contains_cons,U,Bool.or_true]
 have f:=tc_notTuple;unfold excMatches
 repeat (first | (with_reducible refine Jl he ?_;rw [j]) | with_reducible refine Jl O ?_ | (with_reducible refine wpAny_isSubtype_exc O ?_;rw [L]) | (with_reducible refine LS.at ?_) | wp_step)
 exact Y
end
section
variable {X:Cx}
theorem PA.nox {es:List Expr} {t:TA} (h:PA X.nox es t):PA X es t:=fun pos pins s σ H Q I hw =>
 E8 (h pos pins s σ H Q (I.wish _) hw) (fun _ _ ⟨vs,H',I',r,q⟩=>⟨vs,H',I'.unwish,r,q⟩) fun _ _ z=>False.elim z
theorem iZ {x:Str} {C:Addr} {pos:Pos} (j:Gl X x) (hm:X.mg x=some (.ref C)) (hd:(x==("__debug__":Str))=false):PE X (.Name x pos) (tC (.ref C)) :=
 fun pins s σ H Q I h=>cR I j hm ⟨.ref C,H,I,rfl,h⟩ hd
noncomputable def hEx (n c1 c2 b1 b2:Str) (p0 p1 p2 p3 p4 p5 p6 p7 p8 p9 pa pb pc pd pe pf:Pos) (k:Nat):Expr :=
 .BoolOp .And [.Call (.Name "isinstance" p0) [.Name n p1, .Name c1 p2] [] p3, .Call (.Name "isinstance" p4) [.Name n p5, .Name c2 p6] [] p7, .UnaryOp .Not (.Call (.Name "isinstance" p8) [.Name n p9, .Tuple [.Name b1 pa, .Name b2 pb] k pc] [] pd) pe] pf
structure kD (X:Cx) (c1 c2 b1 b2 xD:Str) (C D B1 B2:Addr):Prop where
 g0:Gl X "isinstance"
 m0:X.mg "isinstance" = none
 g1:Gl X c1
 m1:X.mg c1=some (.ref C)
 d1:(c1==("__debug__":Str))=false
 g2:Gl X c2
 m2:X.mg c2=none
 v2:DR c2=some (.type "ValueError")
 n2:c2 ≠ "__name__"
 d2:(c2==("__debug__":Str))=false
 g3:Gl X b1
 m3:X.mg b1=some (.ref B1)
 d3:(b1==("__debug__":Str))=false
 g4:Gl X b2
 m4:X.mg b2=some (.ref B2)
 d4:(b2==("__debug__":Str))=false
 g5:Gl X xD
 m5:X.mg xD=some (.ref D)
 d5:(xD==("__debug__":Str))=false
 xC:kA X.K C
 eD:ES X.K D vbm "ValueError.__new__" = true
 sD:Fl X.K (.ref C) (.ref D)=some true
 kV:EX X.K (.ref C) (.type "ValueError")=some true
 kT:F0 X.K (.ref C) [.ref B1, .ref B2]=some false
theorem zt {n c1 c2 b1 b2 xD:Str} {C D B1 B2:Addr} (Z:kD X c1 c2 b1 b2 xD C D B1 B2) {ie:Nat} (L:X.N[ie]? = some n) (O:Vis X.env.scope n) (hd:(n==("__debug__":Str))=false) (B:(n==("__classdict__":Str))=false) {p0 p1 p2 p3 p4 p5 p6 p7 p8 p9 pa pb pc pd pe pf:Pos} {k:Nat} :
 PE X (hEx n c1 c2 b1 b2 p0 p1 p2 p3 p4 p5 p6 p7 p8 p9 pa pb pc pd pe pf k) (fun σ H Q => ∃ a, σ[ie]? = some (some (.ref a))/\H a=some (.ext (clsAt a C)) /\ ∀ p,H p=none->Q (.bl true) (upd H p (.tup [.ref B1, .ref B2]))):=by
 have F:∀ pos,PE X (.Name n pos) (yL ie):=fun pos=>kf L O hd B;have a1:=bv (p:=p0) (pos:=p3) (kC (X:=X)) Z.g0 Z.m0 (by decide +kernel) (aM (F p1) (aM (iZ (pos:=p2) Z.g1 Z.m1 Z.d1) ci rfl) rfl) (by decide) (by decide) rfl rfl
 have a2:=bv (p:=p4) (pos:=p7) (kC (X:=X)) Z.g0 Z.m0 (by decide +kernel) (aM (F p5) (aM (fV (v := .ty "ValueError") (pos:=p6) Z.g2 Z.m2 Z.v2 rfl Z.n2 Z.d2) ci rfl) rfl) (by decide) (by decide) rfl rfl
 have U:=bv (p:=p8) (pos:=pd) (rl (X:=X)) Z.g0 Z.m0 (by decide +kernel) (aM (F p9) (aM (km (x1:=k) (pos:=pc) (aM (iZ (pos:=pa) Z.g3 Z.m3 Z.d3) (aM (iZ (pos:=pb) Z.g4 Z.m4 Z.d4) ci rfl) rfl)) ci rfl) rfl) (by decide) (by decide) rfl rfl
 refine fun pins s σ H Q I h=>(kg (pos:=pf) a1 (kg a2 (qI (qJ (pos:=pe) U)))) pins s σ H Q I ?_;obtain ⟨a,G,j,q⟩:=h;refine ⟨.ref a,G,a,C, .ref C,true,rfl,rfl,j,Z.xC, ?_,true,rfl, ?_⟩
 ·unfold EX;rw [if_pos (by simp [cV])]
 ·rw [if_pos rfl];refine ⟨.ref a,G,a,C, .ty "ValueError",true,rfl,rfl,j,Z.xC,Z.kV,true,rfl, ?_⟩;rw [if_pos rfl];refine ⟨.ref a,G, ?_⟩;refine ⟨by simp;decide,fun p J => ?_⟩
  have pa:a≠p:=fun z=>by rw [z,J] at j;cases j
  exact ⟨a,C,p,B1,B2,false,rfl,by rw [ae pa];exact j,Z.xC,ak,Z.kT,false,rfl,q p J⟩
theorem zu {n c1 c2 b1 b2 xD x fx:Str} {C D B1 B2:Addr} {ie i:Nat} {p0 p1 p2 p3 p4 p5 p6 p7 p8 p9 pa pb pc pd pe pf:Pos} {kk:Nat} {k:Nat} {f:Addr} {fd:Eh} {ps:List Str} {sp:Sp} {G:Expr} {es:List Expr} {tA:TA} {fp cpos epos np xp apos BP tpos:Pos}
 (hex:X.ex=[]) (BQ:X.stack=X.env::X.outer) (BZ:X.env.frame=some X.env.locals) (Z:∀ a,kD (X.hld a) c1 c2 b1 b2 xD C D B1 B2) (hN:X.N.Nodup) (hi:X.N[i]? = some x) (hx:X.env.scope.names.lookup x=some .local) (BN:X.N[ie]? = some n) (hn:X.env.scope.names.lookup n=some .local) (C0:ie≠i) (hd:(n==("__debug__":Str))=false) (C1:(n==("__classdict__":Str))=false)
 (F:bu X.prog X.w X.K X.mg X.base (CXR X.prog X.w X.base (.ref C)) k f fd ps sp) (hr:Room k X.A) (hg:Gl X fx) (hm:X.mg fx=some (.ref f)) (hk:E9 X.K (.ref f)=true) (hb:Binds X.K fd ps []) (ha:PA X.nox (G::es) tA) (C2:(fx==("__debug__":Str))=false)
 (he:CF (G::es) X.env=(false,eval G X.env)::CF es X.env) (C3:(Es cpos (CF es X.env)).any (·.1)=false) (C4:Et (.Call (.Name fx fp) (G::es) [] cpos) none epos.line X.env=pure false) :
 PS X (.Try [.Expr (.Call (.Name fx fp) (G::es) [] cpos) epos] [.ExceptHandler (some (.Name xD np)) (some n) [.Assign [.Name x xp] (hEx n c1 c2 b1 b2 p0 p1 p2 p3 p4 p5 p6 p7 p8 p9 pa pb pc pd pe pf kk) apos] BP] [] [] tpos)
  (fun DD σ H=>tA σ H fun vs H1=>sp vs H1 (fun _ _=>False) fun _ _ H' => ∀ p,H' p=none->DD.nx ((σ.set i (some (.bl true))).set ie none) (upd H' p (.tup [.ref B1, .ref B2]))):=by
 intro pins s σ H DD I h;refine wpAny_Try_except (GU (wpAny_Expr_any ?_ I.quiet C4));refine ED (cR I hg hm ?_ C2);have hA:=PA.nox (X:=X.wish fun e s₁ => CB (model X.prog X.w) X.A (Ik e X.env) (fun _ s₂ => CB (model X.prog X.w) X.A (H0 e none) (fun _ s₃ => CB (model X.prog X.w) X.A (handleBy e X.env [.ExceptHandler (some (.Name xD np)) (some n) [.Assign [.Name x xp] (hEx n c1 c2 b1 b2 p0 p1 p2 p3 p4 p5 p6 p7 p8 p9 pa pb pc pd pe pf kk) apos] BP]) (SP X pins DD) X.xe s₃) X.xe s₂) X.xe s₁) ha;refine IS (h₀ := X.base) I.ok.mod.kin hk (thn (hA cpos pins s σ H _ (I.wish _) h) fun us s1 ⟨vs,H1,J,r,q⟩=>⟨J.unwish.kIn, ?_⟩) he C3;have J:=J.unwish;have hl:(us++[]).length=ps.length:=by rw [DF, <- r.length];exact F.len _ _ _ _ q
 refine Kc (FF (F.run X.A X.stack s1 H1 ⟨us,[]⟩ us vs _ _ hr J.env0 (by have:=hb s1 us J.kIn hl;rwa [DF] at this) r q) fun r s' hq => ?_)
 cases r with
 | ok fl =>
   cases fl with
   | ret u=>obtain ⟨v,H',_,_,_,_,_,z⟩:=hq;exact z.elim
   | next=>exact False.elim hq
   | brk=>exact False.elim hq
   | cont=>exact False.elim hq
 | error u =>
 obtain ⟨a,T,H',rfl,os,bare,un,hok,ff,ex,BR,C5,na,nT,hE⟩:=hq;rw [BQ] at ff;have frn:∀ b∈frs X.stack,H' b=none:=fun b hb=>by
  have h1:=J.stkFree b hb;obtain ⟨_,o,ho,_⟩:=J.stack.mem hb;exact un.free b o ho h1 (by intro z;cases z)
 refine nQ (base:=X.base) (L:=X.env.locals) (by rw [I.ok.frames,BQ]) ff BZ ex fun h2 T2 l BU BV => ?_
 rw [<- BQ] at l;have ne1:∀ b o,s1.heap.get? b=some o->b≠a/\some b≠some T/\b≠T2:=fun b o e=>by
  refine ⟨fun z => ?_,fun z => ?_,fun z => ?_⟩
  ·rw [z,na] at e;cases e
  ·cases z;rw [nT] at e;cases e
  ·obtain ⟨o',e'⟩:=un.there b o e (by intro z;cases z)
   rw [z,BV] at e';cases e'
 have C6:H' T2=none:=hok.no BV;have mkU:∀ O,(∀ b o,b≠a->some b≠some T->b≠T2->b∉frs X.stack->s'.heap.get? b=some o->O.get? b=some o)->(∀ b o,b≠a->some b≠some T->b≠T2->s'.heap.get? b=some o -> ∃ sl,O.get? b=some { o with slots:=sl })->Un (frs X.stack) [] H1 H' s1.heap O/\HOk X.prog X.w H' O:=fun O k1 k2=>by
  refine ⟨⟨fun b o e n hf hx => ?_,fun b o e n hf hx => ?_,un.free,fun b o e hx => ?_,un.tups,un.frzs,un.tbls⟩,fun b o e => ?_⟩
  ·obtain ⟨j,B,z3⟩:=ne1 b o e;exact k1 b o j B z3 hf (un.keep b o e n hf hx)
  ·obtain ⟨j,B,z3⟩:=ne1 b o e;obtain ⟨sl,G⟩:=un.slot b o e n hf hx;obtain ⟨BW,e2⟩:=k2 b _ j B z3 G;exact ⟨BW,e2⟩
  ·obtain ⟨j,B,z3⟩:=ne1 b o e;obtain ⟨o',G⟩:=un.there b o e hx;obtain ⟨BW,e2⟩:=k2 b _ j B z3 G;exact ⟨_,e2⟩
  ·refine (hok b o e).stay (fun c u hc q => ?_) (fun c q=>q) fun c xs q=>q;have hH:H' c≠none:=by
    rcases hc with z | z
    ·rw [z,e];simp
    ·rw [z];simp
   exact k1 c u (fun z=>hH (by rw [z];exact BR)) (fun z=>hH (by cases z;exact C5)) (fun z=>hH (by rw [z];exact C6)) (fun z=>hH (frn c z)) q
 obtain ⟨C7,BX⟩:=mkU h2 (fun b o j B _ hf e=>l.keep b o j B hf e) (fun b o j B _ e=>l.slot b o j B e);have I2:Inv X pins σ H' { s' with heap:=h2 }:=J.call' (s' := { s' with heap:=h2 }) os C7 BX bare fun b z=>by cases z
 obtain ⟨bm,N,nm,qn,bs,Ce,sn,sub,ab,col,dd,k0,k1,k2,k3,k5,mN,hD,_,_,hT⟩:=nR I.ok.mod.kin (Z a).eD;obtain ⟨oe,vs',ee,ec,_,_,_⟩:=id BU.obj;refine wpAny_handleBy_cons (codeAny_handlers_test ?_) (by intro q;cases q)
 refine cR (X:=X.hld a) (I2.hld a) (Z a).g5 (Z a).m5 ?_ (Z a).d5;refine ny (Iq I2.kIn (Z a).sD) (I2.bk _ _ hD) ee ec (hT.hasType (by decide)) ?_
 refine codeAny_handlers_suite_as ?_;refine rg (s := { s' with heap:=h2 }) BU fun O sb C8 => ?_
 obtain ⟨C9,BY⟩:=mkU O (fun b o j B z3 hf e=>(sb.2 b z3).trans (l.keep b o j B hf e)) (fun b o j B z3 e=>by
  obtain ⟨sl,G⟩:=l.slot b o j B e;exact ⟨sl,(sb.2 b z3).trans G⟩)
 have I3:Inv X pins σ H' { s' with heap:=O }:=J.call' (s' := { s' with heap:=O }) os C9 BY bare fun b z=>by cases z
 refine jl (X:=X.hld a) (v := .ref a) (I3.hld a) hN BN (.inl hn) rfl (fun s4 J4 ⟨b4,Ca,Cb⟩ => ?_) (.inr hn);obtain ⟨o3,Cf,e3,c3,Cd,BS,_⟩:=id C8.obj;have aL:a≠X.env.locals:=fun z=>by
  obtain ⟨m,⟨o,es',ep,ho,U,_⟩,_⟩:=I3.loc;rw [<- z] at ho;have Y:O.get? a=some o:=ho;rw [e3] at Y;cases Y;rw [BS] at U;cases U
 have aC:∀ y c,X.env.cells.lookup y=some c->c≠a:=fun y c e z=>by
  obtain ⟨v,o,ho,U⟩:=I3.cell y c e;rw [z] at ho;have Y:O.get? a=some o:=ho;rw [e3] at Y;cases Y;rw [BS] at U;cases U
 have a4:a≠b4:=by
  rcases Cb with z | z
  ·rw [z];exact aL
  ·exact fun y=>aC n b4 z y.symm
 have n0:X.s₀.heap.get? a=none:=by
  cases hz:X.s₀.heap.get? a with
  | none=>rfl
  | some o =>
    obtain ⟨o',e'⟩:=J.base.there a o hz (by rw [hex];intro z;cases z)
    rw [na] at e';cases e'
 have J5:=KZ (X:=X.hld a) (C:=C) J4 n0 BR ⟨o3,(Ca.2 a a4).trans e3,c3,by unfold PySem.W.notCls;rw [BS],Cd⟩ aL aC fun p hp z=>by
  obtain ⟨e,_⟩:=J.pin p hp;rw [z,na] at e;cases e
 have hlen:ie < σ.length:=by rw [I.len];exact (CI.mp BN).1
 have step:=iV (qN (X:=X.hld a) (pos:=apos) (pos':=xp) hN hi (.inl hx) (zt (p0:=p0) (p1:=p1) (p2:=p2) (p3:=p3) (p4:=p4) (p5:=p5) (p6:=p6) (p7:=p7) (p8:=p8) (p9:=p9) (pa:=pa) (pb:=pb) (pc:=pc) (pd:=pd) (pe:=pe) (pf:=pf) (k:=kk) (Z a) BN (.inl hn) hd C1) rfl (.inr hx)) pins s4 _ _
  { nx:=fun σ' H'' => ∃ p,upd H' a (.ext (clsAt a C)) p=none /\ σ'=(σ.set ie (some (.ref a))).set i (some (.bl true))/\H''=upd (upd H' a (.ext (clsAt a C))) p (.tup [.ref B1, .ref B2]),rt:=fun _ _=>False } J5 ⟨a,by rw [Dh hlen],ak,fun p hp=>⟨p,hp,rfl,rfl⟩⟩
 refine E8 step (fun fl s5 BO => ?_) fun _ _ z=>z.elim
 cases fl with
 | brk=>obtain ⟨_,_,_,z⟩:=BO;exact z.elim
 | cont=>obtain ⟨_,_,_,z⟩:=BO;exact z.elim
 | ret u=>obtain ⟨_,_,_,_,_,z⟩:=BO;exact z.elim
 | next =>
   obtain ⟨σ',H'',J6,p,hp,rfl,rfl⟩:=BO;have pa':p≠a:=fun z=>by rw [z,ak] at hp;cases hp
   rw [ae pa'] at hp;have ec':upd (upd H' a (.ext (clsAt a C))) p (.tup [.ref B1, .ref B2])=upd (upd H' p (.tup [.ref B1, .ref B2])) a (.ext (clsAt a C)):=by
    funext b
    unfold upd
    by_cases j:b=a
    ·rw [if_pos j,if_neg (by rw [j];exact Ne.symm pa'),if_pos j]
    ·rw [if_neg j,if_neg j]
   rw [ec'] at J6;have J7:=(J6.untrack n0 (by rw [ae (Ne.symm pa')];exact BR)).unhld I.ok
   refine wU J7 hN BN hn fun s6 J8=>⟨_,_,J8, ?_⟩;have es':(((σ.set ie (some (.ref a))).set i (some (.bl true))).set ie none)=(σ.set i (some (.bl true))).set ie none:=by
    rw [List.set_comm _ _ C0,List.set_set]
   rw [es'];exact hE p hp
end
end
section
noncomputable def aT (elt:Expr) (gens:List D3) (scope:Scope) (pos:Pos) (d:Nat) (acc:e6) (env:Env) (k:Sem Fin):Sem Fin :=
 match gens[d+1]? with
 | some g'=>eval g'.iter env >>= fun x=>FT g'.iter.pos >>= fun _=>DW g'.iter env x >>= fun x=>holding [x] (IK x) >>= fun it' =>
    runOwn (.compStart (.ListComp elt gens scope pos) (d+1) it' acc env) env >>= fun _=>k
 | none=>(eval elt env >>= fun x=>call (.builtin "list.append") [acc,x] >>= fun _=>pure ()) >>= fun _=>k
noncomputable def b7 (ifs:List Expr) (env:Env):Sem Bool :=
 forIn ifs true fun c r=>if r=true then do let ok <- isTrue c env (eval c env);pure (EL ok) else pure (EL r)
theorem kE (elt target iter:Expr) (ifs:List Expr) (gens:List D3) (scope:Scope) (pos:Pos) (d:Nat) (it acc:e6) (env:Env)
 (hd:gens[d]? = some ⟨target,iter,ifs,0⟩) (j:∀ g',gens[d+1]? = some g'->g'.is_async=0) :
 compTurn (.ListComp elt gens scope pos) d it acc env=(FT iter.pos >>= fun _=>FA it >>= fun r=>match r with
  | none=>pure (.done .next)
  | some v=>G0 target it v >>= fun _=>assign target env v >>= fun _=>b7 ifs env >>= fun ok =>
    (if ok=true then aT elt gens scope pos d acc env (again (.compLoop (.ListComp elt gens scope pos) d it acc env)) else again (.compLoop (.ListComp elt gens scope pos) d it acc env))):=by
 unfold compTurn;simp only [hd];unfold aT b7
 cases hn:gens[d+1]? with
 | none=>rfl
 | some g' =>
   obtain ⟨t',i',f',a'⟩:=g';have e:a'=0:=j _ hn;subst e;rfl
noncomputable abbrev TC:=St->Hp->(St->Hp->Prop)->Prop
def fY (J:It) (g:TG) (tb:TC) (N:St->Hp->Prop) (σ:St) (H:Hp):Prop :=
 ∃ W:Nat->Nat->St->Hp->Prop,(∃ m,W 0 m σ H) /\ ∀ i m σ H,W i m σ H ->
  (J.stop i H/\N σ H)∨(J.go i H /\ ∃ N':St->Hp->Prop,(∀ σ' H',N' σ' H' -> ∃ m',m' < m/\W (i+1) m' σ' H') /\ ∀ x H',J.yld i H x H'->g x σ H' fun σ2 H2=>tb σ2 H2 N')
def PB (X:Cx) (F:Sem Fin->Sem Fin) (t:TC):Prop :=
 ∀ (pins:List (Addr×Obj)) (s:h7) (σ:St) (H:Hp) (N:St->Hp->Prop) (k:Sem Fin) (Q:Fin->h7->Prop) (E:e6->h7->Prop),Inv X pins σ H s->t σ H N ->
  (∀ s' σ' H',Inv X pins σ' H' s'->N σ' H'->CB (model X.prog X.w) X.A k Q E s')->CB (model X.prog X.w) X.A (F k) Q E s
section
variable {X:Cx}
theorem nox {α:Type} {m:Sem α} {Q : α -> h7->Prop} {E:e6->h7->Prop} {s:h7} (hx:∀ e s,X.xe e s->False) (h:CB (model X.prog X.w) X.A m Q X.xe s):CB (model X.prog X.w) X.A m Q E s :=
 E8 h (fun _ _ q=>q) fun e s' q=>(hx e s' q).elim
noncomputable def i7 (ts:List TT) (tb:TC):TC:=match ts with
 | [] => tb
 | t::r=>fun σ H N=>t σ H fun b H1=>if b=true then i7 r tb σ H1 N else N σ H1
theorem i8 {env:Env} {M:Iw} {A:D1} {Q:Bool->h7->Prop} {E:e6->h7->Prop} {s:h7} (h:Q false s):∀ ifs:List Expr,
 CB M A (forIn ifs false fun c r=>if r=true then do let ok <- isTrue c env (eval c env);pure (EL ok) else pure (EL r)) Q E s
 | [] => hh h
 | c::r=>by
   rw [Fo];simp only [Dz,if_false];exact b0 (hh (i8 h r))
theorem kF (hx:∀ e s,X.xe e s->False) {tb:TC} {N:St->Hp->Prop}:∀ {ifs:List Expr} {ts:List TT},CU (fun c t=>PT X c t) ifs ts ->
 ∀ (pins:List (Addr×Obj)) (s:h7) (σ:St) (H:Hp) (E:e6->h7->Prop),Inv X pins σ H s->i7 ts tb σ H N ->
 CB (model X.prog X.w) X.A (b7 ifs X.env) (fun ok s' => ∃ H',Inv X pins σ H' s'/\if ok=true then tb σ H' N else N σ H') E s
 | _,_, .nil=>fun pins s σ H E I h=>hh ⟨H,I,by rw [if_pos rfl];exact h⟩
 | c::ifs,_, .cons (b:=t) z hr=>by
   intro pins s σ H E I h;have ih:=kF hx hr (tb:=tb) (N:=N) pins;unfold b7 at ih ⊢;rw [Fo];simp only [if_true];refine b0 (b0 (nox hx (thn (z pins s σ H _ I h) fun b s1 ⟨H1,q,j⟩=>hh ?_)))
   cases b with
   | false =>
     rw [if_neg hG] at j;exact i8 ⟨H1,q,by rw [if_neg hG];exact j⟩ ifs
   | true =>
     rw [if_pos rfl] at j;exact ih s1 σ H1 E q j
theorem ud (hx:∀ e s,X.xe e s->False) {F:Sem Fin->Sem Fin} {tb:TC} (z:PB X F tb) {ifs:List Expr} {ts:List TT} (B:CU (fun c t=>PT X c t) ifs ts) :
 PB X (fun k=>b7 ifs X.env >>= fun ok=>if ok=true then F k else k) (i7 ts tb):=by
 intro pins s σ H N k Q E I h hk;refine b0 (thn (kF hx B pins s σ H E I h) fun ok s1 ⟨H1,q,j⟩ => ?_)
 cases ok with
 | false =>
   rw [if_neg hG] at j ⊢;exact hk s1 σ H1 q j
 | true =>
   rw [if_pos rfl] at j ⊢;exact z pins s1 σ H1 N k Q E q j hk
noncomputable def vZ (p:Addr) (te:TE):TC:=fun σ H N=>te σ H fun x H1 => ∃ xs,H1 p=some (.lst xs)/\xs.length < hP/\N σ (upd H1 p (.lst (xs++[x])))
theorem j0 (hx:∀ e s,X.xe e s->False) {elt:Expr} {gens:List D3} {scope:Scope} {pos:Pos} {d:Nat} {p:Addr} {te:TE} (he:PE X elt te) (hd:gens[d+1]? = none) :
 PB X (aT elt gens scope pos d (.ref p) X.env) (vZ p te):=by
 intro pins s σ H N k Q E I h j;unfold aT;rw [hd];refine b0 (b0 (nox hx (thn (he pins s σ H _ I h) fun u s1 ⟨x,H1,q,z,xs,B,l1,F⟩ => ?_)));refine b0 (nox hx (thn (jq (X:=X) pins s1 σ H1 (.ref p) [x] (.ref p) [u] (fun _ H2=>N σ H2) q rfl (.cons z .nil) ⟨p,xs,x,rfl,rfl,B,l1,F⟩) fun v s2 ⟨_,H2,G,_,J⟩ => ?_));exact hh (j s2 σ H2 G J)
theorem ju (hx:∀ e s,X.xe e s->False) (U:X.calm=true) {elt target iter:Expr} {ifs:List Expr} {gens:List D3} {scope:Scope} {pos:Pos} {d:Nat} {acc:e6}
 (hd:gens[d]? = some ⟨target,iter,ifs,0⟩) (ha:∀ g',gens[d+1]? = some g'->g'.is_async=0) {g:TG} (hg:PG X target g) {tb:TC}
 (j:PB X (fun k=>b7 ifs X.env >>= fun ok=>if ok=true then aT elt gens scope pos d acc X.env k else k) tb)
 {pins:List (Addr×Obj)} {s:h7} {σ:St} {H:Hp} {N:St->Hp->Prop} {it:Addr} {fp:List Addr} {tn:Nat->Heap->Prop} {J:It} (I:Inv X pins σ H s) (T:fe X.prog X.w X.K target J fp it tn)
 (t0:tn 0 s.heap) (f2:∀ b∈fp,bS X pins H b) (h:fY J g tb N σ H) :
 Gd (model X.prog X.w) X.A (.compLoop (.ListComp elt gens scope pos) d (.ref it) acc X.env) (fun r s'=>match r with | .ok _ => ∃ σ' H',Inv X pins σ' H' s'/\N σ' H' | .error _=>False) s:=by
 obtain ⟨W,⟨m0,w0⟩,turn⟩:=h;have stat:∀ {H':Hp},(∀ b∈fp,H' b=none) -> ∀ b∈fp,bS X pins H' b:=fun hn b j=>⟨hn b j,(f2 b j).2⟩;refine codeAny_loop rfl (fun n s' => ∃ i σ' H',Inv X pins σ' H' s'/\tn i s'.heap/\(∀ b∈fp,H' b=none)/\W i n σ' H') ?_ m0 ⟨0, σ,H,I,t0,fun b j=>(f2 b j).1,w0⟩;rintro n s3 ⟨i, σ3,F,Y,z,B,w3⟩;show CB _ _ ((compTurn (.ListComp elt gens scope pos) d (.ref it) acc X.env).onRaise (fun x=>do Ik x X.env;theTreesLotGoes x)) _ _ s3
 refine wpAny_noted ?_;rw [kE elt target iter ifs gens scope pos d (.ref it) acc X.env hd ha];refine b0 (EN (b0 ?_));show CB (model X.prog X.w) X.A _ _ _ s3
 rcases turn i n σ3 F w3 with ⟨stop,qn⟩ | ⟨go,N',hN,step⟩
 ·refine thn (T.done X rfl rfl rfl U i pins s3 σ3 F _ Y (stat B) z stop) fun r s4 ⟨hr,I4⟩ => ?_;subst hr;exact hh ⟨σ3,F,I4,qn⟩
 ·refine thn (T.item X rfl rfl rfl U i pins s3 σ3 F _ Y (stat B) z go) fun r s4 ⟨u,hr,h4⟩ => ?_;subst hr;refine b0 (thn h4 fun _ s5 ⟨x,Z,I5,r5,y5,q,G⟩ => ?_);have L:=I5.pinned (stat G) (T.obj _ _ q);refine b0 (nox hx (thn (hg _ s5 σ3 Z x u _ L r5 (step x Z y5)) fun _ s6 ⟨σ6,H6,I6,q6⟩ => ?_));refine j _ s6 σ6 H6 N' (again (.compLoop (.ListComp elt gens scope pos) d (.ref it) acc X.env)) _ _ I6 q6 fun s7 σ7 H7 O n7 => ?_;obtain ⟨m',hm,w7⟩:=hN σ7 H7 n7;refine hh ⟨rfl,m',hm,i+1, σ7,H7,O.unpinned,T.keep _ _ _ q fun b j o e=>(O.pin (b,o) (CN _ (CN _ (cL j e)))).1,fun b j => ?_,w7⟩;obtain ⟨o,e,dd⟩:=T.obj _ _ q b j;exact (O.pin (b,o) (CN _ (CN _ (cL j e)))).2.1
theorem i9 {elt target iter:Expr} {ifs:List Expr} {gens:List D3} {scope:Scope} {pos:Pos} {d:Nat} {it acc:e6} {env:Env} {prog:CG} {w:CT} {A:D1} {R:Result->h7->Prop} {s:h7}
 (hd:gens[d]? = some ⟨target,iter,ifs,0⟩)
 (h0:Gd (model prog w) A (.compLoop (.ListComp elt gens scope pos) d it acc env) R s)
 (h:CB (model prog w) A (IK it) (fun it' s'=>Gd (model prog w) A (.compLoop (.ListComp elt gens scope pos) d it' acc env) R s')
   (notedBy (model prog w) A env fun x s'=>R (.error x) s') s) :
 Gd (model prog w) A (.compStart (.ListComp elt gens scope pos) d it acc env) R s:=by
 refine codeAny_of_tree ?_;show CB _ _ ((compStart (.ListComp elt gens scope pos) d it acc env).onRaise (fun x=>do Ik x env;FT theWindowsPlace)) _ _ s
 refine wpAny_notedAt ?_;unfold compStart;have j:(clausesOf (.ListComp elt gens scope pos))[d]? = some ⟨target,iter,ifs,0⟩:=hd;rw [j];show CB _ _ (ask >>= _) _ _ s;refine b0 (wpAny_askSetting (wpAny_ite ?_))
 split
 ·first
   | exact b0 (hh (hh (Il rfl h0)))
   | exact hh (Il rfl h0)
 ·first
   | exact b0 (EB (b0 (EN (b0 (E8 h (fun it' s' h'=>hh (Il rfl h')) fun _ _ x=>x)))))
   | (refine b0 (EB ?_);show CB _ _ (FT iter.pos >>= _) _ _ s;exact b0 (EN (b0 (E8 h (fun it' s' h'=>hh (Il rfl h')) fun _ _ x=>x))))
theorem jv (hx:∀ e s,X.xe e s->False) (q:X.calm=true) {elt target iter:Expr} {ifs:List Expr} {gens:List D3} {scope:Scope} {pos:Pos} {d:Nat} {acc:e6}
 (hd:gens[d+1]? = some ⟨target,iter,ifs,0⟩) (z:∀ g',gens[d+1+1]? = some g'->g'.is_async=0) {wi:TI} (hi:PI X target iter wi) {g:TG} (B:PG X target g) {tb:TC}
 (F:PB X (fun k=>b7 ifs X.env >>= fun ok=>if ok=true then aT elt gens scope pos (d+1) acc X.env k else k) tb)
 (hs:∀ x,DW iter X.env x=pure x) :
 PB X (aT elt gens scope pos d acc X.env) (fun σ H N=>wi σ H fun J H1=>fY J g tb N σ H1):=by
 intro pins s σ H N k Q E I h hk;unfold aT;rw [hd];refine b0 (nox hx (thn (hi pins s σ H _ I h) fun v s1 h1 => ?_));refine b0 (EN (b0 (FX (hs v) ?_)));refine b0 (De (nox hx (thn h1 fun itv s2 h2 => ?_)));obtain ⟨it,fp,tn,J,H2,e,G,T,j,f2,hw⟩:=h2;subst e;have loop:=ju (acc:=acc) hx q hd z B F G T j f2 hw;refine b0 (wpAny_runOwn (FF (i9 (R:=fun r s'=>match r with | .ok _ => ∃ σ' H',Inv X pins σ' H' s'/\N σ' H' | .error _=>False) hd loop (T.self _ 0 _ _ _ j loop)) fun r s3 hr => ?_))
 cases r with
 | error e=>exact hr.elim
 | ok f =>
   obtain ⟨σ3,L,O,U⟩:=hr;exact hk s3 σ3 L O U
noncomputable def aO (cells:List (Str×Addr)):List (Str×Eu)->List (Str×Addr)->List (Str×Addr)
 | [],acc=>acc
 | (n,k)::r,acc=>if k == .free then (match cells.lookup n with | some c=>aO cells r ((n,c)::acc) | none=>aO cells r acc) else aO cells r acc
theorem gx {env:Env}:∀ (names:List (Str×Eu)) (acc:List (Str×Addr)),(∀ x∈names,x.2 = .free->(env.cells.lookup x.1).isSome=true) ->
 (forIn names acc fun (x:Str×Eu) (r:List (Str×Addr))=>(match x with | (name,kind)=>if (kind==CQ)=true then do let c <- cellOf env name;pure (EL ((name,c)::r)) else pure (EL r):Sem (ForInStep (List (Str×Addr)))))=(pure (aO env.cells names acc):Sem (List (Str×Addr)))
 | [],acc,_=>rfl
 | (n,k)::r,acc,h=>by
  rw [Fo];have ih:=fun acc'=>gx r acc' fun x hx=>h x (CM _ hx);unfold aO
  by_cases hk:(k==CQ)=true
  ·obtain ⟨c,q⟩:=DS.mp (h (n,k) D5 (beq_iff_eq.mp hk));have j:env.cells.lookup n=some c:=q;have z:cellOf env n=pure c:=by unfold cellOf;rw [j]
   simp only [hk,if_true,z,j,pure_bind];exact ih _
  ·simp only [hk,if_false,pure_bind];exact ih _
theorem ic {scope:Scope} {env:Env} (h:∀ x∈scope.names,x.2 = .free->(env.cells.lookup x.1).isSome=true):closureFor scope env=pure (aO env.cells scope.names []):=by
 unfold closureFor;have e:=gx (env:=env) scope.names [] h;simp only [bind_pure];exact e
theorem cM {cells:List (Str×Addr)} {y:Str} {c:Addr}:∀ {names:List (Str×Eu)} {acc:List (Str×Addr)},(y,c)∈aO cells names acc->(y,c)∈acc∨(cells.lookup y=some c/\(y,CQ)∈names)
 | [],acc,h => .inl h
 | (n,k)::r,acc,h=>by
  unfold aO at h
  by_cases hk:(k==CQ)=true
  ·rw [if_pos hk] at h;have B:k = .free:=beq_iff_eq.mp hk;subst B
   cases F:cells.lookup n with
   | none =>
     rw [F] at h
     rcases cM h with z | ⟨j,q⟩
     ·exact .inl z
     ·exact .inr ⟨j,CM _ q⟩
   | some c' =>
     rw [F] at h
     rcases cM h with z | ⟨j,q⟩
     ·rcases CC.mp z with e | z
      ·cases e
       exact .inr ⟨F,D5⟩
      ·exact .inl z
     ·exact .inr ⟨j,CM _ q⟩
  ·rw [if_neg hk] at h
   rcases cM h with z | ⟨j,q⟩
   ·exact .inl z
   ·exact .inr ⟨j,CM _ q⟩
theorem cN {cells:List (Str×Addr)} {y:Str} {c:Addr} (j:cells.lookup y=some c):∀ {names:List (Str×Eu)} {acc:List (Str×Addr)},((y,c)∈acc∨(y,CQ)∈names)->(y,c)∈aO cells names acc
 | [],acc,h=>by
  rcases h with h | h
  ·exact h
  ·simp at h
 | (n,k)::r,acc,h=>by
  unfold aO
  by_cases hk:(k==CQ)=true
  ·rw [if_pos hk];have q:k = .free:=beq_iff_eq.mp hk;subst q
   cases hl:cells.lookup n with
   | none =>
     refine cN j ?_
     rcases h with h | h
     ·exact .inl h
     ·rcases CC.mp h with e | h
      ·cases e;rw [hl] at j;cases j
      ·exact .inr h
   | some c' =>
     refine cN j ?_
     rcases h with h | h
     ·exact .inl (CM _ h)
     ·rcases CC.mp h with e | h
      ·cases e;rw [hl] at j;cases j;exact .inl D5
      ·exact .inr h
  ·rw [if_neg hk];refine cN j ?_
   rcases h with h | h
   ·exact .inl h
   ·rcases CC.mp h with e | h
    ·cases e;exact absurd rfl hk
    ·exact .inr h
theorem cG:∀ (names:List (Str×Eu)) (n:Nat) (acc acc':List (Str×Addr)),DX n names (acc++acc')=DX n names acc++acc'
 | [],_,_,_=>rfl
 | (x,k)::r,n,acc,acc'=>by
  unfold DX
  by_cases j:(k==DT)=true
  ·rw [if_pos j,if_pos j];exact cG r (n+1) ((x,n)::acc) acc'
  ·rw [if_neg j,if_neg j];exact cG r n acc acc'
theorem cH:∀ {names:List (Str×Eu)} {n:Nat} {acc:List (Str×Addr)} {y:Str} {c:Addr},(y,c)∈DX n names acc->(y,c)∈acc∨(n<=c/\(y,DT)∈names)
 | [],_,_,_,_,h => .inl h
 | (x,k)::r,n,acc,y,c,h=>by
  unfold DX at h
  by_cases hk:(k==DT)=true
  ·rw [if_pos hk] at h;have j:k = .cell:=beq_iff_eq.mp hk;subst j
   rcases cH h with z | ⟨q,B⟩
   ·rcases CC.mp z with e | z
    ·cases e;exact .inr ⟨q0 _,D5⟩
    ·exact .inl z
   ·exact .inr ⟨Nat.le_of_succ_le q,CM _ B⟩
  ·rw [if_neg hk] at h
   rcases cH h with z | ⟨q,B⟩
   ·exact .inl z
   ·exact .inr ⟨q,CM _ B⟩
structure aU (sc osc:Scope) (oN N':List Str) (fr:List (Option Nat)):Prop where
 kind:sc.kind = .function
 nd:(sc.names.map (·.1)).Nodup
 ndN:N'.Nodup
 free:∀ x∈sc.names,x.2 = .free->osc.names.lookup x.1=some .cell∨osc.names.lookup x.1=some .free
 len:fr.length=N'.length
 fr:∀ (i j:Nat) (x:Str),N'[i]? = some x->fr[i]? = some (some j)->oN[j]? = some x/\(x,CQ)∈sc.names
noncomputable def inh (fr:List (Option Nat)) (σ:St):St:=fr.map fun o=>o.bind fun j=>(σ[j]?).join
noncomputable def aV (X:Cx) (sc:Scope) (L:Addr):Env :=
 { scope:=relabel sc X.env,locals:=L,globals:=X.env.globals,cells:=DX (L+1) sc.names (aO X.env.cells sc.names []),qual:=X.env.qual,func:=none,code:=X.env.code,frame:=X.env.frame,builtins:=X.env.builtins }
noncomputable def aA (X:Cx) (sc:Scope) (N':List Str) (s:h7) (H:Hp) (fp:List Addr):Cx :=
 { X with N:=N',s₀ := s,H₀ := H,env:=aV X sc s.heap.objs.size,outer:=X.stack,stack:=X.stack,ex:=fp,fn:=fun x=>sc.names.lookup x==some .cell,pn := [],xe:=fun _ _=>False }
theorem aN:∀ {l:List (Str×Eu)} {x:Str} {k:Eu},(l.map (·.1)).Nodup->(x,k)∈l->l.lookup x=some k
 | (y,k')::r,x,k,nd,h=>by
  have nd':(y::r.map (·.1)).Nodup:=nd;obtain ⟨q,n2⟩:=DG.mp nd';rw [E6]
  rcases CC.mp h with e | hm
  ·cases e;simp
  ·have j:(x==y)=false:=by
    refine beq_eq_false_iff_ne.mpr fun e => ?_;subst e;exact q (Ej.mpr ⟨(x,k),hm,rfl⟩)
   rw [j];exact aN n2 hm
theorem cj {env:Env}:∀ {names:List (Str×Eu)} {x:Str},
 (names.map fun (n,k)=>if (k==CQ&&env.scope.kind == .function&&env.kindOf n==some .cell) then (n,DT) else (n,k)).lookup x =
   (names.lookup x).map fun k=>if (k==CQ&&env.scope.kind == .function&&env.kindOf x==some .cell) then DT else k
 | [],_=>rfl
 | (n,k)::r,x=>by
  have ih:=cj (env:=env) (names:=r) (x:=x);show List.lookup x ((if (k==CQ&&env.scope.kind == .function&&env.kindOf n==some .cell)=true then (n,DT) else (n,k))::_)=_
  rw [E6 (a:=x) (b:=k)]
  by_cases hx:x=n
  ·subst hx;simp only [beq_self_eq_true];show _=some (if (k==CQ&&env.scope.kind == .function&&env.kindOf x==some .cell)=true then DT else k)
   by_cases j:(k==CQ&&env.scope.kind == .function&&env.kindOf x==some .cell)=true
   ·rw [if_pos j,if_pos j,E6];simp only [beq_self_eq_true]
   ·rw [if_neg j,if_neg j,E6];simp only [beq_self_eq_true]
  ·have q:(x==n)=false:=beq_eq_false_iff_ne.mpr hx;rw [q]
   by_cases j:(k==CQ&&env.scope.kind == .function&&env.kindOf n==some .cell)=true
   ·rw [if_pos j,E6,q];exact ih
   ·rw [if_neg j,E6,q];exact ih
section
variable {pins:List (Addr×Obj)} {σ:St} {H:Hp} {s:h7} {sc:Scope} {N':List Str} {fr:List (Option Nat)} {fp:List Addr}
theorem fu (I:Inv X pins σ H s) (B:aU sc X.env.scope X.N N' fr):∀ x∈sc.names,x.2 = .free->(X.env.cells.lookup x.1).isSome=true:=fun x hx e=>by
 obtain ⟨c,j⟩:=I.ok.has x.1 (B.free x hx e);rw [j];rfl
theorem rn (I:Inv X pins σ H s) (f2:∀ b∈fp,bS X pins H b) (Z:∀ b∈fp,b < s.heap.objs.size) (B:aU sc X.env.scope X.N N' fr) :
 Inv (aA X sc N' s H fp) [] (inh fr σ) H { s with heap:=JC (s.heap.push { cls := .type "dict",data := .dict #[] }) sc.names }:=by
 have G:∀ b o,s.heap.get? b=some o->(JC (s.heap.push { cls := .type "dict",data := .dict #[] }) sc.names).get? b=some o:=fun b o e=>HD _ _ b o (h8 _ e);have ok:=cellsFrom_ok sc.names (s.heap.push { cls := .type "dict",data := .dict #[] }) (s.heap.objs.size+1) [] ⟨fun _ _ hm=>(nomatch hm),Ji⟩ (by rw [Dx];exact q0 _)
 rw [Dx] at ok;have capp:DX (s.heap.objs.size+1) sc.names (aO X.env.cells sc.names [])=DX (s.heap.objs.size+1) sc.names []++aO X.env.cells sc.names []:=cG sc.names _ [] _;have cof:∀ x c,(aV X sc s.heap.objs.size).cells.lookup x=some c->((x,c)∈DX (s.heap.objs.size+1) sc.names []/\s.heap.objs.size < c)∨(X.env.cells.lookup x=some c/\(x,CQ)∈sc.names):=fun x c e=>by
  have m:=Du e;have m':(x,c)∈DX (s.heap.objs.size+1) sc.names (aO X.env.cells sc.names []):=m;rw [capp] at m'
  rcases Ds.mp m' with z | z
  ·exact .inl ⟨z,(ok.empty x c z).2⟩
  ·rcases cM z with q | q
   ·simp at q
   ·exact .inr q
 have cOld:∀ x c,X.env.cells.lookup x=some c->c < s.heap.objs.size:=fun x c e=>by
  obtain ⟨v,q⟩:=I.cell x c e;exact q.lt
 have kindF:∀ x,(x,CQ)∈sc.names->(aV X sc s.heap.objs.size).kindOf x=some .cell∨(aV X sc s.heap.objs.size).kindOf x=some .free:=fun x hx=>by
  have e1:sc.names.lookup x=some .free:=aN B.nd hx;have O:(aV X sc s.heap.objs.size).kindOf x=_:=cj (env:=X.env) (names:=sc.names) (x:=x);rw [e1] at O;rw [O]
  by_cases J:(CQ==CQ&&X.env.scope.kind == .function&&X.env.kindOf x==some .cell)=true
  ·exact .inl (by simp only [Fp,if_pos J])
  ·exact .inr (by simp only [Fp,if_neg J])
 have cellF:∀ x c,(x,CQ)∈sc.names->X.env.cells.lookup x=some c->(aV X sc s.heap.objs.size).cells.lookup x=some c:=fun x c hx J=>by
  have m:=cN (acc := []) J (.inr hx);have m2:(x,c)∈(aV X sc s.heap.objs.size).cells:=by
   show (x,c)∈DX (s.heap.objs.size+1) sc.names (aO X.env.cells sc.names []);rw [capp];exact CN _ m
  cases F:(aV X sc s.heap.objs.size).cells.lookup x with
  | none =>
    exfalso
    have:∀ {l:List (Str×Addr)},(x,c)∈l->l.lookup x=none->False:=by
     intro l
     induction l with
     | nil=>intro h;simp at h
     | cons a r ih =>
       intro h e;obtain ⟨y,d⟩:=a;rw [E6] at e
       rcases CC.mp h with z | z
       ·cases z;simp at e
       ·by_cases hxy:(x==y)=true
        ·rw [hxy] at e;cases e
        ·simp only [FR] at hxy;rw [hxy] at e;exact ih z e
    exact this m2 F
  | some c' =>
    rcases cof x c' F with ⟨z,_⟩ | ⟨z,_⟩
    ·rcases cH z with q | ⟨_,q⟩
     ·simp at q
     ·have a1:=aN B.nd hx;have a2:=aN B.nd q;rw [a1] at a2;cases a2
    ·rw [J] at z;rw [z]
 have kindC:∀ x,(aV X sc s.heap.objs.size).kindOf x=some .cell->(x,DT)∈sc.names∨(x,CQ)∈sc.names:=fun x e=>by
  have O:(aV X sc s.heap.objs.size).kindOf x=_:=cj (env:=X.env) (names:=sc.names) (x:=x);rw [O] at e
  cases F:sc.names.lookup x with
  | none=>rw [F] at e;cases e
  | some k =>
    rw [F] at e;have m:=Du F
    cases k with
    | cell=>exact .inl m
    | free=>exact .inr m
    | «local» => simp at e
    | globalImplicit=>simp at e
    | globalExplicit=>simp at e
 have kindFr:∀ x,(aV X sc s.heap.objs.size).kindOf x=some .free->(x,CQ)∈sc.names:=fun x e=>by
  have O:(aV X sc s.heap.objs.size).kindOf x=_:=cj (env:=X.env) (names:=sc.names) (x:=x);rw [O] at e
  cases F:sc.names.lookup x with
  | none=>rw [F] at e;cases e
  | some k =>
    rw [F] at e;have m:=Du F
    cases k with
    | free=>exact m
    | cell=>simp at e
    | «local» => simp at e
    | globalImplicit=>simp at e
    | globalExplicit=>simp at e
 refine ⟨⟨I.ok.mod,B.kind,I.ok.glob,I.ok.blt,q0 _,fun y z c h1 h2 => ?_,fun y hy => ?_,fun y c hf h => ?_,I.ok.hd,I.ok.frames, .inl rfl,fun b U=>⟨?_,fun x c e => ?_⟩,fun b o e=>I.bs b o e, ?_,fun b o e U => ?_,fun b U => ?_,I.stack,I.stkFree⟩,
  rfl,I.bare,Un.kept G,⟨_,(Heap.Ns.new s.heap (.type "dict")).keeps (HD _ _),fun i x v h1 h2 h3 => ?_⟩,fun y c h => ?_,I.hok.fresh (q0 _),fun y c h => ?_,fun p hp=>absurd (show p∈([]:List (Addr×Obj)) from hp) (by simp),I.hok.kept G, ?_⟩
 ·rcases cof y c h1 with ⟨a1,a2⟩ | ⟨a1,a2⟩
  ·rcases cof z c h2 with ⟨b1,b2⟩ | ⟨b1,b2⟩
   ·exact name_of_addr ok.apart a1 b1
   ·exact absurd (cOld z c b1) (Kh.mpr (F5 a2))
  ·rcases cof z c h2 with ⟨b1,b2⟩ | ⟨b1,b2⟩
   ·exact absurd (cOld y c a1) (Kh.mpr (F5 b2))
   ·exact I.ok.inj y z c a1 b1
 ·have BP:(y,DT)∈sc.names∨(y,CQ)∈sc.names:=by
   rcases hy with hy | hy
   ·exact kindC y hy
   ·exact .inr (kindFr y hy)
  rcases BP with q | q
  ·exact DS.mp (FG sc.names _ _ (.inl (aN B.nd q)))
  ·obtain ⟨c,J⟩:=DS.mp (fu I B _ q rfl);exact ⟨c,cellF y c q J⟩
 ·have BQ:(sc.names.lookup y==some .cell)=true:=hf;have BN:sc.names.lookup y=some .cell:=by simpa using BQ
  rcases cof y c h with ⟨_,a2⟩ | ⟨_,a2⟩
  ·exact F5 a2
  ·rw [aN B.nd a2] at BN;cases BN
 ·exact CV (Z b U)
 ·rcases cof x c e with ⟨_,a2⟩ | ⟨a1,_⟩
  ·exact E3 (Nat.lt_trans (Z b U) a2)
  ·exact (f2 b U).2.2.2.2.1 x c a1
 ·exact Dt I.ok.bsz I.sz
 ·obtain ⟨f0,f1,f3,f4,f5,f6⟩:=f2 b U
  rcases f4 with z | z
  ·exact I.ok.noex b o e z
  ·exact absurd (CL (CL (tv e) I.ok.bsz) z) (DQ _)
 ·obtain ⟨f0,f1,f3,f4,f5,f6⟩:=f2 b U;exact fun z=>(CC.mp (I.stkSub b z)).elim f1 f3
 ·have hi:∃ j,fr[i]? = some (some j) /\ σ[j]? = some (some v):=by
   unfold inh at h2;rw [CK] at h2
   cases e:fr[i]? with
   | none=>rw [e] at h2;cases h2
   | some o =>
     rw [e] at h2
     cases o with
     | none=>cases h2
     | some j =>
       refine ⟨j,rfl, ?_⟩;have L:some ((σ[j]?).join)=some (some v):=h2
       cases e' : σ[j]? with
       | none=>rw [e'] at L;cases L
       | some w=>rw [e'] at L;cases L;rfl
  obtain ⟨j,e1,O⟩:=hi;obtain ⟨n1,n2⟩:=B.fr i j x h1 e1;obtain ⟨m,hn,F⟩:=I.loc;have hv:Vis X.env.scope x := .inr (B.free (x, .free) n2 rfl);obtain ⟨u,ru,lk⟩:=F j x v n1 O hv;refine ⟨u,ru, .inr ⟨kindF x n2, ?_⟩⟩
  rcases lk with ⟨k1,_⟩ | ⟨_,c,J,Y⟩
  ·have BO:X.env.scope.names.lookup x=some .local:=k1
   rcases B.free (x, .free) n2 rfl with z | z
   ·rw [BO] at z;cases z
   ·rw [BO] at z;cases z
  ·exact ⟨c,cellF x c n2 J,Y.keeps G⟩
 ·rcases cof y c h with ⟨a1,a2⟩ | ⟨a1,a2⟩
  ·exact ⟨_,(ok.empty y c a1).1⟩
  ·obtain ⟨v,q⟩:=I.cell y c a1;exact ⟨v,q.keeps G⟩
 ·rcases cof y c h with ⟨a1,a2⟩ | ⟨a1,a2⟩
  ·exact I.hok.fresh (F5 a2)
  ·exact I.freeC y c a1
 ·show (inh fr σ).length=N'.length;unfold inh;rw [v5];exact B.len
theorem jw {σ':St} {H':Hp} {s':h7} {h':Heap} (I:Inv X pins σ H s) (f2:∀ b∈fp,bS X pins H b) (J:Inv (aA X sc N' s H fp) [] σ' H' s') (hs:Dn s.heap.objs.size s'.heap h') :
 Inv X pins σ H' { s' with heap:=h' }:=by
 have u:Un (frs X.stack) fp H H' s.heap s'.heap:=J.base;have ne:∀ b o,s.heap.get? b=some o->b≠s.heap.objs.size:=fun b o e=>CV (tv e);refine I.call' (s' := { s' with heap:=h' }) (ch:=fp) J.os ⟨fun b o e n j hx => ?_,fun b o e n j hx => ?_,u.free,fun b o e hx => ?_,u.tups,u.frzs,u.tbls⟩ (fun b v e => ?_) J.bare fun b j => ?_
 ·exact (hs.2 b (ne b o e)).trans (u.keep b o e n j hx)
 ·obtain ⟨sl,q⟩:=u.slot b o e n j hx;exact ⟨sl,(hs.2 b (ne b o e)).trans q⟩
 ·obtain ⟨o',q⟩:=u.there b o e hx;exact ⟨o',(hs.2 b (ne b o e)).trans q⟩
 ·refine (J.hok b v e).stay (fun c w F q=>(hs.2 c ?_).trans q) (fun _ q=>q) fun _ _ q=>q;have fr:H' s.heap.objs.size=none:=J.free
  rcases F with z | z
  ·rw [z];intro B;rw [B,fr] at e;cases e
  ·intro B;rw [B,fr] at z;cases z
 ·obtain ⟨f0,f1,O,f4,G,L⟩:=f2 b j;exact ⟨f4,f1,G,L⟩
theorem jQ {Q:Env->h7->Prop} {E:e6->h7->Prop} {M:Iw} {A:D1}
 (h:Q { scope:=sc,locals:=s.heap.objs.size,globals:=X.env.globals,cells:=DX (s.heap.objs.size+1) sc.names (aO X.env.cells sc.names []),qual:=X.env.qual,func:=none,code:=X.env.code,frame:=X.env.frame,builtins:=X.env.builtins }
   { s with heap:=JC (s.heap.push { cls := .type "dict",data := .dict #[] }) sc.names }) :
 CB M A (HU sc X.env.globals (aO X.env.cells sc.names []) [] X.env.qual none .none (some X.env)) Q E s:=by
 simp only [HU,IV,if_true];refine b0 (wpAny_alloc ?_);refine b0 (wpAny_layCells _ (fun name kind cells=>by cases hkc:kind==DT <;> simp [hkc]) _ _ _ _ ?_)
 rw [show ({ s with heap:=s.heap.push { cls := .type "dict",data := .dict #[] } }:h7).heap.objs.size=s.heap.objs.size+1 from Dx ..]
 exact b0 (hh (hh h))
theorem kG (hc:X.calm=true) {elt target iter:Expr} {ifs:List Expr} {rest:List D3} {pos:Pos} {E:e6->h7->Prop}
 (hx:∀ e s,X.xe e s->False) (B:aU sc X.env.scope X.N N' fr) (ha:∀ g',rest[0]? = some g'->g'.is_async=0) {wi:TI} (hi:PI X target iter wi) {g:TG} {tb:Addr->TC}
 (hg:∀ s H fp,PG (aA X sc N' s H fp) target g)
 (j:∀ s H fp p,PB (aA X sc N' s H fp) (fun k=>b7 ifs (aA X sc N' s H fp).env >>= fun ok=>if ok=true then aT elt (⟨target,iter,ifs,0⟩::rest) sc pos 0 (.ref p) (aA X sc N' s H fp).env k else k) (tb p))
 {Nn:Addr->St->Hp->Prop} {RR:e6->Addr->Result->h7->Prop} (I:Inv X pins σ H s)
 (h:wi σ H fun J H1 => ∀ p,H1 p=none->fY J g (tb p) (Nn p) (inh fr σ) (upd H1 p (.lst [])))
 (hR:∀ p fp s3 L s' σ' H' f,Inv X pins σ L s3->(∀ b∈fp,bS X pins L b)->Inv (aA X sc N' s3 L fp) [] σ' H' s'->Nn p σ' H'->RR (.ref p) s3.heap.objs.size (.ok f) s') :
 CB (model X.prog X.w) X.A (eval iter X.env) (fun x s₁ => CB (model X.prog X.w) X.A (IK x) (fun it s₂ => CB (model X.prog X.w) X.A (newList []) (fun acc s₃ =>
  CB (model X.prog X.w) X.A (HU sc X.env.globals (aO X.env.cells sc.names []) [] X.env.qual none .none (some X.env)) (fun cenv s₄ =>
   Gd (model X.prog X.w) X.A (.compStart (.ListComp elt (⟨target,iter,ifs,0⟩::rest) sc pos) 0 it acc { cenv with scope:=relabel sc X.env }) (RR acc cenv.locals) s₄) E s₃) E s₂) E s₁) E s:=by
 refine nox hx (thn (hi pins s σ H _ I h) fun v s1 h1=>nox hx (thn h1 fun itv s2 h2 => ?_));obtain ⟨it,fp,tn,J,H2,e,Z,T,q,f2,hw⟩:=h2;subst e;have hf:H2 s2.heap.objs.size=none:=Z.hok.fresh (q0 _);refine wpAny_newList ?_;have I3:Inv X pins σ (upd H2 s2.heap.objs.size (.lst [])) { s2 with heap:=s2.heap.push { cls := .type "list",dict:=none,data := .seq ([]:List e6).toArray } } :=
  Z.laid (t':=s2.toks) (fun b u e=>h8 _ e) (q0 _) ⟨DH _,[],0, .nil,hQ _ rfl⟩
 have fneq:∀ b∈fp,b≠s2.heap.objs.size:=fun b j z=>by
  obtain ⟨o,e,_⟩:=T.obj _ _ q b j;exact absurd (tv e) (by rw [z];exact DQ _)
 have O:∀ b∈fp,bS X pins (upd H2 s2.heap.objs.size (.lst [])) b:=fun b j=>⟨by rw [ae (fneq b j)];exact (f2 b j).1,(f2 b j).2⟩
 have U:∀ b∈fp,b < (s2.heap.push { cls := .type "list",dict:=none,data := .seq ([]:List e6).toArray }).objs.size:=fun b j=>by
  obtain ⟨o,e,_⟩:=T.obj _ _ q b j;rw [Dx];exact Nat.lt_succ_of_lt (tv e)
 have Y:tn 0 (s2.heap.push { cls := .type "list",dict:=none,data := .seq ([]:List e6).toArray }):=T.keep _ _ _ q fun b _ o e=>h8 _ e;refine jQ ?_;have G:=rn (N':=N') I3 O U B;have F:=T.keep _ (h':=JC (({ s2 with heap:=s2.heap.push { cls := .type "list",dict:=none,data := .seq ([]:List e6).toArray } }:h7).heap.push { cls := .type "dict",data := .dict #[] }) sc.names) _ Y fun b _ o e=>HD _ _ b o (h8 _ e)
 have f4:∀ b∈fp,bS (aA X sc N' { s2 with heap:=s2.heap.push { cls := .type "list",dict:=none,data := .seq ([]:List e6).toArray } } (upd H2 s2.heap.objs.size (.lst [])) fp) [] (upd H2 s2.heap.objs.size (.lst [])) b:=fun b j =>
  ⟨(O b j).1,(G.ok.exf b j).1,G.ok.exfs b j, .inl j,(G.ok.exf b j).2,fun p hp=>absurd (show p∈([]:List (Addr×Obj)) from hp) (by simp)⟩
 have loop:=ju (X:=aA X sc N' { s2 with heap:=s2.heap.push { cls := .type "list",dict:=none,data := .seq ([]:List e6).toArray } } (upd H2 s2.heap.objs.size (.lst [])) fp) (fun _ _ z=>z) hc
  (elt:=elt) (pos:=pos) (scope:=sc) (gens:=⟨target,iter,ifs,0⟩::rest) (d := 0) (acc := .ref s2.heap.objs.size) rfl (fun g' e=>ha g' (by simpa using e)) (hg _ _ _) (j _ _ _ _) G T F f4 (hw _ hf)
 refine FF (i9 (R:=fun r s'=>match r with | .ok _ => ∃ σ' H',Inv (aA X sc N' { s2 with heap:=s2.heap.push { cls := .type "list",dict:=none,data := .seq ([]:List e6).toArray } } (upd H2 s2.heap.objs.size (.lst [])) fp) [] σ' H' s'/\Nn s2.heap.objs.size σ' H' | .error _=>False)
  (gens:=⟨target,iter,ifs,0⟩::rest) (d := 0) rfl loop (T.self _ 0 _ _ _ F loop)) fun r s5 hr => ?_
 cases r with
 | error e=>exact hr.elim
 | ok f =>
   obtain ⟨σ5,H5,I5,n5⟩:=hr;exact hR _ fp _ _ s5 σ5 H5 f I3 O I5 n5
noncomputable def pE (wi:TI) (g:TG) (tb:Addr->TC) (fr:List (Option Nat)):TE:=fun σ H Q=>wi σ H fun J H1 => ∀ p,H1 p=none->fY J g (tb p) (fun _ H2=>Q (.ref p) H2) (inh fr σ) (upd H1 p (.lst []))
theorem jx (B:aU sc X.env.scope X.N N' fr):∀ x∈sc.names,x.2 = .local->sc.names.lookup x.1=some .local:=fun x hx e=>by
 obtain ⟨n,k⟩:=x;have e':k = .local:=e;subst e';exact aN B.nd hx
theorem gy (z:X.calm=true) {elt target iter:Expr} {ifs:List Expr} {rest:List D3} {pos:Pos}
 (hx:∀ e s,X.xe e s->False) (B:aU sc X.env.scope X.N N' fr) (F:∀ g',rest[0]? = some g'->g'.is_async=0) {wi:TI} (hi:PI X target iter wi) {g:TG} {tb:Addr->TC}
 (G:∀ s H fp,PG (aA X sc N' s H fp) target g)
 (L:∀ s H fp p,PB (aA X sc N' s H fp) (fun k=>b7 ifs (aA X sc N' s H fp).env >>= fun ok=>if ok=true then aT elt (⟨target,iter,ifs,0⟩::rest) sc pos 0 (.ref p) (aA X sc N' s H fp).env k else k) (tb p))
 (hs:∀ x,DW iter X.env x=pure x) :
 PE X (.ListComp elt (⟨target,iter,ifs,0⟩::rest) sc pos) (pE wi g tb fr):=by
 intro pins s σ H Q I h;rw [eval_ListComp];refine GR (use:=none) rfl hs (ic (fu I B)) B.kind (jx B) (kG (Nn:=fun p _ H2=>Q (.ref p) H2) (RR:=fun acc C=>compPost (model X.prog X.w) X.A X.xe none (EP X pins σ Q) acc C) z hx B F hi G L I h ?_);intro p fp s3 Z s' σ' H' f O U J q;obtain ⟨m,Y,_⟩:=J.loc;exact ⟨m,Y,fun h' j=>⟨.ref p,H',jw O U J j,rfl,q⟩⟩
theorem ig (hc:X.calm=true) {elt target iter:Expr} {ifs:List Expr} {rest:List D3} {pos pos' spos:Pos} {x:Str} {i:Nat}
 (hx:∀ e s,X.xe e s->False) (B:aU sc X.env.scope X.N N' fr) (ha:∀ g',rest[0]? = some g'->g'.is_async=0) {wi:TI} (hi:PI X target iter wi) {g:TG} {tb:Addr->TC}
 (hg:∀ s H fp,PG (aA X sc N' s H fp) target g)
 (F:∀ s H fp p,PB (aA X sc N' s H fp) (fun k=>b7 ifs (aA X sc N' s H fp).env >>= fun ok=>if ok=true then aT elt (⟨target,iter,ifs,0⟩::rest) sc pos 0 (.ref p) (aA X sc N' s H fp).env k else k) (tb p))
 (hs:∀ x,DW iter X.env x=pure x) (G:PG X (.Name x pos') (fW i))
 (L:Et (.ListComp elt (⟨target,iter,ifs,0⟩::rest) sc pos) (some (.Name x pos')) spos.line X.env=pure true) :
 PS X (.Assign [.Name x pos'] (.ListComp elt (⟨target,iter,ifs,0⟩::rest) sc pos) spos) (ki (pE wi g tb fr) (fW i)):=by
 intro pins s σ H D I h;rw [exec_Assign_Name_used _ _ _ _ L];refine b0 (EN (b0 ?_));show CB _ X.A (do let _ <- comprehension (.ListComp elt (⟨target,iter,ifs,0⟩::rest) sc pos) sc X.env _ (newList []) false (eval iter X.env) (some (assign (.Name x pos') X.env))) _ _ s
 refine b0 (E8 (GR (use:=some (assign (.Name x pos') X.env)) (Q:=fun _ s'=>SP X pins D .next s') rfl hs (ic (fu I B)) B.kind (jx B)
  (kG (Nn:=fun p _ H2=>D.nx (σ.set i (some (.ref p))) H2) (RR:=fun acc C=>compPost (model X.prog X.w) X.A X.xe (some (assign (.Name x pos') X.env)) (fun _ s'=>SP X pins D .next s') acc C) hc hx B ha hi hg F I h ?_)) (fun _ s' hq=>hh (hh hq)) fun _ _ e=>e)
 intro p fp s3 H3 s' σ' H' f j f3 J q;obtain ⟨m,⟨o,es,ep,ho,hd,hk,hm⟩,_⟩:=J.loc;have I4:Inv X pins σ H' s':=jw (h':=s'.heap) j f3 J ⟨rfl,fun _ _=>rfl⟩;have hL:(aA X sc N' s3 H3 fp).env.locals=s3.heap.objs.size:=rfl;rw [hL] at ho;have O:H' s3.heap.objs.size=none:=J.free;have neL:s3.heap.objs.size≠X.env.locals:=E3 j.lt;have nfs:s3.heap.objs.size∉X.fs:=j.nofs (q0 _);have I5:Inv X (pins++[(s3.heap.objs.size,o)]) σ H' s':=I4.pins_of fun pr U=>by
  rcases Ds.mp U with z | z
  ·exact I4.pin pr (CN _ z)
  ·have e:pr=(s3.heap.objs.size,o):=by simpa using z
   subst e;exact ⟨ho,O,neL,nfs,fun v z=>by rw [hd] at z;cases z⟩
 show CB _ X.A (assign (.Name x pos') X.env (.ref p)) _ _ _;refine thn (G _ s' σ H' (.ref p) (.ref p) D.nx I5 rfl q) fun _ s6 ⟨σ6,H6,I6,q6⟩ => ?_;obtain ⟨Y,Z,_⟩:=I6.pin (s3.heap.objs.size,o) (CN _ (CN _ (by simp)))
 refine ⟨m,⟨o,es,ep,Y,hd,hk,hm⟩,fun h' BN=>⟨σ6,H6, ?_,q6⟩⟩;refine (I6.unpinned).turned (t':=s6.toks) (it:=s3.heap.objs.size) (fun b o F e=>(BN.2 b F).trans e) Z neL (.inr j.sz) (fun y c e z => ?_) fun pr U z => ?_
 ·obtain ⟨v,q⟩:=j.cell y c e;exact absurd q.lt (by rw [z];exact DQ _)
 ·exact absurd (tv (j.pin pr U).1) (by rw [z];exact DQ _)
end
end
end
end L2
namespace L2
namespace Zp
open PySem PySem.Spec PyProof.Rows
def At (t:Bool) (h:Heap) (i l:Addr) (k:Nat):Prop:=match t with | true=>h.IsTupleIter i l k | false=>h.IsListIter i l k
def Sq (t:Bool) (h:Heap) (l:Addr) (xs:Array e6):Prop:=match t with | true=>h.IsTuple l xs | false=>h.IsList l xs
theorem At.up {t:Bool} {h h':Heap} {i l:Addr} {k:Nat} (x:At t h i l k) (e:∀ o,h.get? i=some o->h'.get? i=some o):At t h' i l k:=by
 cases t <;> (obtain ⟨o,ho,r⟩:=x;exact ⟨o,e o ho,r⟩)
theorem Sq.up {t:Bool} {h h':Heap} {l:Addr} {xs:Array e6} (x:Sq t h l xs) (e:∀ o,h.get? l=some o->h'.get? l=some o):Sq t h' l xs:=by
 cases t <;> (obtain ⟨o,ho,r⟩:=x;exact ⟨o,e o ho,r⟩)
theorem At.lt {t:Bool} {h:Heap} {i l:Addr} {k:Nat} (x:At t h i l k):∃ o,h.get? i=some o /\ ∀ v,o.data ≠ .cell v:=by
 cases t <;> (obtain ⟨o,ho,j,hd⟩:=x;exact ⟨o,ho,fun v z=>by rw [hd] at z;cases z⟩)
section
variable {prog:CG} {w:CT} {A:D1} {E:e6->h7->Prop} {s:h7}
open Builtin.SmallTypes in
theorem ue {i l:Addr} {k:Nat} {xs:Array e6} {x:e6} {Q:e6->h7->Prop} (hi:s.heap.IsTupleIter i l k) (L:s.heap.IsTuple l xs) (hx:xs[k]? = some x)
 (q:∀ h',h'.IsTupleIter i l (k+1)->Dn i s.heap h'->Q x { s with heap:=h' }):CB (model prog w) A (nextOf (.ref i)) Q E s:=by
 obtain ⟨ob,z,B,j⟩:=id hi;obtain ⟨oq,G,_,nq,J⟩:=L;unfold nextOf;refine b0 (CW (name:=D6 "__next__") hi.typeIs Eb (D8 Eb hi.typeIs Gh ?_ (G6 _)));refine b0 (m:=field (.ref i) 0) (CS z j (x := .ref l) rfl ?_);refine (if_neg (c:=(CO l==D7)=true) hG) ▸ ?_;refine b0 (m:=field (.ref i) 1) (CS z j (x := .int k 0) rfl ?_);refine b0 (m:=seqItems? (.ref l)) (DV G J ?_);simp only [Dq,hx];refine b0 (EY z j (by simp) (hh ⟨x,rfl,hh (q _ ⟨_,DL _ z (DM (Ea j _)),(Jk ..).trans B, ?_⟩ (Ir ..))⟩))
 rw [Ea j];simp [EC]
open Builtin.SmallTypes in
theorem wV {i l:Addr} {k:Nat} {xs:Array e6} {Q:e6->h7->Prop} (J:A.handled=none) (hi:s.heap.IsTupleIter i l k) (L:s.heap.IsTuple l xs) (hx:xs[k]? = none)
 (q:∀ h' e,JT i s.heap h'->(∃ o,h'.get? e=some o/\o.cls = .type "StopIteration")->E (.ref e) { s with heap:=h' }):CB (model prog w) A (nextOf (.ref i)) Q E s:=by
 obtain ⟨ob,j,O,z⟩:=id hi;obtain ⟨oq,B,_,nq,G⟩:=L;unfold nextOf;refine b0 (CW (name:=D6 "__next__") hi.typeIs Eb (D8 Eb hi.typeIs Gh ?_ (G6 _)));refine b0 (m:=field (.ref i) 0) (CS j z (x := .ref l) rfl ?_);refine (if_neg (c:=(CO l==D7)=true) hG) ▸ ?_;refine b0 (m:=field (.ref i) 1) (CS j z (x := .int k 0) rfl ?_);refine b0 (m:=seqItems? (.ref l)) (DV B G ?_);simp only [Dq,hx];refine b0 (EB (b0 (EY j z (by simp) ?_)))
 refine b0 (m:=newExc (.type "StopIteration") []) ?_;simp only [newExc,newTuple];refine b0 (Dp ?_ (by size_fits))
 refine b0 (m:=Gy _ _) (FX (a:=D7) (by first | rfl | (simp only [Gy];rfl)) (Dp ?_ (by size_fits)))
 simp only [raiseNew];refine b0 (wpAny_handled ?_)
 first | rw [show A.in1.handled=none from J] | rw [J]
 exact b0 (hh (JU (q _ _ (((Ir ..).extBut.push _).push _) ⟨_,hQ _ rfl,rfl⟩)))
open Builtin.SmallTypes in
theorem nx_item {t:Bool} {i l:Addr} {k:Nat} {xs:Array e6} {x:e6} {Q:e6->h7->Prop} (hi:At t s.heap i l k) (j:Sq t s.heap l xs) (hx:xs[k]? = some x)
 (q:∀ h',At t h' i l (k+1)->Dn i s.heap h'->Q x { s with heap:=h' }):CB (model prog w) A (nextOf (.ref i)) Q E s:=by
 cases t with
 | true=>exact ue hi j hx q
 | false=>exact wpAny_nextOf_list_item hi j hx q
open Builtin.SmallTypes in
theorem nx_end {t:Bool} {i l:Addr} {k:Nat} {xs:Array e6} {Q:e6->h7->Prop} (j:A.handled=none) (hi:At t s.heap i l k) (z:Sq t s.heap l xs) (hx:xs[k]? = none)
 (q:∀ h' e,JT i s.heap h'->(∃ o,h'.get? e=some o/\o.cls = .type "StopIteration")->E (.ref e) { s with heap:=h' }):CB (model prog w) A (nextOf (.ref i)) Q E s:=by
 cases t with
 | true=>exact wV j hi z hx q
 | false=>exact wpAny_nextOf_list_end j hi z hx q
open Builtin.SmallTypes in
theorem zv {z T O i j a b:Addr} {t u:Bool} {k:Nat} {xs ys:Array e6} {x y p r:e6} {Q:e6->h7->Prop} (D:HV z T O i j a b)
 (B:GN s.heap z T O .none) (hT:Eo s.heap T (.ref i) (.ref j)) (hO:Eo s.heap O p r)
 (hi:At t s.heap i a k) (hj:At u s.heap j b k) (ha:Sq t s.heap a xs) (hb:Sq u s.heap b ys) (hx:xs[k]? = some x) (hy:ys[k]? = some y)
 (q:∀ h',GN h' z T O (EC s.heap.objs.size)->Eo h' O x y->At t h' i a (k+1)->At u h' j b (k+1)->Eo h' s.heap.objs.size x y ->
   (∀ c o,c≠z->c≠O->c≠i->c≠j->s.heap.get? c=some o->h'.get? c=some o)->Q (.ref s.heap.objs.size) { s with heap:=h' }) :
 CB (model prog w) A (EH.«zip.__next__» ⟨[.ref z],[]⟩) (fun fin s' => ∃ v,fin = .done (.ret v)/\Q v s') E s:=by
 refine b0 (m:=field (.ref z) 2) (CS B rfl (x := .bool false) rfl ?_);refine b0 (m:=field (.ref z) 3) (CS B rfl (x := .ref T) rfl ?_);refine b0 (DV hT rfl ?_);refine b0 (m:=ownedTupleIsFree (.ref z)) ?_;unfold ownedTupleIsFree;refine b0 (CS B rfl (x := .none) rfl (hh ?_));simp only [if_true];refine b0 (EB (b0 (CS B rfl (x := .ref O) rfl (b0 (CY B (by simp) fun g1 Y s1 => ?_)))))
 have Z1:GN g1 z T O .ellipsis:=Y;clear Y;refine b0 ?_;simp only [JD,K1,Fo,List.forIn_nil];refine b0 (b0 (FV (b0 (m:=nextOf (.ref i)) ?_)));refine nx_item (hi.up fun o e=>s1.extBut _ o D.i1z e) (ha.up fun o e=>s1.extBut _ o D.l1z e) hx fun g2 G s2=>hh ?_;have Z:Eo g2 O p r:=s2.extBut _ _ D.TOi1 (s1.extBut _ _ D.TOz hO);refine b0 (DV Z rfl (b0 (FY Z fun g3 o3 s3 => ?_)));have O3:Eo g3 O x r:=o3;clear o3;refine b0 (HW (hh (b0 (b0 (FV (b0 (m:=nextOf (.ref j)) ?_))))));refine nx_item (hj.up fun o e=>s3.extBut _ o D.TOi2.symm (s2.extBut _ o D.i12.symm (s1.extBut _ o D.i2z e))) (hb.up fun o e=>s3.extBut _ o D.l2TO (s2.extBut _ o D.l2i1 (s1.extBut _ o D.l2z e))) hy fun g4 J s4=>hh ?_;have O4:Eo g4 O x r:=s4.extBut _ _ D.TOi2 O3;refine b0 (DV O4 rfl (b0 (FY O4 fun g5 o5 s5 => ?_)));have O5:Eo g5 O x y:=o5;clear o5;refine b0 (HW (hh (hh (b0 (DV O5 rfl (b0 (wpAny_newTuple ?_)))))));have sz:g5.objs.size=s.heap.objs.size:=by rw [s5.1,s4.1,s3.1,s2.1,s1.1]
 have k5:∀ c o,c≠z->c≠O->c≠i->c≠j->s.heap.get? c=some o->g5.get? c=some o:=fun c o c1 c2 L U e =>
  s5.extBut _ _ c2 (s4.extBut _ _ U (s3.extBut _ _ c2 (s2.extBut _ _ L (s1.extBut _ _ c1 e))))
 have Z5:GN g5 z T O .ellipsis:=s5.extBut _ _ D.TOz.symm (s4.extBut _ _ D.i2z.symm (s3.extBut _ _ D.TOz.symm (s2.extBut _ _ D.i1z.symm Z1)));have I5:At t g5 i a (k+1):=G.up fun o e=>s5.extBut _ o D.TOi1.symm (s4.extBut _ o D.i12 (s3.extBut _ o D.TOi1.symm e));have J5:At u g5 j b (k+1):=J.up fun o e=>s5.extBut _ o D.TOi2.symm e;have zl:z < g5.objs.size:=tv Z5;refine b0 (m:=ownedTupleHandOut (.ref z) (.ref g5.objs.size)) ?_;unfold ownedTupleHandOut;refine b0 (CY (h8 _ Z5) (by simp) fun g7 z7 s7 => ?_)
 have Z7:GN g7 z T O (EC g5.objs.size):=z7;clear z7;refine CY Z7 (by simp) fun F z8 s8 => ?_
 have Z8:GN F z T O (EC g5.objs.size):=z8;clear z8;have up:∀ c o,c≠z->g5.get? c=some o->F.get? c=some o:=fun c o c1 e=>s8.extBut _ _ c1 (s7.extBut _ _ c1 (h8 _ e));have P8:Eo F g5.objs.size x y:=s8.extBut _ _ (E3 zl) (s7.extBut _ _ (E3 zl) (hQ _ rfl));rw [sz] at Z8 P8;refine hh ⟨_,rfl, ?_⟩;show Q (.ref g5.objs.size) _;rw [sz];exact q F Z8 (up _ _ D.TOz O5) (I5.up fun o e=>up _ o D.i1z e) (J5.up fun o e=>up _ o D.i2z e) P8 fun c o c1 c2 L U e=>up c o c1 (k5 c o c1 c2 L U e)
open Builtin.SmallTypes in
theorem AM {z T O i j a b:Addr} {t u:Bool} {k:Nat} {xs ys:Array e6} {p r:e6} {Q:Fin->h7->Prop} (Z:A.handled=none) (D:HV z T O i j a b)
 (G:GN s.heap z T O .none) (hT:Eo s.heap T (.ref i) (.ref j)) (hO:Eo s.heap O p r)
 (hi:At t s.heap i a k) (hj:At u s.heap j b k) (ha:Sq t s.heap a xs) (hb:Sq u s.heap b ys) (J:xs[k]? = none∨ys[k]? = none)
 (q:∀ h' e,(∀ c o,c≠z->c≠O->c≠i->c≠j->s.heap.get? c=some o->h'.get? c=some o)->(∃ o,h'.get? e=some o/\o.cls = .type "StopIteration")->E (.ref e) { s with heap:=h' }) :
 CB (model prog w) A (EH.«zip.__next__» ⟨[.ref z],[]⟩) Q E s:=by
 refine b0 (m:=field (.ref z) 2) (CS G rfl (x := .bool false) rfl ?_);refine b0 (m:=field (.ref z) 3) (CS G rfl (x := .ref T) rfl ?_);refine b0 (DV hT rfl ?_);refine b0 (m:=ownedTupleIsFree (.ref z)) ?_;unfold ownedTupleIsFree;refine b0 (CS G rfl (x := .none) rfl (hh ?_));simp only [if_true];refine b0 (EB (b0 (CS G rfl (x := .ref O) rfl (b0 (CY G (by simp) fun g1 z1 s1 => ?_)))))
 have Z1:GN g1 z T O .ellipsis:=z1;clear z1;refine b0 ?_;simp only [JD,K1,Fo,List.forIn_nil];refine b0 (b0 (FV (b0 (m:=nextOf (.ref i)) ?_)));have L:At t g1 i a k:=hi.up fun o e=>s1.extBut _ o D.i1z e;have U:Sq t g1 a xs:=ha.up fun o e=>s1.extBut _ o D.l1z e
 cases hx:xs[k]? with
 | none =>
   refine nx_end Z L U hx fun g2 e s2 he => ?_;obtain ⟨oe,B,F⟩:=he;have Z2:GN g2 z T O .ellipsis:=s2 _ _ D.i1z.symm Z1;have ez:e≠z:=fun x=>by subst x;rw [Z2] at B;cases B;simp at F
   exact CY Z2 (by simp) fun g3 _ s3=>q g3 e (fun c o c1 _ Y _ x=>s3.extBut _ _ c1 (s2 _ _ Y (s1.extBut _ _ c1 x))) ⟨oe,s3.extBut _ _ ez B,F⟩
 | some x =>
   have hy:ys[k]? = none:=J.elim (fun z=>by rw [hx] at z;cases z) id
   refine nx_item L U hx fun g2 BN s2=>hh ?_;have O2:Eo g2 O p r:=s2.extBut _ _ D.TOi1 (s1.extBut _ _ D.TOz hO);refine b0 (DV O2 rfl (b0 (FY O2 fun g3 o3 s3 => ?_)));refine b0 (HW (hh (b0 (b0 (FV (b0 (m:=nextOf (.ref j)) ?_))))));refine nx_end Z (hj.up fun o e=>s3.extBut _ o D.TOi2.symm (s2.extBut _ o D.i12.symm (s1.extBut _ o D.i2z e))) (hb.up fun o e=>s3.extBut _ o D.l2TO (s2.extBut _ o D.l2i1 (s1.extBut _ o D.l2z e))) hy fun g4 e s4 he => ?_;obtain ⟨oe,B,F⟩:=he;have Z4:GN g4 z T O .ellipsis:=s4 _ _ D.i2z.symm (s3.extBut _ _ D.TOz.symm (s2.extBut _ _ D.i1z.symm Z1));have ez:e≠z:=fun x=>by subst x;rw [Z4] at B;cases B;simp at F
   exact CY Z4 (by simp) fun g5 _ s5=>q g5 e (fun c o c1 c2 Y c4 x=>s5.extBut _ _ c1 (s4 _ _ c4 (s3.extBut _ _ c2 (s2.extBut _ _ Y (s1.extBut _ _ c1 x))))) ⟨oe,s5.extBut _ _ ez B,F⟩
theorem nxt_item {z T O i j a b:Addr} {t u:Bool} {k:Nat} {xs ys:Array e6} {x y p r:e6} {Q:Option e6->h7->Prop} (D:HV z T O i j a b)
 (B:GN s.heap z T O .none) (G:Eo s.heap T (.ref i) (.ref j)) (J:Eo s.heap O p r)
 (hi:At t s.heap i a k) (L:At u s.heap j b k) (U:Sq t s.heap a xs) (Y:Sq u s.heap b ys) (hx:xs[k]? = some x) (Z:ys[k]? = some y)
 (q:∀ h',GN h' z T O (EC s.heap.objs.size)->Eo h' O x y->At t h' i a (k+1)->At u h' j b (k+1)->Eo h' s.heap.objs.size x y ->
   (∀ c o,c≠z->c≠O->c≠i->c≠j->s.heap.get? c=some o->h'.get? c=some o)->Q (some (.ref s.heap.objs.size)) { s with heap:=h' }) :
 CB (model prog w) A (FA (.ref z)) Q E s:=by
 have ty:s.TypeIs (.ref z) "zip" := ⟨_,B,rfl⟩;unfold FA;exact b0 (E5 (CW (name:=D6 "__next__") ty G7 (D8 G7 ty JE
  (zv D B G J hi L U Y hx Z fun h' a1 a2 a3 a4 a5 a6=>hh (q h' a1 a2 a3 a4 a5 a6)) (Jm _))))
theorem nxt_end {z T O i j a b:Addr} {t u:Bool} {k:Nat} {xs ys:Array e6} {p r:e6} {Q:Option e6->h7->Prop} (J:A.handled=none) (D:HV z T O i j a b)
 (G:GN s.heap z T O .none) (L:Eo s.heap T (.ref i) (.ref j)) (U:Eo s.heap O p r)
 (hi:At t s.heap i a k) (Y:At u s.heap j b k) (Z:Sq t s.heap a xs) (hb:Sq u s.heap b ys) (B:xs[k]? = none∨ys[k]? = none)
 (q:∀ h',(∀ c o,c≠z->c≠O->c≠i->c≠j->s.heap.get? c=some o->h'.get? c=some o)->Q none { s with heap:=h' }):CB (model prog w) A (FA (.ref z)) Q E s:=by
 have ty:s.TypeIs (.ref z) "zip" := ⟨_,G,rfl⟩;unfold FA;refine b0 (E5 (CW (name:=D6 "__next__") ty G7 (D8 G7 ty JE
  (AM J D G L U hi Y Z hb B fun h' e hk he => ?_) (Jm _))))
 obtain ⟨o,ho,hc⟩:=he;exact b0 (Ew (T := "StopIteration") (b:=true) ⟨o,ho,hc⟩ HX (hh (q _ hk)))
noncomputable def itO (t:Bool) (l:Addr):Obj:=match t with | true => { cls := .type "tuple_iterator",data := .fields #[.ref l, .int 0 0] } | false => { cls := .type "list_iterator",data := .fields #[.ref l, .int 0 0] }
noncomputable def zH1 (h:Heap) (t:Bool) (a:Addr):Heap:=h.push (itO t a)
noncomputable def zH2 (h:Heap) (t u:Bool) (a b:Addr):Heap:=(zH1 h t a).push (itO u b)
noncomputable def zH3 (h:Heap) (t u:Bool) (a b:Addr):Heap:=(zH2 h t u a b).push { cls := .type "tuple",data := .seq #[.ref h.objs.size, .ref (zH1 h t a).objs.size] }
noncomputable def zH4 (h:Heap) (t u:Bool) (a b:Addr):Heap:=(zH3 h t u a b).push { cls := .type "tuple",data := .seq #[.none, .none] }
noncomputable def zH5 (h:Heap) (t u:Bool) (a b:Addr):Heap:=(zH4 h t u a b).push { cls := .type "zip",data := .fields #[.none, .bool false, .bool false, .ref (zH2 h t u a b).objs.size, .ref (zH3 h t u a b).objs.size] }
theorem rp (t u:Bool) (a b:Addr) (xs ys:Array e6) :
 Meets (EH.«zip.__new__» ⟨[.type "zip", .ref a, .ref b],[]⟩) (fun _ R s=>Sq t s.heap a xs/\Sq u s.heap b ys/\R (.ok (.ret (.ref (zH4 s.heap t u a b).objs.size))) { s with heap:=zH5 s.heap t u a b }) :=
 .of_wp fun prog w A R s h=>by
  obtain ⟨j,g,d,tk,os⟩:=s;obtain ⟨B,F,h⟩:=h;have hs:=sub_zip
  cases t <;> cases u
  ·have q:HY (EA ⟨j,g,d,tk,os⟩) a xs:=B;have z:HY (EA ⟨j.push { cls := .type "list_iterator",data := .fields #[.ref a, .int 0 0] },g,d,tk,os⟩) b ys:=JF F _
   wp_walk using DZ q,DZ z
   exact ⟨_,rfl,h⟩
  ·have q:HY (EA ⟨j,g,d,tk,os⟩) a xs:=B;have z:Gi (EA ⟨j.push { cls := .type "list_iterator",data := .fields #[.ref a, .int 0 0] },g,d,tk,os⟩) b ys:=Jn F _
   wp_walk using DZ q,DA z
   exact ⟨_,rfl,h⟩
  ·have q:Gi (EA ⟨j,g,d,tk,os⟩) a xs:=B;have z:HY (EA ⟨j.push { cls := .type "tuple_iterator",data := .fields #[.ref a, .int 0 0] },g,d,tk,os⟩) b ys:=JF F _
   wp_walk using DA q,DZ z
   exact ⟨_,rfl,h⟩
  ·have q:Gi (EA ⟨j,g,d,tk,os⟩) a xs:=B;have z:Gi (EA ⟨j.push { cls := .type "tuple_iterator",data := .fields #[.ref a, .int 0 0] },g,d,tk,os⟩) b ys:=Jn F _
   wp_walk using DA q,DA z
   exact ⟨_,rfl,h⟩
theorem at_new {t:Bool} {h:Heap} {i l:Addr} (e:h.get? i=some (itO t l)):At t h i l 0:=by
 cases t <;> exact ⟨_,e,rfl,rfl⟩
theorem call_zip {t u:Bool} {a b:Addr} {xs ys:Array e6} {Q:e6->h7->Prop} (L:Sq t s.heap a xs) (O:Sq u s.heap b ys)
 (q:∀ h',GN h' (s.heap.objs.size+4) (s.heap.objs.size+2) (s.heap.objs.size+3) .none->Eo h' (s.heap.objs.size+2) (.ref s.heap.objs.size) (.ref (s.heap.objs.size+1)) ->
   Eo h' (s.heap.objs.size+3) .none .none->At t h' s.heap.objs.size a 0->At u h' (s.heap.objs.size+1) b 0->h'.objs.size=s.heap.objs.size+5 ->
   (∀ c o,s.heap.get? c=some o->h'.get? c=some o)->Q (.ref (s.heap.objs.size+4)) { s with heap:=h' }) :
 CB (model prog w) A (call (.type "zip") [.ref a, .ref b]) Q E s:=by
 refine callType_new F.called_zip (by decide) (F.typeCall_zip_2 _ _) (F.newCall_zip_2 _ _) (fun obj=>F.args_object_init_3 obj _ _) F.entry_zip_new (rp t u a b xs ys) ⟨L,O, ?_⟩
 have z:(zH1 s.heap t a).objs.size=s.heap.objs.size+1:=Dx ..;have B:(zH2 s.heap t u a b).objs.size=s.heap.objs.size+2:=by unfold zH2;rw [Dx,z]
 have G:(zH3 s.heap t u a b).objs.size=s.heap.objs.size+3:=by unfold zH3;rw [Dx,B]
 have J:(zH4 s.heap t u a b).objs.size=s.heap.objs.size+4:=by unfold zH4;rw [Dx,G]
 have U:(zH5 s.heap t u a b).objs.size=s.heap.objs.size+5:=by unfold zH5;rw [Dx,J]
 have k5:∀ {c o},(zH4 s.heap t u a b).get? c=some o->(zH5 s.heap t u a b).get? c=some o:=fun e=>h8 _ e;have j:∀ {c o},(zH3 s.heap t u a b).get? c=some o->(zH4 s.heap t u a b).get? c=some o:=fun e=>h8 _ e;have k3:∀ {c o},(zH2 s.heap t u a b).get? c=some o->(zH3 s.heap t u a b).get? c=some o:=fun e=>h8 _ e;have k2:∀ {c o},(zH1 s.heap t a).get? c=some o->(zH2 s.heap t u a b).get? c=some o:=fun e=>h8 _ e;have k1:∀ {c o},s.heap.get? c=some o->(zH1 s.heap t a).get? c=some o:=fun e=>h8 _ e;have f:∀ t l,(itO t l).isFreed=false:=fun t l=>by cases t <;> rfl
 have g5:(zH5 s.heap t u a b).get? (zH4 s.heap t u a b).objs.size=some _:=hQ _ rfl;have g4:(zH5 s.heap t u a b).get? (zH3 s.heap t u a b).objs.size=some _:=k5 (hQ _ rfl);have g3:(zH5 s.heap t u a b).get? (zH2 s.heap t u a b).objs.size=some _:=k5 (j (hQ _ rfl));have g2:(zH5 s.heap t u a b).get? (zH1 s.heap t a).objs.size=some _:=k5 (j (k3 (hQ _ (f u b))));have g1:(zH5 s.heap t u a b).get? s.heap.objs.size=some _:=k5 (j (k3 (k2 (hQ _ (f t a)))));show _/\_;rw [B,G,J] at g5;rw [z,B] at g3;rw [G] at g4;rw [z] at g2;rw [J];exact ⟨⟨_,g5,rfl⟩,q _ g5 g3 g4 (at_new g1) (at_new g2) U fun c o x=>k5 (j (k3 (k2 (k1 x))))⟩
end
end Zp
end L2
namespace L2
open PySem PySem.Spec PyProof.Rows
section
section
variable {X:Cx} {pins:List (Addr×Obj)} {σ:St} {H:Hp} {s:h7} {h':Heap}
theorem Inv.turnedL {t':Nat} {fp:List Addr} (I:Inv X pins σ H s) (hf:∀ b∈fp,bS X pins H b) (k:∀ b o,b∉fp->s.heap.get? b=some o->h'.get? b=some o):Inv X pins σ H { s with heap:=h',toks:=t' }:=by
 have nit:∀ b u,H b=some u->b∉fp:=fun b u e z=>by rw [(hf b z).1] at e;cases e
 refine I.step (g':=s.gens) (d':=s.drawn) (ch:=fp) (fun b B => ?_) (fun b o _ _ j e _=>k b o j e) (fun b o _ _ j e _=>⟨o.slots,k b o j e⟩) (fun _ _ _ _ n=>n)
  (fun b o j e=>⟨o,k b o j e⟩) (fun _ _ e=>e) (fun _ _ _ e=>e) (fun b ps e=>⟨#[],by rw [e];simp⟩) (fun m hm => ?_) (fun b u e => ?_) I.bare
 ·obtain ⟨_,f1,_,F,f4,G⟩:=hf b B;exact ⟨F,f1,f4,G⟩
 ·obtain ⟨o,es,ep,ho,r⟩:=hm;exact ⟨o,es,ep,k _ o (fun z=>(hf _ z).2.1 rfl) ho,r⟩
 ·refine (I.hok b u e).stay (fun c v j q=>k c v ?_ q) (fun _ q=>q) fun _ _ q=>q
  rcases j with z | z
  ·rw [z];exact nit b u e
  ·exact nit c _ z
end
def SqV (K:Frag) (t:Bool) (H:Hp) (a:Addr) (xs:List V):Prop:=match t with | true=>SqT K H a xs | false=>SqL K H a xs
theorem Inv.sqv {X:Cx} {pins:List (Addr×Obj)} {σ:St} {H:Hp} {s:h7} {t:Bool} {a:Addr} {xs:List V} (I:Inv X pins σ H s) (h:SqV X.K t H a xs):∃ its:List e6,Vals xs its/\Zp.Sq t s.heap a its.toArray:=by
 cases t with
 | true=>obtain ⟨its,r,p,_⟩:=I.tuple h;exact ⟨its,r,p⟩
 | false=>obtain ⟨its,r,p,_⟩:=I.list h;exact ⟨its,r,p.isList⟩
theorem Inv.sqv_inj {X:Cx} {pins:List (Addr×Obj)} {σ:St} {H:Hp} {s:h7} {t:Bool} {a:Addr} {xs ys:List V} (I:Inv X pins σ H s) (h:SqV X.K t H a xs) (h':SqV X.K t H a ys):xs=ys:=by
 cases t with
 | true=>exact I.tuple_inj h h'
 | false=>exact I.list_inj h h'
noncomputable def Itz (K:Frag) (t u:Bool) (a b:Addr):It :=
 ⟨fun i H => ∃ xs ys x y,SqV K t H a xs/\SqV K u H b ys/\xs[i]? = some x/\ys[i]? = some y,
  fun i H v H' => ∃ p x y,H p=none/\v = .ref p/\H'=upd H p (.tup [x,y]) /\ ∀ xs ys,SqV K t H a xs->SqV K u H b ys->xs[i]? = some x/\ys[i]? = some y,
  fun i H => ∃ xs ys,SqV K t H a xs/\SqV K u H b ys/\(xs.length<=i∨ys.length<=i)⟩
theorem uf {P:CG} {w:CT} {K:Frag} {elts:List Expr} {cx} {pos:Pos} {t u:Bool} {z T O i j a b:Addr} (D:HV z T O i j a b) :
 fe P w K (.Tuple elts cx pos) (Itz K t u a b) [z,T,O,i,j] z (fun k h=>GN h z T O .none/\Eo h T (.ref i) (.ref j)/\(∃ p r,Eo h O p r)/\Zp.At t h i a k/\Zp.At u h j b k) where
 mem:=by simp
 obj:=fun k h ⟨B,F,⟨p,r,G⟩,hi,J⟩ c q=>by
  simp only [CC,D0,or_false] at q
  rcases q with rfl | rfl | rfl | rfl | rfl
  ·exact ⟨_,B,fun v e=>by cases e⟩
  ·exact ⟨_,F,fun v e=>by cases e⟩
  ·exact ⟨_,G,fun v e=>by cases e⟩
  ·exact hi.lt
  ·exact J.lt
 keep:=fun k h h' ⟨B,F,⟨p,r,G⟩,hi,J⟩ kk=>⟨kk z (by simp) _ B,kk T (by simp) _ F,⟨p,r,kk O (by simp) _ G⟩,hi.up fun o e=>kk i (by simp) o e,J.up fun o e=>kk j (by simp) o e⟩
 item:=by
  intro X U hw Y q k pins s σ H E I hf st hg;subst U hw Y;obtain ⟨B,F,⟨p,r,G⟩,hi,J⟩:=st;obtain ⟨xs,ys,x,y,qx,qy,ex,ey⟩:=hg;obtain ⟨is,rx,px⟩:=I.sqv qx;obtain ⟨js,ry,py⟩:=I.sqv qy;obtain ⟨ux,Z,rux⟩:=rx.get ex;obtain ⟨uy,BN,ruy⟩:=ry.get ey;refine Zp.nxt_item D B F G hi J px py (by simpa using Z) (by simpa using BN) fun h1 z1 o1 i1 j1 p1 k1=>⟨_,rfl, ?_⟩
  refine wpAny_letOwnedTupleGo_zip (s := { s with heap:=h1 }) z1 fun h2 z2 s2 => ?_
  have lt:∀ {c o},s.heap.get? c=some o->c≠s.heap.objs.size:=fun e=>CV (tv e);have nz:s.heap.objs.size≠z:=(lt B).symm;have BO:∃ o,s.heap.get? i=some o:=hi.lt.imp fun _ h=>h.1;have BP:∃ o,s.heap.get? j=some o:=J.lt.imp fun _ h=>h.1;have up:∀ c o,c≠z->h1.get? c=some o->h2.get? c=some o:=fun c o n e=>s2.extBut _ _ n e;have IL:Inv X pins σ (upd H s.heap.objs.size (.tup [x,y])) { s with heap:=s.heap.push { cls := .type "tuple",data := .seq #[ux,uy] },toks:=s.toks } :=
   I.laid (fun b o e=>h8 _ e) (q0 _) ⟨by rw [hB];simp,[ux,uy], .cons rux (.cons ruy .nil),Gj _ _⟩
  have fr:∀ c∈[z,T,O,i,j],c≠s.heap.objs.size:=fun c q=>by
   simp only [CC,D0,or_false] at q
   rcases q with rfl | rfl | rfl | rfl | rfl
   ·exact lt B
   ·exact lt F
   ·exact lt G
   ·obtain ⟨o,e⟩:=BO;exact lt e
   ·obtain ⟨o,e⟩:=BP;exact lt e
  have un:∀ c∈[z,T,O,i,j],upd H s.heap.objs.size (.tup [x,y]) c=none:=fun c q=>by
   rw [ae (fr c q)];exact (hf c q).1
  have kk:∀ c o,c∉[z,T,O,i,j]->(s.heap.push { cls := .type "tuple",data := .seq #[ux,uy] }).get? c=some o->h2.get? c=some o:=fun c o q e=>by
   simp only [CC,D0,or_false,not_or] at q
   rcases HZ e with ⟨rfl,rfl⟩ | e
   ·exact up _ _ nz p1
   ·exact up _ _ q.1 (k1 c o q.1 q.2.2.1 q.2.2.2.1 q.2.2.2.2 e)
  have I2:Inv X pins σ (upd H s.heap.objs.size (.tup [x,y])) { s with heap:=h2,toks:=s.toks } :=
   (Inv.turnedL (s := { s with heap:=s.heap.push { cls := .type "tuple",data := .seq #[ux,uy] },toks:=s.toks }) (h':=h2) (t':=s.toks) (fp := [z,T,O,i,j]) IL (fun c q=>⟨un c q,(hf c q).2⟩) kk)
  refine ⟨.ref s.heap.objs.size,_,I2,rfl,⟨_,x,y,I.hok.fresh (q0 _),rfl,rfl,fun xs' ys' q1 q2 => ?_⟩,⟨z2,up _ _ D.TIz (k1 _ _ D.TIz D.TITO D.TIi1 D.TIi2 F),⟨_,_,up _ _ D.TOz o1⟩,i1.up fun o e=>up _ o D.i1z e,j1.up fun o e=>up _ o D.i2z e⟩,un⟩;rw [I.sqv_inj q1 qx,I.sqv_inj q2 qy];exact ⟨ex,ey⟩
 done:=by
  intro X U hw Y q k pins s σ H E I hf st hg;subst U hw Y;obtain ⟨B,F,⟨p,r,G⟩,hi,J⟩:=st;obtain ⟨xs,ys,qx,qy,L⟩:=hg;obtain ⟨is,rx,px⟩:=I.sqv qx;obtain ⟨js,ry,py⟩:=I.sqv qy;have lx:=rx.length;have ly:=ry.length;refine Zp.nxt_end (I.ok.hd q) D B F G hi J px py (L.imp (fun e=>by simp;lia) (fun e=>by simp;lia)) fun h1 k1=>⟨rfl,I.turnedL (t':=s.toks) hf fun c o q e => ?_⟩
  simp only [CC,D0,or_false,not_or] at q;exact k1 c o q.1 q.2.2.1 q.2.2.2.1 q.2.2.2.2 e
 self:=fun A k s Q E st h=>JG st.1 h
section
variable {X:Cx}
noncomputable def BE (K:Frag) (ta:TA):TI:=fun σ H R=>ta σ H fun vs H1 => ∃ a b t u xs ys,vs=[.ref a, .ref b]/\SqV K t H1 a xs/\SqV K u H1 b ys/\R (Itz K t u a b) H1
theorem zw {elts:List Expr} {cx} {pos p pos':Pos} {a b:Expr} {ta:TA} (G:Gl X "zip") (hm:X.mg "zip" = none) (J:PA X [a,b] ta) (hs:CF [a,b] X.env=[(false,eval a X.env),(false,eval b X.env)]) (j:CF [b] X.env=[(false,eval b X.env)]) :
 PI X (.Tuple elts cx pos) (.Call (.Name "zip" p) [a,b] [] pos') (BE X.K ta):=by
 intro pins s σ H R I h;refine Call_ (dP I G hm (u := .type "zip") (by decide +kernel) (E4 (thn (J pos' pins s σ H _ I h) fun us s1 ⟨vs,H1,z,L,O⟩ => ?_) (by rw [hs,j]) (by rw [j];rfl)))
 obtain ⟨a',b',t,u,xs,ys,rfl,qx,qy,q⟩:=O
 cases L with
 | cons r rr =>
   cases rr with
   | cons r' rr =>
     cases rr
     cases r
     cases r'
     obtain ⟨is,rx,px⟩:=z.sqv qx;obtain ⟨js,ry,py⟩:=z.sqv qy;refine Zp.call_zip px py fun h1 B t1 U Y Z sz k1 => ?_;refine JG B ?_;have la:a' < s1.heap.objs.size:=by cases t <;> (obtain ⟨o,e,_⟩:=px;exact tv e)
     have lb:b' < s1.heap.objs.size:=by cases u <;> (obtain ⟨o,e,_⟩:=py;exact tv e)
     have D:HV (s1.heap.objs.size+4) (s1.heap.objs.size+2) (s1.heap.objs.size+3) s1.heap.objs.size (s1.heap.objs.size+1) a' b':=by constructor <;> (intro e;subst_vars;first | lia | (simp only [Addr] at *;lia))
     refine ⟨_,_,_,_,H1,rfl,z.kept (t':=s1.toks) k1,uf (t:=t) (u:=u) D,⟨B,t1,⟨_,_,U⟩,Y,Z⟩,fun c F => ?_,q⟩;have hle:s1.heap.objs.size<=c:=by
      simp only [CC,D0,or_false] at F
      rcases F with rfl | rfl | rfl | rfl | rfl <;> lia
     exact z.fpOk hle (z.hok.fresh hle)
end
end
end L2
namespace L2
namespace Zp
open PySem PySem.Spec PyProof.Rows
end Zp
open PySem PySem.Spec PyProof.Rows
end L2
namespace L2
namespace En
open PySem PySem.Spec PyProof.Rows
section
variable {prog:CG} {w:CT} {A:D1} {E:e6->h7->Prop} {s:h7}
open Builtin.SmallTypes Zp in
theorem zx {z i a:Addr} {t:Bool} {k:Nat} {xs:Array e6} {x old:e6} {Q:e6->h7->Prop} (L:Hr s.heap z i k old) (hi:At t s.heap i a k) (ha:Sq t s.heap a xs) (hx:xs[k]? = some x) (j:z≠i)
 (q:∀ h',JH h' z i ((k:Int)+1) x s.heap.objs.size->At t h' i a (k+1)->h'.get? s.heap.objs.size=some { cls := .type "tuple",data := .seq #[.int k s.toks,x] } ->
   (∀ b o,b≠z->b≠i->s.heap.get? b=some o->h'.get? b=some o)->Q (.ref s.heap.objs.size) { s with heap:=h',toks:=s.toks+1 }) :
 CB (model prog w) A (EH.«enumerate.__next__» ⟨[.ref z],[]⟩) (fun fin s' => ∃ v,fin = .done (.ret v)/\Q v s') E s:=by
 obtain ⟨B,g,d,tk,os⟩:=s;refine b0 (m:=field (.ref z) 2) (CS L rfl (x := .ref i) rfl (b0 (nx_item hi ha hx fun g1 i1 s1 => ?_)));have S1:Dn i B g1:=s1;clear s1;have O:Hr g1 z i k old:=(S1.2 z j).trans L;refine b0 (m:=field (.ref z) 3) (CS (s:=⟨g1,g,d,tk,os⟩) O rfl (x:=EC k) rfl ?_);refine b0 (m:=field (.ref z) 4) (CS (s:=⟨g1,g,d,tk,os⟩) O rfl (x := .none) rfl ?_);refine b0 (m:=mkInt k) (wpAny_mkInt ?_);refine b0 (m:=setField (.ref z) 3 (EC ((k:Int)+1))) (CY (s:=⟨g1,g,d,tk+1,os⟩) O (by simp) fun g2 Z s2 => ?_)
 have U:Dn z g1 g2:=s2;have Z2:Hr g2 z i ((k:Int)+1) old:=Z;clear s2 Z;refine b0 (m:=setField (.ref z) 4 .none) (CY (s:=⟨g2,g,d,tk+1,os⟩) Z2 (by simp) fun g3 z3 s3 => ?_)
 have Y:Dn z g2 g3:=s3;have Z3:Hr g3 z i ((k:Int)+1) old:=z3;clear s3 z3;refine b0 (m:=newTuple [.int k tk,x]) (wpAny_newTuple ?_);have F:Hr (g3.push { cls := .type "tuple",data := .seq #[.int k tk,x] }) z i ((k:Int)+1) old:=h8 _ Z3;have sz:g3.objs.size=B.objs.size:=by rw [Y.1,U.1,S1.1]
 have zl:z < B.objs.size:=tv L;have T4:(g3.push { cls := .type "tuple",data := .seq #[.int k tk,x] }).get? B.objs.size=some { cls := .type "tuple",data := .seq #[.int k tk,x] }:=by rw [<- sz];exact hQ _ rfl
 have K4:∀ b o,b≠z->b≠i->B.get? b=some o->(g3.push { cls := .type "tuple",data := .seq #[.int k tk,x] }).get? b=some o:=fun b o bz bi e =>
  h8 _ (Y.extBut b o bz (U.extBut b o bz (S1.extBut b o bi e)))
 have I4:At t (g3.push { cls := .type "tuple",data := .seq #[.int k tk,x] }) i a (k+1):=i1.up fun o e=>h8 _ (Y.extBut i o j.symm (U.extBut i o j.symm e));rw [sz];generalize g3.push { cls := .type "tuple",data := .seq #[.int k tk,x] }=g4 at F T4 K4 I4;refine b0 (m:=ownedTupleIsFree (.ref z)) ?_;unfold ownedTupleIsFree;refine b0 (CS (s:=⟨g4,g,d,tk+1,os⟩) F rfl (x := .none) rfl (hh ?_));simp only [if_true];refine b0 (EB (b0 (CS (s:=⟨g4,g,d,tk+1,os⟩) F rfl (x:=old) rfl (b0 (CY (s:=⟨g4,g,d,tk+1,os⟩) F (by simp) fun g5 z5 s5 => ?_)))))
 have S5:Dn z g4 g5:=s5;have Z5:Hr g5 z i ((k:Int)+1) x:=z5;clear s5 z5;refine b0 (m:=ownedTupleHandOut (.ref z) (.ref B.objs.size)) ?_;unfold ownedTupleHandOut;refine b0 (CY (s:=⟨g5,g,d,tk+1,os⟩) Z5 (by simp) fun G z6 s6 => ?_)
 have S6:Dn z g5 G:=s6;have Z6:JH G z i ((k:Int)+1) x B.objs.size:=z6;clear s6 z6;refine CY (s:=⟨G,g,d,tk+1,os⟩) Z6 (by simp) fun J z7 s7 => ?_
 have S7:Dn z G J:=s7;have Z7:JH J z i ((k:Int)+1) x B.objs.size:=z7;clear s7 z7;have up:∀ b o,b≠z->g4.get? b=some o->J.get? b=some o:=fun b o bz e=>S7.extBut b o bz (S6.extBut b o bz (S5.extBut b o bz e));exact b0 (HW (hh ⟨_,rfl,q J Z7 (I4.up fun o e=>up i o j.symm e) (up _ _ (E3 zl) T4) fun b o bz bi e=>up b o bz (K4 b o bz bi e)⟩))
theorem nxt_item {z i a:Addr} {t:Bool} {k:Nat} {xs:Array e6} {x old:e6} {Q:Option e6->h7->Prop} (B:Hr s.heap z i k old) (hi:Zp.At t s.heap i a k) (G:Zp.Sq t s.heap a xs) (hx:xs[k]? = some x) (j:z≠i)
 (q:∀ h',JH h' z i ((k:Int)+1) x s.heap.objs.size->Zp.At t h' i a (k+1)->h'.get? s.heap.objs.size=some { cls := .type "tuple",data := .seq #[.int k s.toks,x] } ->
   (∀ b o,b≠z->b≠i->s.heap.get? b=some o->h'.get? b=some o)->Q (some (.ref s.heap.objs.size)) { s with heap:=h',toks:=s.toks+1 }) :
 CB (model prog w) A (FA (.ref z)) Q E s:=by
 have ty:s.TypeIs (.ref z) "enumerate" := ⟨_,B,rfl⟩;unfold FA;exact b0 (E5 (CW (name:=D6 "__next__") ty EU (D8 EU ty Hs
  (zx B hi G hx j fun h' a1 a2 J L=>hh (q h' a1 a2 J L)) (Ha _))))
theorem nxt_end {z i a:Addr} {t:Bool} {k:Nat} {xs:Array e6} {old:e6} {Q:Option e6->h7->Prop} (B:A.handled=none) (j:Hr s.heap z i k old) (hi:Zp.At t s.heap i a k) (G:Zp.Sq t s.heap a xs) (hx:xs[k]? = none)
 (q:∀ h',JT i s.heap h'->Q none { s with heap:=h' }):CB (model prog w) A (FA (.ref z)) Q E s:=by
 have ty:s.TypeIs (.ref z) "enumerate" := ⟨_,j,rfl⟩;unfold FA;refine b0 (E5 (CW (name:=D6 "__next__") ty EU (D8 EU ty Hs ?_ (Ha _))));refine b0 (m:=field (.ref z) 2) (CS j rfl (x := .ref i) rfl (b0 (Zp.nx_end B hi G hx fun h' x he hs => ?_)));obtain ⟨o,ho,J⟩:=hs;exact b0 (Ew (T := "StopIteration") (b:=true) ⟨o,ho,J⟩ HX (hh (q _ he)))
open AutoSeq1 (wpAny_loadPart') in
theorem wW (l:Addr) (items:Array e6) (n:Nat) (dct:Option Addr) (sl:Array (Option e6)) :
 Meets (EH.«enumerate.__new__» ⟨[.type "enumerate", .ref l],[]⟩) (fun _ R s=>s.heap.get? l=some { cls := .type "tuple",dict:=dct,data := .seq items n,slots:=sl } /\
  R (.ok (.ret (.ref (s.heap.push (Zp.itO true l)).objs.size))) { s with heap:=(s.heap.push (Zp.itO true l)).push { cls := .type "enumerate",data := .fields #[.none, .bool false, .ref s.heap.objs.size,EC 0, .none, .none] } }) :=
 .of_wp fun prog w A R s h=>by
  obtain ⟨B,g,d,tk,os⟩:=s;obtain ⟨j,h⟩:=h;have q:=sub_enumerate;have z:Gi (EA ⟨B,g,d,tk,os⟩) l items:=⟨_,j,rfl,n,rfl⟩
  wp_walk using EM j
  refine wpAny_stack_any fun st=>hh ?_
  split
  ·rename_i c _ _ _ _ _
   cases (c==FP "enumerate") <;> (wp_walk using EM j,DA z;exact ⟨_,rfl,h⟩)
  ·wp_walk using EM j,DA z
   exact ⟨_,rfl,h⟩
theorem call_enum {t:Bool} {l:Addr} {items:Array e6} {Q:e6->h7->Prop} (B:Zp.Sq t s.heap l items)
 (q:∀ h',Hr h' (s.heap.objs.size+1) s.heap.objs.size 0 .none->Zp.At t h' s.heap.objs.size l 0->(∀ b o,s.heap.get? b=some o->h'.get? b=some o)->Q (.ref (s.heap.objs.size+1)) { s with heap:=h' }) :
 CB (model prog w) A (call (.type "enumerate") [.ref l]) Q E s:=by
 cases t with
 | false=>exact call_enumerate_list B fun h' a b _ k=>q h' a b k
 | true =>
   obtain ⟨⟨c,dct,dt,sl⟩,J,L,n,hd⟩:=B;have j:c = .type "tuple" := L;have z:dt = .seq items n:=hd;subst j z;refine callType_new F.called_enumerate (by decide) (F.typeCall_enumerate_1 _) (F.newCall_enumerate_1 _) (fun obj=>F.args_object_init_2 obj _) F.entry_enumerate_new (wW l items n dct sl) ⟨J, ?_⟩
   have G:(s.heap.push (Zp.itO true l)).objs.size=s.heap.objs.size+1:=Dx ..;have e:((s.heap.push (Zp.itO true l)).push { cls := .type "enumerate",data := .fields #[.none, .bool false, .ref s.heap.objs.size,EC 0, .none, .none] }).get? (s.heap.push (Zp.itO true l)).objs.size=some _:=hQ _ rfl;rw [G] at e;show _/\_;rw [G];exact ⟨⟨_,e,rfl⟩,q _ e (Zp.at_new (h8 _ (hQ _ rfl))) fun b o x=>h8 _ (h8 _ x)⟩
end
end En
open PySem PySem.Spec PyProof.Rows
noncomputable def Ite (K:Frag) (t:Bool) (a:Addr):It :=
 ⟨fun i H => ∃ xs x,SqV K t H a xs/\xs[i]? = some x,
  fun i H v H' => ∃ p x,H p=none/\v = .ref p/\H'=upd H p (.tup [.int (i:Nat),x]) /\ ∀ xs,SqV K t H a xs->xs[i]? = some x,
  fun i H => ∃ xs,SqV K t H a xs/\xs.length<=i⟩
theorem rq {P:CG} {w:CT} {K:Frag} {elts:List Expr} {cx} {pos:Pos} {t:Bool} {z i a:Addr} (B:z≠i) :
 fe P w K (.Tuple elts cx pos) (Ite K t a) [z,i] z (fun k h=>(∃ old,Hr h z i k old)/\Zp.At t h i a k) where
 mem:=by simp
 obj:=fun k h ⟨⟨old,q⟩,hi⟩ c j=>by
  simp only [CC,D0,or_false] at j
  rcases j with rfl | rfl
  ·exact ⟨_,q,fun v e=>by cases e⟩
  ·exact hi.lt
 keep:=fun k h h' ⟨⟨old,q⟩,hi⟩ kk=>⟨⟨old,kk z (by simp) _ q⟩,hi.up fun o e=>kk i (by simp) o e⟩
 item:=by
  intro X F hw G j k pins s σ H E I hf st hg;subst F hw G;obtain ⟨⟨old,q⟩,hi⟩:=st;obtain ⟨xs,x,qx,ex⟩:=hg;obtain ⟨is,rx,px⟩:=I.sqv qx;obtain ⟨ux,J,rux⟩:=rx.get ex;refine En.nxt_item q hi px (by simpa using J) B fun h1 U Y p1 k1=>⟨_,rfl, ?_⟩
  refine wpAny_letOwnedTupleGo_enum (s := { s with heap:=h1,toks:=s.toks+1 }) U fun h2 Z s2 => ?_
  have lt:∀ {c o},s.heap.get? c=some o->c≠s.heap.objs.size:=fun e=>CV (tv e);have nz:s.heap.objs.size≠z:=(lt q).symm;have L:∃ o,s.heap.get? i=some o:=hi.lt.imp fun _ h=>h.1;have up:∀ c o,c≠z->h1.get? c=some o->h2.get? c=some o:=fun c o n e=>s2.extBut _ _ n e;have IL:Inv X pins σ (upd H s.heap.objs.size (.tup [.int (k:Nat),x])) { s with heap:=s.heap.push { cls := .type "tuple",data := .seq #[.int k s.toks,ux] },toks:=s.toks+1 } :=
   I.laid (fun b o e=>h8 _ e) (q0 _) ⟨by rw [hB];simp,[.int k s.toks,ux], .cons ⟨_,rfl⟩ (.cons rux .nil),Gj _ _⟩
  have fr:∀ c∈[z,i],c≠s.heap.objs.size:=fun c j=>by
   simp only [CC,D0,or_false] at j
   rcases j with rfl | rfl
   ·exact lt q
   ·obtain ⟨o,e⟩:=L;exact lt e
  have un:∀ c∈[z,i],upd H s.heap.objs.size (.tup [.int (k:Nat),x]) c=none:=fun c j=>by
   rw [ae (fr c j)];exact (hf c j).1
  have kk:∀ c o,c∉[z,i]->(s.heap.push { cls := .type "tuple",data := .seq #[.int k s.toks,ux] }).get? c=some o->h2.get? c=some o:=fun c o j e=>by
   simp only [CC,D0,or_false,not_or] at j
   rcases HZ e with ⟨rfl,rfl⟩ | e
   ·exact up _ _ nz p1
   ·exact up _ _ j.1 (k1 c o j.1 j.2 e)
  have I2:Inv X pins σ (upd H s.heap.objs.size (.tup [.int (k:Nat),x])) { s with heap:=h2,toks:=s.toks+1 } :=
   Inv.turnedL (s := { s with heap:=s.heap.push { cls := .type "tuple",data := .seq #[.int k s.toks,ux] },toks:=s.toks+1 }) (h':=h2) (t':=s.toks+1) (fp := [z,i]) IL (fun c j=>⟨un c j,(hf c j).2⟩) kk
  refine ⟨.ref s.heap.objs.size,_,I2,rfl,⟨_,x,I.hok.fresh (q0 _),rfl,rfl,fun xs' q1 => ?_⟩,⟨⟨ux,by simpa using Z⟩,Y.up fun o e=>up _ o B.symm e⟩,un⟩
  rw [I.sqv_inj q1 qx];exact ex
 done:=by
  intro X F hw G j k pins s σ H E I hf st hg;subst F hw G;obtain ⟨⟨old,q⟩,hi⟩:=st;obtain ⟨xs,qx,O⟩:=hg;obtain ⟨is,rx,px⟩:=I.sqv qx;have lx:=rx.length;refine En.nxt_end (I.ok.hd j) q hi px (by simp;lia) fun h1 k1=>⟨rfl,I.turnedL (t':=s.toks) hf fun c o j e => ?_⟩
  simp only [CC,D0,or_false,not_or] at j;exact k1 c o j.2 e
 self:=fun A k s Q E ⟨⟨old,q⟩,_⟩ h=>Jo q h
section
variable {X:Cx}
noncomputable def AN (K:Frag) (ta:TA):TI:=fun σ H R=>ta σ H fun vs H1 => ∃ a t xs,vs=[.ref a]/\SqV K t H1 a xs/\R (Ite K t a) H1
theorem wX {elts:List Expr} {cx} {pos p pos':Pos} {a:Expr} {ta:TA} (F:Gl X "enumerate") (hm:X.mg "enumerate" = none) (G:PA X [a] ta) (hs:CF [a] X.env=[(false,eval a X.env)]) :
 PI X (.Tuple elts cx pos) (.Call (.Name "enumerate" p) [a] [] pos') (AN X.K ta):=by
 intro pins s σ H R I h;refine Call_ (dP I F hm (u := .type "enumerate") boot_enumerate (E4 (thn (G pos' pins s σ H _ I h) fun us s1 ⟨vs,H1,j,J,L⟩ => ?_) hs rfl));obtain ⟨a',t,xs,rfl,qx,q⟩:=L
 cases J with
 | cons r rr =>
   cases rr
   cases r
   obtain ⟨is,rx,px⟩:=j.sqv qx;refine En.call_enum px fun h1 z O k1 => ?_;refine Jo z ?_;refine ⟨_,_,_,_,H1,rfl,j.kept (t':=s1.toks) k1,rq (t:=t) (a:=a') (by simp),⟨⟨_,z⟩,O⟩,fun c B => ?_,q⟩
   have hle:s1.heap.objs.size<=c:=by
    simp only [CC,D0,or_false] at B
    rcases B with rfl | rfl <;> lia
   exact j.fpOk hle (j.hok.fresh hle)
end
end L2
namespace L2
namespace Rv
open PySem PySem.Spec PyProof.Rows
end Rv
open PySem PySem.Spec PyProof.Rows
end L2
namespace L2
open PySem PySem.Spec PyProof.Rows
section
noncomputable abbrev NK:=List (Int ⊕ List Int)
noncomputable def AO (ks:List Int):Int:=reduceHash (GH (ks.map hashInt))
noncomputable def AQ:Int ⊕ List Int->Int
 | .inl i=>hashInt i
 | .inr ks=>AO ks
noncomputable def AR (ks:NK):Int:=reduceHash (GH (ks.map AQ))
section
variable (prog:CG) (w:CT)
variable {prog w}
variable {A:D1} {E:e6->h7->Prop} {s:h7}
theorem eqv_ints:∀ (x y:List Int),Fn (x.map Ht) (y.map Ht)=decide (x=y)
 | [],[] => rfl
 | [],_::_=>rfl
 | _::_,[] => rfl
 | a::x,b::y=>by
   rw [CJ,CJ,Fn,eqv_ints x y,EI];by_cases h1:a=b <;> by_cases h2:x=y <;> simp [h1,h2]
end
noncomputable def w5 (a:Addr) (xs:List (NK×Addr×e6)):Heap->Prop:=fun h=>xs.length<=hP/\(a==Dg)=false /\
 ∃ o es ep,h.get? a=some o/\o.ExactDict/\o.data = .dict es ep/\es.toList=xs.map (fun x=>(⟨AR x.1, .ref x.2.1,x.2.2⟩:F8))/\(xs.map (·.1)).Nodup
noncomputable def Kt1 (H:Hp):Int ⊕ List Int->V->Prop
 | .inl i,v=>v = .int i
 | .inr ks,v => ∃ b,v = .ref b/\H b=some (.tup (ks.map V.int))
def Kt (H:Hp) (k:NK) (b:Addr):Prop := ∃ vs,H b=some (.tup vs)/\CU (Kt1 H) k vs
theorem Kt.keeps {H H':Hp} {k:NK} {b:Addr} (x:Kt H k b) (ht:∀ b ys,H b=some (.tup ys)->H' b=some (.tup ys)):Kt H' k b:=by
 obtain ⟨vs,e,p⟩:=x;refine ⟨vs,ht _ _ e,KG p fun q v z => ?_⟩
 cases q with
 | inl i=>exact z
 | inr ks=>obtain ⟨c,e,q⟩:=z;exact ⟨c,e,ht _ _ q⟩
end
end L2
namespace L2
namespace Mi
open PySem PySem.Spec PyProof.Rows
section
inductive D where
 | non | bl (b:Bool) | int (i:Int) | str (x:Str) | tup (ds:List D) | con (ds:List D) | ref (a:Addr) | fn (x:Str)
inductive O where
 | lst (ds:List D)
 | dct (t:Bool) (kvs:List (D×D))
 | fdc (kvs:List (D×D))
 | dcn (kvs:List (NK×D))
 | fdn (kvs:List (NK×D))
noncomputable abbrev Mem:=Addr->Option O
noncomputable def fz:Option O->Bool
 | some (.lst _)=>false
 | some (.dct _ _)=>false
 | some (.dcn _)=>false
 | _=>true
noncomputable abbrev al:=List (Option D)
noncomputable def af (M:Mem) (a:Addr) (o:O):Mem:=fun b=>if b=a then some o else M b
theorem ad {M:Mem} {a:Addr} {o:O}:af M a o a=some o:=by unfold af;rw [if_pos rfl]
theorem aw {M:Mem} {a b:Addr} {o:O} (h:b≠a):af M a o b=M b:=by unfold af;rw [if_neg h]
def SqF (K:Frag) (H:Hp) (a:Addr) (xs:List V):Prop :=
 (∃ o,H a=some (.frz o (.lst xs))) ∨
  ∃ (o:Obj) (its:Array e6) (n:Nat),K.lookup a=some o/\o.cls = .type "list" /\ o.dict=none/\o.data = .seq its n/\its.size<=hP/\Vals xs its.toList
theorem SqF.sq {K:Frag} {H:Hp} {a:Addr} {xs:List V} (h:SqF K H a xs):SqL K H a xs:=by
 rcases h with ⟨o,h⟩ | h
 ·exact .inl (.inr ⟨o,h⟩)
 ·exact .inr h
noncomputable def fk2:Bool:=true
noncomputable def fk3:Bool:=true
noncomputable def fk:List D->Bool
 | [.int _, .int _, .int _] => true
 | [.tup _,_] => true
 | [.int _,_] => fk2
 | [] => false
 | _=>fk3
def TupR (K:Frag) (H:Hp) (ds:List D) (a:Addr) (vs:List V):Prop:=H a=some (.tup vs)∨(fk ds=false/\SqT K H a vs)
theorem TupR.sq {K:Frag} {H:Hp} {ds:List D} {a:Addr} {vs:List V} (h:TupR K H ds a vs):SqT K H a vs:=h.elim SqT.of (·.2)
mutual
noncomputable def RD (K:Frag) (H:Hp):D->V->Prop
 | .non,v=>v = .non
 | .bl b,v=>v = .bl b
 | .int i,v=>v = .int i
 | .str x,v=>v = .str x
 | .tup ds,v => ∃ a vs,v = .ref a/\TupR K H ds a vs/\RDs K H ds vs
 | .con ds,v => ∃ a vs,v = .ref a/\SqF K H a vs/\RDs K H ds vs
 | .ref a,v=>v = .ref a
 | .fn x,v => ∃ f,v = .ref f/\FJ K Dl x=some (some (.ref f))
noncomputable def RDs (K:Frag) (H:Hp):List D->List V->Prop
 | [],vs=>vs=[]
 | d::ds,vs => ∃ v r,vs=v::r/\RD K H d v/\RDs K H ds r
end
structure Stab (H H':Hp):Prop where
 tup:∀ a xs,H a=some (.tup xs)->H' a=some (.tup xs)
 frz:∀ a o u,H a=some (.frz o u)->H' a=some (.frz o u)
theorem Stab.sqT {K:Frag} {H H':Hp} (st:Stab H H') {a:Addr} {xs:List V} (h:SqT K H a xs):SqT K H' a xs:=by
 rcases h with (h | ⟨o,h⟩) | h
 ·exact .inl (.inl (st.tup _ _ h))
 ·exact .inl (.inr ⟨o,st.frz _ _ _ h⟩)
 ·exact .inr h
theorem Stab.sqF {K:Frag} {H H':Hp} (st:Stab H H') {a:Addr} {xs:List V} (h:SqF K H a xs):SqF K H' a xs:=by
 rcases h with ⟨o,h⟩ | h
 ·exact .inl ⟨o,st.frz _ _ _ h⟩
 ·exact .inr h
mutual
theorem RD.mono {K:Frag} {H H':Hp} (st:Stab H H'):∀ {d:D} {v:V},RD K H d v->RD K H' d v
 | .non,_,h=>h
 | .bl _,_,h=>h
 | .int _,_,h=>h
 | .str _,_,h=>h
 | .tup ds,v,h=>by
  unfold RD at h ⊢;obtain ⟨a,vs,e,q,r⟩:=h;exact ⟨a,vs,e,q.imp (st.tup _ _) (fun z=>⟨z.1,st.sqT z.2⟩),RDs.mono st r⟩
 | .con ds,v,h=>by
  unfold RD at h ⊢;obtain ⟨a,vs,e,q,r⟩:=h;exact ⟨a,vs,e,st.sqF q,RDs.mono st r⟩
 | .ref _,_,h=>h
 | .fn _,_,h=>by unfold RD at h ⊢;exact h
theorem RDs.mono {K:Frag} {H H':Hp} (st:Stab H H'):∀ {ds:List D} {vs:List V},RDs K H ds vs->RDs K H' ds vs
 | [],_,h=>h
 | d::ds,vs,h=>by
   unfold RDs at h ⊢;obtain ⟨v,r,e,h1,h2⟩:=h;exact ⟨v,r,e,RD.mono st h1,RDs.mono st h2⟩
end
section
variable {K:Frag} {H H':Hp}
theorem Ky {i:Int} {v:V}:RD K H (.int i) v↔v = .int i:=by unfold RD;exact K8
theorem KA {b:Bool} {v:V}:RD K H (.bl b) v↔v = .bl b:=by unfold RD;exact K8
theorem KJ {v:V}:RD K H .non v↔v = .non:=by unfold RD;exact K8
theorem KL {x:Str} {v:V}:RD K H (.str x) v↔v = .str x:=by unfold RD;exact K8
theorem Kz {a:Addr} {v:V}:RD K H (.ref a) v↔v = .ref a:=by unfold RD;exact K8
theorem KQ {ds:List D} {v:V}:RD K H (.tup ds) v ↔ ∃ a vs,v = .ref a/\TupR K H ds a vs/\RDs K H ds vs:=by rw [RD]
theorem KO {ds:List D} {v:V} (h:∃ a vs,v = .ref a/\H a=some (.tup vs)/\RDs K H ds vs):RD K H (.tup ds) v:=KQ.mpr (let ⟨a,vs,e,h,r⟩:=h; ⟨a,vs,e, .inl h,r⟩)
theorem KH {ds:List D} {v:V} (h:RD K H (.tup ds) v):∃ a vs,v = .ref a/\SqT K H a vs/\RDs K H ds vs:=let ⟨a,vs,e,h,r⟩:=KQ.mp h; ⟨a,vs,e,h.sq,r⟩
theorem KU {ds:List D} {v:V} (f:fk ds=true) (h:RD K H (.tup ds) v):∃ a vs,v = .ref a/\H a=some (.tup vs)/\RDs K H ds vs:=let ⟨a,vs,e,h,r⟩:=KQ.mp h; ⟨a,vs,e,h.elim id fun z=>(by rw [f] at z;cases z.1),r⟩
theorem KI {ds:List D} {v:V}:RD K H (.con ds) v ↔ ∃ a vs,v = .ref a/\SqF K H a vs/\RDs K H ds vs:=by rw [RD]
theorem RDs.nil_iff {vs:List V}:RDs K H [] vs↔vs=[]:=by rw [RDs]
theorem KD {d:D} {ds:List D} {vs:List V}:RDs K H (d::ds) vs ↔ ∃ v r,vs=v::r/\RD K H d v/\RDs K H ds r:=by rw [RDs]
theorem RDs.nil:RDs K H [] []:=RDs.nil_iff.mpr rfl
theorem RDs.cons {d:D} {ds:List D} {v:V} {vs:List V} (h:RD K H d v) (r:RDs K H ds vs):RDs K H (d::ds) (v::vs):=KD.mpr ⟨v,vs,rfl,h,r⟩
theorem RDs.length:∀ {ds:List D} {vs:List V},RDs K H ds vs->vs.length=ds.length
 | [],_,h=>by rw [RDs.nil_iff.mp h];rfl
 | d::ds,_,h=>by
   obtain ⟨v,r,rfl,_,h2⟩:=KD.mp h;simp [RDs.length h2]
theorem RDs.get:∀ {ds:List D} {vs:List V} {i:Nat} {d:D},RDs K H ds vs->ds[i]? = some d -> ∃ v,vs[i]? = some v/\RD K H d v
 | [],_,_,_,_,e=>by simp at e
 | d::ds,_,0,d',h,e=>by
   obtain ⟨v,r,rfl,h1,h2⟩:=KD.mp h;simp at e;subst e;exact ⟨v,rfl,h1⟩
 | d::ds,_,i+1,d',h,e=>by
   obtain ⟨v,r,rfl,h1,h2⟩:=KD.mp h;obtain ⟨u,j,q⟩:=RDs.get (i:=i) (d:=d') h2 (by simpa using e)
   exact ⟨u,by simpa using j,q⟩
theorem RDs.getV {ds:List D} {vs:List V} {i:Nat} {v:V} (h:RDs K H ds vs) (e:vs[i]? = some v):∃ d,ds[i]? = some d/\RD K H d v:=by
 have z:=h.length;have hi:i < vs.length:=(CI.mp e).1;obtain ⟨d,hd⟩:∃ d,ds[i]? = some d:=⟨ds[i]'(by lia),h6 (by lia)⟩
 obtain ⟨u,j,q⟩:=h.get hd;rw [e] at j;cases j;exact ⟨d,hd,q⟩
theorem RDs.append:∀ {ds es:List D} {vs us:List V},RDs K H ds vs->RDs K H es us->RDs K H (ds++es) (vs++us)
 | [],_,_,_,h,q=>by rw [RDs.nil_iff.mp h];exact q
 | d::ds,_,_,_,h,q=>by
   obtain ⟨v,r,rfl,h1,h2⟩:=KD.mp h;exact RDs.cons h1 (RDs.append h2 q)
theorem RDs.take:∀ {ds:List D} {vs:List V} (n:Nat),RDs K H ds vs->RDs K H (ds.take n) (vs.take n)
 | [],_,n,h=>by rw [RDs.nil_iff.mp h];simp;exact RDs.nil
 | _::_,_,0,h=>by simp;exact RDs.nil
 | d::ds,_,n+1,h=>by
   obtain ⟨v,r,rfl,h1,h2⟩:=KD.mp h;exact RDs.cons h1 (RDs.take n h2)
theorem RDs.drop:∀ {ds:List D} {vs:List V} (n:Nat),RDs K H ds vs->RDs K H (ds.drop n) (vs.drop n)
 | [],_,n,h=>by rw [RDs.nil_iff.mp h];simp;exact RDs.nil
 | d::ds,_,0,h=>h
 | d::ds,_,n+1,h=>by
   obtain ⟨v,r,rfl,h1,h2⟩:=KD.mp h;exact RDs.drop n h2
theorem RDs.set:∀ {ds:List D} {vs:List V} (n:Nat) {d:D} {v:V},RD K H d v->RDs K H ds vs->RDs K H (ds.set n d) (vs.set n v)
 | [],_,n,_,_,_,h=>by rw [RDs.nil_iff.mp h];exact RDs.nil
 | d::ds,_,0,_,_,q,h=>by
   obtain ⟨v,r,rfl,h1,h2⟩:=KD.mp h;exact RDs.cons q h2
 | d::ds,_,n+1,_,_,q,h=>by
   obtain ⟨v,r,rfl,h1,h2⟩:=KD.mp h;exact RDs.cons h1 (RDs.set n q h2)
theorem RDs.reverse {ds:List D} {vs:List V} (h:RDs K H ds vs):RDs K H ds.reverse vs.reverse:=by
 induction ds generalizing vs with
 | nil=>rw [RDs.nil_iff.mp h];exact RDs.nil
 | cons d ds ih =>
   obtain ⟨v,r,rfl,h1,h2⟩:=KD.mp h;rw [EV,EV];exact (ih h2).append (RDs.cons h1 RDs.nil)
theorem RDs.rep {ds:List D} {vs:List V} (h:RDs K H ds vs):∀ k:Nat,RDs K H (CD k ds).flatten (CD k vs).flatten
 | 0=>RDs.nil
 | k+1=>by
   rw [Dm,Dm,DY,DY];exact h.append (h.rep k)
theorem RDs.ints:∀ (ns:List Int),RDs K H (ns.map D.int) (ns.map V.int)
 | [] => RDs.nil
 | n::ns=>RDs.cons (Ky.mpr rfl) (RDs.ints ns)
end
mutual
noncomputable def D.eqb:D->D->Bool
 | .non, .non=>true
 | .bl a, .bl b=>a==b
 | .int a, .int b=>decide (a=b)
 | .str a, .str b=>decide (a=b)
 | .tup a, .tup b=>D.eqbs a b
 | .con a, .con b=>D.eqbs a b
 | .ref a, .ref b=>decide (a=b)
 | .fn a, .fn b=>decide (a=b)
 | _,_=>false
noncomputable def D.eqbs:List D->List D->Bool
 | [],[] => true
 | a::r,b::s=>D.eqb a b&&D.eqbs r s
 | _,_=>false
end
mutual
theorem KY:∀ (a b:D),D.eqb a b=true->a=b
 | .non, .non,_=>rfl
 | .bl a, .bl b,h=>by simp [D.eqb] at h;rw [h]
 | .int a, .int b,h=>by simp [D.eqb] at h;rw [h]
 | .str a, .str b,h=>by simp [D.eqb] at h;rw [h]
 | .tup a, .tup b,h=>by simp [D.eqb] at h;rw [KR a b h]
 | .con a, .con b,h=>by simp [D.eqb] at h;rw [KR a b h]
 | .ref a, .ref b,h=>by simp [D.eqb] at h;rw [h]
 | .fn a, .fn b,h=>by simp [D.eqb] at h;rw [h]
 | .non, .bl _,h=>by simp [D.eqb] at h
 | .non, .int _,h=>by simp [D.eqb] at h
 | .non, .str _,h=>by simp [D.eqb] at h
 | .non, .tup _,h=>by simp [D.eqb] at h
 | .non, .con _,h=>by simp [D.eqb] at h
 | .non, .ref _,h=>by simp [D.eqb] at h
 | .non, .fn _,h=>by simp [D.eqb] at h
 | .bl _, .non,h=>by simp [D.eqb] at h
 | .bl _, .int _,h=>by simp [D.eqb] at h
 | .bl _, .str _,h=>by simp [D.eqb] at h
 | .bl _, .tup _,h=>by simp [D.eqb] at h
 | .bl _, .con _,h=>by simp [D.eqb] at h
 | .bl _, .ref _,h=>by simp [D.eqb] at h
 | .bl _, .fn _,h=>by simp [D.eqb] at h
 | .int _, .non,h=>by simp [D.eqb] at h
 | .int _, .bl _,h=>by simp [D.eqb] at h
 | .int _, .str _,h=>by simp [D.eqb] at h
 | .int _, .tup _,h=>by simp [D.eqb] at h
 | .int _, .con _,h=>by simp [D.eqb] at h
 | .int _, .ref _,h=>by simp [D.eqb] at h
 | .int _, .fn _,h=>by simp [D.eqb] at h
 | .str _, .non,h=>by simp [D.eqb] at h
 | .str _, .bl _,h=>by simp [D.eqb] at h
 | .str _, .int _,h=>by simp [D.eqb] at h
 | .str _, .tup _,h=>by simp [D.eqb] at h
 | .str _, .con _,h=>by simp [D.eqb] at h
 | .str _, .ref _,h=>by simp [D.eqb] at h
 | .str _, .fn _,h=>by simp [D.eqb] at h
 | .tup _, .non,h=>by simp [D.eqb] at h
 | .tup _, .bl _,h=>by simp [D.eqb] at h
 | .tup _, .int _,h=>by simp [D.eqb] at h
 | .tup _, .str _,h=>by simp [D.eqb] at h
 | .tup _, .con _,h=>by simp [D.eqb] at h
 | .tup _, .ref _,h=>by simp [D.eqb] at h
 | .tup _, .fn _,h=>by simp [D.eqb] at h
 | .con _, .non,h=>by simp [D.eqb] at h
 | .con _, .bl _,h=>by simp [D.eqb] at h
 | .con _, .int _,h=>by simp [D.eqb] at h
 | .con _, .str _,h=>by simp [D.eqb] at h
 | .con _, .tup _,h=>by simp [D.eqb] at h
 | .con _, .ref _,h=>by simp [D.eqb] at h
 | .con _, .fn _,h=>by simp [D.eqb] at h
 | .ref _, .non,h=>by simp [D.eqb] at h
 | .ref _, .bl _,h=>by simp [D.eqb] at h
 | .ref _, .int _,h=>by simp [D.eqb] at h
 | .ref _, .str _,h=>by simp [D.eqb] at h
 | .ref _, .tup _,h=>by simp [D.eqb] at h
 | .ref _, .con _,h=>by simp [D.eqb] at h
 | .ref _, .fn _,h=>by simp [D.eqb] at h
 | .fn _, .non,h=>by simp [D.eqb] at h
 | .fn _, .bl _,h=>by simp [D.eqb] at h
 | .fn _, .int _,h=>by simp [D.eqb] at h
 | .fn _, .str _,h=>by simp [D.eqb] at h
 | .fn _, .tup _,h=>by simp [D.eqb] at h
 | .fn _, .con _,h=>by simp [D.eqb] at h
 | .fn _, .ref _,h=>by simp [D.eqb] at h
theorem KR:∀ (a b:List D),D.eqbs a b=true->a=b
 | [],[],_=>rfl
 | a::r,b::s,h=>by
   simp [D.eqbs] at h;rw [KY a b h.1,KR r s h.2]
 | [],_::_,h=>by simp [D.eqbs] at h
 | _::_,[],h=>by simp [D.eqbs] at h
end
mutual
theorem KW:∀ (a:D),D.eqb a a=true
 | .non=>rfl
 | .bl _=>by simp [D.eqb]
 | .int _=>by simp [D.eqb]
 | .str _=>by simp [D.eqb]
 | .tup a=>by simp [D.eqb,KP a]
 | .con a=>by simp [D.eqb,KP a]
 | .ref _=>by simp [D.eqb]
 | .fn _=>by simp [D.eqb]
theorem KP:∀ (a:List D),D.eqbs a a=true
 | [] => rfl
 | a::r=>by simp [D.eqbs,KW a,KP r]
end
noncomputable instance:DecidableEq D:=fun a b=>if h:D.eqb a b=true then isTrue (KY a b h) else isFalse fun e=>h (by rw [e];exact KW b)
noncomputable def RKey:D->Key->Prop
 | .int i,k=>k = .inl i
 | .str x,k=>k = .inr x
 | _,_=>False
noncomputable def RKeys:D->List Key->Prop
 | .tup ds,ks=>CU RKey ds ks
 | _,_=>False
noncomputable def dget (kvs:List (D×D)) (k:D):Option D:=(kvs.find? fun p=>decide (p.1=k)).map (·.2)
noncomputable def bY (kvs:List (D×D)) (k v:D):List (D×D):=if (kvs.any fun p=>decide (p.1=k))=true then kvs.map (fun p=>if p.1=k then (p.1,v) else p) else kvs++[(k,v)]
noncomputable def eB:D->Bool
 | .int _=>true
 | .str _=>true
 | _=>false
noncomputable def bK:D->Bool
 | .tup ds=>ds.all eB&&fk ds
 | _=>false
noncomputable def ii (t:Bool) (k:D):Bool:=if t then bK k else eB k
theorem kH {k:D} (h:eB k=true):∃ q,RKey k q:=by
 cases k <;> first | (simp [eB] at h;done) | exact ⟨_,rfl⟩
theorem nS:∀ {ds:List D},ds.all eB=true -> ∃ ks,CU RKey ds ks
 | [],_=>⟨[], .nil⟩
 | d::ds,h=>by
   simp only [Ep,gV] at h;obtain ⟨k,j⟩:=kH h.1;obtain ⟨ks,hs⟩:=nS h.2;exact ⟨k::ks, .cons j hs⟩
theorem j3 {k:D} (h:bK k=true):∃ q,RKeys k q:=by
 cases k <;> first | (simp [bK] at h;done) | exact nS (I0.mp h).1
theorem j4 {ds:List D} (h:bK (.tup ds)=true):fk ds=true:=(I0.mp h).2
noncomputable def RO (K:Frag) (H:Hp) (a:Addr):O->Prop
 | .lst ds => ∃ vs,H a=some (.lst vs)/\RDs K H ds vs
 | .dct false kvs => ∃ ps,H a=some (.dK ps)/\CU (fun (p:D×D) (q:Key×V)=>RKey p.1 q.1/\RD K H p.2 q.2) kvs ps
 | .dct true kvs => ∃ ps,H a=some (.dT ps)/\CU (fun (p:D×D) (q:List Key×V)=>RKeys p.1 q.1/\RD K H p.2 q.2) kvs ps
 | .fdc kvs => ∃ o ps,H a=some (.frz o (.dT ps))/\CU (fun (p:D×D) (q:List Key×V)=>RKeys p.1 q.1/\RD K H p.2 q.2) kvs ps
 | .dcn kvs => ∃ xs,H a=some (.ext (w5 a xs))/\CU (fun (p:NK×D) (q:NK×Addr×e6)=>p.1=q.1/\Kt H q.1 q.2.1 /\ ∃ v,RelV v q.2.2/\RD K H p.2 v) kvs xs
 | .fdn kvs => ∃ o xs,H a=some (.frz o (.ext (w5 a xs)))/\CU (fun (p:NK×D) (q:NK×Addr×e6)=>p.1=q.1/\Kt H q.1 q.2.1 /\ ∃ v,RelV v q.2.2/\RD K H p.2 v) kvs xs
def RM (K:Frag) (M:Mem) (H:Hp):Prop := ∀ a o,M a=some o->RO K H a o
def RS (K:Frag) (H:Hp) (σ:St) (ρ:al):Prop := σ.length = ρ.length /\ ∀ (i:Nat) (d:D), ρ[i]? = some (some d) -> ∃ v, σ[i]? = some (some v)/\RD K H d v
structure Ext (M:Mem) (H:Hp) (M':Mem) (H':Hp):Prop where
 kp:∀ a o,fz (M a)=true->H a=some o->H' a=some o
 nw:∀ a o,fz (M a)=true->H a=some o->M' a=M a
section
variable {K:Frag} {M M' M'':Mem} {H H' H'':Hp}
theorem Ext.keep (x:Ext M H M' H') (a:Addr) (o:HO) (n:M a=none) (e:H a=some o):H' a=some o:=x.kp a o (by rw [n];rfl) e
theorem Ext.new (x:Ext M H M' H') (a:Addr) (o:HO) (n:M a=none) (e:H a=some o):M' a=none:=(x.nw a o (by rw [n];rfl) e).trans n
theorem Ext.refl:Ext M H M H:=⟨fun _ _ _ h=>h,fun _ _ _ _=>rfl⟩
theorem Ext.trans (a:Ext M H M' H') (b:Ext M' H' M'' H''):Ext M H M'' H'' :=
 ⟨fun c o n h=>b.kp c o (by rw [a.nw c o n h];exact n) (a.kp c o n h),fun c o n h=>(b.nw c o (by rw [a.nw c o n h];exact n) (a.kp c o n h)).trans (a.nw c o n h)⟩
theorem RM.mut (r:RM K M H) {a:Addr} {o:O} (h:M a=some o):∃ ho,H a=some ho/\(∀ xs,ho ≠ .tup xs)/\(fz (some o)=false->Mut (some ho) /\ ∀ ob u,ho ≠ .frz ob u):=by
 have q:=r a o h
 cases o with
 | lst ds =>
   obtain ⟨vs,e,_⟩:=q;exact ⟨_,e,fun _ z=>(by cases z),fun _=>⟨trivial,fun _ _ z=>(by cases z)⟩⟩
 | dct t kvs =>
   cases t with
   | false=>obtain ⟨ps,e,_⟩:=q;exact ⟨_,e,fun _ z=>(by cases z),fun _=>⟨trivial,fun _ _ z=>(by cases z)⟩⟩
   | true=>obtain ⟨ps,e,_⟩:=q;exact ⟨_,e,fun _ z=>(by cases z),fun _=>⟨trivial,fun _ _ z=>(by cases z)⟩⟩
 | fdc kvs=>obtain ⟨ob,ps,e,_⟩:=q;exact ⟨_,e,fun _ z=>(by cases z),fun z=>(by cases z)⟩
 | fdn kvs=>obtain ⟨ob,ps,e,_⟩:=q;exact ⟨_,e,fun _ z=>(by cases z),fun z=>(by cases z)⟩
 | dcn kvs=>obtain ⟨xs,e,_⟩:=q;exact ⟨_,e,fun _ z=>(by cases z),fun _=>⟨trivial,fun _ _ z=>(by cases z)⟩⟩
theorem RM.fzT (r:RM K M H) {a:Addr} {xs:List V} (e:H a=some (.tup xs)):M a=none:=by
 cases q:M a with
 | none=>rfl
 | some o =>
   obtain ⟨ho,j,z,_⟩:=r.mut q;rw [e] at j;cases j;exact absurd rfl (z xs)
theorem RM.fzF (r:RM K M H) {a:Addr} {ob:Obj} {u:HO} (e:H a=some (.frz ob u)):fz (M a)=true:=by
 cases q:M a with
 | none=>rfl
 | some o =>
   obtain ⟨ho,j,_,B⟩:=r.mut q;rw [e] at j;cases j
   cases z:fz (some o) with
   | true=>rfl
   | false=>exact absurd rfl ((B z).2 ob u)
theorem RM.out (r:RM K M H) {a:Addr} (h:H a=none):M a=none:=by
 cases e:M a with
 | none=>rfl
 | some o =>
   obtain ⟨ho,q,_⟩:=r.mut e;rw [h] at q;cases q
theorem Ext.stab (r:RM K M H) (x:Ext M H M' H'):Stab H H' where
 tup:=fun a xs e=>x.keep a _ (r.fzT e) e
 frz:=fun a o u e=>x.kp a _ (r.fzF e) e
theorem RS.mono (st:Stab H H') {σ:St} {ρ:al} (h:RS K H σ ρ):RS K H' σ ρ :=
 ⟨h.1,fun i d e=>let ⟨v,q,r⟩:=h.2 i d e; ⟨v,q,r.mono st⟩⟩
theorem RS.set {σ:St} {ρ:al} (h:RS K H σ ρ) (i:Nat) {d:D} {v:V} (r:RD K H d v):RS K H (σ.set i (some v)) (ρ.set i (some d)):=by
 refine ⟨by simp [h.1],fun j e q => ?_⟩
 by_cases hij:i=j
 ·subst hij;have hi:i < ρ.length:=by
   have:=(CI.mp q).1;simpa using this
  rw [Dh hi] at q
  cases q
  exact ⟨v,by rw [Dh (by rw [h.1];exact hi)],r⟩
 ·rw [DU hij] at q ⊢;exact h.2 j e q
noncomputable def j5 (fr:List (Option Nat)) (ρ:al):al:=fr.map fun o=>o.bind fun j=>(ρ[j]?).join
theorem RS.inh {σ:St} {ρ:al} (h:RS K H σ ρ) (fr:List (Option Nat)):RS K H (inh fr σ) (j5 fr ρ):=by
 refine ⟨by simp [L2.inh,j5],fun i d e => ?_⟩
 unfold j5 at e;unfold L2.inh;rw [CK] at e ⊢
 cases q:fr[i]? with
 | none=>rw [q] at e;cases e
 | some o =>
   rw [q] at e
   cases o with
   | none=>cases e
   | some j =>
     have e':some ((ρ[j]?).join)=some (some d):=e
     cases q' : ρ[j]? with
     | none=>rw [q'] at e';cases e'
     | some w =>
       rw [q'] at e'
       cases e'
       obtain ⟨v,v1,v2⟩:=h.2 j d q';exact ⟨v,by simp [v1],v2⟩
theorem RO.mono (st:Stab H H') {a:Addr} {o:O} (h:RO K H a o) (e:∀ ho,H a=some ho->H' a=some ho):RO K H' a o:=by
 cases o with
 | lst ds=>obtain ⟨vs,q,r⟩:=h;exact ⟨vs,e _ q,r.mono st⟩
 | dct t kvs =>
   cases t with
   | false=>obtain ⟨ps,q,r⟩:=h;exact ⟨ps,e _ q,KG r fun _ _ z=>⟨z.1,z.2.mono st⟩⟩
   | true=>obtain ⟨ps,q,r⟩:=h;exact ⟨ps,e _ q,KG r fun _ _ z=>⟨z.1,z.2.mono st⟩⟩
 | fdc kvs=>obtain ⟨ob,ps,q,r⟩:=h;exact ⟨ob,ps,e _ q,KG r fun _ _ z=>⟨z.1,z.2.mono st⟩⟩
 | fdn kvs=>obtain ⟨ob,xs,q,r⟩:=h;exact ⟨ob,xs,e _ q,KG r fun _ _ ⟨j,B,v,F,G⟩=>⟨j,B.keeps st.tup,v,F,G.mono st⟩⟩
 | dcn kvs=>obtain ⟨xs,q,r⟩:=h;exact ⟨xs,e _ q,KG r fun _ _ ⟨j,B,v,F,G⟩=>⟨j,B.keeps st.tup,v,F,G.mono st⟩⟩
theorem RM.new {p:Addr} {ho:HO} (r:RM K M H) (n:H p=none):RM K M (upd H p ho):=fun a o e=>by
 have ne:a≠p:=fun z=>by subst z;obtain ⟨_,q,_⟩:=r.mut e;rw [n] at q;cases q
 refine (r a o e).mono ⟨fun b xs q => ?_,fun b o u q => ?_⟩ fun j q=>by rw [ae ne];exact q
 ·rw [ae (aR q n)];exact q
 ·rw [ae (aR q n)];exact q
theorem KN {p:Addr} {ho:HO} (n:H p=none):Ext M H M (upd H p ho):=⟨fun a o _ e=>by rw [ae (aR e n)];exact e,fun _ _ _ _=>rfl⟩
theorem RM.lay {p:Addr} {ho:HO} {o:O} (r:RM K M H) (n:H p=none) (h:RO K (upd H p ho) p o):RM K (af M p o) (upd H p ho):=fun a o' e=>by
 by_cases z:a=p
 ·subst z;rw [ad] at e;cases e;exact h
 ·rw [aw z] at e;exact r.new n a o' e
theorem Ext.lay {p:Addr} {ho:HO} {o:O} (n:H p=none):Ext M H (af M p o) (upd H p ho) :=
 ⟨fun a u _ e=>by rw [ae (aR e n)];exact e,fun a u m e=>by rw [aw (aR e n)]⟩
theorem RM.put {p:Addr} {ho:HO} {o o0:O} (r:RM K M H) (m:M p=some o0) (h:RO K (upd H p ho) p o) (w:fz (some o0)=false:=by rfl):RM K (af M p o) (upd H p ho):=fun a o' e=>by
 by_cases z:a=p
 ·subst z;rw [ad] at e;cases e;exact h
 ·rw [aw z] at e;obtain ⟨J,j,B,F⟩:=r.mut m;refine (r a o' e).mono ⟨fun b xs q => ?_,fun b o u q => ?_⟩ fun G q=>by rw [ae z];exact q
  ·rw [ae (fun z=>by subst z;rw [j] at q;cases q;exact B xs rfl)];exact q
  ·rw [ae (fun z=>by subst z;rw [j] at q;cases q;exact (F w).2 o u rfl)];exact q
theorem Ext.put {p:Addr} {ho:HO} {o o0:O} (m:M p=some o0) (w:fz (some o0)=false:=by rfl):Ext M H (af M p o) (upd H p ho) :=
 ⟨fun a u n e=>by rw [ae (fun z=>by subst z;rw [m,w] at n;cases n)];exact e,fun a u n e=>aw (fun z=>by subst z;rw [m,w] at n;cases n)⟩
theorem RM.stabPut {p:Addr} {ho:HO} {o0:O} (r:RM K M H) (m:M p=some o0) (w:fz (some o0)=false:=by rfl):Stab H (upd H p ho):=(Ext.put (o:=o0) (ho:=ho) m w).stab r
end
noncomputable abbrev QD:=D->Mem->Prop
noncomputable abbrev TEd:=al->Mem->QD->Prop
noncomputable abbrev TTd:=al->Mem->(Bool->Mem->Prop)->Prop
noncomputable abbrev TAd:=al->Mem->(List D->Mem->Prop)->Prop
structure aZ where
 nx:al->Mem->Prop
 rt:QD
 bk:al->Mem->Prop:=fun _ _=>False
 ct:al->Mem->Prop:=fun _ _=>False
noncomputable abbrev TSd:=aZ->al->Mem->Prop
def aa (T:TEd):Prop := ∀ ρ M Q Q',(∀ d M',Q d M'->Q' d M')->T ρ M Q->T ρ M Q'
def ay (T:TTd):Prop := ∀ ρ M Q Q',(∀ d M',Q d M'->Q' d M')->T ρ M Q->T ρ M Q'
def b9 (T:TAd):Prop := ∀ ρ M Q Q',(∀ d M',Q d M'->Q' d M')->T ρ M Q->T ρ M Q'
structure LeD (a b:aZ):Prop where
 nx:∀ ρ M,a.nx ρ M->b.nx ρ M
 rt:∀ d M,a.rt d M->b.rt d M
 bk:∀ ρ M,a.bk ρ M->b.bk ρ M
 ct:∀ ρ M,a.ct ρ M->b.ct ρ M
def az (T:TSd):Prop := ∀ a b ρ M,LeD a b->T a ρ M->T b ρ M
noncomputable def KE' (K:Frag) (M:Mem) (H:Hp) (Q:VK):QD:=fun d M' => ∀ v H',Ext M H M' H'->RM K M' H'->RD K H' d v->Q v H'
noncomputable def KT' (K:Frag) (M:Mem) (H:Hp) (Q:Bool->Hp->Prop):Bool->Mem->Prop:=fun b M' => ∀ H',Ext M H M' H'->RM K M' H'->Q b H'
noncomputable def KA' (K:Frag) (M:Mem) (H:Hp) (Q:List V->Hp->Prop):List D->Mem->Prop:=fun ds M' => ∀ vs H',Ext M H M' H'->RM K M' H'->RDs K H' ds vs->Q vs H'
noncomputable def lE (K:Frag) (T:TEd):TE:=fun σ H Q => ∃ ρ M,RS K H σ ρ /\ RM K M H/\T ρ M (KE' K M H Q)
noncomputable def lT (K:Frag) (T:TTd):TT:=fun σ H Q => ∃ ρ M,RS K H σ ρ /\ RM K M H/\T ρ M (KT' K M H Q)
noncomputable def lA (K:Frag) (T:TAd):TA:=fun σ H Q => ∃ ρ M,RS K H σ ρ /\ RM K M H/\T ρ M (KA' K M H Q)
structure Link (K:Frag) (M:Mem) (H:Hp) (a:aZ) (b:br):Prop where
 nx:∀ ρ M' σ H',Ext M H M' H'->RS K H' σ ρ -> RM K M' H'->a.nx ρ M'->b.nx σ H'
 rt:∀ d M' v H',Ext M H M' H'->RM K M' H'->RD K H' d v->a.rt d M'->b.rt v H'
 bk:∀ ρ M' σ H',Ext M H M' H'->RS K H' σ ρ -> RM K M' H'->a.bk ρ M'->b.bk σ H'
 ct:∀ ρ M' σ H',Ext M H M' H'->RS K H' σ ρ -> RM K M' H'->a.ct ρ M'->b.ct σ H'
noncomputable def lS (K:Frag) (T:TSd):TS:=fun D σ H => ∃ ρ M A,RS K H σ ρ /\ RM K M H/\Link K M H A D/\T A ρ M
theorem Link.ext {K:Frag} {M M':Mem} {H H':Hp} {a:aZ} {b:br} (l:Link K M H a b) (x:Ext M H M' H'):Link K M' H' a b :=
 ⟨fun ρ M2 σ H2 y=>l.nx ρ M2 σ H2 (x.trans y),fun d M2 v H2 y=>l.rt d M2 v H2 (x.trans y),fun ρ M2 σ H2 y=>l.bk ρ M2 σ H2 (x.trans y),fun ρ M2 σ H2 y=>l.ct ρ M2 σ H2 (x.trans y)⟩
theorem PE.imp {X:Cx} {e:Expr} {t t':TE} (h:PE X e t) (i:∀ σ H Q,t' σ H Q->t σ H Q):PE X e t':=fun pins s σ H Q I q=>h pins s σ H Q I (i _ _ _ q)
theorem PT.imp {X:Cx} {e:Expr} {t t':TT} (h:PT X e t) (i:∀ σ H Q,t' σ H Q->t σ H Q):PT X e t':=fun pins s σ H Q I q=>h pins s σ H Q I (i _ _ _ q)
theorem PW.imp {X:Cx} {e:Expr} {t t':TT} (h:PW X e t) (i:∀ σ H Q,t' σ H Q->t σ H Q):PW X e t':=fun wh pins s σ H Q I q=>h wh pins s σ H Q I (i _ _ _ q)
theorem PA.imp {X:Cx} {e:List Expr} {t t':TA} (h:PA X e t) (i:∀ σ H Q,t' σ H Q->t σ H Q):PA X e t':=fun p pins s σ H Q I q=>h p pins s σ H Q I (i _ _ _ q)
theorem PS.imp {X:Cx} {e:Stmt} {t t':TS} (h:PS X e t) (i:∀ D σ H,t' D σ H->t D σ H):PS X e t':=fun pins s σ H D I q=>h pins s σ H D I (i _ _ _ q)
theorem PSs.imp {X:Cx} {e:List Stmt} {t t':TS} (h:PSs X e t) (i:∀ D σ H,t' D σ H->t D σ H):PSs X e t':=fun pins s σ H D I q=>h pins s σ H D I (i _ _ _ q)
end
section
theorem KE'.ext {K:Frag} {M M2 M':Mem} {H H2:Hp} {Q:VK} {d:D} (x:Ext M H M2 H2) (h:KE' K M H Q d M'):KE' K M2 H2 Q d M':=fun v H' y=>h v H' (x.trans y)
theorem KT'.ext {K:Frag} {M M2 M':Mem} {H H2:Hp} {Q:Bool->Hp->Prop} {d:Bool} (x:Ext M H M2 H2) (h:KT' K M H Q d M'):KT' K M2 H2 Q d M':=fun H' y=>h H' (x.trans y)
theorem KA'.ext {K:Frag} {M M2 M':Mem} {H H2:Hp} {Q:List V->Hp->Prop} {d:List D} (x:Ext M H M2 H2) (h:KA' K M H Q d M'):KA' K M2 H2 Q d M':=fun v H' y=>h v H' (x.trans y)
noncomputable abbrev R2d:=D->D->Mem->QD->Prop
noncomputable abbrev R1d:=D->Mem->QD->Prop
noncomputable abbrev RAd:=List D->Mem->QD->Prop
def ax (r:R2d):Prop := ∀ x y M Q Q',(∀ d M',Q d M'->Q' d M')->r x y M Q->r x y M Q'
def pF (r:R1d):Prop := ∀ x M Q Q',(∀ d M',Q d M'->Q' d M')->r x M Q->r x M Q'
def aX (r:RAd):Prop := ∀ x M Q Q',(∀ d M',Q d M'->Q' d M')->r x M Q->r x M Q'
noncomputable def l2 (K:Frag) (rd:R2d):R2:=fun v u H Q => ∃ x y M,RM K M H/\RD K H x v/\RD K H y u/\rd x y M (KE' K M H Q)
noncomputable def l1 (K:Frag) (rd:R1d):V->Hp->VK->Prop:=fun v H Q => ∃ x M,RM K M H/\RD K H x v/\rd x M (KE' K M H Q)
noncomputable def lR (K:Frag) (rd:RAd):List V->Hp->VK->Prop:=fun vs H Q => ∃ ds M,RM K M H/\RDs K H ds vs/\rd ds M (KE' K M H Q)
noncomputable def lMt (K:Frag) (rd:D->List D->Mem->QD->Prop):V->List V->Hp->VK->Prop:=fun v vs H Q => ∃ x ds M,RM K M H/\RD K H x v/\RDs K H ds vs/\rd x ds M (KE' K M H Q)
noncomputable def cr (i:Nat):TEd:=fun ρ M Q => ∃ d, ρ[i]? = some (some d)/\Q d M
noncomputable def wC (d:D):TEd:=fun _ M Q=>Q d M
noncomputable def wOp (rd:R2d) (ta tb:TEd):TEd:=fun ρ M Q=>ta ρ M fun x M1=>tb ρ M1 fun y M2=>rd x y M2 Q
noncomputable def wUn (rd:R1d) (ta:TEd):TEd:=fun ρ M Q=>ta ρ M fun x M1=>rd x M1 Q
noncomputable def bw:TAd:=fun _ M Q=>Q [] M
noncomputable def aH (ta:TEd) (tr:TAd):TAd:=fun ρ M Q=>ta ρ M fun x M1=>tr ρ M1 fun xs M2=>Q (x::xs) M2
noncomputable def wAr (rd:RAd) (t:TAd):TEd:=fun ρ M Q=>t ρ M fun ds M1=>rd ds M1 Q
theorem ug {i:Nat}:aa (cr i):=fun _ _ _ _ h ⟨d,e,q⟩=>⟨d,e,h _ _ q⟩
theorem kI {d:D}:aa (wC d):=fun _ _ _ _ h q=>h _ _ q
theorem dQ {rd:R2d} {ta tb:TEd} (hr:ax rd) (j:aa ta) (z:aa tb):aa (wOp rd ta tb):=fun ρ M Q Q' h q =>
 j _ _ _ _ (fun x M1 B=>z _ _ _ _ (fun y M2 F=>hr _ _ _ _ _ h F) B) q
theorem wY {rd:R1d} {ta:TEd} (hr:pF rd) (j:aa ta):aa (wUn rd ta):=fun ρ M Q Q' h q=>j _ _ _ _ (fun x M1 z=>hr _ _ _ _ h z) q
theorem aB:b9 bw:=fun _ _ _ _ h q=>h _ _ q
theorem aD {ta:TEd} {tr:TAd} (j:aa ta) (hr:b9 tr):b9 (aH ta tr):=fun ρ M Q Q' h q =>
 j _ _ _ _ (fun x M1 z=>hr _ _ _ _ (fun xs M2 B=>h _ _ B) z) q
theorem fZ {rd:RAd} {t:TAd} (hr:aX rd) (ht:b9 t):aa (wAr rd t):=fun ρ M Q Q' h q=>ht _ _ _ _ (fun ds M1 j=>hr _ _ _ _ h j) q
section
variable {X:Cx} {a b:Expr} {ta tb:TEd} {pos:Pos}
theorem zy {i:Nat} {x:Str} (B:X.N[i]? = some x) (j:Vis X.env.scope x) (hd:(x==("__debug__":Str))=false) (z:(x==("__classdict__":Str))=false):PE X (.Name x pos) (lE X.K (cr i)):=by
 refine PE.imp (kf B j hd z) fun σ H Q h => ?_;obtain ⟨ρ,M,rs,rm,d,e,q⟩:=h;obtain ⟨v,j,rd⟩:=rs.2 i d e;exact ⟨v,j,q v H Ext.refl rm rd⟩
theorem le_int {i:Int} {j:Nat}:PE X (.Constant (.int i) j pos) (lE X.K (wC (.int i))) :=
 PE.imp yM fun σ H Q ⟨ρ,M,rs,rm,q⟩=>q _ H Ext.refl rm (Ky.mpr rfl)
theorem AS {i:Bool} {j:Nat}:PE X (.Constant (.bool i) j pos) (lE X.K (wC (.bl i))) :=
 PE.imp vM fun σ H Q ⟨ρ,M,rs,rm,q⟩=>q _ H Ext.refl rm (KA.mpr rfl)
theorem zz {j:Nat}:PE X (.Constant .none j pos) (lE X.K (wC .non)) :=
 PE.imp yN fun σ H Q ⟨ρ,M,rs,rm,q⟩=>q _ H Ext.refl rm (KJ.mpr rfl)
theorem gb {K:Frag} {rd:R2d} (hr:ax rd) (ma:aa ta) (mb:aa tb) (σ:St) (H:Hp) (Q:VK) (h:lE K (wOp rd ta tb) σ H Q):tOp (l2 K rd) (lE K ta) (lE K tb) σ H Q:=by
 obtain ⟨ρ,M,rs,rm,q⟩:=h;refine ⟨ρ,M,rs,rm,ma _ _ _ _ (fun x M1 J v H1 x1 j z => ?_) q⟩;refine ⟨ρ,M1,rs.mono (x1.stab rm),j,mb _ _ _ _ (fun y M2 L u H2 G B F => ?_) J⟩;exact ⟨x,y,M2,B,z.mono (G.stab j),F,hr _ _ _ _ _ (fun d M' k=>k.ext (x1.trans G)) L⟩
theorem AT {op:J9} {rd:R2d} (ho:OpR X (Dw op) (l2 X.K rd)) (hr:ax rd) (ma:aa ta) (mb:aa tb) (j:PE X a (lE X.K ta)) (q:PE X b (lE X.K tb)):PE X (.BinOp a op b pos) (lE X.K (wOp rd ta tb)) :=
 PE.imp (AC ho j q) (gb hr ma mb)
theorem zA {op:Iz} {rd:R2d} (ho:OpR X (D2 op) (l2 X.K rd)) (hr:ax rd) (ma:aa ta) (mb:aa tb) (j:PE X a (lE X.K ta)) (q:PE X b (lE X.K tb)) (hm:Fg op b=false) :
 PE X (.Compare a [op] [b] pos) (lE X.K (wOp rd ta tb)):=PE.imp (wK ho j q hm) (gb hr ma mb)
noncomputable def eC (t:TEd):TTd:=fun ρ M Q=>t ρ M fun x M1 => ∃ k,x = .bl k/\Q k M1
theorem kJ {t:TEd} (h:aa t):ay (eC t):=fun ρ M Q Q' i q=>h _ _ _ _ (fun x M1 ⟨k,e,j⟩=>⟨k,e,i _ _ j⟩) q
theorem kK {K:Frag} {t:TEd} (m:aa t) (σ:St) (H:Hp) (Q:Bool->Hp->Prop) (h:lT K (eC t) σ H Q):oZ (lE K t) σ H Q:=by
 obtain ⟨ρ,M,rs,rm,q⟩:=h;refine ⟨ρ,M,rs,rm,m _ _ _ _ (fun x M1 ⟨k,e,B⟩ v H1 x1 j z => ?_) q⟩;subst e;exact ⟨k,KA.mp z,B H1 x1 j⟩
theorem zB {op:Iz} {rd:R2d} (ho:OpR X (D2 op) (l2 X.K rd)) (hr:ax rd) (ma:aa ta) (mb:aa tb) (j:PE X a (lE X.K ta)) (q:PE X b (lE X.K tb)) (hm:Fg op b=false) :
 PT X (.Compare a [op] [b] pos) (lT X.K (eC (wOp rd ta tb))) :=
 PT.imp (wL ho j q hm) fun σ H Q h=>by
  have h1:=kK (dQ hr ma mb) σ H Q h;exact gb hr ma mb σ H _ h1
theorem AU {op:UnaryOp} {rd:R1d} (ho:UnR X (unaryOp op) (l1 X.K rd)) (hr:pF rd) (ma:aa ta) (B:PE X a (lE X.K ta)):PE X (.UnaryOp op a pos) (lE X.K (wUn rd ta)) :=
 PE.imp (AD ho B) fun σ H Q ⟨ρ,M,rs,rm,q⟩=>⟨ρ,M,rs,rm,ma _ _ _ _ (fun x M1 F v H1 x1 j z=>⟨x,M1,j,z,hr _ _ _ _ (fun d M' k=>k.ext x1) F⟩) q⟩
theorem AV {rd:R2d} (ho:IxR X (l2 X.K rd)) (hr:ax rd) (ma:aa ta) (mb:aa tb) (j:PE X a (lE X.K ta)) (q:PE X b (lE X.K tb)) (hs:iW b):PE X (.Subscript a b pos) (lE X.K (wOp rd ta tb)) :=
 PE.imp (AJ ho j q hs) (gb hr ma mb)
theorem dR:PA X [] (lA X.K bw):=PA.imp ci fun σ H Q ⟨ρ,M,rs,rm,q⟩=>q _ H Ext.refl rm RDs.nil
theorem rA {K:Frag} {tr:TAd} (ma:aa ta) (mr:b9 tr) (σ:St) (H:Hp) (Q:List V->Hp->Prop) (h:lA K (aH ta tr) σ H Q):vQ (lE K ta) (lA K tr) σ H Q:=by
 obtain ⟨ρ,M,rs,rm,q⟩:=h;refine ⟨ρ,M,rs,rm,ma _ _ _ _ (fun x M1 J v H1 x1 j z => ?_) q⟩;refine ⟨ρ,M1,rs.mono (x1.stab rm),j,mr _ _ _ _ (fun xs M2 L vs H2 G B F => ?_) J⟩;exact L (v::vs) H2 (x1.trans G) B (RDs.cons (z.mono (G.stab j)) F)
theorem cb {e:Expr} {es:List Expr} {tr:TAd} (ma:aa ta) (mr:b9 tr) (j:PE X e (lE X.K ta)) (hr:PA X es (lA X.K tr)) (hs:CF (e::es) X.env=(false,eval e X.env)::CF es X.env) :
 PA X (e::es) (lA X.K (aH ta tr)):=PA.imp (aM j hr hs) (rA ma mr)
theorem bN {K:Frag} {rd:RAd} {t:TAd} (hr:aX rd) (mt:b9 t) (σ:St) (H:Hp) (Q:VK) (h:lE K (wAr rd t) σ H Q):tCB (lR K rd) (lA K t) σ H Q:=by
 obtain ⟨ρ,M,rs,rm,q⟩:=h;exact ⟨ρ,M,rs,rm,mt _ _ _ _ (fun ds M1 B vs H1 x1 j z=>⟨ds,M1,j,z,hr _ _ _ _ (fun d M' k=>k.ext x1) B⟩) q⟩
noncomputable def kL:RAd:=fun ds M Q=>ds.length<=hP/\Q (.tup ds) M
noncomputable def j6:RAd:=fun ds M Q=>ds.length<=hP /\ ∀ p,M p=none->Q (.ref p) (af M p (.lst ds))
theorem rB:aX kL:=fun _ _ _ _ h ⟨z,q⟩=>⟨z,h _ _ q⟩
theorem rC:aX j6:=fun _ _ _ _ h ⟨z,q⟩=>⟨z,fun p n=>h _ _ (q p n)⟩
theorem cU {K:Frag} {M:Mem} {H:Hp} {Q:VK} {ds:List D} {vs:List V} {p:Addr} (rm:RM K M H) (rd:RDs K H ds vs) (q:KE' K M H Q (.tup ds) M) (n:H p=none):Q (.ref p) (upd H p (.tup vs)):=by
 have x:Ext M H M (upd H p (.tup vs)):=KN n;exact q (.ref p) _ x (rm.new n) (KO ⟨p,vs,rfl,ak,rd.mono (x.stab rm)⟩)
theorem cW {K:Frag} {M:Mem} {H:Hp} {Q:VK} {ds:List D} {vs:List V} {p:Addr} (rm:RM K M H) (rd:RDs K H ds vs) (q:∀ p,M p=none->KE' K M H Q (.ref p) (af M p (.lst ds))) (n:H p=none):Q (.ref p) (upd H p (.lst vs)):=by
 have x:Ext M H (af M p (.lst ds)) (upd H p (.lst vs)):=Ext.lay n;have x0:Ext M H M (upd H p (.lst vs)):=KN n;exact q p (rm.out n) (.ref p) _ x (rm.lay n ⟨vs,ak,rd.mono (x0.stab rm)⟩) (Kz.mpr rfl)
theorem zC {es:List Expr} {t:TAd} {k:Nat} (mt:b9 t) (h:PA X es (lA X.K t)):PE X (.Tuple es k pos) (lE X.K (wAr kL t)) :=
 PE.imp (km h) fun σ H Q ⟨ρ,M,rs,rm,q⟩=>⟨ρ,M,rs,rm,mt _ _ _ _ (fun ds M1 ⟨z,F⟩ vs H1 x1 B j=>⟨by rw [j.length];exact z,fun p n=>cU B j (F.ext x1) n⟩) q⟩
theorem zD {es:List Expr} {t:TAd} (mt:b9 t) (h:PA X es (lA X.K t)):PE X (.List es pos) (lE X.K (wAr j6 t)) :=
 PE.imp (zh h) fun σ H Q ⟨ρ,M,rs,rm,q⟩=>⟨ρ,M,rs,rm,mt _ _ _ _ (fun ds M1 ⟨z,F⟩ vs H1 x1 B j=>⟨by rw [j.length];exact z,fun p n=>cW B j (fun p' n'=>(F p' n').ext x1) n⟩) q⟩
end
end
end Mi
end L2
namespace L2
open PySem PySem.Spec PyProof.Rows
namespace Mi
end Mi
end L2
namespace L2
open PySem PySem.Spec PyProof.Rows
section
theorem gG:fillsNumberSlot (.type "tuple") "mul" = pure false :=
 PyProof.Rows.fillsNumberSlot_seq (id := "tuple.__mul__") (r:=some (.builtin "tuple.__rmul__")) F.slot_tuple_mul.lookup (by decide +kernel) F.slot_tuple_rmul.lookup (by decide +kernel)
theorem kM:seqRepeat? (.type "tuple")=pure (some (.builtin "tuple.__mul__")):=by
 unfold seqRepeat?;rw [Hb (T := "tuple") (name := "__mul__") (id := "tuple.__mul__") F.slot_tuple_mul.lookup (by decide +kernel),Hb (T := "tuple") (name := "__rmul__") (id := "tuple.__rmul__") F.slot_tuple_rmul.lookup (by decide +kernel)]
 rfl
theorem j7 (a:Int) (t:Tok) (l:Addr) (items:Array e6) (n:Nat) (d:Option Addr) (sl:Array (Option e6)) :
 Meets (EH.«int.__rmul__» ⟨[.int a t, .ref l],[]⟩) (fun _ R s=>s.heap.get? l=some { cls := .type "tuple",dict:=d,data := .seq items n,slots:=sl }/\R (.ok (.ret Value.notImplemented)) s) :=
 .of_wp fun prog w A R s h=>by obtain ⟨j,g,d,tk,os⟩:=s;obtain ⟨q,h⟩:=h;wp_walk;exact ⟨_,rfl,h⟩
open AutoSeq1 (wpAny_loadPart') in
theorem rD (l:Addr) (items:Array e6) (n:Nat) (dd:Option Addr) (sl:Array (Option e6)) (x:Int) (u:Tok) (h1 : -(2 ^ 63)<=x) (h2:x < 2 ^ 63) (B:items.size*x.toNat<=hP) :
 Meets (EH.«tuple.__mul__» ⟨[.ref l, .int x u],[]⟩) (fun _ R s=>s.heap.get? l=some { cls := .type "tuple",dict:=dd,data := .seq items n,slots:=sl } /\
  (if items.isEmpty || x==1 then R (.ok (.ret (.ref l))) s else R (.ok (.ret (.ref s.heap.objs.size))) { s with heap:=s.heap.push { cls := .type "tuple",data := .seq ((CD x.toNat items).foldl (· ++ ·) #[]) } })) :=
 .of_wp fun prog w A R s h=>by
  obtain ⟨U,g,d,tk,os⟩:=s;obtain ⟨q,h⟩:=h;have f1:=AutoSeq1.idx_int;have F:(decide (x < -(2 ^ 63)) || decide (x≥2 ^ 63))=false:=by
   rw [decide_eq_false (by lia),decide_eq_false (by lia)];rfl
  wp_walk using EM q
  refine HE (decide_eq_false (by rw [F];decide)) ?_
  dsimp only
  by_cases j:(items.isEmpty || x==1)=true
  ·rw [if_pos j] at h
   wp_walk using EM q
   exact ⟨_,rfl,h⟩
  ·rw [if_neg j] at h
   wp_walk using EM q
   simp only [HF,not_or] at j
   by_cases e2:x<=0
   ·have z:(decide (x<=0) || items.isEmpty)=true:=by rw [decide_eq_true e2];rfl
    rw [if_pos z];have G:x.toNat=0:=by lia
    rw [G] at h
    wp_walk
    exact ⟨_,rfl,h⟩
   ·have z : ¬ (decide (x<=0) || items.isEmpty)=true:=by simp;exact ⟨by lia,by simpa using j.1⟩
    rw [if_neg z];have hx:((items.size:Nat):Int)*x=((items.size*x.toNat:Nat):Int):=by
     rw [Int.natCast_mul,Int.toNat_of_nonneg (by lia)]
    have hs:hP=16777216:=hB;have J : ¬ ((items.size:Nat):Int)*x > (2 ^ 63 - 1) / 8:=by rw [hx];lia
    rw [if_neg J];have L : ¬ Gz (((items.size:Nat):Int)*x)=true:=by
     rw [hx];unfold Gz;intro O;have Y:=of_decide_eq_true O;lia
    rw [if_neg L]
    wp_walk
    have hsz:((CD x.toNat items).foldl (· ++ ·) #[]).size<=hP:=by
     have:∀ (k:Nat) (a:Array e6),((CD k items).foldl (· ++ ·) a).size=a.size+items.size*k:=by
      intro k;induction k with
      | zero=>intro a;simp
      | succ k ih=>intro a;rw [Dm,G3,ih,Array.size_append,Nat.mul_succ];lia
     rw [this];simpa using B
    refine HE (decide_eq_false (Kh.mpr hsz)) ?_
    wp_walk
    exact ⟨_,rfl,h⟩
end
section
section
variable {X:Cx}
noncomputable def w6 (K:Frag):R2:=fun x y H Q => ∃ l k xs,x = .ref l/\y = .int k/\SqT K H l xs /\ -(2 ^ 63)<=k/\k < 2 ^ 63/\xs.length*k.toNat<=hP /\
 ((xs=[]∨k=1)->Q (.ref l) H)/\(¬ (xs=[]∨k=1) -> ∀ p,H p=none->Q (.ref p) (upd H p (.tup (CD k.toNat xs).flatten)))
theorem wZ:OpR X (Dw .Mult) (w6 X.K):=by
 intro pins s σ H x y v u Q I rx ry h;obtain ⟨l,k,xs,rfl,rfl,G,h1,h2,j,J,L⟩:=h
 cases rx
 obtain ⟨t,rfl⟩:=ry;obtain ⟨its,r,p1,_⟩:=I.tuple G;have O:=r.length;obtain ⟨⟨cls,dd,dat,sl⟩,e,B,n,hd⟩:=p1;dsimp only at B hd;subst B hd;have hlen:its.toArray.size*k.toNat<=hP:=by rw [t2, <- O];exact j
 have f0:∀ m:Nat,IU (fun x1 Y=>x1++Y) #[] (CD m its.toArray)=(CD m its).flatten.toArray:=fun m=>by
  have:=fj its m [];rw [Hz] at this;exact this
 refine GF (T := "tuple") (U := "int") (by decide) ⟨_,e,rfl⟩ (fun s'=>Ho s' k t) gG JZ G4 kM F.slot_int_index.lookup
  (Gv G4 (Ho s k t) Jz (Jh _ _) (j7 k t l its.toArray n dd sl)
    ⟨e,rfl,⟨_,e,rfl⟩,Gv F.slot_tuple_mul ⟨_,e,rfl⟩ F.entry_tuple_mul (F.args_tuple_mul_2 _ _) (rD l its.toArray n dd sl k t h1 h2 hlen) ⟨e, ?_⟩⟩)
 have hi:(its.toArray.isEmpty || k==1)=true↔(xs=[]∨k=1):=by
  rw [<- r.nil_iff];simp
 split
 ·next c=>exact ⟨.ref l,H,I,rfl,J (hi.mp c)⟩
 ·next c =>
  rw [f0];refine ⟨.ref s.heap.objs.size,_,I.laid (t':=s.toks) (o := .tup (CD k.toNat xs).flatten) (fun b ob q=>h8 _ q) (q0 _) ?_,rfl,L (fun z=>c (hi.mpr z)) _ (I.hok.fresh (q0 _))⟩;exact ⟨by rw [nO,Nat.mul_comm];exact j,_,r.rep k.toNat,Gj _ _⟩
end
end
section
section
variable {X:Cx}
theorem xc:OpR X (Dw .Add) (fun x y H Q => ∃ a b ys,x = .ref a/\y = .ref b/\SqT X.K H a []/\SqT X.K H b ys/\Q (.ref b) H):=by
 intro pins s σ H x y v u Q I rx ry h;obtain ⟨a,b,ys,rfl,rfl,U,Y,q⟩:=h
 cases rx
 cases ry
 obtain ⟨its,Z,p1,_⟩:=I.tuple U;obtain ⟨j,r2,p2,_⟩:=I.tuple Y;have e0:its=[]:=Z.nil_iff.mpr rfl;obtain ⟨⟨cls,dd,data,sl⟩,ho,L,n,hd⟩:=id p1;obtain ⟨⟨O,G,data2,J⟩,z,B,n2,hd2⟩:=id p2;simp only at L hd B hd2;subst L hd B hd2;exact Je ⟨_,ho,rfl⟩ ⟨_,z,rfl⟩ GY IA FH Fv (Fj _ _)
  (tuple_addW0 a b its.toArray j.toArray n n2 dd G sl J (by simp [e0])) ⟨ho,z,⟨.ref b,H,I,rfl,q⟩⟩
end
end
end L2
namespace L2
namespace Mi
open PySem PySem.Spec PyProof.Rows
section
def MulOk (i j:Int):Prop:=(-(2 ^ 64) < i/\i < 2 ^ 64)∨(-(2 ^ 64) < j/\j < 2 ^ 64)∨(Iu i<=2 ^ 20/\Iu j<=2 ^ 20)
theorem MulOk.ok {i j:Int} (h:MulOk i j):IntMulOk i j:=by
 rcases h with h | h | h
 ·exact IntMulOk.of_left (intBits_le_64 h.1 h.2)
 ·exact IntMulOk.of_right (intBits_le_64 h.1 h.2)
 ·exact IntMulOk.of_bits h.1 h.2
noncomputable def gH:R2d
 | .int i, .int j,M,Q=>Q (.int (i+j)) M
 | .tup a, .tup b,M,Q=>(a≠[]∨True)/\a.length+b.length<=hP/\Q (.tup (a++b)) M
 | .ref a, .ref b,M,Q => ∃ xs ys,M a=some (.lst xs)/\M b=some (.lst ys)/\xs.length+ys.length<=hP /\ ∀ p,M p=none->Q (.ref p) (af M p (.lst (xs++ys)))
 | .str x, .str y,M,Q=>x.length+y.length<=hP/\Q (.str (x++y)) M
 | _,_,_,_=>False
noncomputable def pG:R2d
 | .int i, .int j,M,Q=>Q (.int (i - j)) M
 | _,_,_,_=>False
noncomputable def j8:R2d
 | .int i, .int j,M,Q=>MulOk i j/\Q (.int (i*j)) M
 | .ref a, .int k,M,Q => ∃ xs,M a=some (.lst xs) /\ -(2 ^ 63)<=k/\k < 2 ^ 63/\xs.length*k.toNat<=hP /\ ∀ p,M p=none->Q (.ref p) (af M p (.lst (CD k.toNat xs).flatten))
 | .tup ds, .int k,M,Q => -(2 ^ 63)<=k/\k < 2 ^ 63/\ds.length*k.toNat<=hP/\Q (.tup (CD k.toNat ds).flatten) M
 | _,_,_,_=>False
noncomputable def jV:R2d
 | .int i, .int j,M,Q => 0 < j/\j < 2 ^ 256/\Q (.int (i / j)) M
 | _,_,_,_=>False
noncomputable def pH:R2d
 | .int i, .int j,M,Q => 0 < j/\Q (.int (i % j)) M
 | _,_,_,_=>False
noncomputable def pI:R2d
 | .int i, .int j,M,Q => 0<=j/\j<=1000000/\i.natAbs < 2 ^ 64/\Q (.int (i ^ j.toNat)) M
 | _,_,_,_=>False
theorem uh:ax gH:=by
 intro x y M Q Q' h q
 cases x <;> cases y <;> first
  | exact q.elim
  | exact h _ _ q
  | exact ⟨q.1,h _ _ q.2⟩
  | exact ⟨q.1,q.2.1,h _ _ q.2.2⟩
  | (obtain ⟨xs,ys,j,B,z,q⟩:=q;exact ⟨xs,ys,j,B,z,fun p n=>h _ _ (q p n)⟩)
theorem ui:ax pG:=by
 intro x y M Q Q' h q
 cases x <;> cases y <;> first | exact q.elim | exact h _ _ q
theorem uj:ax j8:=by
 intro x y M Q Q' h q
 cases x <;> cases y <;> first
  | exact q.elim
  | exact ⟨q.1,h _ _ q.2⟩
  | exact ⟨q.1,q.2.1,q.2.2.1,h _ _ q.2.2.2⟩
  | (obtain ⟨xs,j,z,B,F,q⟩:=q;exact ⟨xs,j,z,B,F,fun p n=>h _ _ (q p n)⟩)
theorem rE:ax jV:=by
 intro x y M Q Q' h q
 cases x <;> cases y <;> first | exact q.elim | exact ⟨q.1,q.2.1,h _ _ q.2.2⟩
theorem uk:ax pH:=by
 intro x y M Q Q' h q
 cases x <;> cases y <;> first | exact q.elim | exact ⟨q.1,h _ _ q.2⟩
theorem ul:ax pI:=by
 intro x y M Q Q' h q
 cases x <;> cases y <;> first | exact q.elim | exact ⟨q.1,q.2.1,q.2.2.1,h _ _ q.2.2.2⟩
section
variable {X:Cx}
theorem OpR.of {f:e6->e6->Sem e6} {r r':R2} (h:OpR X f r) (i:∀ v u H Q,r' v u H Q->r v u H Q):OpR X f r':=fun pins s σ H x y v u Q I rx ry q=>h pins s σ H x y v u Q I rx ry (i _ _ _ _ q)
theorem IxR.of {r r':R2} (h:IxR X r) (i:∀ v u H Q,r' v u H Q->r v u H Q):IxR X r':=fun a b pins s σ H x y v u Q I rx ry q=>h a b pins s σ H x y v u Q I rx ry (i _ _ _ _ q)
theorem CallR.of {f:e6} {r r':List V->Hp->VK->Prop} (h:CallR X f r) (i:∀ vs H Q,r' vs H Q->r vs H Q):CallR X f r':=fun pins s σ H xs us Q I rx q=>h pins s σ H xs us Q I rx (i _ _ _ q)
theorem AW {K:Frag} {M:Mem} {H:Hp} {Q:VK} {a b:List D} {v u:V} (rm:RM K M H) (rx:RD K H (.tup a) v) (ry:RD K H (.tup b) u) (q:gH (.tup a) (.tup b) M (KE' K M H Q)):vT K v u H Q ∨ ∃ a b ys,v = .ref a/\u = .ref b/\SqT K H a []/\SqT K H b ys/\Q (.ref b) H:=by
 obtain ⟨a',vs,rfl,z,j⟩:=KH rx;obtain ⟨b',us,rfl,B,F⟩:=KH ry;obtain ⟨_,J,q⟩:=q;have l1:=j.length;have l2:=F.length
 by_cases G:a=[]
 ·subst G;have:vs=[]:=RDs.nil_iff.mp j;subst this;exact .inr ⟨a',b',us,rfl,rfl,z,B,q _ H Ext.refl rm ry⟩
 refine .inl ⟨a',b',vs,us,rfl,rfl,z,B,fun e=>G (Fy.mp (by rw [<- l1,e];rfl)),by lia,fun e => ?_,fun _ p n=>cU rm (j.append F) q n⟩
 have eb:b=[]:=Fy.mp (by rw [<- l2,e];rfl)
 subst eb;rw [DF] at q;exact q _ H Ext.refl rm rx
theorem um:OpR X (Dw .Add) (l2 X.K gH):=by
 refine OpR.of (op_add.or ((op_catT.or xc).or (op_cat.or pi))) fun v u H Q h => ?_;obtain ⟨x,y,M,rm,rx,ry,q⟩:=h
 cases x <;> cases y <;> first
  | exact q.elim
  | (cases Ky.mp rx;cases Ky.mp ry;exact .inl ⟨_,_,rfl,rfl,q _ H Ext.refl rm (Ky.mpr rfl)⟩)
  | exact .inr (.inl (AW rm rx ry q))
  | (cases Kz.mp rx;cases Kz.mp ry
     obtain ⟨xs,ys,F,G,z,q⟩:=q;obtain ⟨vs,h1,j⟩:=rm _ _ F;obtain ⟨us,h2,B⟩:=rm _ _ G;have l1:=j.length;have l2:=B.length;refine .inr (.inr (.inl ⟨_,_,vs,us,rfl,rfl,h1,h2,by lia,fun p n=>cW rm (j.append B) q n⟩)))
  | (cases KL.mp rx;cases KL.mp ry;exact .inr (.inr (.inr ⟨_,_,rfl,rfl,q.1,q.2 _ H Ext.refl rm (KL.mpr rfl)⟩)))
theorem uo:OpR X (Dw .Sub) (l2 X.K pG):=by
 refine OpR.of z9 fun v u H Q h => ?_;obtain ⟨x,y,M,rm,rx,ry,q⟩:=h
 cases x <;> cases y <;> first
  | exact q.elim
  | (cases Ky.mp rx;cases Ky.mp ry;exact ⟨_,_,rfl,rfl,q _ H Ext.refl rm (Ky.mpr rfl)⟩)
theorem op_mul_i:OpR X (Dw .Mult) (rI MulOk fun i j => .int (i*j)):=opI fun _ _ _ _ _ _ _ z q=>mul_int q z.ok
theorem AX {K:Frag} {M:Mem} {H:Hp} {Q:VK} {a:List D} {k:Int} {v u:V} (rm:RM K M H) (rx:RD K H (.tup a) v) (ry:RD K H (.int k) u) (q:j8 (.tup a) (.int k) M (KE' K M H Q)):w6 K v u H Q:=by
 obtain ⟨a',vs,rfl,z,j⟩:=KH rx
 cases Ky.mp ry
 obtain ⟨B,F,G,q⟩:=q;have l1:=j.length;refine ⟨a',k,vs,rfl,rfl,z,B,F,by rw [l1];exact G,fun e => ?_,fun _ p n=>cU rm (j.rep _) q n⟩
 have ea:(CD k.toNat a).flatten=a:=by
  rcases e with e | e
  ·have:a=[]:=Fy.mp (by rw [<- l1,e];rfl)
   subst this;simp
  ·subst e;simp
 rw [ea] at q;exact q _ H Ext.refl rm rx
theorem uq:OpR X (Dw .Mult) (l2 X.K j8):=by
 refine OpR.of (op_mul_i.or (op_rep.or wZ)) fun v u H Q h => ?_;obtain ⟨x,y,M,rm,rx,ry,q⟩:=h
 cases x <;> cases y <;> first
  | exact q.elim
  | (cases Ky.mp rx;cases Ky.mp ry;exact .inl ⟨_,_,rfl,rfl,q.1,q.2 _ H Ext.refl rm (Ky.mpr rfl)⟩)
  | (cases Kz.mp rx;cases Ky.mp ry
     obtain ⟨xs,z,B,F,G,q⟩:=q;obtain ⟨vs,h1,j⟩:=rm _ _ z;have l1:=j.length;exact .inr (.inl ⟨_,_,vs,rfl,rfl,h1,B,F,by rw [l1];exact G,fun p n=>cW rm (j.rep _) q n⟩))
  | exact .inr (.inr (AX rm rx ry q))
theorem ut:OpR X (Dw .FloorDiv) (rI (fun _ j => 0 < j/\j < 2 ^ 256) fun i j => .int (i / j)):=L2.opI fun i j _ _ _ _ _ z q=>by
 have h1:(0:Int) < j:=z.1;have h2:j < 2 ^ 256:=z.2;have B:j.natAbs.log2 < 256:=(Nat.log2_lt (by lia)).mpr (by lia)
 exact floordiv_int (by lia) (by rw [Int.fdiv_eq_ediv_of_nonneg i (by lia)];exact q) (.inl (PyProof.noPylong_of_log2 (by lia)))
theorem rF:OpR X (Dw .FloorDiv) (l2 X.K jV):=by
 refine OpR.of ut fun v u H Q h => ?_;obtain ⟨x,y,M,rm,rx,ry,q⟩:=h
 cases x <;> cases y <;> first
  | exact q.elim
  | (cases Ky.mp rx;cases Ky.mp ry;exact ⟨_,_,rfl,rfl,⟨q.1,q.2.1⟩,q.2.2 _ H Ext.refl rm (Ky.mpr rfl)⟩)
theorem uu:OpR X (Dw .Mod) (l2 X.K pH):=by
 refine OpR.of zc fun v u H Q h => ?_;obtain ⟨x,y,M,rm,rx,ry,q⟩:=h
 cases x <;> cases y <;> first
  | exact q.elim
  | (cases Ky.mp rx;cases Ky.mp ry;exact ⟨_,_,rfl,rfl,q.1,q.2 _ H Ext.refl rm (Ky.mpr rfl)⟩)
theorem uw:OpR X (Dw .Pow) (l2 X.K pI):=by
 refine OpR.of zd fun v u H Q h => ?_;obtain ⟨x,y,M,rm,rx,ry,q⟩:=h
 cases x <;> cases y <;> first
  | exact q.elim
  | (cases Ky.mp rx;cases Ky.mp ry;exact ⟨_,_,rfl,rfl,⟨q.1,q.2.1,q.2.2.1⟩,q.2.2.2 _ H Ext.refl rm (Ky.mpr rfl)⟩)
noncomputable def j9:R1d
 | .int i,M,Q=>Q (.int (-i)) M
 | _,_,_=>False
theorem kN:pF j9:=by
 intro x M Q Q' h q
 cases x <;> first | exact q.elim | exact h _ _ q
theorem UnR.of {f:e6->Sem e6} {r r':V->Hp->VK->Prop} (h:UnR X f r) (i:∀ v H Q,r' v H Q->r v H Q):UnR X f r':=fun pins s σ H x v Q I rx q=>h pins s σ H x v Q I rx (i _ _ _ q)
theorem uz:UnR X (unaryOp .USub) (l1 X.K j9):=by
 refine UnR.of ze fun v H Q h => ?_;obtain ⟨x,M,rm,rx,q⟩:=h
 cases x <;> first
  | exact q.elim
  | (cases Ky.mp rx;exact ⟨_,rfl,q _ H Ext.refl rm (Ky.mpr rfl)⟩)
noncomputable def aF {α β:Type} (f : α -> Option β):List α -> Option (List β)
 | [] => some []
 | x::xs=>(f x).bind fun y=>(aF f xs).map (y :: ·)
noncomputable def rb:Nat->Mem->D->Option Ki
 | _,_, .non=>some .none
 | _,_, .bl b=>some (.bool b)
 | _,_, .int i=>some (.int i)
 | _,_, .str x=>if PyData.strOk x=true then some (.str x) else none
 | n+1,M, .tup ds=>(aF (rb n M) ds).map PyData.tuple
 | n+1,M, .con ds=>(aF (rb n M) ds).map JV
 | n+1,M, .ref a=>match M a with
   | some (.lst ds)=>(aF (rb n M) ds).map JV
   | _=>none
 | 0,_, .tup _=>none
 | 0,_, .con _=>none
 | 0,_, .ref _=>none
 | _,_, .fn _=>none
theorem cO {n:Nat} {M:Mem} (ih:∀ d p,rb n M d=some p->p.depth<=n/\p.canLay0=true):∀ {ds:List D} {ps:List Ki},aF (rb n M) ds=some ps->K2 ps<=n/\Jp ps=true
 | [],ps,h=>by
  simp [aF] at h;subst h;exact ⟨DH _,rfl⟩
 | d::ds,ps,h=>by
   simp only [aF] at h
   cases e1:rb n M d with
   | none=>rw [e1] at h;cases h
   | some p =>
     rw [e1] at h
     cases e2:aF (rb n M) ds with
     | none=>simp [e2] at h
     | some qs =>
       simp [e2] at h;subst h;obtain ⟨a1,a2⟩:=ih d p e1;obtain ⟨b1,b2⟩:=cO ih e2;refine ⟨?_, ?_⟩
       ·show max p.depth (K2 qs)<=n;lia
       ·show (p.canLay0&&Jp qs)=true;rw [a2,b2];rfl
theorem bA {M:Mem}:∀ (n:Nat) (d:D) (p:Ki),rb n M d=some p->p.depth<=n/\p.canLay0=true
 | n, .non,p,h=>by simp [rb] at h;subst h;exact ⟨DH _,rfl⟩
 | n, .bl b,p,h=>by simp [rb] at h;subst h;exact ⟨DH _,rfl⟩
 | n, .int b,p,h=>by simp [rb] at h;subst h;exact ⟨DH _,rfl⟩
 | n, .str x,p,h=>by
   simp [rb] at h;obtain ⟨h1,h2⟩:=h;subst h2;exact ⟨DH _,h1⟩
 | 0, .tup _,p,h=>by simp [rb] at h
 | 0, .con _,p,h=>by simp [rb] at h
 | 0, .ref _,p,h=>by simp [rb] at h
 | n, .fn _,p,h=>by simp [rb] at h
 | n+1, .tup ds,p,h=>by
   simp only [rb] at h
   cases e:aF (rb n M) ds with
   | none=>rw [e] at h;cases h
   | some ps =>
     rw [e] at h;cases h;obtain ⟨a,b⟩:=cO (bA n) e;exact ⟨Hc a,b⟩
 | n+1, .con ds,p,h=>by
   simp only [rb] at h
   cases e:aF (rb n M) ds with
   | none=>rw [e] at h;cases h
   | some ps =>
     rw [e] at h;cases h;obtain ⟨a,b⟩:=cO (bA n) e;exact ⟨Hc a,b⟩
 | n+1, .ref a,p,h=>by
   simp only [rb] at h
   cases e0:M a with
   | none=>rw [e0] at h;cases h
   | some o =>
     rw [e0] at h
     cases o with
     | dct _ _=>cases h
     | fdc _=>cases h
     | dcn _=>cases h
     | fdn _=>cases h
     | lst ds =>
       simp only at h
       cases e:aF (rb n M) ds with
       | none=>rw [e] at h;cases h
       | some ps =>
         rw [e] at h;cases h;obtain ⟨a,b⟩:=cO (bA n) e;exact ⟨Hc a,b⟩
theorem cP {K:Frag} {H:Hp} {n:Nat} {M:Mem} {h:Heap} (ih:∀ d p v u,rb n M d=some p->RD K H d v->RelV v u -> ∃ as,Reads h u p as) :
 ∀ {ds:List D} {ps:List Ki} {vs:List V} {us:List e6},aF (rb n M) ds=some ps->RDs K H ds vs->Vals vs us -> ∃ as,ReadsAll h us ps as
 | [],ps,vs,us,hm,r,rv=>by
  simp [aF] at hm;subst hm;rw [RDs.nil_iff.mp r] at rv
  cases rv
  exact ⟨_, .nil⟩
 | d::ds,ps,vs,us,hm,r,rv=>by
   obtain ⟨v,vr,rfl,j,q⟩:=KD.mp r
   cases rv with
   | cons z B =>
     simp only [aF] at hm
     cases e1:rb n M d with
     | none=>rw [e1] at hm;cases hm
     | some p =>
       rw [e1] at hm
       cases e2:aF (rb n M) ds with
       | none=>simp [e2] at hm
       | some qs =>
         simp [e2] at hm;subst hm;obtain ⟨as,ra⟩:=ih d p v _ e1 j z;obtain ⟨bs,rbs⟩:=cP ih e2 q B;exact ⟨_, .cons ra rbs⟩
theorem bB {pins:List (Addr×Obj)} {σ:St} {H:Hp} {s:h7} {M:Mem} (I:Inv X pins σ H s) (rm:RM X.K M H):∀ (n:Nat) (d:D) (p:Ki) (v:V) (u:e6),rb n M d=some p->RD X.K H d v->RelV v u -> ∃ as,Reads s.heap u p as
 | n, .non,p,v,u,h,r,q=>by simp [rb] at h;subst h;cases KJ.mp r;cases q;exact ⟨_, .none⟩
 | n, .bl b,p,v,u,h,r,q=>by simp [rb] at h;subst h;cases KA.mp r;cases q;exact ⟨_, .bool b⟩
 | n, .int b,p,v,u,h,r,q=>by simp [rb] at h;subst h;cases Ky.mp r;obtain ⟨t,rfl⟩:=q;exact ⟨_, .int b t⟩
 | n, .str x,p,v,u,h,r,q=>by
   simp [rb] at h;obtain ⟨_,h2⟩:=h;subst h2;cases KL.mp r;obtain ⟨t,rfl⟩:=q;exact ⟨_, .str x t⟩
 | 0, .tup _,p,_,_,h,_,_=>by simp [rb] at h
 | 0, .con _,p,_,_,h,_,_=>by simp [rb] at h
 | 0, .ref _,p,_,_,h,_,_=>by simp [rb] at h
 | n, .fn _,p,_,_,h,_,_=>by simp [rb] at h
 | n+1, .tup ds,p,v,u,h,r,q=>by
   simp only [rb] at h
   cases e:aF (rb n M) ds with
   | none=>rw [e] at h;cases h
   | some ps =>
     rw [e] at h;cases h;obtain ⟨a,vs,rfl,j,rs⟩:=KH r
     cases q
     obtain ⟨its,rv,⟨o,ho,z,k,hd⟩,_⟩:=I.tuple j;obtain ⟨as,ra⟩:=cP (bB I rm n) e rs rv;exact ⟨_, .tuple ho z hd (by simpa using ra)⟩
 | n+1, .con ds,p,v,u,h,r,q=>by
   simp only [rb] at h
   cases e:aF (rb n M) ds with
   | none=>rw [e] at h;cases h
   | some ps =>
     rw [e] at h;cases h;obtain ⟨a,vs,rfl,j,rs⟩:=KI.mp r
     cases q
     obtain ⟨its,rv,⟨o,k,ho,z,_,hd⟩,_⟩:=I.list j.sq;obtain ⟨as,ra⟩:=cP (bB I rm n) e rs rv;exact ⟨_, .list ho z hd (by simpa using ra)⟩
 | n+1, .ref a,p,v,u,h,r,q=>by
   simp only [rb] at h
   cases e0:M a with
   | none=>rw [e0] at h;cases h
   | some o =>
     rw [e0] at h
     cases o with
     | dct _ _=>cases h
     | fdc _=>cases h
     | dcn _=>cases h
     | fdn _=>cases h
     | lst ds =>
       simp only at h
       cases e:aF (rb n M) ds with
       | none=>rw [e] at h;cases h
       | some ps =>
         rw [e] at h;cases h
         cases Kz.mp r
         cases q
         obtain ⟨vs,j,rs⟩:=rm _ _ e0;obtain ⟨its,rv,⟨o,k,ho,z,_,hd⟩,_⟩:=I.list (SqL.of j);obtain ⟨as,ra⟩:=cP (bB I rm n) e rs rv;exact ⟨_, .list ho z hd (by simpa using ra)⟩
noncomputable def wEq:R2d:=fun x y M Q => ∃ p q,rb 16 M x=some p/\rb 16 M y=some q/\Q (.bl (EI p q)) M
noncomputable def wNe:R2d:=fun x y M Q => ∃ p q,rb 16 M x=some p/\rb 16 M y=some q/\Q (.bl (!PyData.eqv p q)) M
theorem xf:ax wEq:=fun _ _ _ _ _ h ⟨p,q,a,b,c⟩=>⟨p,q,a,b,h _ _ c⟩
theorem xg:ax wNe:=fun _ _ _ _ _ h ⟨p,q,a,b,c⟩=>⟨p,q,a,b,h _ _ c⟩
theorem xh (F:X.A.units+16 < Fi):OpR X (D2 .Eq) (l2 X.K wEq):=by
 intro pins s σ H x y v u Q I rx ry h;obtain ⟨d,e,M,rm,rd,re,p,q,j,z,k⟩:=h;obtain ⟨as,ra⟩:=bB I rm _ _ _ _ _ j rd rx;obtain ⟨bs,rb'⟩:=bB I rm _ _ _ _ _ z re ry;obtain ⟨p1,p2⟩:=bA _ _ _ j;obtain ⟨G,B⟩:=bA _ _ _ z;exact SeqAt.compareEq_reads ra rb' p2 B (by lia) ⟨.bl _,H,I,rfl,k _ H Ext.refl rm (KA.mpr rfl)⟩
theorem xi (F:X.A.units+16 < Fi):OpR X (D2 .NotEq) (l2 X.K wNe):=by
 intro pins s σ H x y v u Q I rx ry h;obtain ⟨d,e,M,rm,rd,re,p,q,j,z,k⟩:=h;obtain ⟨as,ra⟩:=bB I rm _ _ _ _ _ j rd rx;obtain ⟨bs,rb'⟩:=bB I rm _ _ _ _ _ z re ry;obtain ⟨p1,p2⟩:=bA _ _ _ j;obtain ⟨G,B⟩:=bA _ _ _ z;exact SeqAt.compareNe_reads ra rb' p2 B (by lia) ⟨.bl _,H,I,rfl,k _ H Ext.refl rm (KA.mpr rfl)⟩
noncomputable def wLt:R2d
 | .int i, .int j,M,Q=>Q (.bl (decide (i < j))) M
 | _,_,_,_=>False
noncomputable def wLe:R2d
 | .int i, .int j,M,Q=>Q (.bl (decide (i<=j))) M
 | _,_,_,_=>False
noncomputable def wGt:R2d
 | .int i, .int j,M,Q=>Q (.bl (decide (j < i))) M
 | _,_,_,_=>False
noncomputable def wGe:R2d
 | .int i, .int j,M,Q=>Q (.bl (decide (j<=i))) M
 | _,_,_,_=>False
theorem xj:ax wLt:=by
 intro x y M Q Q' h q
 cases x <;> cases y <;> first | exact q.elim | exact h _ _ q
theorem xk:ax wLe:=by
 intro x y M Q Q' h q
 cases x <;> cases y <;> first | exact q.elim | exact h _ _ q
theorem xl:ax wGt:=by
 intro x y M Q Q' h q
 cases x <;> cases y <;> first | exact q.elim | exact h _ _ q
theorem xm:ax wGe:=by
 intro x y M Q Q' h q
 cases x <;> cases y <;> first | exact q.elim | exact h _ _ q
theorem xo:OpR X (D2 .Lt) (l2 X.K wLt):=by
 refine OpR.of AE fun v u H Q h => ?_;obtain ⟨x,y,M,rm,rx,ry,q⟩:=h
 cases x <;> cases y <;> first
  | exact q.elim
  | (cases Ky.mp rx;cases Ky.mp ry;exact ⟨_,_,rfl,rfl,q _ H Ext.refl rm (KA.mpr rfl)⟩)
theorem xq:OpR X (D2 .LtE) (l2 X.K wLe):=by
 refine OpR.of AF fun v u H Q h => ?_;obtain ⟨x,y,M,rm,rx,ry,q⟩:=h
 cases x <;> cases y <;> first
  | exact q.elim
  | (cases Ky.mp rx;cases Ky.mp ry;exact ⟨_,_,rfl,rfl,q _ H Ext.refl rm (KA.mpr rfl)⟩)
theorem xt:OpR X (D2 .Gt) (l2 X.K wGt):=by
 refine OpR.of AG fun v u H Q h => ?_;obtain ⟨x,y,M,rm,rx,ry,q⟩:=h
 cases x <;> cases y <;> first
  | exact q.elim
  | (cases Ky.mp rx;cases Ky.mp ry;exact ⟨_,_,rfl,rfl,q _ H Ext.refl rm (KA.mpr rfl)⟩)
theorem xu:OpR X (D2 .GtE) (l2 X.K wGe):=by
 refine OpR.of AH fun v u H Q h => ?_;obtain ⟨x,y,M,rm,rx,ry,q⟩:=h
 cases x <;> cases y <;> first
  | exact q.elim
  | (cases Ky.mp rx;cases Ky.mp ry;exact ⟨_,_,rfl,rfl,q _ H Ext.refl rm (KA.mpr rfl)⟩)
end
end
section
noncomputable def wIx:R2d:=fun x y M Q=>match x with
 | .tup ds => ∃ i d,y = .int i/\atI ds i=some d/\Q d M
 | .con ds => ∃ i d,y = .int i/\atI ds i=some d/\Q d M
 | .ref a=>(∃ ds i d,M a=some (.lst ds)/\y = .int i/\atI ds i=some d/\Q d M)∨(∃ t kvs d,M a=some (.dct t kvs)/\ii t y=true/\dget kvs y=some d/\Q d M) ∨ ∃ kvs d,M a=some (.fdc kvs)/\bK y=true/\dget kvs y=some d/\Q d M
 | _=>False
theorem nU:ax wIx:=by
 intro x y M Q Q' h q
 cases x with
 | tup ds=>obtain ⟨i,d,e,j,q⟩:=q;exact ⟨i,d,e,j,h _ _ q⟩
 | con ds=>obtain ⟨i,d,e,j,q⟩:=q;exact ⟨i,d,e,j,h _ _ q⟩
 | ref a =>
   rcases q with ⟨ds,i,d,z,j,B,q⟩ | ⟨t,kvs,d,z,j,B,q⟩ | ⟨kvs,d,z,j,B,q⟩
   ·exact .inl ⟨ds,i,d,z,j,B,h _ _ q⟩
   ·exact .inr (.inl ⟨t,kvs,d,z,j,B,h _ _ q⟩)
   ·exact .inr (.inr ⟨kvs,d,z,j,B,h _ _ q⟩)
 | _=>exact q.elim
theorem kP {K:Frag} {H:Hp} {ds:List D} {vs:List V} {i:Int} {d:D} (r:RDs K H ds vs) (e:atI ds i=some d):∃ v,atI vs i=some v/\RD K H d v:=by
 unfold atI at e ⊢;rw [r.length]
 cases q:ixN ds.length i with
 | none=>rw [q] at e;cases e
 | some j =>
   rw [q] at e;exact r.get e
theorem ja {K:Frag} {H:Hp} {k:D} {q:Key} {v:V} (r:RKey k q) (h:RD K H k v):v=kV q:=by
 cases k <;> first
  | exact r.elim
  | (cases (show q=_ from r);first | exact Ky.mp h | exact KL.mp h)
theorem eE {K:Frag} {H:Hp}:∀ {ds:List D} {ks:List Key} {vs:List V},CU RKey ds ks->RDs K H ds vs->vs=ks.map kV
 | _,_,vs, .nil,h=>by rw [RDs.nil_iff.mp h];rfl
 | _,_,vs, .cons r t,h=>by
   obtain ⟨v,vr,rfl,h1,h2⟩:=KD.mp h;rw [ja r h1,eE t h2];rfl
theorem RKey.inj {d e:D} {k:Key} (a:RKey d k) (b:RKey e k):d=e:=by
 cases d <;> first
  | exact a.elim
  | (cases e <;> first | exact b.elim | (cases (show k=_ from a);injection (show _=_ from b) with z;rw [z]) | (cases (show k=_ from a);cases (show _=_ from b)))
theorem RKeysP.inj:∀ {d e:List D} {k:List Key},CU RKey d k->CU RKey e k->d=e
 | _,_,_, .nil, .nil=>rfl
 | _,_,_, .cons r t, .cons r' t'=>by rw [r.inj r',RKeysP.inj t t']
theorem RKeys.inj {d e:D} {k:List Key} (a:RKeys d k) (b:RKeys e k):d=e:=by
 cases d <;> first
  | exact a.elim
  | (cases e <;> first | exact b.elim | exact congrArg D.tup (RKeysP.inj a b))
theorem RKey.fun {d:D} {k k':Key} (a:RKey d k) (b:RKey d k'):k=k':=by
 cases d <;> first
  | exact a.elim
  | (cases (show k=_ from a);cases (show k'=_ from b);rfl)
theorem RKeysP.fun:∀ {d:List D} {k k':List Key},CU RKey d k->CU RKey d k'->k=k'
 | _,_,_, .nil, .nil=>rfl
 | _,_,_, .cons r t, .cons r' t'=>by rw [r.fun r',RKeysP.fun t t']
theorem RKeys.fun {d:D} {k k':List Key} (a:RKeys d k) (b:RKeys d k'):k=k':=by
 cases d <;> first
  | exact a.elim
  | exact RKeysP.fun a b
section
variable {κ:Type} [DecidableEq κ] {K:Frag} {H:Hp} {RK:D -> κ -> Prop} (inj:∀ {d e:D} {k : κ},RK d k->RK e k->d=e) (fn:∀ {d:D} {k k' : κ},RK d k->RK d k'->k=k')
include inj fn
theorem eF {k:D} {q : κ} (j:RK k q):∀ {kvs:List (D×D)} {ps:List (κ × V)},CU (fun p r=>RK p.1 r.1/\RD K H p.2 r.2) kvs ps ->
 (∀ d,dget kvs k=some d -> ∃ v,bI ps q=some v/\RD K H d v)/\(dget kvs k=none->bI ps q=none)
 | _,_, .nil=>⟨fun d e=>by simp [dget] at e,fun _=>rfl⟩
 | _,_, .cons (a:=p) (b:=r) (l₂ := ps) hr t=>by
   obtain ⟨B,F⟩:=eF j t
   by_cases e:p.1=k
   ·have e':r.1=q:=by
     have h1:=hr.1;rw [e] at h1;exact fn h1 j
    refine ⟨fun d he => ?_,fun he => ?_⟩
    ·simp [dget,DI,e] at he;subst he;exact ⟨r.2,en e',hr.2⟩
    ·simp [dget,DI,e] at he
   ·have e' : ¬ r.1=q:=fun z=>e (by
     have h1:=hr.1;rw [z] at h1;exact inj h1 j)
    have eq1:∀ l:List (D×D),dget (p::l) k=dget l k:=fun l=>by simp [dget,DI,e]
    have eq2:bI (r::ps) q=bI ps q:=eA e';refine ⟨fun d he => ?_,fun he => ?_⟩
    ·rw [eq1] at he;rw [eq2];exact B d he
    ·rw [eq1] at he;rw [eq2];exact F he
end
section
variable {X:Cx}
theorem rG {K:Frag} {H:Hp} {a:Addr} {ps:List (List Key×V)} {kvs:List (D×D)} {k:D} {v:V} (B:Rd H a (.dT ps)) (pr:CU (fun (p:D×D) (q:List Key×V)=>RKeys p.1 q.1/\RD K H p.2 q.2) kvs ps) (ok:bK k=true) (rk:RD K H k v) :
 ∃ o,DGet H a v o/\(∀ d,dget kvs k=some d -> ∃ w,o=some w/\RD K H d w)/\(dget kvs k=none->o=none):=by
 obtain ⟨q,j⟩:=j3 ok;obtain ⟨g1,g2⟩:=eF (RK:=RKeys) RKeys.inj RKeys.fun j pr;refine ⟨bI ps q, ?_,g1,g2⟩
 cases k <;> first
  | exact j.elim
  | (obtain ⟨b,us,rfl,z,ru⟩:=KU (j4 ok) rk
     rw [eE j ru] at z;exact .inr ⟨ps,q,b,B,rfl,z,rfl⟩)
theorem nV {K:Frag} {M:Mem} {H:Hp} {a:Addr} {t:Bool} {kvs:List (D×D)} {k:D} {v:V} (rm:RM K M H) (e:M a=some (.dct t kvs)) (ok:ii t k=true) (rk:RD K H k v) :
 ∃ o,DGet H a v o/\(∀ d,dget kvs k=some d -> ∃ w,o=some w/\RD K H d w)/\(dget kvs k=none->o=none):=by
 have ro:=rm a _ e
 cases t with
 | false =>
   obtain ⟨ps,j,pr⟩:=ro;obtain ⟨q,z⟩:=kH (show eB k=true from ok);obtain ⟨g1,g2⟩:=eF (RK:=RKey) RKey.inj RKey.fun z pr;refine ⟨bI ps q, ?_,g1,g2⟩;rw [ja z rk];exact DGet.k j
 | true =>
   obtain ⟨ps,j,pr⟩:=ro;exact rG (.inl j) pr ok rk
theorem xv (j:X.A.units+1 < Fi):IxR X (fun x y H Q => ∃ a v,x = .ref a/\DGet H a y (some v)/\Q v H):=by
 intro value slice pins s σ H x y v u Q I rx ry h hs;obtain ⟨a,w,rfl,g,q⟩:=h
 cases rx
 have hd:IsD H a:=by
  rcases g with ⟨kvs,k,e,_⟩ | ⟨kvs,k,b,e,_⟩
  ·exact .inl ⟨kvs,e⟩
  ·exact .inr ⟨kvs,e⟩
 obtain ⟨ht,_⟩:=ky I hd;exact tail_any ht PySem.F.slot_dict_getitem.lookup (r9 j I g ry fun w' s' I' r'=>⟨w,H,I',r',q⟩) hs
theorem BG (G:X.A.units+1 < Fi):IxR X (l2 X.K wIx):=by
 refine IxR.of (ix_list.or (ix_tup.or (xv G))) fun v u H Q h => ?_;obtain ⟨x,y,M,rm,rx,ry,q⟩:=h
 cases x with
 | tup ds =>
   obtain ⟨i,d,rfl,e,q⟩:=q;obtain ⟨a,vs,rfl,j,rs⟩:=KH rx
   cases Ky.mp ry
   obtain ⟨w,hw,rw'⟩:=kP rs e;exact .inr (.inl ⟨a,vs,i,w,rfl,rfl,j,hw,q w H Ext.refl rm rw'⟩)
 | con ds =>
   obtain ⟨i,d,rfl,e,q⟩:=q;obtain ⟨a,vs,rfl,j,rs⟩:=KI.mp rx
   cases Ky.mp ry
   obtain ⟨w,hw,rw'⟩:=kP rs e;exact .inl ⟨a,vs,i,w,rfl,rfl,j.sq,hw,q w H Ext.refl rm rw'⟩
 | ref a =>
   cases Kz.mp rx
   rcases q with ⟨ds,i,d,z,rfl,B,q⟩ | ⟨t,kvs,d,z,F,B,q⟩ | ⟨kvs,d,z,F,B,q⟩
   ·cases Ky.mp ry
    obtain ⟨vs,j,rs⟩:=rm _ _ z;obtain ⟨w,hw,rw'⟩:=kP rs B;exact .inl ⟨a,vs,i,w,rfl,rfl,SqL.of j,hw,q w H Ext.refl rm rw'⟩
   ·obtain ⟨o,g,g1,_⟩:=nV rm z F ry;obtain ⟨w,rfl,rw'⟩:=g1 d B;exact .inr (.inr ⟨a,w,rfl,g,q w H Ext.refl rm rw'⟩)
   ·obtain ⟨ob,ps,J,pr⟩:=rm _ _ z;obtain ⟨o,g,g1,_⟩:=rG (.inr ⟨ob,J⟩) pr F ry;obtain ⟨w,rfl,rw'⟩:=g1 d B;exact .inr (.inr ⟨a,w,rfl,g,q w H Ext.refl rm rw'⟩)
 | _=>exact q.elim
noncomputable def gI (M:Mem):D->Option Nat
 | .tup ds=>some ds.length
 | .con ds=>some ds.length
 | .ref a=>match M a with
  | some (.lst ds)=>some ds.length
  | _=>none
 | _=>none
noncomputable def dL:RAd:=fun xs M Q => ∃ x n,xs=[x]/\gI M x=some n/\Q (.int n) M
theorem kQ:aX dL:=fun _ _ _ _ h ⟨x,n,e,l,q⟩=>⟨x,n,e,l,h _ _ q⟩
theorem RDs.one {K:Frag} {H:Hp} {d:D} {vs:List V} (h:RDs K H [d] vs):∃ v,vs=[v]/\RD K H d v:=by
 obtain ⟨v,r,rfl,h1,h2⟩:=KD.mp h;rw [RDs.nil_iff.mp h2];exact ⟨v,rfl,h1⟩
theorem RDs.two {K:Frag} {H:Hp} {d e:D} {vs:List V} (h:RDs K H [d,e] vs):∃ v u,vs=[v,u]/\RD K H d v/\RD K H e u:=by
 obtain ⟨v,r,rfl,h1,h2⟩:=KD.mp h;obtain ⟨u,rfl,j⟩:=RDs.one h2;exact ⟨v,u,rfl,h1,j⟩
theorem pJ:CallR X (.builtin "len") (lR X.K dL):=by
 refine CallR.of tU fun vs H Q h => ?_;obtain ⟨ds,M,rm,rs,x,n,rfl,l,q⟩:=h;obtain ⟨v,rfl,r⟩:=rs.one;refine ⟨v,n,rfl, ?_,q _ H Ext.refl rm (Ky.mpr rfl)⟩
 cases x with
 | tup ds =>
   cases l
   obtain ⟨a,us,rfl,j,ru⟩:=KH r;exact .inr ⟨us,j,ru.length.symm⟩
 | con ds =>
   cases l
   obtain ⟨a,us,rfl,j,ru⟩:=KI.mp r;exact .inl ⟨us,j.sq,ru.length.symm⟩
 | ref a =>
   cases Kz.mp r
   simp only [gI] at l
   cases e:M a with
   | none=>rw [e] at l;cases l
   | some o =>
     rw [e] at l
     cases o with
     | dct _ _=>cases l
     | fdc _=>cases l
     | dcn _=>cases l
     | fdn _=>cases l
     | lst ds =>
       cases l
       obtain ⟨us,j,ru⟩:=rm _ _ e;exact .inl ⟨us,SqL.of j,ru.length.symm⟩
 | _=>cases l
noncomputable def kR:RAd:=fun xs M Q => ∃ i,xs=[.int i]/\Q (.int (if i < 0 then -i else i)) M
noncomputable def jW:RAd:=fun xs M Q => ∃ i j,xs=[.int i, .int j]/\Q (.int (if j < i then j else i)) M
noncomputable def jb:RAd:=fun xs M Q=>(∃ i,xs=[.int i]/\Q (.int i) M) ∨ ∃ k,xs=[.bl k]/\Q (.int (if k then 1 else 0)) M
theorem kS:aX kR:=fun _ _ _ _ h ⟨i,e,q⟩=>⟨i,e,h _ _ q⟩
theorem jy:aX jW:=fun _ _ _ _ h ⟨i,j,e,q⟩=>⟨i,j,e,h _ _ q⟩
theorem kU:aX jb:=fun _ _ _ _ h q=>q.elim (fun ⟨i,e,q⟩ => .inl ⟨i,e,h _ _ q⟩) fun ⟨i,e,q⟩ => .inr ⟨i,e,h _ _ q⟩
theorem pK:CallR X (.builtin "abs") (lR X.K kR):=by
 refine CallR.of tT fun vs H Q h => ?_;obtain ⟨ds,M,rm,rs,i,rfl,q⟩:=h;obtain ⟨v,rfl,r⟩:=rs.one
 cases Ky.mp r
 exact ⟨i,rfl,q _ H Ext.refl rm (Ky.mpr rfl)⟩
theorem nA (z:X.calm=true):CallR X (.builtin "min") (lR X.K jW):=by
 refine CallR.of (qS z) fun vs H Q h => ?_;obtain ⟨ds,M,rm,rs,i,j,rfl,q⟩:=h;obtain ⟨v,u,rfl,B,F⟩:=rs.two
 cases Ky.mp B
 cases Ky.mp F
 exact ⟨i,j,rfl,q _ H Ext.refl rm (Ky.mpr rfl)⟩
theorem pM:CallR X (.type "int") (lR X.K jb):=by
 refine CallR.of qT fun vs H Q h => ?_;obtain ⟨ds,M,rm,rs,⟨i,rfl,q⟩ | ⟨i,rfl,q⟩⟩:=h
 ·obtain ⟨v,rfl,r⟩:=rs.one
  cases Ky.mp r
  exact .inl ⟨i,rfl,q _ H Ext.refl rm (Ky.mpr rfl)⟩
 ·obtain ⟨v,rfl,r⟩:=rs.one
  cases KA.mp r
  exact .inr ⟨i,rfl,q _ H Ext.refl rm (Ky.mpr rfl)⟩
noncomputable def av (M:Mem):D->Option (List D)
 | .tup ds=>some ds
 | .con ds=>some ds
 | .ref a=>match M a with
  | some (.lst ds)=>some ds
  | _=>none
 | _=>none
theorem rH {K:Frag} {M:Mem} {H:Hp} {x:D} {ds:List D} {v:V} (rm:RM K M H) (r:RD K H x v) (e:av M x=some ds):∃ p vs,v = .ref p/\(SqL K H p vs∨SqT K H p vs)/\RDs K H ds vs:=by
 cases x with
 | tup es =>
   cases e
   obtain ⟨a,us,rfl,j,ru⟩:=KH r;exact ⟨a,us,rfl, .inr j,ru⟩
 | con es =>
   cases e
   obtain ⟨a,us,rfl,j,ru⟩:=KI.mp r;exact ⟨a,us,rfl, .inl j.sq,ru⟩
 | ref a =>
   cases Kz.mp r
   simp only [av] at e
   cases e0:M a with
   | none=>rw [e0] at e;cases e
   | some o =>
     rw [e0] at e
     cases o with
     | dct _ _=>cases e
     | fdc _=>cases e
     | dcn _=>cases e
     | fdn _=>cases e
     | lst es =>
       cases e
       obtain ⟨us,j,ru⟩:=rm _ _ e0;exact ⟨a,us,rfl, .inl (SqL.of j),ru⟩
 | _=>cases e
noncomputable def pN:RAd:=fun xs M Q => ∃ x ds,xs=[x]/\av M x=some ds /\ ∀ p,M p=none->Q (.ref p) (af M p (.lst ds))
noncomputable def kW:RAd:=fun xs M Q => ∃ x ds,xs=[x]/\av M x=some ds/\Q (.tup ds) M
theorem jz:aX pN:=fun _ _ _ _ h ⟨x,ds,e,l,q⟩=>⟨x,ds,e,l,fun p n=>h _ _ (q p n)⟩
theorem ik:aX kW:=fun _ _ _ _ h ⟨x,ds,e,l,q⟩=>⟨x,ds,e,l,h _ _ q⟩
theorem nB:CallR X (.type "list") (lR X.K pN):=by
 refine CallR.of ku fun vs H Q h => ?_;obtain ⟨ds,M,rm,rs,x,es,rfl,l,q⟩:=h;obtain ⟨v,rfl,r⟩:=rs.one;obtain ⟨p,us,rfl,sq,ru⟩:=rH rm r l;exact ⟨p,us,rfl,sq,fun l' n=>cW rm ru q n⟩
theorem kX:CallR X (.type "tuple") (lR X.K kW):=by
 refine CallR.of jO fun vs H Q h => ?_;obtain ⟨ds,M,rm,rs,x,es,rfl,l,q⟩:=h;obtain ⟨v,rfl,r⟩:=rs.one
 cases x with
 | tup ds' =>
   cases l
   obtain ⟨a,us,rfl,j,ru⟩:=KH r;exact ⟨a,us,rfl, .inr ⟨j,q _ H Ext.refl rm r⟩⟩
 | con ds' =>
   cases l
   obtain ⟨a,us,rfl,j,ru⟩:=KI.mp r;exact ⟨a,us,rfl, .inl ⟨j.sq,fun l' n=>cU rm ru q n⟩⟩
 | ref a =>
   cases Kz.mp r
   simp only [av] at l
   cases e0:M a with
   | none=>rw [e0] at l;cases l
   | some o =>
     rw [e0] at l
     cases o with
     | dct _ _=>cases l
     | fdc _=>cases l
     | dcn _=>cases l
     | fdn _=>cases l
     | lst es' =>
       cases l
       obtain ⟨us,j,ru⟩:=rm _ _ e0;exact ⟨a,us,rfl, .inl ⟨SqL.of j,fun l' n=>cU rm ru q n⟩⟩
 | _=>cases l
end
end
section
section
variable {X:Cx}
noncomputable def eG (M:Mem):D->Option Bool
 | .non=>some false
 | .bl b=>some b
 | .int i=>some (i != 0)
 | .tup ds=>some (!ds.isEmpty)
 | .con ds=>some (!ds.isEmpty)
 | .ref a=>match M a with
  | some (.lst ds)=>some (!ds.isEmpty)
  | _=>none
 | _=>none
noncomputable def kY (t:TEd):TTd:=fun ρ M Q=>t ρ M fun x M1 => ∃ b,eG M1 x=some b/\Q b M1
theorem uA {t:TEd} (h:aa t):ay (kY t):=fun ρ M Q Q' i q=>h _ _ _ _ (fun x M1 ⟨k,e,j⟩=>⟨k,e,i _ _ j⟩) q
theorem zE {K:Frag} {M:Mem} {H:Hp} {x:D} {b:Bool} {v:V} (rm:RM K M H) (r:RD K H x v) (e:eG M x=some b):tR K v H b:=by
 have emp:∀ {ds:List D} {vs:List V},RDs K H ds vs->(!ds.isEmpty) = !vs.isEmpty:=fun {ds vs} h=>by
  have l:=h.length
  cases ds <;> cases vs <;> first | rfl | (simp at l)
 cases x with
 | non=>cases e;cases KJ.mp r;rfl
 | bl k=>cases e;cases KA.mp r;rfl
 | int i=>cases e;cases Ky.mp r;rfl
 | tup ds =>
   cases e
   obtain ⟨a,vs,rfl,j,rs⟩:=KH r;exact .inr (.inl ⟨vs,j,emp rs⟩)
 | con ds =>
   cases e
   obtain ⟨a,vs,rfl,j,rs⟩:=KI.mp r;exact .inl ⟨vs,j.sq,emp rs⟩
 | ref a =>
   cases Kz.mp r
   simp only [eG] at e
   cases e0:M a with
   | none=>rw [e0] at e;cases e
   | some o =>
     rw [e0] at e
     cases o with
     | dct _ _=>cases e
     | fdc _=>cases e
     | dcn _=>cases e
     | fdn _=>cases e
     | lst ds =>
       cases e
       obtain ⟨vs,j,rs⟩:=rm _ _ e0;exact .inl ⟨vs,SqL.of j,emp rs⟩
 | str _=>cases e
 | fn _=>cases e
variable {a b:Expr} {ta tb:TEd} {pos:Pos}
theorem zF (m:aa ta) (B:PE X a (lE X.K ta)) (he:∀ whole,isTrue a X.env whole=(do let v <- whole;FT a.pos;holding [v] (truthy v))):PT X a (lT X.K (kY ta)):=by
 refine PT.imp (tS B he) fun σ H Q h => ?_;obtain ⟨ρ,M,rs,rm,q⟩:=h;exact ⟨ρ,M,rs,rm,m _ _ _ _ (fun x M1 ⟨k,e,F⟩ v H1 x1 j z=>⟨k,zE j z e,F H1 x1 j⟩) q⟩
noncomputable def im (t:TTd):TTd:=fun ρ M Q=>t ρ M fun c M1=>Q (!c) M1
theorem rJ {t:TTd} (h:ay t):ay (im t):=fun ρ M Q Q' i q=>h _ _ _ _ (fun c M1 j=>i _ _ j) q
theorem zG {tA:TTd} (m:ay tA) (j:PT X a (lT X.K tA)):PT X (.UnaryOp .Not a pos) (lT X.K (im tA)):=by
 refine PT.imp (yR j) fun σ H Q h => ?_;obtain ⟨ρ,M,rs,rm,q⟩:=h;exact ⟨ρ,M,rs,rm,m _ _ _ _ (fun c M1 z=>z) q⟩
noncomputable def io (t u:TTd):TTd:=fun ρ M Q=>t ρ M fun c M1=>if c=true then u ρ M1 Q else Q false M1
noncomputable def kZ (t u:TTd):TTd:=fun ρ M Q=>t ρ M fun c M1=>if c=true then Q true M1 else u ρ M1 Q
theorem rK {t u:TTd} (h:ay t) (k:ay u):ay (io t u):=fun ρ M Q Q' i q=>h _ _ _ _ (fun c M1 j=>by
 cases c with
 | true=>rw [if_pos rfl] at j ⊢;exact k _ _ _ _ i j
 | false=>rw [if_neg hG] at j ⊢;exact i _ _ j) q
theorem uB {t u:TTd} (h:ay t) (k:ay u):ay (kZ t u):=fun ρ M Q Q' i q=>h _ _ _ _ (fun c M1 j=>by
 cases c with
 | true=>rw [if_pos rfl] at j ⊢;exact i _ _ j
 | false=>rw [if_neg hG] at j ⊢;exact k _ _ _ _ i j) q
theorem xw {tA:TTd} (j:PT X a (lT X.K tA)):PW X (.BoolOp .And [a] pos) (lT X.K tA):=wF j
theorem zH {tA:TTd} (j:PT X a (lT X.K tA)):PW X (.BoolOp .Or [a] pos) (lT X.K tA):=yP j
theorem zI {tA tB:TTd} {rest:List Expr} (mA:ay tA) (mB:ay tB) (B:PT X a (lT X.K tA)) (F:PW X (.BoolOp .And (b::rest) pos) (lT X.K tB)):PW X (.BoolOp .And (a::b::rest) pos) (lT X.K (io tA tB)):=by
 refine PW.imp (yQ B F) fun σ H Q h => ?_;obtain ⟨ρ,M,rs,rm,q⟩:=h;refine ⟨ρ,M,rs,rm,mA _ _ _ _ (fun c M1 z H1 x1 j => ?_) q⟩
 cases c with
 | true=>rw [if_pos rfl] at z ⊢;exact ⟨ρ,M1,rs.mono (x1.stab rm),j,mB _ _ _ _ (fun d M2 k=>k.ext x1) z⟩
 | false=>rw [if_neg hG] at z ⊢;exact z H1 x1 j
theorem AY {tA tB:TTd} {rest:List Expr} (mA:ay tA) (mB:ay tB) (B:PT X a (lT X.K tA)) (F:PW X (.BoolOp .Or (b::rest) pos) (lT X.K tB)):PW X (.BoolOp .Or (a::b::rest) pos) (lT X.K (kZ tA tB)):=by
 refine PW.imp (Aw B F) fun σ H Q h => ?_;obtain ⟨ρ,M,rs,rm,q⟩:=h;refine ⟨ρ,M,rs,rm,mA _ _ _ _ (fun c M1 z H1 x1 j => ?_) q⟩
 cases c with
 | true=>rw [if_pos rfl] at z ⊢;exact z H1 x1 j
 | false=>rw [if_neg hG] at z ⊢;exact ⟨ρ,M1,rs.mono (x1.stab rm),j,mB _ _ _ _ (fun d M2 k=>k.ext x1) z⟩
noncomputable def ip (ta tb:TEd):TEd:=fun ρ M Q=>ta ρ M fun x M1 => ∃ c,x = .bl c/\if c=true then tb ρ M1 Q else Q (.bl false) M1
noncomputable def lc (ta tb:TEd):TEd:=fun ρ M Q=>ta ρ M fun x M1 => ∃ c,x = .bl c/\if c=true then Q (.bl true) M1 else tb ρ M1 Q
noncomputable def iq (ta:TEd):TEd:=fun ρ M Q=>ta ρ M fun x M1 => ∃ c,x = .bl c/\Q (.bl (!c)) M1
theorem rL (h:aa ta) (k:aa tb):aa (ip ta tb):=fun ρ M Q Q' i q=>h _ _ _ _ (fun x M1 ⟨c,e,j⟩=>⟨c,e,by
 cases c with
 | true=>rw [if_pos rfl] at j ⊢;exact k _ _ _ _ i j
 | false=>rw [if_neg hG] at j ⊢;exact i _ _ j⟩) q
theorem uG (h:aa ta) (k:aa tb):aa (lc ta tb):=fun ρ M Q Q' i q=>h _ _ _ _ (fun x M1 ⟨c,e,j⟩=>⟨c,e,by
 cases c with
 | true=>rw [if_pos rfl] at j ⊢;exact i _ _ j
 | false=>rw [if_neg hG] at j ⊢;exact k _ _ _ _ i j⟩) q
theorem rM (h:aa ta):aa (iq ta):=fun ρ M Q Q' i q=>h _ _ _ _ (fun x M1 ⟨c,e,j⟩=>⟨c,e,i _ _ j⟩) q
theorem rN {op:BoolOp} {t:TEd} (h:PE X a (lE X.K t)):PE X (.BoolOp op [a] pos) (lE X.K t):=qI h
theorem zJ {rest:List Expr} (ma:aa ta) (mb:aa tb) (F:PE X a (lE X.K ta)) (G:PE X (.BoolOp .And (b::rest) pos) (lE X.K tb)):PE X (.BoolOp .And (a::b::rest) pos) (lE X.K (ip ta tb)):=by
 refine PE.imp (kg F G) fun σ H Q h => ?_;obtain ⟨ρ,M,rs,rm,q⟩:=h;refine ⟨ρ,M,rs,rm,ma _ _ _ _ (fun x M1 ⟨c,e,z⟩ v H1 x1 j B => ?_) q⟩;subst e;refine ⟨c,KA.mp B, ?_⟩
 cases c with
 | true=>rw [if_pos rfl] at z ⊢;exact ⟨ρ,M1,rs.mono (x1.stab rm),j,mb _ _ _ _ (fun d M2 k=>k.ext x1) z⟩
 | false=>rw [if_neg hG] at z ⊢;exact z _ H1 x1 j (KA.mpr rfl)
theorem AZ {rest:List Expr} (ma:aa ta) (mb:aa tb) (F:PE X a (lE X.K ta)) (G:PE X (.BoolOp .Or (b::rest) pos) (lE X.K tb)):PE X (.BoolOp .Or (a::b::rest) pos) (lE X.K (lc ta tb)):=by
 refine PE.imp (Az F G) fun σ H Q h => ?_;obtain ⟨ρ,M,rs,rm,q⟩:=h;refine ⟨ρ,M,rs,rm,ma _ _ _ _ (fun x M1 ⟨c,e,z⟩ v H1 x1 j B => ?_) q⟩;subst e;refine ⟨c,KA.mp B, ?_⟩
 cases c with
 | true=>rw [if_pos rfl] at z ⊢;exact z _ H1 x1 j (KA.mpr rfl)
 | false=>rw [if_neg hG] at z ⊢;exact ⟨ρ,M1,rs.mono (x1.stab rm),j,mb _ _ _ _ (fun d M2 k=>k.ext x1) z⟩
theorem zK (ma:aa ta) (B:PE X a (lE X.K ta)):PE X (.UnaryOp .Not a pos) (lE X.K (iq ta)):=by
 refine PE.imp (qJ B) fun σ H Q h => ?_;obtain ⟨ρ,M,rs,rm,q⟩:=h;refine ⟨ρ,M,rs,rm,ma _ _ _ _ (fun x M1 ⟨c,e,F⟩ v H1 x1 j z => ?_) q⟩;subst e;exact ⟨c,KA.mp z,F _ H1 x1 j (KA.mpr rfl)⟩
noncomputable def wIf (t:TTd) (ta tb:TEd):TEd:=fun ρ M Q=>t ρ M fun c M1=>if c=true then ta ρ M1 Q else tb ρ M1 Q
theorem xx {t:TTd} (h:ay t) (z:aa ta) (B:aa tb):aa (wIf t ta tb):=fun ρ M Q Q' i q=>h _ _ _ _ (fun c M1 j=>by
 cases c with
 | true=>rw [if_pos rfl] at j ⊢;exact z _ _ _ _ i j
 | false=>rw [if_neg hG] at j ⊢;exact B _ _ _ _ i j) q
theorem B0 {c:Expr} {t:TTd} (mt:ay t) (ma:aa ta) (mb:aa tb) (B:PT X c (lT X.K t)) (F:PE X a (lE X.K ta)) (G:PE X b (lE X.K tb)):PE X (.IfExp c a b pos) (lE X.K (wIf t ta tb)):=by
 refine PE.imp (tK B F G) fun σ H Q h => ?_;obtain ⟨ρ,M,rs,rm,q⟩:=h;refine ⟨ρ,M,rs,rm,mt _ _ _ _ (fun x M1 z H1 x1 j => ?_) q⟩
 cases x with
 | true=>rw [if_pos rfl] at z ⊢;exact ⟨ρ,M1,rs.mono (x1.stab rm),j,ma _ _ _ _ (fun d M2 k=>k.ext x1) z⟩
 | false=>rw [if_neg hG] at z ⊢;exact ⟨ρ,M1,rs.mono (x1.stab rm),j,mb _ _ _ _ (fun d M2 k=>k.ext x1) z⟩
noncomputable def gJ (xs:List D) (lo hi:Option Int):List D:=(xs.drop (HT.sIx xs.length 0 lo)).take (HT.sIx xs.length xs.length hi - HT.sIx xs.length 0 lo)
theorem ld {K:Frag} {H:Hp} {ds:List D} {vs:List V} (r:RDs K H ds vs) (lo hi:Option Int):RDs K H (gJ ds lo hi) (fh vs lo hi):=by
 unfold gJ fh;rw [r.length];exact (r.drop _).take _
noncomputable abbrev TOd:=al->Mem->(Option Int->Mem->Prop)->Prop
def eI (T:TOd):Prop := ∀ ρ M Q Q',(∀ d M',Q d M'->Q' d M')->T ρ M Q->T ρ M Q'
noncomputable def dS:TOd:=fun _ M Q=>Q none M
noncomputable def ir (t:TEd):TOd:=fun ρ M Q=>t ρ M fun x M1 => ∃ i,x = .int i/\Q (some i) M1
theorem nC:eI dS:=fun _ _ _ _ h q=>h _ _ q
theorem rO (h:aa ta):eI (ir ta):=fun ρ M Q Q' i q=>h _ _ _ _ (fun x M1 ⟨c,e,j⟩=>⟨c,e,i _ _ j⟩) q
noncomputable def lO (K:Frag) (T:TOd):TO:=fun σ H Q => ∃ ρ M,RS K H σ ρ /\ RM K M H/\T ρ M (fun o M' => ∀ H',Ext M H M' H'->RM K M' H'->Q o H')
theorem xz:PO X none (lO X.K dS):=fun pins s σ H Q I h=>by
 obtain ⟨ρ,M,rs,rm,q⟩:=h;exact wQ pins s σ H Q I (q H Ext.refl rm)
theorem xA {e:Expr} (m:aa ta) (h:PE X e (lE X.K ta)):PO X (some e) (lO X.K (ir ta)):=fun pins s σ H Q I hq=>by
 obtain ⟨ρ,M,rs,rm,q⟩:=hq;refine wR h pins s σ H Q I ⟨ρ,M,rs,rm,m _ _ _ _ (fun x M1 ⟨i,e,B⟩ v H1 x1 j z => ?_) q⟩;subst e;exact ⟨i,Ky.mp z,B H1 x1 j⟩
noncomputable def dU:D->Option Int->Option Int->Mem->QD->Prop:=fun x lo hi M Q=>match x with
 | .tup ds=>Q (.tup (gJ ds lo hi)) M
 | .ref a => ∃ ds,M a=some (.lst ds) /\ ∀ p,M p=none->Q (.ref p) (af M p (.lst (gJ ds lo hi)))
 | .con ds => ∀ p,M p=none->Q (.ref p) (af M p (.lst (gJ ds lo hi)))
 | _=>False
noncomputable def wSl (te:TEd) (tl th:TOd):TEd:=fun ρ M Q=>te ρ M fun x M1=>tl ρ M1 fun l M2=>th ρ M2 fun u M3=>dU x l u M3 Q
theorem pO {x:D} {lo hi:Option Int} {M:Mem} {Q Q':QD} (h:∀ d M',Q d M'->Q' d M') (q:dU x lo hi M Q):dU x lo hi M Q':=by
 cases x with
 | tup ds=>exact h _ _ q
 | ref a=>obtain ⟨ds,e,q⟩:=q;exact ⟨ds,e,fun p n=>h _ _ (q p n)⟩
 | con ds=>exact fun p n=>h _ _ (q p n)
 | _=>exact q.elim
theorem xB {tl th:TOd} (m:aa ta) (ml:eI tl) (mh:eI th):aa (wSl ta tl th):=fun ρ M Q Q' i q =>
 m _ _ _ _ (fun x M1 j=>ml _ _ _ _ (fun l M2 z=>mh _ _ _ _ (fun u F B=>pO i B) z) j) q
theorem B3 {e:Expr} {lo hi:Option Expr} {tl th:TOd} {p2:Pos} (m:aa ta) (ml:eI tl) (mh:eI th) (he:PE X e (lE X.K ta)) (Z:PO X lo (lO X.K tl)) (hu:PO X hi (lO X.K th)) :
 PE X (.Subscript e (.Slice lo hi none p2) pos) (lE X.K (wSl ta tl th)):=by
 refine PE.imp (tX (sl_tup.or (sl_list.or u5)) he Z hu) fun σ H Q h => ?_;obtain ⟨ρ,M,rs,rm,q⟩:=h;refine ⟨ρ,M,rs,rm,m _ _ _ _ (fun x M1 q1 v H1 x1 G O => ?_) q⟩;refine ⟨ρ,M1,rs.mono (x1.stab rm),G,ml _ _ _ _ (fun l M2 q2 H2 U L => ?_) q1⟩;refine ⟨ρ,M2,(rs.mono (x1.stab rm)).mono (U.stab G),L,mh _ _ _ _ (fun u M3 z H3 Y j => ?_) q2⟩;have B:=x1.trans (U.trans Y);have F:=(O.mono (U.stab G)).mono (Y.stab L)
 cases x with
 | tup ds =>
   obtain ⟨a,vs,rfl,J,r⟩:=KH F
   by_cases hw:HT.sIx vs.length 0 l=0/\HT.sIx vs.length vs.length u=vs.length
   ·refine .inr (.inr ⟨a,vs,rfl,J,hw, ?_⟩);have e:gJ ds l u=ds:=by
     unfold gJ;rw [<- r.length,hw.1,hw.2,r.length];simp
    simp only [dU] at z;rw [e] at z;exact z.ext B _ H3 Ext.refl j F
   ·simp only [dU] at z;exact .inl ⟨a,vs,rfl,J,hw,fun p n=>cU j (ld r l u) (z.ext B) n⟩
 | ref a =>
   cases Kz.mp F
   obtain ⟨ds,e,z⟩:=z;obtain ⟨vs,J,r⟩:=j _ _ e;exact .inr (.inl ⟨a,vs,rfl,SqL.of J,fun p n=>cW j (ld r l u) (fun p' n'=>(z p' n').ext B) n⟩)
 | con ds =>
   obtain ⟨a,vs,rfl,J,r⟩:=KI.mp F;exact .inr (.inl ⟨a,vs,rfl,J.sq,fun p n=>cW j (ld r l u) (fun p' n'=>(z p' n').ext B) n⟩)
 | _=>exact z.elim
end
end
section
section
variable {X:Cx}
noncomputable def tyN (M:Mem):D->Option String
 | .non=>some "NoneType"
 | .bl _=>some "bool"
 | .int _=>some "int"
 | .str _=>some "str"
 | .tup _=>some "tuple"
 | .ref a=>match M a with
  | some (.lst _)=>some "list"
  | some (.dct _ _)=>some "dict"
  | _=>none
 | .con _=>none
 | .fn _=>none
noncomputable def dj (T t:String):Bool:=t==T || (t == "bool" && T == "int")
theorem w8 {K:Frag} {M:Mem} {H:Hp} {x:D} {t:String} {v:V} (rm:RM K M H) (r:RD K H x v) (e:tyN M x=some t):bT K H v (.type t):=by
 cases x with
 | non=>cases e;cases KJ.mp r;exact .non
 | bl k=>cases e;cases KA.mp r;exact .bl k
 | int i=>cases e;cases Ky.mp r;exact .int i
 | str i=>cases e;cases KL.mp r;exact .str i
 | tup ds =>
   cases e
   obtain ⟨a,vs,rfl,j,rs⟩:=KH r;exact .tup j
 | con ds=>cases e
 | fn _=>cases e
 | ref a =>
   cases Kz.mp r
   simp only [tyN] at e
   cases e0:M a with
   | none=>rw [e0] at e;cases e
   | some o =>
     rw [e0] at e
     cases o with
     | lst ds =>
       cases e
       obtain ⟨vs,j,rs⟩:=rm _ _ e0;exact .lst j
     | dct t kvs =>
       cases e
       have ro:=rm _ _ e0
       cases t with
       | false=>obtain ⟨ps,j,_⟩:=ro;exact .dK j
       | true=>obtain ⟨ps,j,_⟩:=ro;exact .dT j
     | fdc kvs=>cases e
     | dcn _=>cases e
     | fdn _=>cases e
noncomputable def cc:List String := ["NoneType", "bool", "int", "str", "tuple", "list", "dict"]
theorem jc (K:Frag):∀ T∈["bool", "int", "str", "tuple", "list", "dict"], ∀ t∈cc,EX K (.type t) (.type T)=some (dj T t):=by
 intro T j t ht;simp only [cc,CC,D0,or_false] at j ht
 rcases j with rfl | rfl | rfl | rfl | rfl | rfl <;> rcases ht with rfl | rfl | rfl | rfl | rfl | rfl | rfl <;> rfl
noncomputable def iu (T:String) (ta:TEd):TEd:=fun ρ M Q=>ta ρ M fun x M1 => ∃ t,tyN M1 x=some t/\Q (.bl (dj T t)) M1
theorem rP {T:String} {ta:TEd} (h:aa ta):aa (iu T ta):=fun ρ M Q Q' i q=>h _ _ _ _ (fun x M1 ⟨t,e,j⟩=>⟨t,e,i _ _ j⟩) q
theorem nW {M:Mem} {x:D} {t:String} (e:tyN M x=some t):t∈cc:=by
 cases x with
 | ref a =>
   simp only [tyN] at e
   cases e0:M a with
   | none=>rw [e0] at e;cases e
   | some o=>rw [e0] at e;cases o <;> cases e <;> simp [cc]
 | con _=>cases e
 | fn _=>cases e
 | _=>cases e;simp [cc]
theorem rQ (T:String) (j:T∈["bool", "int", "str", "tuple", "list", "dict"]):CallR X (.builtin "isinstance") (fun vs H Q => ∃ v t,vs=[v, .ty T]/\bT X.K H v (.type t)/\t∈cc/\Q (.bl (dj T t)) H):=by
 intro pins s σ H xs us Q I r h;obtain ⟨v,t,rfl,ty,ht,q⟩:=h;obtain ⟨u,c,rfl,ru,rc⟩:=pj r
 cases rc
 exact qV I ru ty (jc X.K T j t ht) fun tk=>⟨.bl _,H,I.tok tk,rfl,q⟩
theorem xE {e:Expr} {ta:TEd} {T:String} {y:Str} {p p2 pos:Pos} (L:T∈["bool", "int", "str", "tuple", "list", "dict"]) (m:aa ta) (he:PE X e (lE X.K ta)) (O:Gl X "isinstance") (hm:X.mg "isinstance" = none)
 (z:Gl X y) (B:X.mg y=none) (U:DR y=some (.type T)) (Y:y ≠ "__name__") (F:(y==("__debug__":Str))=false)
 (hs:CF [e, .Name y p2] X.env=(false,eval e X.env)::CF [.Name y p2] X.env) (G:(Es pos (CF [.Name y p2] X.env)).any (·.1)=false) :
 PE X (.Call (.Name "isinstance" p) [e, .Name y p2] [] pos) (lE X.K (iu T ta)):=by
 have h2:PE X (.Name y p2) (tC (.ty T)):=fV z B U rfl Y F;refine PE.imp (bv (rQ T L) O hm (by decide +kernel) (aM he (aM h2 ci rfl) hs) (by decide) (by decide) hs G) fun σ H Q h => ?_
 obtain ⟨ρ,M,rs,rm,q⟩:=h;exact ⟨ρ,M,rs,rm,m _ _ _ _ (fun x M1 ⟨t,e,Z⟩ v H1 x1 j J=>⟨v,t,rfl,w8 j J e,nW e,Z _ H1 x1 j (KA.mpr rfl)⟩) q⟩
noncomputable def wBM (rd:D->List D->Mem->QD->Prop) (to:TEd) (t:TAd):TEd:=fun ρ M Q=>to ρ M fun x M1=>(∃ a xs,x = .ref a/\M1 a=some (.lst xs))/\t ρ M1 fun ds M2=>rd x ds M2 Q
def eJ (rd:D->List D->Mem->QD->Prop):Prop := ∀ x ds M Q Q',(∀ d M',Q d M'->Q' d M')->rd x ds M Q->rd x ds M Q'
theorem nX {rd:D->List D->Mem->QD->Prop} {to:TEd} {t:TAd} (hr:eJ rd) (mo:aa to) (mt:b9 t):aa (wBM rd to t):=fun ρ M Q Q' i q =>
 mo _ _ _ _ (fun x M1 ⟨e,j⟩=>⟨e,mt _ _ _ _ (fun ds M2 z=>hr _ _ _ _ _ i z) j⟩) q
theorem w9 {K:Frag} {M:Mem} {H:Hp} {x:D} {v:V} (rm:RM K M H) (r:RD K H x v) (h:∃ a xs,x = .ref a/\M a=some (.lst xs)):tyV K "list" v H:=by
 obtain ⟨a,xs,rfl,e⟩:=h
 cases Kz.mp r
 obtain ⟨vs,j,_⟩:=rm _ _ e;exact .inl ⟨rfl,vs,SqL.of j⟩
theorem xF {K:Frag} {rd:D->List D->Mem->QD->Prop} {r:V->List V->Hp->VK->Prop} {to:TEd} {t:TAd} (hr:eJ rd) (mo:aa to) (mt:b9 t)
 (J:∀ v vs H Q,lMt K rd v vs H Q->r v vs H Q) (σ:St) (H:Hp) (Q:VK) (h:lE K (wBM rd to t) σ H Q):tBM K "list" r (lE K to) (lA K t) σ H Q:=by
 obtain ⟨ρ,M,rs,rm,q⟩:=h;refine ⟨ρ,M,rs,rm,mo _ _ _ _ (fun x M1 ⟨e,L⟩ v H1 x1 j z=>⟨w9 j z e, ?_⟩) q⟩;refine ⟨ρ,M1,rs.mono (x1.stab rm),j,mt _ _ _ _ (fun ds M2 O vs H2 G B F => ?_) L⟩;exact J v vs H2 Q ⟨x,ds,M2,B,z.mono (G.stab j),F,hr _ _ _ _ _ (fun d M' k=>k.ext (x1.trans G)) O⟩
theorem uH {K:Frag} {rd:D->List D->Mem->QD->Prop} {r:V->List V->Hp->VK->Prop} {to:TEd} (hr:eJ rd) (mo:aa to)
 (B:∀ v vs H Q,lMt K rd v vs H Q->r v vs H Q) (σ:St) (H:Hp) (Q:VK) (h:lE K (wBM rd to bw) σ H Q):zj K "list" r (lE K to) σ H Q:=by
 obtain ⟨ρ,M,rs,rm,q⟩:=h;refine ⟨ρ,M,rs,rm,mo _ _ _ _ (fun x M1 ⟨e,F⟩ v H1 x1 j z=>⟨w9 j z e, ?_⟩) q⟩;exact B v [] H1 Q ⟨x,[],M1,j,z,RDs.nil,hr _ _ _ _ _ (fun d M' k=>k.ext x1) F⟩
noncomputable def jd:D->List D->Mem->QD->Prop:=fun x ds M Q => ∃ a xs y,x = .ref a/\ds=[y]/\M a=some (.lst xs)/\xs.length < hP/\Q .non (af M a (.lst (xs++[y])))
noncomputable def lf:D->List D->Mem->QD->Prop:=fun x ds M Q => ∃ a xs,x = .ref a/\ds=[]/\M a=some (.lst xs)/\Q .non (af M a (.lst []))
theorem gA:eJ jd:=fun _ _ _ _ _ h ⟨a,xs,y,j,B,F,z,q⟩=>⟨a,xs,y,j,B,F,z,h _ _ q⟩
theorem iw:eJ lf:=fun _ _ _ _ _ h ⟨a,xs,j,z,B,q⟩=>⟨a,xs,j,z,B,h _ _ q⟩
theorem nY {K:Frag} {M:Mem} {H:Hp} {Q:VK} {d:D} {v:V} {a:Addr} {o0:O} {ds:List D} {vs:List V} (rm:RM K M H) (m:M a=some o0) (rd:RDs K H ds vs) (r:RD K H d v) (q:KE' K M H Q d (af M a (.lst ds))) (w:fz (some o0)=false:=by rfl) :
 Q v (upd H a (.lst vs)):=by
 have st:Stab H (upd H a (.lst vs)):=rm.stabPut m w;exact q v _ (Ext.put m w) (rm.put m ⟨vs,ak,rd.mono st⟩ w) (r.mono st)
theorem uI {K:Frag} (v:V) (vs:List V) (H:Hp) (Q:VK) (h:lMt K jd v vs H Q):nN v vs H Q:=by
 obtain ⟨x,ds,M,rm,rx,rs,a,xs,y,rfl,rfl,e,z,q⟩:=h
 cases Kz.mp rx
 obtain ⟨w,rfl,rw'⟩:=rs.one;obtain ⟨us,j,ru⟩:=rm _ _ e;exact ⟨a,us,w,rfl,rfl,j,by rw [ru.length];exact z,nY rm e (ru.append (RDs.cons rw' RDs.nil)) (KJ.mpr rfl) q⟩
theorem xG {K:Frag} (v:V) (vs:List V) (H:Hp) (Q:VK) (h:lMt K lf v vs H Q):qZ v vs H Q:=by
 obtain ⟨x,ds,M,rm,rx,rs,a,xs,rfl,rfl,e,q⟩:=h
 cases Kz.mp rx
 obtain ⟨us,j,ru⟩:=rm _ _ e;exact ⟨a,us,rfl,RDs.nil_iff.mp rs,j,nY rm e RDs.nil (KJ.mpr rfl) q⟩
noncomputable abbrev BT:=D->al->Option al
noncomputable abbrev BTs:=List D->al->Option al
noncomputable def bC (i:Nat):BT:=fun d ρ => some (ρ.set i (some d))
noncomputable def fw:BTs:=fun ds ρ => match ds with | [] => some ρ | _=>none
noncomputable def bO (b:BT) (bs:BTs):BTs:=fun ds ρ => match ds with | d::r=>(b d ρ).bind fun ρ'=>bs r ρ' | [] => none
noncomputable def lg (bs:BTs):BT:=fun d ρ => match d with | .tup ds=>bs ds ρ | _=>none
noncomputable def lG (K:Frag) (b:BT):TG:=fun v σ H Q => ∃ d ρ ρ',RD K H d v/\RS K H σ ρ /\ b d ρ = some ρ' /\ ∀ σ',RS K H σ' ρ'->Q σ' H
noncomputable def lGs (K:Frag) (b:BTs):TGs:=fun vs σ H Q => ∃ ds ρ ρ',RDs K H ds vs/\RS K H σ ρ /\ b ds ρ = some ρ' /\ ∀ σ',RS K H σ' ρ'->Q σ' H
theorem PG.imp {e:Expr} {t t':TG} (h:PG X e t) (i:∀ v σ H Q,t' v σ H Q->t v σ H Q):PG X e t':=fun pins s σ H v u Q I r q=>h pins s σ H v u Q I r (i _ _ _ _ q)
theorem PGs.imp {e:List Expr} {t t':TGs} (h:PGs X e t) (i:∀ v σ H Q,t' v σ H Q->t v σ H Q):PGs X e t':=fun pins s σ H v u Q I r q=>h pins s σ H v u Q I r (i _ _ _ _ q)
theorem xH {i:Nat} {x:Str} {pos:Pos} (j:X.N.Nodup) (hi:X.N[i]? = some x) (hx:Loc X.env.scope x) (hf:X.fn x=true∨X.env.scope.names.lookup x=some .local):PG X (.Name x pos) (lG X.K (bC i)) :=
 PG.imp (nH j hi hx hf) fun v σ H Q ⟨d, ρ, ρ',r,rs,e,q⟩=>by
  cases e
  exact q _ (rs.set i r)
theorem xI:PGs X [] (lGs X.K fw):=PGs.imp nI fun vs σ H Q ⟨ds, ρ, ρ',r,rs,e,q⟩=>by
 cases ds with
 | nil=>cases e;exact ⟨RDs.nil_iff.mp r,q σ rs⟩
 | cons _ _=>cases e
theorem uJ {e:Expr} {es:List Expr} {b:BT} {bs:BTs} (h1:PG X e (lG X.K b)) (h2:PGs X es (lGs X.K bs)) (hs:(DN (e::es) X.env).map (·.2)=assign e X.env::(DN es X.env).map (·.2)) :
 PGs X (e::es) (lGs X.K (bO b bs)):=PGs.imp (gF h1 h2 hs) fun vs σ H Q ⟨ds, ρ, ρ',r,rs,e,q⟩=>by
 cases ds with
 | nil=>cases e
 | cons d ds =>
   obtain ⟨v,vr,rfl,z,B⟩:=KD.mp r;simp only [bO] at e
   cases j:b d ρ with
   | none=>rw [j] at e;cases e
   | some ρ1 =>
     rw [j] at e;exact ⟨v,vr,rfl,d, ρ, ρ1,z,rs,j,fun σ' rs'=>⟨ds, ρ1, ρ',B,rs',e,q⟩⟩
theorem zL {es:List Expr} {k:Nat} {bs:BTs} {n:Nat} {pos:Pos} (z:X.calm=true) (hlen:∀ ds ρ ρ',bs ds ρ = some ρ'->ds.length=n) (h:PGs X es (lGs X.K bs)) (B:(DN es X.env).length=n) (j:(DN es X.env).findIdx? (·.1)=none) :
 PG X (.Tuple es k pos) (lG X.K (lg bs)):=PG.imp (qM z h B j) fun v σ H Q ⟨d, ρ, ρ',r,rs,e,q⟩=>by
 cases d with
 | tup ds =>
   obtain ⟨a,vs,rfl,F,rv⟩:=KH r;exact ⟨a,vs,rfl,F,by rw [rv.length];exact hlen _ _ _ e,ds, ρ, ρ',rv,rs,e,q⟩
 | _=>cases e
noncomputable abbrev TId:=al->Mem->(List D->(Mem->Prop)->Mem->Prop)->Prop
def bX (T:TId):Prop := ∀ ρ M Q Q',(∀ xs c M',Q xs c M'->Q' xs c M')->T ρ M Q->T ρ M Q'
def Yl (H H':Hp):Prop:=H'=H ∨ ∃ q vs,H q=none/\H'=upd H q (.tup vs)
def fy (K:Frag) (H1:Hp) (xs:List D) (chk:Mem->Prop) (J:It):Prop := ∀ M H,Stab H1 H->RM K M H->chk M -> ∀ i,(xs.length<=i->J.stop i H)/\(i < xs.length->J.go i H /\
 ∀ x H',J.yld i H x H'->Yl H H' /\ ∃ d,xs[i]? = some d/\RD K H' d x)
noncomputable def lI (K:Frag) (T:TId):TI:=fun σ H R => ∃ ρ M,RS K H σ ρ /\ RM K M H/\T ρ M (fun xs chk M1 => ∀ J H1,Ext M H M1 H1->RM K M1 H1->fy K H1 xs chk J->R J H1)
theorem PI.imp {tg e:Expr} {t t':TI} (h:PI X tg e t) (i:∀ σ H Q,t' σ H Q->t σ H Q):PI X tg e t':=fun pins s σ H Q I q=>h pins s σ H Q I (i _ _ _ q)
theorem Yl.ext {K:Frag} {M:Mem} {H H':Hp} (rm:RM K M H) (y:Yl H H'):Ext M H M H'/\RM K M H':=by
 rcases y with rfl | ⟨q,vs,n,rfl⟩
 ·exact ⟨Ext.refl,rm⟩
 ·exact ⟨KN n,rm.new n⟩
noncomputable def BH (K:Frag) (tl:TE):TI:=fun σ H R=>tl σ H fun x H1 => ∃ a,x = .ref a/\(((∃ xs,SqL K H1 a xs)/\R (Itl K a) H1)∨((∃ xs,SqT K H1 a xs)/\R (Itt K a) H1))
theorem zM {tg l:Expr} {tl:TE} (F:PE X l tl):PI X tg l (BH X.K tl):=by
 intro pins s σ H R I h;refine thn (F pins s σ H _ I h) fun v s1 ⟨x,H1,j,G,J⟩ => ?_;obtain ⟨a,e,q⟩:=J;subst e
 cases G
 rcases q with ⟨⟨xs,z⟩,q⟩ | ⟨⟨xs,z⟩,q⟩
 ·obtain ⟨its,rv,p,L⟩:=j.list z;refine DZ p.isList ?_;refine ⟨s1.heap.objs.size,[s1.heap.objs.size],_,_,H1,rfl,j.kept (t':=s1.toks) fun b o e=>h8 _ e,qP a _,⟨_,hQ _ rfl,rfl,rfl⟩,fun b B => ?_,q⟩;have e:b=s1.heap.objs.size:=by simpa using B
  subst e;exact j.fpOk (q0 _) (j.hok.fresh (q0 _))
 ·obtain ⟨its,rv,p,L⟩:=j.tuple z;refine DA (show s1.heap.IsTuple a its.toArray from p) ?_;refine ⟨s1.heap.objs.size,[s1.heap.objs.size],_,_,H1,rfl,j.kept (t':=s1.toks) fun b o e=>h8 _ e,oW a _,⟨_,hQ _ rfl,rfl,rfl⟩,fun b B => ?_,q⟩;have e:b=s1.heap.objs.size:=by simpa using B
  subst e;exact j.fpOk (q0 _) (j.hok.fresh (q0 _))
noncomputable def lh (ta:TEd):TId:=fun ρ M R=>ta ρ M fun x M1 => ∃ ds,av M1 x=some ds/\R ds (fun M=>av M x=some ds) M1
theorem uK {ta:TEd} (h:aa ta):bX (lh ta):=fun ρ M Q Q' i q=>h _ _ _ _ (fun x M1 ⟨ds,e,j⟩=>⟨ds,e,i _ _ _ j⟩) q
theorem rR {K:Frag} {H1:Hp} {a:Addr} {ds:List D} {chk:Mem->Prop} (h:∀ M H,Stab H1 H->RM K M H->chk M -> ∃ vs,SqL K H a vs/\RDs K H ds vs):fy K H1 ds chk (Itl K a):=fun M H st rm c i=>by
 obtain ⟨vs,sq,r⟩:=h M H st rm c;have l:=r.length;refine ⟨fun hi=>⟨vs,sq,by lia⟩,fun hi=>⟨⟨vs,vs[i]'(by lia),sq,h6 (by lia)⟩,fun x H' y => ?_⟩⟩
 obtain ⟨e,y⟩:=y;subst e;exact ⟨.inl rfl,r.getV (y vs sq)⟩
theorem zN {K:Frag} {H1:Hp} {a:Addr} {ds:List D} {chk:Mem->Prop} (h:∀ M H,Stab H1 H->RM K M H->chk M -> ∃ vs,SqT K H a vs/\RDs K H ds vs):fy K H1 ds chk (Itt K a):=fun M H st rm c i=>by
 obtain ⟨vs,sq,r⟩:=h M H st rm c;have l:=r.length;refine ⟨fun hi=>⟨vs,sq,by lia⟩,fun hi=>⟨⟨vs,vs[i]'(by lia),sq,h6 (by lia)⟩,fun x H' y => ?_⟩⟩
 obtain ⟨e,y⟩:=y;subst e;exact ⟨.inl rfl,r.getV (y vs sq)⟩
theorem zO {tg l:Expr} {ta:TEd} (m:aa ta) (F:PE X l (lE X.K ta)):PI X tg l (lI X.K (lh ta)):=by
 refine PI.imp (zM F) fun σ H R h => ?_;obtain ⟨ρ,M,rs,rm,q⟩:=h;refine ⟨ρ,M,rs,rm,m _ _ _ _ (fun x M1 ⟨ds,e,B⟩ v H1 x1 j rd1 => ?_) q⟩
 cases x with
 | tup es =>
   cases e
   obtain ⟨a,vs,rfl,z,rv⟩:=KH rd1;exact ⟨a,rfl, .inr ⟨⟨vs,z⟩,B _ H1 x1 j (zN fun M' H' st _ _=>⟨vs,st.sqT z,rv.mono st⟩)⟩⟩
 | con es =>
   cases e
   obtain ⟨a,vs,rfl,z,rv⟩:=KI.mp rd1;exact ⟨a,rfl, .inl ⟨⟨vs,z.sq⟩,B _ H1 x1 j (rR fun M' H' st _ _=>⟨vs,(st.sqF z).sq,rv.mono st⟩)⟩⟩
 | ref a =>
   cases Kz.mp rd1
   have get:∀ {M':Mem} {es:List D},av M' (.ref a)=some es->M' a=some (.lst es):=fun {M' es} e=>by
    simp only [av] at e
    cases e0:M' a with
    | none=>rw [e0] at e;cases e
    | some o =>
      rw [e0] at e
      cases o with
      | dct _ _=>cases e
      | fdc _=>cases e
      | dcn _=>cases e
      | fdn _=>cases e
      | lst es'=>cases e;rfl
   obtain ⟨vs,z,rv⟩:=j _ _ (get e);exact ⟨a,rfl, .inl ⟨⟨vs,SqL.of z⟩,B _ H1 x1 j (rR fun M' H' st rm' c=>by
    obtain ⟨us,G,ru⟩:=rm' _ _ (get c);exact ⟨us,SqL.of G,ru⟩)⟩⟩
 | _=>cases e
noncomputable def bj (lo:Int) (n:Nat):List D:=(CP n).map fun i => .int (lo+(i:Nat))
theorem zP {K:Frag} {H1:Hp} {lo:Int} {n:Nat}:fy K H1 (bj lo n) (fun _=>True) (Itr lo n):=fun M H st rm c i=>by
 have l:(bj lo n).length=n:=by simp [bj]
 refine ⟨fun hi=>by show n<=i;lia,fun hi=>⟨by show i < n;lia,fun x H' y => ?_⟩⟩
 obtain ⟨e,y⟩:=y;subst e y;refine ⟨.inl rfl, .int (lo+i), ?_,Ky.mpr rfl⟩;simp only [bj,CK,Gb (show i < n by lia),Fp]
noncomputable def iy (ta:TAd):TId:=fun ρ M R=>ta ρ M fun ds M1 => ∃ j:Int,ds=[.int j] /\ -(2 ^ 62)<=j/\j < 2 ^ 62/\R (bj 0 j.toNat) (fun _=>True) M1
theorem rS {ta:TAd} (h:b9 ta):bX (iy ta):=fun ρ M Q Q' i q=>h _ _ _ _ (fun x M1 ⟨j,e,a,b,z⟩=>⟨j,e,a,b,i _ _ _ z⟩) q
theorem xJ {tg a:Expr} {ta:TAd} {p pos:Pos} (m:b9 ta) (B:Gl X "range") (hm:X.mg "range" = none) (F:PA X [a] (lA X.K ta)) (hs:CF [a] X.env=[(false,eval a X.env)]):PI X tg (.Call (.Name "range" p) [a] [] pos) (lI X.K (iy ta)):=by
 refine PI.imp (qQ B hm F hs) fun σ H R h => ?_;obtain ⟨ρ,M,rs,rm,q⟩:=h;refine ⟨ρ,M,rs,rm,m _ _ _ _ (fun ds M1 ⟨j,e,G,J,L⟩ vs H1 x1 z rd1 => ?_) q⟩;subst e;obtain ⟨v,rfl,r⟩:=rd1.one
 cases Ky.mp r
 exact ⟨j,rfl,G,J,L _ H1 x1 z zP⟩
end
end
section
section
variable {X:Cx}
noncomputable def isT:D->Bool | .tup _=>true | _=>false
theorem dW {K:Frag} {M:Mem} {H:Hp} {x:D} {ds:List D} {v:V} (rm:RM K M H) (r:RD K H x v) (e:av M x=some ds):∃ p vs,v = .ref p/\SqV K (isT x) H p vs/\RDs K H ds vs:=by
 cases x with
 | tup es =>
   cases e
   obtain ⟨a,vs,rfl,j,rv⟩:=KH r;exact ⟨a,vs,rfl,j,rv⟩
 | con es =>
   cases e
   obtain ⟨a,vs,rfl,j,rv⟩:=KI.mp r;exact ⟨a,vs,rfl,j.sq,rv⟩
 | ref a =>
   cases Kz.mp r
   simp only [av] at e
   cases e0:M a with
   | none=>rw [e0] at e;cases e
   | some o =>
     rw [e0] at e
     cases o with
     | dct _ _=>cases e
     | fdc _=>cases e
     | dcn _=>cases e
     | fdn _=>cases e
     | lst es =>
       cases e
       obtain ⟨vs,j,rv⟩:=rm _ _ e0;exact ⟨a,vs,rfl,SqL.of j,rv⟩
 | _=>cases e
noncomputable def iz (x y:D):D := .tup [x,y]
noncomputable def lj (ta tb:TEd):TId:=fun ρ M R=>aH ta (aH tb bw) ρ M fun ds M1 => ∃ x y xs ys,ds=[x,y]/\av M1 x=some xs/\av M1 y=some ys/\R (F9 iz xs ys) (fun M=>av M x=some xs/\av M y=some ys) M1
theorem uL {ta tb:TEd} (j:aa ta) (z:aa tb):bX (lj ta tb):=fun ρ M Q Q' i q=>aD j (aD z aB) _ _ _ _ (fun ds M1 ⟨x,y,xs,ys,e,B,F,G⟩=>⟨x,y,xs,ys,e,B,F,i _ _ _ G⟩) q
theorem ll {H:Hp} {p:Addr} {o:HO} (n:H p=none):Stab H (upd H p o):=⟨fun a xs e=>by rw [ae (fun z=>by rw [z,n] at e;cases e)];exact e,fun a o u e=>by rw [ae (fun z=>by rw [z,n] at e;cases e)];exact e⟩
theorem zQ {K:Frag} {H1:Hp} {x y:D} {xs ys:List D} {a b:Addr} (rx:RD K H1 x (.ref a)) (ry:RD K H1 y (.ref b)):fy K H1 (F9 iz xs ys) (fun M=>av M x=some xs/\av M y=some ys) (Itz K (isT x) (isT y) a b):=fun M H st rm c i=>by
 obtain ⟨p1,vs,L,j,G⟩:=dW rm (rx.mono st) c.1;obtain ⟨p2,us,O,q,J⟩:=dW rm (ry.mono st) c.2
 cases L
 cases O
 have l1:=G.length;have l2:=J.length;have lz:(F9 iz xs ys).length=min xs.length ys.length:=List.length_zipWith;refine ⟨fun hi=>⟨vs,us,j,q,by lia⟩,fun hi=>⟨⟨vs,us,vs[i]'(by lia),us[i]'(by lia),j,q,h6 (by lia),h6 (by lia)⟩,fun v H' U => ?_⟩⟩
 obtain ⟨p,v1,v2,n,rfl,rfl,g⟩:=U;obtain ⟨g1,g2⟩:=g vs us j q;obtain ⟨d1,z,B⟩:=G.getV g1;obtain ⟨d2,hd2,F⟩:=J.getV g2;have sb:=ll (o := .tup [v1,v2]) n;refine ⟨.inr ⟨p,[v1,v2],n,rfl⟩, .tup [d1,d2], ?_,KO ⟨p,[v1,v2],rfl,ak,RDs.cons (B.mono sb) (RDs.cons (F.mono sb) RDs.nil)⟩⟩;rw [HI,z,hd2];rfl
theorem zR {elts:List Expr} {cx} {pos p pos':Pos} {a b:Expr} {ta tb:TEd} (ma:aa ta) (mb:aa tb) (G:Gl X "zip") (hm:X.mg "zip" = none) (J:PA X [a,b] (lA X.K (aH ta (aH tb bw)))) (hs:CF [a,b] X.env=[(false,eval a X.env),(false,eval b X.env)]) (z:CF [b] X.env=[(false,eval b X.env)]) :
 PI X (.Tuple elts cx pos) (.Call (.Name "zip" p) [a,b] [] pos') (lI X.K (lj ta tb)):=by
 refine PI.imp (zw G hm J hs z) fun σ H R h => ?_;obtain ⟨ρ,M,rs,rm,q⟩:=h;refine ⟨ρ,M,rs,rm,aD ma (aD mb aB) _ _ _ _ (fun ds M1 ⟨x,y,xs,ys,e,L,O,U⟩ vs H1 x1 j rd1 => ?_) q⟩;subst e;obtain ⟨v,u,rfl,B,F⟩:=rd1.two;obtain ⟨p1,vs,rfl,s1,_⟩:=dW j B L;obtain ⟨p2,us,rfl,s2,_⟩:=dW j F O;exact ⟨p1,p2,isT x,isT y,vs,us,rfl,s1,s2,U _ H1 x1 j (zQ B F)⟩
end
end
section
section
variable {X:Cx}
noncomputable def eK (xs:List D):List D:=xs.mapIdx fun i x => .tup [.int (i:Nat),x]
noncomputable def iA (ta:TEd):TId:=fun ρ M R=>ta ρ M fun x M1 => ∃ xs,av M1 x=some xs/\R (eK xs) (fun M=>av M x=some xs) M1
theorem rT {ta:TEd} (h:aa ta):bX (iA ta):=fun ρ M Q Q' i q=>h _ _ _ _ (fun x M1 ⟨ds,e,j⟩=>⟨ds,e,i _ _ _ j⟩) q
theorem zS {K:Frag} {H1:Hp} {x:D} {xs:List D} {a:Addr} (rx:RD K H1 x (.ref a)):fy K H1 (eK xs) (fun M=>av M x=some xs) (Ite K (isT x) a):=fun M H st rm c i=>by
 obtain ⟨p1,vs,F,j,B⟩:=dW rm (rx.mono st) c
 cases F
 have l1:=B.length;have lz:(eK xs).length=xs.length:=by simp [eK]
 refine ⟨fun hi=>⟨vs,j,by lia⟩,fun hi=>⟨⟨vs,vs[i]'(by lia),j,h6 (by lia)⟩,fun v H' G => ?_⟩⟩
 obtain ⟨p,v1,n,rfl,rfl,g⟩:=G;obtain ⟨d1,q,z⟩:=B.getV (g vs j);have sb:=ll (o := .tup [.int (i:Nat),v1]) n;refine ⟨.inr ⟨p,[.int (i:Nat),v1],n,rfl⟩, .tup [.int (i:Nat),d1], ?_,KO ⟨p,[.int (i:Nat),v1],rfl,ak,RDs.cons (Ky.mpr rfl) (RDs.cons (z.mono sb) RDs.nil)⟩⟩;simp [eK,I7,q]
theorem xK {elts:List Expr} {cx} {pos p pos':Pos} {a:Expr} {ta:TEd} (ma:aa ta) (B:Gl X "enumerate") (hm:X.mg "enumerate" = none) (F:PA X [a] (lA X.K (aH ta bw))) (hs:CF [a] X.env=[(false,eval a X.env)]) :
 PI X (.Tuple elts cx pos) (.Call (.Name "enumerate" p) [a] [] pos') (lI X.K (iA ta)):=by
 refine PI.imp (wX B hm F hs) fun σ H R h => ?_;obtain ⟨ρ,M,rs,rm,q⟩:=h;refine ⟨ρ,M,rs,rm,ma _ _ _ _ (fun x M1 ⟨xs,G,J⟩ vs H1 x1 j rd1 => ?_) q⟩;obtain ⟨v,rfl,z⟩:=rd1.one;obtain ⟨p1,us,rfl,s1,_⟩:=dW j z G;exact ⟨p1,isT x,us,rfl,s1,J _ H1 x1 j (zS z)⟩
end
end
section
noncomputable abbrev NC:=al->Mem->List D->Prop
noncomputable abbrev TCd:=al->Mem->List D->NC->Prop
def bP (T:TCd):Prop := ∀ ρ M acc N N',(∀ ρ' M' acc',N ρ' M' acc'->N' ρ' M' acc')->T ρ M acc N->T ρ M acc N'
structure ExtP (p:Addr) (M:Mem) (H:Hp) (M':Mem) (H':Hp):Prop where
 kp:∀ a o,a≠p->fz (M a)=true->H a=some o->H' a=some o
 nw:∀ a o,fz (M a)=true->H a=some o->M' a=M a
section
variable {K:Frag} {M M' M'':Mem} {H H' H'':Hp} {p:Addr}
theorem ExtP.new (x:ExtP p M H M' H') (a:Addr) (o:HO) (n:M a=none) (e:H a=some o):M' a=none:=(x.nw a o (by rw [n];rfl) e).trans n
theorem Ext.toP (x:Ext M H M' H'):ExtP p M H M' H':=⟨fun a o _=>x.kp a o,x.nw⟩
theorem ExtP.refl:ExtP p M H M H:=⟨fun _ _ _ _ h=>h,fun _ _ _ _=>rfl⟩
theorem ExtP.trans {vs:List V} (a:ExtP p M H M' H') (q:H p=some (.lst vs)) (j:∃ vs',H' p=some (.lst vs')) (b:ExtP p M' H' M'' H''):ExtP p M H M'' H'' :=
 ⟨fun c o ne n h=>b.kp c o ne (by rw [a.nw c o n h];exact n) (a.kp c o ne n h),fun c o n h=>by
   have n':fz (M' c)=true:=by rw [a.nw c o n h];exact n
   refine Eq.trans ?_ (a.nw c o n h)
   by_cases z:c=p
   ·subst z;obtain ⟨vs',e⟩:=j;exact b.nw c _ n' e
   ·exact b.nw c o n' (a.kp c o z n h)⟩
theorem ExtP.stab {vs:List V} (r:RM K M H) (j:H p=some (.lst vs)) (x:ExtP p M H M' H'):Stab H H' where
 tup:=fun a xs e=>x.kp a _ (fun z=>by subst z;rw [j] at e;cases e) (by rw [r.fzT e];rfl) e
 frz:=fun a o u e=>x.kp a _ (fun z=>by subst z;rw [j] at e;cases e) (r.fzF e) e
theorem lm {vs:List V} {ho:HO} (j:H p=some (.lst vs)):Stab H (upd H p ho) :=
 ⟨fun a xs e=>by rw [ae (fun z=>by subst z;rw [j] at e;cases e)];exact e,fun a o u e=>by rw [ae (fun z=>by subst z;rw [j] at e;cases e)];exact e⟩
theorem RM.side {vs:List V} {ho:HO} (r:RM K M H) (n:M p=none) (j:H p=some (.lst vs)):RM K M (upd H p ho):=fun a o e=>by
 have ne:a≠p:=fun z=>by subst z;rw [n] at e;cases e
 exact (r a o e).mono (lm j) fun B q=>by rw [ae ne];exact q
end
def gc (K:Frag) (H:Hp) (p:Addr) (acc:List D):Prop := ∃ vs,H p=some (.lst vs)/\RDs K H acc vs
noncomputable def KC (K:Frag) (p:Addr) (M:Mem) (H:Hp) (N:St->Hp->Prop):NC:=fun ρ' M' acc' => ∀ σ' H',ExtP p M H M' H'->RS K H' σ' ρ'->RM K M' H'->gc K H' p acc'->N σ' H'
noncomputable def lC (K:Frag) (p:Addr) (T:TCd):TC:=fun σ H N => ∃ ρ M acc,RS K H σ ρ /\ RM K M H/\M p=none/\gc K H p acc/\T ρ M acc (KC K p M H N)
theorem KC.ext {K:Frag} {p:Addr} {M M2 M':Mem} {H H2:Hp} {N:St->Hp->Prop} {ρ:al} {acc:List D} {vs:List V} (q:H p=some (.lst vs)) (j:∃ vs',H2 p=some (.lst vs')) (x:ExtP p M H M2 H2) (h:KC K p M H N ρ M' acc):KC K p M2 H2 N ρ M' acc :=
 fun σ' H' y=>h σ' H' (x.trans q j y)
noncomputable def ck (te:TEd):TCd:=fun ρ M acc N=>te ρ M fun x M1=>acc.length < hP/\N ρ M1 (acc++[x])
noncomputable def bc:List TTd->TCd->TCd
 | [],tb=>tb
 | t::r,tb=>fun ρ M acc N=>t ρ M fun b M1=>if b=true then bc r tb ρ M1 acc N else N ρ M1 acc
noncomputable def ba (b:BT) (tb:TCd) (chk:Mem->Prop) (N:NC):List D->NC
 | [] => fun ρ M acc=>chk M/\N ρ M acc
 | x::xs=>fun ρ M acc=>chk M /\ ∃ ρ',b x ρ = some ρ'/\tb ρ' M acc (ba b tb chk N xs)
noncomputable def cX (src:TId) (b:BT) (tb:TCd):TCd:=fun ρ M acc N=>src ρ M fun xs chk M1=>ba b tb chk N xs ρ M1 acc
noncomputable def gd (fr:List (Option Nat)) (src:TId) (b:BT) (tb:TCd):TEd:=fun ρ M Q=>src ρ M fun xs chk M1=>ba b tb chk (fun _ M' acc => ∀ p,M' p=none->Q (.ref p) (af M' p (.lst acc))) xs (j5 fr ρ) M1 []
theorem bq {te:TEd} (h:aa te):bP (ck te):=fun ρ M acc N N' i q=>h _ _ _ _ (fun x M1 ⟨z,j⟩=>⟨z,i _ _ _ j⟩) q
theorem aI {tb:TCd} (z:bP tb):∀ {ts:List TTd},(∀ t∈ts,ay t)->bP (bc ts tb)
 | [],_=>z
 | t::r,h=>fun ρ M acc N N' i q=>h t D5 _ _ _ _ (fun b M1 j=>by
   cases b with
   | true=>rw [if_pos rfl] at j ⊢;exact aI z (fun t' ht=>h t' (CM _ ht)) _ _ _ _ _ i j
   | false=>rw [if_neg hG] at j ⊢;exact i _ _ _ j) q
theorem fA {b:BT} {tb:TCd} (z:bP tb) {chk:Mem->Prop} {N N':NC} (i:∀ ρ' M' acc',N ρ' M' acc'->N' ρ' M' acc'):∀ (xs:List D) (ρ:al) (M:Mem) (acc:List D),ba b tb chk N xs ρ M acc->ba b tb chk N' xs ρ M acc
 | [], ρ,M,acc,h=>⟨h.1,i _ _ _ h.2⟩
 | x::xs, ρ,M,acc,⟨c, ρ',e,q⟩=>⟨c, ρ',e,z _ _ _ _ _ (fun ρ2 M2 j B=>fA z i xs ρ2 M2 j B) q⟩
theorem gB {src:TId} {b:BT} {tb:TCd} (hs:bX src) (j:bP tb):bP (cX src b tb):=fun ρ M acc N N' i q=>hs _ _ _ _ (fun xs c M1 z=>fA j i xs _ _ _ z) q
theorem jA {fr:List (Option Nat)} {src:TId} {b:BT} {tb:TCd} (hs:bX src) (j:bP tb):aa (gd fr src b tb):=fun ρ M Q Q' i q =>
 hs _ _ _ _ (fun xs c M1 z=>fA j (fun _ M' acc B p n=>i _ _ (B p n)) xs _ _ _ z) q
section
variable {K:Frag} {p:Addr}
theorem fB {te:TEd} (m:aa te) (σ:St) (H:Hp) (N:St->Hp->Prop) (h:lC K p (ck te) σ H N):vZ p (lE K te) σ H N:=by
 obtain ⟨ρ,M,acc,rs,rm,n,⟨vs,J,ra⟩,q⟩:=h;refine ⟨ρ,M,rs,rm,m _ _ _ _ (fun x M1 ⟨z,L⟩ v H1 x1 F G => ?_) q⟩;have j:=x1.keep p _ n J;have O:=x1.new p _ n J;have st:=x1.stab rm;have B:Stab H1 (upd H1 p (.lst (vs++[v]))):=lm j;refine ⟨vs,j,by rw [ra.length];exact z,L σ _ ⟨fun a o ne m' e => ?_,x1.nw⟩ ((rs.mono st).mono B) (F.side O j) ⟨vs++[v],ak,((ra.mono st).mono B).append (RDs.cons (G.mono B) RDs.nil)⟩⟩
 rw [ae ne];exact x1.kp a o m' e
theorem iB {tb:TCd} (mb:bP tb):∀ {ts:List TTd},(∀ t∈ts,ay t) -> ∀ (σ:St) (H:Hp) (N:St->Hp->Prop),lC K p (bc ts tb) σ H N->i7 (ts.map (lT K)) (lC K p tb) σ H N
 | [],_, σ,H,N,h=>h
 | t::r,hm, σ,H,N,h=>by
   obtain ⟨ρ,M,acc,rs,rm,n,⟨vs,F,ra⟩,q⟩:=h;refine ⟨ρ,M,rs,rm,hm t D5 _ _ _ _ (fun b M1 B H1 x1 z => ?_) q⟩;have j:=x1.keep p _ n F;have G:=x1.new p _ n F;have st:=x1.stab rm
   cases b with
   | false =>
     rw [if_neg hG] at B;dsimp only;rw [if_neg hG];exact B σ H1 x1.toP (rs.mono st) z ⟨vs,j,ra.mono st⟩
   | true =>
     rw [if_pos rfl] at B;dsimp only;rw [if_pos rfl];exact iB mb (fun t' ht=>hm t' (CM _ ht)) σ H1 N ⟨ρ,M1,acc,rs.mono st,z,G,⟨vs,j,ra.mono st⟩,
      aI mb (fun t' ht=>hm t' (CM _ ht)) _ _ _ _ _ (fun ρ' M' acc' k=>k.ext F ⟨vs,j⟩ x1.toP) B⟩
theorem jB {b:BT} {tb:TCd} (mb:bP tb) {xs:List D} {chk:Mem->Prop} {J:It} {H1:Hp} {M1:Mem} {Nd:NC} {N:St->Hp->Prop} {σ:St} {ρ:al} {acc:List D} (it:fy K H1 xs chk J) (rs:RS K H1 σ ρ) (rm:RM K M1 H1) (n:M1 p=none)
 (ac:gc K H1 p acc) (q:ba b tb chk Nd xs ρ M1 acc) (hN:∀ ρ' M' acc' σ' H',ExtP p M1 H1 M' H'->RS K H' σ' ρ'->RM K M' H'->gc K H' p acc'->Nd ρ' M' acc'->N σ' H') :
 fY J (lG K b) (lC K p tb) N σ H1:=by
 obtain ⟨BN,B,_⟩:=id ac;refine ⟨fun i m σ H=>m=xs.length - i/\i<=xs.length /\ ∃ ρ M acc,RS K H σ ρ /\ RM K M H/\M p=none/\gc K H p acc/\ExtP p M1 H1 M H/\ba b tb chk Nd (xs.drop i) ρ M acc,⟨xs.length,by simp,DH _, ρ,M1,acc,rs,rm,n,ac,ExtP.refl,q⟩, ?_⟩
 rintro i m σ H ⟨rfl,hi, ρ,M,acc,rs,j,n,ac,x,q⟩;have st:=x.stab rm B;obtain ⟨vs,Z,ra⟩:=id ac
 by_cases z:i < xs.length
 ·rw [Fd z] at q;obtain ⟨c, ρ',hb,q⟩:=q;obtain ⟨go,yl⟩:=(it M H st j c i).2 z;refine .inr ⟨go,fun σ' H' => ∃ m',m' < xs.length - i/\(m'=xs.length - (i+1)/\i+1<=xs.length /\ ∃ ρ M acc,RS K H' σ' ρ /\ RM K M H'/\M p=none/\gc K H' p acc/\ExtP p M1 H1 M H'/\ba b tb chk Nd (xs.drop (i+1)) ρ M acc),fun σ' H' h=>h,fun x' H' y => ?_⟩;obtain ⟨yy,d,hd,rd⟩:=yl x' H' y;rw [h6 z] at hd
  cases hd
  obtain ⟨xy,rmy⟩:=yy.ext j;have sty:=xy.stab j;have F:=xy.keep p _ n Z;refine ⟨_, ρ, ρ',rd,rs.mono sty,hb,fun σ2 L => ?_⟩;refine ⟨ρ',M,acc,L,rmy,n,⟨vs,F,ra.mono sty⟩,mb _ _ _ _ _ (fun ρ3 M3 G q3 σ3 H3 x3 O U Y => ?_) q⟩;have n3:M3 p=none:=x3.new p _ n F;exact ⟨xs.length - (i+1),by lia,rfl,z, ρ3,M3,G,O,U,n3,Y,(x.trans B ⟨vs,Z⟩ xy.toP).trans B ⟨vs,F⟩ x3,q3⟩
 ·have e:i=xs.length:=by lia
  subst e;rw [Hd] at q;exact .inl ⟨(it M H st j q.1 _).1 (q0 _),hN ρ M acc σ H x rs j ac q.2⟩
theorem gC {src:TId} {b:BT} {tb:TCd} (ms:bX src) (mb:bP tb) (σ:St) (H:Hp) (N:St->Hp->Prop) (h:lC K p (cX src b tb) σ H N):(lI K src) σ H fun J H1=>fY J (lG K b) (lC K p tb) N σ H1:=by
 obtain ⟨ρ,M,acc,rs,rm,n,⟨vs,z,ra⟩,q⟩:=h;refine ⟨ρ,M,rs,rm,ms _ _ _ _ (fun xs chk M1 F J H1 x1 B it => ?_) q⟩;have j:=x1.keep p _ n z;have G:=x1.new p _ n z;have st:=x1.stab rm;exact jB mb it (rs.mono st) B G ⟨vs,j,ra.mono st⟩ F fun ρ' M' acc' σ' H' x2 rs' rm' ac' k=>k σ' H' (x1.toP.trans z ⟨vs,j⟩ x2) rs' rm' ac'
theorem dB {fr:List (Option Nat)} {src:TId} {b:BT} {tb:TCd} (ms:bX src) (mb:bP tb) (σ:St) (H:Hp) (Q:VK) (h:lE K (gd fr src b tb) σ H Q):pE (lI K src) (lG K b) (fun p=>lC K p tb) fr σ H Q:=by
 obtain ⟨ρ,M,rs,rm,q⟩:=h;refine ⟨ρ,M,rs,rm,ms _ _ _ _ (fun xs chk M1 L J H1 x1 j it p n => ?_) q⟩;have st:=x1.stab rm;have xn:Ext M1 H1 M1 (upd H1 p (.lst [])):=KN n;have stn:=xn.stab j;have G:M1 p=none:=j.out n;refine jB (p:=p) mb (xs:=xs) (chk:=chk) (fun M' H' st'=>it M' H' ⟨fun a xs e=>st'.tup _ _ (stn.tup _ _ e),fun a o u e=>st'.frz _ _ _ (stn.frz _ _ _ e)⟩) (((rs.mono st).mono stn).inh fr) (j.new n) G ⟨[],ak,RDs.nil⟩ L fun ρ' M' acc' σ' H' F rs' rm' ac' k => ?_;obtain ⟨vs,O,ra⟩:=ac';have n':M' p=none:=F.new p _ G ak;refine k p n' (.ref p) H' ⟨fun a o m e => ?_,fun a o m e => ?_⟩ (fun a o e => ?_) (Kz.mpr rfl)
 ·have B:=x1.kp a o m e;have ne:a≠p:=fun z=>by subst z;rw [n] at B;cases B
  exact F.kp a o ne (by rw [x1.nw a o m e];exact m) (by rw [ae ne];exact B)
 ·have B:=x1.kp a o m e;have ne:a≠p:=fun z=>by subst z;rw [n] at B;cases B
  rw [aw ne];exact (F.nw a o (by rw [x1.nw a o m e];exact m) (by rw [ae ne];exact B)).trans (x1.nw a o m e)
 ·by_cases z:a=p
  ·subst z;rw [ad] at e;cases e;exact ⟨vs,O,ra⟩
  ·rw [aw z] at e;exact rm' a o e
end
end
section
noncomputable def gf:TSd:=fun D ρ M=>D.nx ρ M
noncomputable def ln (t u:TSd):TSd:=fun D ρ M=>t { D with nx:=u D } ρ M
noncomputable def fG:TSd:=fun D ρ M=>D.bk ρ M
noncomputable def iC:TSd:=fun D ρ M=>D.ct ρ M
noncomputable def iD (te:TEd):TSd:=fun D ρ M=>te ρ M fun _ M1=>D.nx ρ M1
noncomputable def lu (te:TEd):TSd:=fun D ρ M=>te ρ M D.rt
noncomputable def sIf (c:TTd) (t u:TSd):TSd:=fun D ρ M=>c ρ M fun b M1=>if b=true then t D ρ M1 else u D ρ M1
noncomputable def gK (te:TEd) (b:BT):TSd:=fun D ρ M=>te ρ M fun x M1 => ∃ ρ',b x ρ = some ρ'/\D.nx ρ' M1
noncomputable def lw (ta:TAd) (bs:BTs):TSd:=fun D ρ M=>ta ρ M fun xs M1 => ∃ ρ',bs xs ρ = some ρ'/\D.nx ρ' M1
noncomputable def bn (b:BT) (tb:TSd) (chk:Mem->Prop) (D:aZ):List Mi.D->al->Mem->Prop
 | [] => fun ρ M=>chk M/\D.nx ρ M
 | x::xs=>fun ρ M=>chk M /\ ∃ ρ',b x ρ = some ρ'/\tb { D with nx:=bn b tb chk D xs,ct:=bn b tb chk D xs,bk:=D.nx } ρ' M
noncomputable def lB (src:TId) (b:BT) (tb:TSd):TSd:=fun D ρ M=>src ρ M fun xs chk M1=>bn b tb chk D xs ρ M1
noncomputable def aY (c:TTd) (tb:TSd) (D:aZ):Nat->al->Mem->Prop
 | 0=>fun _ _=>False
 | n+1=>fun ρ M=>c ρ M fun b M1=>if b=true then tb { D with nx:=aY c tb D n,ct:=aY c tb D n,bk:=D.nx } ρ M1 else D.nx ρ M1
noncomputable def fH (c:TTd) (tb:TSd):TSd:=fun D ρ M => ∃ n,aY c tb D n ρ M
theorem LeD.refl (a:aZ):LeD a a:=⟨fun _ _ h=>h,fun _ _ h=>h,fun _ _ h=>h,fun _ _ h=>h⟩
theorem jC:az gf:=fun _ _ _ _ h q=>h.nx _ _ q
theorem pQ:az fG:=fun _ _ _ _ h q=>h.bk _ _ q
theorem rV:az iC:=fun _ _ _ _ h q=>h.ct _ _ q
theorem rW {t u:TSd} (ht:az t) (j:az u):az (ln t u):=fun a b ρ M h q=>ht { a with nx:=u a } { b with nx:=u b } _ _ ⟨fun ρ' M' q'=>j _ _ _ _ h q',h.rt,h.bk,h.ct⟩ q
theorem rX {te:TEd} (h:aa te):az (iD te):=fun a b ρ M i q=>h _ _ _ _ (fun _ M1 j=>i.nx _ _ j) q
theorem uM {te:TEd} (h:aa te):az (lu te):=fun a b ρ M i q=>h _ _ _ _ (fun d M1 j=>i.rt _ _ j) q
theorem uN {c:TTd} {t u:TSd} (z:ay c) (ht:az t) (B:az u):az (sIf c t u):=fun a b ρ M i q=>z _ _ _ _ (fun k M1 j=>by
 cases k with
 | true=>rw [if_pos rfl] at j ⊢;exact ht _ _ _ _ i j
 | false=>rw [if_neg hG] at j ⊢;exact B _ _ _ _ i j) q
theorem uO {te:TEd} {bt:BT} (h:aa te):az (gK te bt):=fun a b ρ M i q=>h _ _ _ _ (fun d M1 ⟨ρ',e,j⟩=>⟨ρ',e,i.nx _ _ j⟩) q
theorem uP {ta:TAd} {bs:BTs} (h:b9 ta):az (lw ta bs):=fun a b ρ M i q=>h _ _ _ _ (fun d M1 ⟨ρ',e,j⟩=>⟨ρ',e,i.nx _ _ j⟩) q
theorem fI {bt:BT} {tb:TSd} (j:az tb) {chk:Mem->Prop} {a b:aZ} (i:LeD a b):∀ (xs:List D) (ρ:al) (M:Mem),bn bt tb chk a xs ρ M->bn bt tb chk b xs ρ M
 | [], ρ,M,h=>⟨h.1,i.nx _ _ h.2⟩
 | x::xs, ρ,M,⟨c, ρ',e,q⟩=>⟨c, ρ',e,j { a with nx:=bn bt tb chk a xs,ct:=bn bt tb chk a xs,bk:=a.nx } { b with nx:=bn bt tb chk b xs,ct:=bn bt tb chk b xs,bk:=b.nx } _ _ ⟨fun ρ2 M2 z=>fI j i xs ρ2 M2 z,i.rt,i.nx,fun ρ2 M2 z=>fI j i xs ρ2 M2 z⟩ q⟩
theorem uQ {src:TId} {bt:BT} {tb:TSd} (hs:bX src) (j:az tb):az (lB src bt tb):=fun a b ρ M i q=>hs _ _ _ _ (fun xs c M1 z=>fI j i xs _ _ z) q
theorem dM {c:TTd} {tb:TSd} (q:ay c) (z:az tb) {a b:aZ} (i:LeD a b):∀ (n:Nat) (ρ:al) (M:Mem),aY c tb a n ρ M->aY c tb b n ρ M
 | 0, ρ,M,h=>h
 | n+1, ρ,M,h=>q _ _ _ _ (fun k M1 j=>by
   cases k with
   | true=>rw [if_pos rfl] at j ⊢;exact z { a with nx:=aY c tb a n,ct:=aY c tb a n,bk:=a.nx } { b with nx:=aY c tb b n,ct:=aY c tb b n,bk:=b.nx } _ _ ⟨fun ρ2 M2 B=>dM q z i n ρ2 M2 B,i.rt,i.nx,fun ρ2 M2 B=>dM q z i n ρ2 M2 B⟩ j
   | false=>rw [if_neg hG] at j ⊢;exact i.nx _ _ j) h
theorem pR {c:TTd} {tb:TSd} (j:ay c) (z:az tb):az (fH c tb):=fun a b ρ M i ⟨n,q⟩=>⟨n,dM j z i n _ _ q⟩
section
variable {K:Frag}
theorem jD (D:br) (σ:St) (H:Hp) (h:lS K gf D σ H):oU D σ H:=by
 obtain ⟨ρ,M,A,rs,rm,l,q⟩:=h;exact l.nx ρ M σ H Ext.refl rs rm q
theorem pS (D:br) (σ:St) (H:Hp) (h:lS K fG D σ H):qK D σ H:=by
 obtain ⟨ρ,M,A,rs,rm,l,q⟩:=h;exact l.bk ρ M σ H Ext.refl rs rm q
theorem rY (D:br) (σ:St) (H:Hp) (h:lS K iC D σ H):vN D σ H:=by
 obtain ⟨ρ,M,A,rs,rm,l,q⟩:=h;exact l.ct ρ M σ H Ext.refl rs rm q
theorem uR {t u:TSd} (mt:az t) (mu:az u) (D:br) (σ:St) (H:Hp) (h:lS K (ln t u) D σ H):yS (lS K t) (lS K u) D σ H:=by
 obtain ⟨ρ,M,A,rs,rm,l,q⟩:=h;exact ⟨ρ,M, { A with nx:=u A },rs,rm,⟨fun ρ' M' σ' H' x rs' rm' q'=>⟨ρ',M',A,rs',rm',l.ext x,q'⟩,l.rt,l.bk,l.ct⟩,q⟩
theorem rZ {te:TEd} (m:aa te) (D:br) (σ:St) (H:Hp) (h:lS K (iD te) D σ H):vO (lE K te) D σ H:=by
 obtain ⟨ρ,M,A,rs,rm,l,q⟩:=h;exact ⟨ρ,M,rs,rm,m _ _ _ _ (fun d M1 z v H1 x1 j B=>l.nx ρ M1 σ H1 x1 (rs.mono (x1.stab rm)) j z) q⟩
theorem uS {te:TEd} (m:aa te) (D:br) (σ:St) (H:Hp) (h:lS K (lu te) D σ H):yT (lE K te) D σ H:=by
 obtain ⟨ρ,M,A,rs,rm,l,q⟩:=h;exact ⟨ρ,M,rs,rm,m _ _ _ _ (fun d M1 B v H1 x1 j z=>l.rt d M1 v H1 x1 j z B) q⟩
theorem xL {c:TTd} {t u:TSd} (mc:ay c) (D:br) (σ:St) (H:Hp) (h:lS K (sIf c t u) D σ H):yU (lT K c) (lS K t) (lS K u) D σ H:=by
 obtain ⟨ρ,M,A,rs,rm,l,q⟩:=h;refine ⟨ρ,M,rs,rm,mc _ _ _ _ (fun k M1 z H1 x1 j => ?_) q⟩
 cases k with
 | true=>rw [if_pos rfl] at z ⊢;exact ⟨ρ,M1,A,rs.mono (x1.stab rm),j,l.ext x1,z⟩
 | false=>rw [if_neg hG] at z ⊢;exact ⟨ρ,M1,A,rs.mono (x1.stab rm),j,l.ext x1,z⟩
theorem uT {te:TEd} {b:BT} (m:aa te) (D:br) (σ:St) (H:Hp) (h:lS K (gK te b) D σ H):ki (lE K te) (lG K b) D σ H:=by
 obtain ⟨ρ,M,A,rs,rm,l,q⟩:=h;refine ⟨ρ,M,rs,rm,m _ _ _ _ (fun d M1 ⟨ρ',e,B⟩ v H1 x1 j z => ?_) q⟩;exact ⟨d, ρ, ρ',z,rs.mono (x1.stab rm),e,fun σ' rs'=>l.nx ρ' M1 σ' H1 x1 rs' j B⟩
theorem jE {te:TEd} {i:Nat} (m:aa te) (D:br) (σ:St) (H:Hp) (h:lS K (gK te (bC i)) D σ H):ki (lE K te) (fW i) D σ H:=by
 obtain ⟨ρ,M,A,rs,rm,l,q⟩:=h;refine ⟨ρ,M,rs,rm,m _ _ _ _ (fun d M1 ⟨ρ',e,j⟩ v H1 x1 rm1 rd1 => ?_) q⟩
 cases e
 exact l.nx _ M1 _ H1 x1 ((rs.mono (x1.stab rm)).set i rd1) rm1 j
theorem uU {src:TId} {b:BT} {tb:TSd} (ms:bX src) (mb:az tb) (D:br) (σ:St) (H:Hp) (h:lS K (lB src b tb) D σ H):yX (lI K src) (lG K b) (lS K tb) D σ H:=by
 obtain ⟨ρ,M,A,rs,rm,l,q⟩:=h;refine ⟨ρ,M,rs,rm,ms _ _ _ _ (fun xs chk M1 q1 J H1 x1 G it => ?_) q⟩;refine ⟨fun i m σ H'=>m=xs.length - i/\i<=xs.length /\ ∃ ρ M2,RS K H' σ ρ /\ RM K M2 H'/\Ext M1 H1 M2 H'/\bn b tb chk A (xs.drop i) ρ M2,⟨xs.length,by simp,DH _, ρ,M1,rs.mono (x1.stab rm),G,Ext.refl,q1⟩, ?_⟩
 rintro i m σ2 H2 ⟨rfl,hi, ρ2,M2,L,j,x2,O⟩;have U:=x2.stab G
 by_cases B:i < xs.length
 ·rw [Fd B] at O;obtain ⟨c, ρ',hb,q3⟩:=O;obtain ⟨go,yl⟩:=(it M2 H2 U j c i).2 B;refine .inr ⟨go,fun σ' H' => ∃ m',m' < xs.length - i/\(m'=xs.length - (i+1)/\i+1<=xs.length /\ ∃ ρ M,RS K H' σ' ρ /\ RM K M H'/\Ext M1 H1 M H'/\bn b tb chk A (xs.drop (i+1)) ρ M),fun σ' H' h=>h,fun x' H' y => ?_⟩;obtain ⟨yy,d,hd,rd⟩:=yl x' H' y;rw [h6 B] at hd
  cases hd
  obtain ⟨xy,rmy⟩:=yy.ext j;have Y:=x1.trans (x2.trans xy);refine ⟨_, ρ2, ρ',rd,L.mono (xy.stab j),hb,fun σ3 BN => ?_⟩;have nx:∀ ρ5 F σ5 z,Ext M2 H' F z->RS K z σ5 ρ5->RM K F z->bn b tb chk A (xs.drop (i+1)) ρ5 F -> ∃ m',m' < xs.length - i/\(m'=xs.length - (i+1)/\i+1<=xs.length /\ ∃ ρ M,RS K z σ5 ρ /\ RM K M z/\Ext M1 H1 M z/\bn b tb chk A (xs.drop (i+1)) ρ M) :=
   fun ρ5 F σ5 z Z BO BP q5=>⟨xs.length - (i+1),by lia,rfl,B, ρ5,F,BO,BP,(x2.trans xy).trans Z,q5⟩
  refine ⟨ρ',M2, { A with nx:=bn b tb chk A (xs.drop (i+1)),ct:=bn b tb chk A (xs.drop (i+1)),bk:=A.nx },BN,rmy,⟨nx,fun d F v z Z=>l.rt d F v z (Y.trans Z),fun ρ5 F σ5 z Z=>l.nx ρ5 F σ5 z (Y.trans Z),nx⟩,q3⟩
 ·have e:i=xs.length:=by lia
  subst e;rw [Hd] at O;exact .inl ⟨(it M2 H2 U j O.1 _).1 (q0 _),l.nx ρ2 M2 σ2 H2 (x1.trans x2) L j O.2⟩
theorem pT {c:TTd} {tb:TSd} (mc:ay c) (mb:az tb) (D:br) (σ:St) (H:Hp) (h:lS K (fH c tb) D σ H):qO (lT K c) (lS K tb) D σ H:=by
 obtain ⟨ρ,M,A,rs,rm,l,n,q⟩:=h;refine ⟨fun m σ' H' => ∃ ρ' M',RS K H' σ' ρ'/\RM K M' H'/\Ext M H M' H'/\aY c tb A m ρ' M',⟨n, ρ,M,rs,rm,Ext.refl,q⟩, ?_⟩;rintro m σ1 H1 ⟨ρ1,M1,J,L,x1,q1⟩
 cases m with
 | zero=>exact q1.elim
 | succ m =>
   refine ⟨ρ1,M1,J,L,mc _ _ _ _ (fun k M2 Z H2 x2 O => ?_) q1⟩;have j:=x1.trans x2;have U:=J.mono (x2.stab L)
   cases k with
   | false=>rw [if_neg hG] at Z;dsimp only;rw [if_neg hG];exact l.nx ρ1 M2 σ1 H2 j U O Z
   | true =>
     rw [if_pos rfl] at Z;dsimp only;rw [if_pos rfl];refine ⟨fun σ' H' => ∃ ρ' M',RS K H' σ' ρ'/\RM K M' H'/\Ext M H M' H'/\aY c tb A m ρ' M',fun σ' H' h=>⟨m,Nat.lt_succ_self m,h⟩, ρ1,M2, { A with nx:=aY c tb A m,ct:=aY c tb A m,bk:=A.nx },U,O,⟨?_,fun d z v Y B=>l.rt d z v Y (j.trans B),fun ρ5 z σ5 Y B=>l.nx ρ5 z σ5 Y (j.trans B), ?_⟩,Z⟩
     ·exact fun ρ5 z σ5 Y B F G q5=>⟨ρ5,z,F,G,j.trans B,q5⟩
     ·exact fun ρ5 z σ5 Y B F G q5=>⟨ρ5,z,F,G,j.trans B,q5⟩
end
noncomputable def dC:D->D->D->Mem->(Mem->Prop)->Prop:=fun o i v M Q => ∃ a,o = .ref a /\
 ((∃ xs k j,i = .int k/\M a=some (.lst xs)/\ixN xs.length k=some j/\Q (af M a (.lst (xs.set j v)))) ∨
  ∃ t kvs,M a=some (.dct t kvs)/\ii t i=true/\kvs.length < hP/\Q (af M a (.dct t (bY kvs i v))))
noncomputable def lD (te to ti:TEd):TSd:=fun D ρ M=>te ρ M fun v M1=>to ρ M1 fun o M2=>ti ρ M2 fun i M3=>dC o i v M3 fun M4=>D.nx ρ M4
theorem fJ {o i v:D} {M:Mem} {Q Q':Mem->Prop} (h:∀ M',Q M'->Q' M') (q:dC o i v M Q):dC o i v M Q':=by
 obtain ⟨a,e,⟨xs,k,j,z,B,F,q⟩ | ⟨t,kvs,z,B,F,q⟩⟩:=q
 ·exact ⟨a,e, .inl ⟨xs,k,j,z,B,F,h _ q⟩⟩
 ·exact ⟨a,e, .inr ⟨t,kvs,z,B,F,h _ q⟩⟩
theorem uW {te to ti:TEd} (he:aa te) (ho:aa to) (hi:aa ti):az (lD te to ti):=fun a b ρ M i q =>
 he _ _ _ _ (fun v M1 j=>ho _ _ _ _ (fun o M2 z=>hi _ _ _ _ (fun k F B=>fJ (fun M' q'=>i.nx _ _ q') B) z) j) q
section
variable {X:Cx} {K:Frag}
theorem lF (j:X.A.units+1 < Fi):PSet X (fun o i v H Q => ∃ a H',o = .ref a/\DPut H a i v H'/\Q H'):=by
 intro pins s σ H o i v ov iv u Q I ro ri rv h;obtain ⟨a,H',rfl,g,q⟩:=h
 cases ro
 exact rf j I g ri rv fun s' I'=>⟨H',I',q⟩
theorem PSet.or {t t':oV} (h:PSet X t) (h':PSet X t'):PSet X (fun o i v H Q=>t o i v H Q∨t' o i v H Q):=by
 intro pins s σ H o i v ov iv u Q I ro ri rv q
 rcases q with q | q
 ·exact h pins s σ H o i v ov iv u Q I ro ri rv q
 ·exact h' pins s σ H o i v ov iv u Q I ro ri rv q
section
variable {κ:Type} [DecidableEq κ] {H:Hp} {RK:D -> κ -> Prop} (inj:∀ {d e:D} {k : κ},RK d k->RK e k->d=e) (fn:∀ {d:D} {k k' : κ},RK d k->RK d k'->k=k')
include inj fn
theorem nZ {k:D} {q : κ} (j:RK k q):∀ {kvs:List (D×D)} {ps:List (κ × V)},CU (fun p r=>RK p.1 r.1/\RD K H p.2 r.2) kvs ps ->
 (kvs.any fun p=>decide (p.1=k))=(ps.any fun p=>decide (p.1=q))
 | _,_, .nil=>rfl
 | _,_, .cons (a:=p) (b:=r) hr t=>by
   rw [ER,ER,nZ j t];congr 1
   by_cases e:p.1=k
   ·have e':r.1=q:=by have h1:=hr.1;rw [e] at h1;exact fn h1 j
    rw [decide_eq_true e,decide_eq_true e']
   ·have e' : ¬ r.1=q:=fun z=>e (by have h1:=hr.1;rw [z] at h1;exact inj h1 j)
    rw [decide_eq_false e,decide_eq_false e']
theorem og {k:D} {q : κ} (j:RK k q) {d:D} {v:V} (B:RD K H d v):∀ {kvs:List (D×D)} {ps:List (κ × V)},CU (fun p r=>RK p.1 r.1/\RD K H p.2 r.2) kvs ps ->
 CU (fun p r=>RK p.1 r.1/\RD K H p.2 r.2) (kvs.map fun p=>if p.1=k then (p.1,d) else p) (ps.map fun p=>if p.1=q then (p.1,v) else p)
 | _,_, .nil => .nil
 | _,_, .cons (a:=p) (b:=r) hr t=>by
   refine .cons ?_ (og j B t)
   by_cases e:p.1=k
   ·have e':r.1=q:=by have h1:=hr.1;rw [e] at h1;exact fn h1 j
    dsimp only;rw [if_pos e,if_pos e'];exact ⟨hr.1,B⟩
   ·have e' : ¬ r.1=q:=fun z=>e (by have h1:=hr.1;rw [z] at h1;exact inj h1 j)
    dsimp only;rw [if_neg e,if_neg e'];exact hr
theorem gL {k:D} {q : κ} (j:RK k q) {d:D} {v:V} (z:RD K H d v) {kvs:List (D×D)} {ps:List (κ × V)} (r:CU (fun p r=>RK p.1 r.1/\RD K H p.2 r.2) kvs ps) :
 CU (fun p r=>RK p.1 r.1/\RD K H p.2 r.2) (bY kvs k d) (b5 ps q v):=by
 unfold bY b5;rw [nZ (K:=K) (H:=H) (RK:=RK) inj fn j r]
 by_cases e:(ps.any fun p=>decide (p.1=q))=true
 ·rw [if_pos e,if_pos e];exact og (RK:=RK) inj fn j z r
 ·rw [if_neg e,if_neg e];exact r.snoc ⟨j,z⟩
end
theorem gM {M:Mem} {H:Hp} {o i v:D} {ov iv vv:V} {Qd:Mem->Prop} {Q:Hp->Prop} (rm:RM K M H) (ro:RD K H o ov) (ri:RD K H i iv) (rv:RD K H v vv) (h:dC o i v M Qd) (O:∀ M' H',Ext M H M' H'->RM K M' H'->Qd M'->Q H') :
 vU ov iv vv H Q ∨ ∃ a H',ov = .ref a/\DPut H a iv vv H'/\Q H':=by
 obtain ⟨a,rfl,⟨xs,k,j,rfl,B,L,q⟩ | ⟨t,kvs,F,B,L,q⟩⟩:=h
 ·cases Kz.mp ro
  cases Ky.mp ri
  obtain ⟨vs,Z,rs⟩:=rm _ _ B;have st:Stab H (upd H a (.lst (vs.set j vv))):=rm.stabPut B;exact .inl ⟨a,vs,k,j,rfl,rfl,Z,by rw [rs.length];exact L,O _ _ (Ext.put B) (rm.put (o := .lst (xs.set j v)) B ⟨_,ak,(rs.set j rv).mono st⟩) q⟩
 ·cases Kz.mp ro
  have ro':=rm _ _ F
  cases t with
  | false =>
    obtain ⟨ps,U,pr⟩:=ro';obtain ⟨kq,J⟩:=kH (show eB i=true from B);have st:Stab H (upd H a (.dK (b5 ps kq vv))):=rm.stabPut F;have G:=gL (RK:=RKey) RKey.inj RKey.fun J rv pr;rw [ja J ri];refine .inr ⟨a,_,rfl,DPut.k U (by rw [<- Ek pr];exact L),O _ _ (Ext.put F) (rm.put (o := .dct false (bY kvs i v)) F ⟨_,ak,KG G fun _ _ z=>⟨z.1,z.2.mono st⟩⟩) q⟩
  | true =>
    obtain ⟨ps,U,pr⟩:=ro';obtain ⟨kq,J⟩:=j3 (show bK i=true from B);have st:Stab H (upd H a (.dT (b5 ps kq vv))):=rm.stabPut F;have G:=gL (RK:=RKeys) RKeys.inj RKeys.fun J rv pr
    cases i <;> first
     | exact J.elim
     | (obtain ⟨b,us,rfl,Y,ru⟩:=KU (j4 B) ri
        rw [eE J ru] at Y;exact .inr ⟨a,_,rfl,DPut.t U Y (by rw [<- Ek pr];exact L),O _ _ (Ext.put F) (rm.put (o := .dct true (bY kvs _ v)) F ⟨_,ak,KG G fun _ _ z=>⟨z.1,z.2.mono st⟩⟩) q⟩)
theorem zT {o i e:Expr} {te to ti:TEd} {pos tpos:Pos} (hu:X.A.units+1 < Fi) (me:aa te) (mo:aa to) (mi:aa ti) (he:PE X e (lE X.K te)) (ho:PE X o (lE X.K to)) (hi:PE X i (lE X.K ti))
 (hs:EO [.Subscript o i tpos] e pos.line X.env=pure false) (hw:DB [.Subscript o i tpos] e X.env=pure none)
 (ha:∀ v,assign (.Subscript o i tpos) X.env v=(do
   let ov <- holding [v] (eval o X.env)
   let iv <- holding [v,ov] (eval i X.env)
   FT tpos
   holding [v,ov,iv] (J1 ov iv v)
   release [v,ov,iv] [])):PS X (.Assign [.Subscript o i tpos] e pos) (lS X.K (lD te to ti)):=by
 refine PS.imp (kj he (kh ho hi (PSet.or ko (lF hu)) ha) hs hw rfl) fun D σ H h => ?_;obtain ⟨ρ,M,A,rs,rm,l,q⟩:=h;refine ⟨ρ,M,rs,rm,me _ _ _ _ (fun v M1 q1 vv H1 x1 j F => ?_) q⟩;refine ⟨ρ,M1,rs.mono (x1.stab rm),j,mo _ _ _ _ (fun ov M2 q2 vo H2 G z J => ?_) q1⟩;refine ⟨ρ,M2,(rs.mono (x1.stab rm)).mono (G.stab j),z,mi _ _ _ _ (fun iv M3 q3 vi H3 L O U => ?_) q2⟩;have B:=x1.trans (G.trans L);exact gM O (J.mono (L.stab z)) U ((F.mono (G.stab j)).mono (L.stab z)) q3 fun M' H' Z Y q4=>l.nx ρ M' σ H' (B.trans Z) (rs.mono ((B.trans Z).stab rm)) Y q4
end
end
end Mi
end L2
namespace L2
open PySem PySem.Spec PyProof.Rows
namespace Mi
variable {K:Frag}
theorem s9 {ta:TAd} {i j:Nat} (m:b9 ta) (D:br) (σ:St) (H:Hp) (h:lS K (lw ta (bO (bC i) (bO (bC j) fw))) D σ H):yV i j (lA K ta) D σ H:=by
 obtain ⟨ρ,M,A,rs,rm,l,q⟩:=h;refine ⟨ρ,M,rs,rm,m _ _ _ _ (fun ds M1 ⟨ρ',e,F⟩ vs H1 x1 B z => ?_) q⟩
 match ds,e,z with
 | [d1,d2],e,z =>
  obtain ⟨v,u,rfl,G,J⟩:=z.two;simp only [bO,bC,fw,Ex,Jq] at e;subst e;exact ⟨v,u,rfl,l.nx _ M1 _ H1 x1 (((rs.mono (x1.stab rm)).set i G).set j J) B F⟩
end Mi
end L2
namespace L2
open PySem PySem.Spec PyProof.Rows
namespace Mi
end Mi
end L2
namespace L2
namespace Mi
open PySem PySem.Spec PyProof.Rows
section
section
variable {X:Cx}
noncomputable def cB (r r':R2d) (ta tb tc:TEd):TEd:=fun ρ M Q=>ta ρ M fun x M1=>tb ρ M1 fun y M2=>r x y M2 fun z M3 => ∃ k,z = .bl k/\(if k=true then tc ρ M3 fun w M4=>r' y w M4 Q else Q (.bl false) M3)
theorem eL {r r':R2d} {ta tb tc:TEd} (hr:ax r) (B:ax r') (F:aa ta) (G:aa tb) (J:aa tc):aa (cB r r' ta tb tc):=fun ρ M Q Q' i q =>
 F _ _ _ _ (fun x M1 L=>G _ _ _ _ (fun y M2 O=>hr _ _ _ _ _ (fun z Y ⟨k,e,j⟩=>⟨k,e,by
  cases k with
  | true=>rw [if_pos rfl] at j ⊢;exact J _ _ _ _ (fun w Z U=>B _ _ _ _ _ i U) j
  | false=>rw [if_neg hG] at j ⊢;exact i _ _ j⟩) O) L) q
theorem iE {r r':R2d} {ta tb tc:TEd} (hr:ax r) (U:ax r') (ma:aa ta) (mb:aa tb) (mc:aa tc) (σ:St) (H:Hp) (Q:VK) (h:lE X.K (cB r r' ta tb tc) σ H Q):kl (l2 X.K r) (l2 X.K r') (lE X.K ta) (lE X.K tb) (lE X.K tc) σ H Q:=by
 obtain ⟨ρ,M,rs,rm,q⟩:=h;refine ⟨ρ,M,rs,rm,ma _ _ _ _ (fun x M1 q1 v H1 x1 j Y => ?_) q⟩;refine ⟨ρ,M1,rs.mono (x1.stab rm),j,mb _ _ _ _ (fun y M2 q2 w H2 J B G => ?_) q1⟩;refine ⟨x,y,M2,B,Y.mono (J.stab j),G,hr _ _ _ _ _ (fun z M3 ⟨k,e,L⟩ v3 H3 O F Z => ?_) q2⟩;subst e;refine ⟨k,KA.mp Z, ?_⟩
 cases k with
 | true =>
   rw [if_pos rfl] at L ⊢;refine ⟨ρ,M3,(((rs.mono (x1.stab rm)).mono (J.stab j)).mono (O.stab B)),F,mc _ _ _ _ (fun w4 M4 q4 v4 H4 x4 BN BO => ?_) L⟩;exact ⟨y,w4,M4,BN,(G.mono (O.stab B)).mono (x4.stab F),BO,U _ _ _ _ _ (fun d M5 k5=>k5.ext (((x1.trans J).trans O).trans x4)) q4⟩
 | false =>
   rw [if_neg hG] at L ⊢;exact L (.bl false) H3 ((x1.trans J).trans O) F (KA.mpr rfl)
noncomputable def lH:D->Option Bool
 | .bl b=>some b
 | .int i=>some (i != 0)
 | _=>none
noncomputable def pU:RAd:=fun xs M Q => ∃ x ds ts,xs=[x]/\av M x=some ds/\aF lH ds=some ts/\Q (.bl (ts.all id)) M
theorem lJ:aX pU:=fun _ _ _ _ h ⟨x,ds,ts,e,j,z,q⟩=>⟨x,ds,ts,e,j,z,h _ _ q⟩
theorem lK {α β:Type} {f : α -> Option β}:∀ {xs:List α} {ys:List β},aF f xs=some ys->ys.length=xs.length /\ ∀ (i:Nat) x,xs[i]? = some x -> ∃ y,ys[i]? = some y/\f x=some y
 | [],ys,h=>by cases h;exact ⟨rfl,fun i x e=>by simp at e⟩
 | x::xs,ys,h=>by
   simp only [aF] at h
   cases j:f x with
   | none=>rw [j] at h;cases h
   | some y =>
     rw [j] at h;simp only [Ex] at h
     cases e2:aF f xs with
     | none=>rw [e2] at h;cases h
     | some r =>
       rw [e2] at h;cases h;obtain ⟨l,g⟩:=lK e2;refine ⟨by simp [l],fun i z e => ?_⟩
       cases i with
       | zero=>simp at e;subst e;exact ⟨y,rfl,j⟩
       | succ i=>simp at e;simpa using g i z e
theorem xM {P:CG} {w:CT} {A:D1} {E:e6->h7->Prop} {s:h7} {K:Frag} {H:Hp} {d:D} {v:V} {u:e6} {b:Bool} {Q:Bool->h7->Prop} (e:lH d=some b) (rd:RD K H d v) (ru:RelV v u) (q:Q b s):CB (model P w) A (truthy u) Q E s:=by
 cases d with
 | bl c=>cases KA.mp rd;cases ru;cases e;exact Dv q
 | int i=>cases Ky.mp rd;obtain ⟨t,rfl⟩:=ru;cases e;exact PyProof.Rows.truthy_int q
 | _=>cases e
theorem range_all {ts:List Bool}:(CP ts.length).all (fun i=>ts.getD i false)=ts.all id/\(CP ts.length).any (fun i=>ts.getD i false)=ts.any id:=by
 have e:(CP ts.length).map (fun i=>ts.getD i false)=ts:=by
  apply List.ext_getElem
  ·simp
  ·intro i h1 h2;simp [F4,h6 h2]
 constructor
 ·conv=>rhs;rw [<- e]
  rw [List.all_map];rfl
 ·conv=>rhs;rw [<- e]
  rw [List.any_map];rfl
theorem uX (J:X.calm=true) {pins:List (Addr×Obj)} {s:h7} {σ:St} {H:Hp} {M:Mem} {x:D} {ds:List D} {ts:List Bool} {v:V} {u:e6} {Q:e6->h7->Prop} {g:List Bool->Bool} (I:Inv X pins σ H s) (rm:RM X.K M H) (rd:RD X.K H x v) (ru:RelV v u) (U:av M x=some ds) (Y:aF lH ds=some ts)
 (fin:∀ h' tk,Inv X pins σ H { s with heap:=h',toks:=tk }->Q (.bool (g ts)) { s with heap:=h',toks:=tk })
 (gg:Nat->(Nat->Bool)->Bool) (L:gg ts.length (fun i=>ts.getD i false)=g ts) :
 CB (model X.prog X.w) X.A.in1 (IK u) (fun it s₂ => ∃ I fp wr n P St tr,it = .ref I/\Walks X.prog X.w X.A.in1 I fp wr n P St/\St 0 s₂.heap/\TruthOf X.prog X.w X.A.in1 P tr /\
  ∀ h' tk,(∀ b o,b∉wr->s₂.heap.get? b=some o->h'.get? b=some o)->Q (.bool (gg n tr)) { s₂ with heap:=h',toks:=tk }) X.xe s:=by
 obtain ⟨p,vs,rfl,sq,O⟩:=rH rm rd U
 cases ru
 obtain ⟨lt,get⟩:=lK Y;have lv:=O.length;have tr:∀ (its:List e6),Vals vs its->TruthOf X.prog X.w X.A.in1 (fun i w=>its.toArray[i]? = some w) (fun i=>ts.getD i false):=by
  intro its rv i w s' Q' E' Z B;have q:its[i]? = some w:=by simpa using Z
  have li:=rv.length;have hi:i < its.length:=(CI.mp q).1;obtain ⟨d,hd⟩:∃ d,ds[i]? = some d:=⟨ds[i]'(by lia),h6 (by lia)⟩
  obtain ⟨v',F,rd'⟩:=O.get hd;obtain ⟨u',z,ru'⟩:=rv.get F;rw [q] at z;cases z;obtain ⟨b,hb,eb⟩:=get i d hd;have:ts.getD i false=b:=by rw [F4,hb];rfl
  have B:Q' (ts.getD i false) s':=B;rw [this] at B;exact xM eb rd' ru' B
 rcases sq with sq | sq
 ·obtain ⟨its,rv,pl,hz⟩:=I.list sq;have li:=rv.length;have j:p < s.heap.objs.size:=by obtain ⟨o,n,e,_⟩:=pl;exact tv e
  refine DZ pl.isList ⟨s.heap.objs.size,_,_,_,_,_,_,rfl,Walks.list (by rw [IW];exact I.ok.hd J) s.heap.objs.size p (CV j) its.toArray,⟨⟨_,hQ _ rfl,rfl,rfl⟩,pl.isList.at fun o e=>h8 _ e⟩,tr its rv,fun h' tk k => ?_⟩
  have G:its.toArray.size=ts.length:=by rw [t2];lia
  rw [G,L];exact fin h' tk (I.kept (t':=tk) fun b o e=>k b o (by simp;exact CV (tv e)) (h8 _ e))
 ·obtain ⟨its,rv,pl,hz⟩:=I.tuple sq;have li:=rv.length;have j:p < s.heap.objs.size:=by obtain ⟨o,e,_⟩:=pl;exact tv e
  have pt:s.heap.IsTuple p its.toArray:=pl;refine DA pt ⟨s.heap.objs.size,_,_,_,_,_,_,rfl,Walks.tuple (by rw [IW];exact I.ok.hd J) s.heap.objs.size p (CV j) its.toArray,⟨⟨_,hQ _ rfl,rfl,rfl⟩,pt.push _⟩,tr its rv,fun h' tk k => ?_⟩
  have G:its.toArray.size=ts.length:=by rw [t2];lia
  rw [G,L];exact fin h' tk (I.kept (t':=tk) fun b o e=>k b o (by simp;exact CV (tv e)) (h8 _ e))
theorem pV (j:X.calm=true):CallR X (.builtin "all") (lR X.K pU):=by
 intro pins s σ H xs us Q I rv h;obtain ⟨ds,M,rm,rs,x,es,ts,rfl,z,B,q⟩:=h;obtain ⟨v,rfl,r⟩:=rs.one;obtain ⟨u,rfl,ru⟩:=eh rv;exact call_all_walk (uX j I rm r ru z B (g:=fun ts=>ts.all id) (fun h' tk I'=>⟨.bl _,H,I',rfl,q _ H Ext.refl rm (KA.mpr rfl)⟩) (fun n tr=>(CP n).all tr) range_all.1)
noncomputable def iF (t:Bool):TEd:=fun _ M Q => ∀ p,M p=none->Q (.ref p) (af M p (.dct t []))
theorem sd {t:Bool}:aa (iF t):=fun _ _ _ _ i q p n=>i _ _ (q p n)
theorem xN {t:Bool} {pos:Pos}:PE X (.Dict [] [] pos) (lE X.K (iF t)):=by
 cases t with
 | false =>
   refine PE.imp u7 fun σ H Q ⟨ρ,M,rs,rm,q⟩ p n => ?_;exact q p (rm.out n) (.ref p) _ (Ext.lay n) (rm.lay n ⟨[],ak, .nil⟩) (Kz.mpr rfl)
 | true =>
   refine PE.imp u8 fun σ H Q ⟨ρ,M,rs,rm,q⟩ p n => ?_;exact q p (rm.out n) (.ref p) _ (Ext.lay n) (rm.lay n ⟨[],ak, .nil⟩) (Kz.mpr rfl)
theorem uY {op op':Iz} {r r':R2d} {a b c:Expr} {ta tb tc:TEd} {pos:Pos} (ho:OpR X (D2 op) (l2 X.K r)) (j:OpR X (D2 op') (l2 X.K r')) (hr:ax r) (q:ax r') (ma:aa ta) (mb:aa tb) (mc:aa tc) (z:PE X a (lE X.K ta)) (B:PE X b (lE X.K tb)) (F:PE X c (lE X.K tc)) (hm:GW [op,op'] [b,c]=false) :
 PE X (.Compare a [op,op'] [b,c] pos) (lE X.K (cB r r' ta tb tc)):=PE.imp (tP ho j z B F hm) (iE hr q ma mb mc)
theorem uZ {op op':Iz} {r r':R2d} {a b c:Expr} {ta tb tc:TEd} {pos:Pos} (ho:OpR X (D2 op) (l2 X.K r)) (q:OpR X (D2 op') (l2 X.K r')) (hr:ax r) (j:ax r') (ma:aa ta) (mb:aa tb) (mc:aa tc) (z:PE X a (lE X.K ta)) (B:PE X b (lE X.K tb)) (F:PE X c (lE X.K tc)) (hm:GW [op,op'] [b,c]=false) :
 PT X (.Compare a [op,op'] [b,c] pos) (lT X.K (eC (cB r r' ta tb tc))):=PT.imp (tQ ho q z B F hm) fun σ H Q h=>iE hr j ma mb mc σ H _ (kK (eL hr j ma mb mc) σ H Q h)
end
end
end Mi
end L2
namespace L2
namespace Srt
open PySem PySem.Spec PyProof.Rows
noncomputable def bey (lt:DJ->DJ->Bool) (left:Bool) (key x:DJ):Bool:=if left=true then lt x key else !(lt key x)
structure Same (st st':IY):Prop where
 arr:arrOf st'=arrOf st
 kind:ET st'=ET st
 pend:Im st'=Im st
 fail:Jr st'=Jr st
section
variable {prog:CG} {w:CT} {A:D1} {E:e6->h7->Prop} {s:h7} {kd:Kj} {P:DJ->Prop} {lt:DJ->DJ->Bool}
structure Gal (lt:DJ->DJ->Bool) (left:Bool) (key:DJ) (xs:List DJ) (lo hi:Nat):Prop where
 le:lo<=hi
 len:hi<=xs.length
 up:∀ i x,i < lo->xs[i]? = some x->bey lt left key x=true
 dn:∀ i x,hi<=i->xs[i]? = some x->bey lt left key x=false
theorem Gal.out {left:Bool} {key:DJ} {xs:List DJ} {k:Nat} (g:Gal lt left key xs k k):∃ X Y,xs=X++Y/\X.length=k/\(∀ x∈X,bey lt left key x=true)/\(∀ x∈Y,bey lt left key x=false):=by
 refine ⟨xs.take k,xs.drop k,(List.take_append_drop k xs).symm,by rw [DO];exact Nat.min_eq_left g.len,fun x hx => ?_,fun x hx => ?_⟩
 ·obtain ⟨i,hi,e⟩:=I8.mp hx;rw [DO] at hi;exact g.up i x (by lia) (by rw [List.getElem_take] at e;rw [<- e];exact h6 _)
 ·obtain ⟨i,hi,e⟩:=I8.mp hx;rw [FQ] at hi;refine g.dn (k+i) x (by lia) ?_
  rw [List.getElem_drop] at e;rw [<- e];exact h6 _
noncomputable abbrev Ord (lt:DJ->DJ->Bool) (l:List DJ):Prop:=l.Pairwise fun x y=>lt y x=false
structure ML (lt:DJ->DJ->Bool) (la lb out:List DJ) (ia ib:Nat):Prop where
 pa:Ord lt (out++la.drop ia)
 pb:Ord lt (out++lb.drop ib)
 pm:(out++(la.drop ia++lb.drop ib)).Perm (la++lb)
theorem ML.size {la lb out:List DJ} {ia ib:Nat} (m:ML lt la lb out ia ib) (j:ia<=la.length) (q:ib<=lb.length):out.length=ia+ib:=by
 have:=m.pm.length_eq;simp only [z4,FQ] at this;lia
theorem Same.refl {st:IY}:Same st st:=⟨rfl,rfl,rfl,rfl⟩
theorem Same.trans {a b c:IY} (h:Same a b) (g:Same b c):Same a c:=⟨g.arr.trans h.arr,g.kind.trans h.kind,g.pend.trans h.pend,g.fail.trans h.fail⟩
structure MH (lt:DJ->DJ->Bool) (la lb out:List DJ) (na nb:Nat):Prop where
 pa:Ord lt (la.take na++out.reverse)
 pb:Ord lt (lb.take nb++out.reverse)
 pm:(la.take na++lb.take nb++out.reverse).Perm (la++lb)
theorem MH.size {la lb out:List DJ} {na nb:Nat} (m:MH lt la lb out na nb) (j:na<=la.length) (q:nb<=lb.length):out.length+na+nb=la.length+lb.length:=by
 have:=m.pm.length_eq;simp only [z4,DO,List.length_reverse] at this;lia
end
end Srt
end L2
namespace L2
namespace Srt
open PySem PySem.Spec PyProof.Rows
section
variable {prog:CG} {w:CT} {A:D1} {E:e6->h7->Prop} {s:h7} {kd:Kj} {P:DJ->Prop} {lt:DJ->DJ->Bool}
structure Kp (st st':IY):Prop where
 kind:ET st'=ET st
 pend:Im st'=Im st
 fail:Jr st'=Jr st
theorem Kp.refl {st:IY}:Kp st st:=⟨rfl,rfl,rfl⟩
theorem Kp.trans {a b c:IY} (h:Kp a b) (g:Kp b c):Kp a c:=⟨g.kind.trans h.kind,g.pend.trans h.pend,g.fail.trans h.fail⟩
end
end Srt
end L2
namespace L2
namespace Srt
open PySem PySem.Spec PyProof.Rows
section
variable {prog:CG} {w:CT} {A:D1} {E:e6->h7->Prop} {s:h7} {kd:Kj} {P:DJ->Prop} {lt:DJ->DJ->Bool}
noncomputable def Pd:Nat->List (List DJ)->List (Nat×Nat×Nat)->Prop
 | _,[],ps=>ps=[]
 | s,r::rs,ps => ∃ p t,ps=(s,r.length,p)::t/\Pd (s+r.length) rs t
theorem Pd.length:∀ {l:List (List DJ)} {s:Nat} {ps:List (Nat×Nat×Nat)},Pd s l ps->ps.length=l.length
 | [],_,_,h=>by rw [show _=[] from h];rfl
 | r::l,s,ps,h=>by
   obtain ⟨p,q,e,h⟩:=h;rw [e];simp [h.length]
structure Rn (lt:DJ->DJ->Bool) (kd:Kj) (a₀:List DJ) (st:IY) (rs:List (List DJ)) (R:List DJ):Prop where
 arr:(arrOf st).toList=rs.flatten++R
 perm:(rs.flatten++R).Perm a₀
 ord:∀ r∈rs,r≠[]/\Ord lt r
 pend:Pd 0 rs (Im st).toList
 kind:ET st=kd
 fail:Jr st=none
theorem Rn.size {a₀:List DJ} {st:IY} {rs:List (List DJ)} {R:List DJ} (h:Rn lt kd a₀ st rs R):rs.flatten.length+R.length=a₀.length:=by
 have:=h.perm.length_eq;rw [z4] at this;exact this
end
end Srt
end L2
namespace L2
namespace Srt
open PySem PySem.Spec PyProof.Rows
end Srt
end L2
namespace L2
namespace Srt
open PySem PySem.Spec PyProof.Rows
end Srt
end L2
namespace L2
namespace Srt
open PySem PySem.Spec PyProof.Rows
end Srt
end L2
namespace L2
namespace Srt
open PySem PySem.Spec PyProof.Rows
end Srt
end L2
namespace L2
namespace Srt
open PySem PySem.Spec PyProof.Rows
end Srt
end L2
namespace L2
namespace It
open PySem PySem.Spec PyProof.Rows
end It
end L2
namespace L2
namespace It
open PySem PySem.Spec PyProof.Rows
end It
end L2
namespace L2
namespace It
open PySem PySem.Spec PyProof.Rows
end It
end L2
namespace L2
open PySem PySem.Spec PyProof.Rows
section
section
variable {P:CG} {w:CT} {H:Hp} {h:Heap} {a:Addr} {o:HO}
theorem ObjOk.there (x:ObjOk P w H h a o):∃ ob,h.get? a=some ob:=by
 cases o with
 | lst xs=>obtain ⟨_,_,_,_,e⟩:=x;exact ⟨_,e⟩
 | tup xs=>obtain ⟨_,_,_,_,e,_⟩:=x;exact ⟨_,e⟩
 | dK kvs=>obtain ⟨_,_,_,_,o,_,_,e,_⟩:=x;exact ⟨_,e⟩
 | dT kvs=>obtain ⟨_,_,_,_,o,_,_,e,_⟩:=x;exact ⟨_,e⟩
 | set S n=>obtain ⟨o,_,_,_,e,_⟩:=x;exact ⟨_,e⟩
 | ins C dx fs=>obtain ⟨_,_,_,e,_⟩:=x;exact ⟨_,e⟩
 | own y=>obtain ⟨_,e⟩:=x;exact ⟨_,e⟩
 | xd fs=>obtain ⟨_,⟨_,_,_,e,_⟩,_⟩:=x;exact ⟨_,e⟩
 | rng lo hi=>obtain ⟨_,_,_,e⟩:=x;exact ⟨_,e⟩
 | frz ob u=>obtain ⟨e,_⟩:=x;exact ⟨_,e⟩
 | tbl ps=>exact ⟨_,show h.get? a=some _ from x⟩
 | met f y=>exact ⟨_,show h.get? a=some _ from x⟩
 | ext φ => obtain ⟨_,⟨_,e⟩,_⟩:=x;exact ⟨_,e⟩
end
namespace Mi
open L2.Srt
end Mi
end
end L2
namespace L2
namespace Mi
open PySem PySem.Spec PyProof.Rows L2.Srt
def v6 (K:Frag) (H:Hp) (kv:D×D) (e:F8):Prop := ∃ kV vV,RD K H kv.1 kV/\RelV kV e.key/\RD K H kv.2 vV/\RelV vV e.val
theorem xO {K:Frag} {H:Hp} {d:D} {k:Key} (h:RKey d k):RD K H d (kV k):=by
 cases d <;> first
  | exact h.elim
  | (cases h;first | exact Ky.mpr rfl | exact KL.mpr rfl)
theorem jF {K:Frag} {H:Hp}:∀ {ds:List D} {ks:List Key},CU RKey ds ks->RDs K H ds (ks.map kV)
 | _,_, .nil=>RDs.nil
 | _,_, .cons r t=>RDs.cons (xO r) (jF t)
theorem wa {P:CG} {w:CT} {K:Frag} {H:Hp}:∀ {kvs:List (D×D)} {ps:List (List Key×V)} {xs:List (List Key×Addr×e6)},CU (fun (p:D×D) (q:List Key×V)=>RKeys p.1 q.1/\RD K H p.2 q.2) kvs ps->CU (fun (p:List Key×V) (q:List Key×Addr×e6)=>p.1=q.1/\H q.2.1=some (.tup (p.1.map kV))/\RelV p.2 q.2.2) ps xs->CU (v6 K H) kvs (xs.map (entryOfKey (Fu (aE P w))))
 | _,_,_, .nil, .nil => .nil
 | kv::_,_,_, .cons z t1, .cons B F=>by
   refine .cons ?_ (wa t1 F);obtain ⟨d,v⟩:=kv;have j:=z.1
   cases d <;> first
    | exact j.elim
    | exact ⟨.ref _,_,KO ⟨_,_,rfl,B.2.1,jF j⟩,rfl,z.2,B.2.2⟩
theorem be {α β:Type} {R : α -> β -> Prop}:∀ {l:List α} {m:List β},CU R l m->l.length=m.length
 | _,_, .nil=>rfl
 | _,_, .cons _ t=>by simp [be t]
section
variable {X:Cx}
theorem se {H:Hp} {h:Heap} {P:CG} {w:CT} {K:Frag} {a:Addr} {ps:List (List Key×V)} {kvs:List (D×D)} (ok:ObjOk P w H h a (.dT ps)) (pr:CU (fun (p:D×D) (q:List Key×V)=>RKeys p.1 q.1/\RD K H p.2 q.2) kvs ps) :
 ∃ cd dd sl es ep,h.get? a=some { cls:=cd,dict:=dd,data := .dict es ep,slots:=sl }/\es.size<=hP/\CU (v6 K H) kvs es.toList:=by
 obtain ⟨G,B,xs,j,o,es,ep,h1,h2,z,F,J⟩:=ok;obtain ⟨cd,dd,dat,sl⟩:=o;dsimp only at z;subst z;have pp:=wa (P:=P) (w:=w) pr j;rw [<- F] at pp;refine ⟨cd,dd,sl,es,ep,h1, ?_,pp⟩;have:=be pp;have:=be pr;simp at *;lia
end
section
noncomputable def iG (to tk tx:TEd):TEd:=fun ρ M Q=>to ρ M fun x M1 => ∃ a t kvs,x = .ref a/\M1 a=some (.dct t kvs)/\tk ρ M1 fun k M2=>tx ρ M2 fun z M3 => ∃ t' kvs',M3 a=some (.dct t' kvs')/\ii t' k=true/\Q ((dget kvs' k).getD z) M3
theorem sf {to tk tx:TEd} (h1:aa to) (h2:aa tk) (j:aa tx):aa (iG to tk tx):=fun ρ M Q Q' i q=>h1 _ _ _ _ (fun x M1 ⟨a,t,kvs,e,B,F⟩=>⟨a,t,kvs,e,B,h2 _ _ _ _ (fun k M2 G=>j _ _ _ _ (fun z O ⟨t',kvs',J,ok,L⟩=>⟨t',kvs',J,ok,i _ _ L⟩) G) F⟩) q
section
variable {X:Cx}
theorem zU {K:Frag} {M:Mem} {H:Hp} (rm:RM K M H) {a:Addr} {t:Bool} {kvs:List (D×D)} (e:M a=some (.dct t kvs)):IsD H a:=by
 have ro:=rm a _ e
 cases t with
 | false=>obtain ⟨ps,j,_⟩:=ro;exact .inl ⟨_,Rd.of j⟩
 | true=>obtain ⟨ps,j,_⟩:=ro;exact .inr ⟨_,Rd.of j⟩
theorem xP {o e f:Expr} {to tk tx:TEd} {apos cpos:Pos} (U:X.A.units+1 < Fi) (mo:aa to) (mk:aa tk) (mx:aa tx) (ho:PE X o (lE X.K to)) (he:PE X e (lE X.K tk)) (hf:PE X f (lE X.K tx)) (m:M2 X o "get" apos e f cpos) :
 PE X (.Call (.Attribute o "get" apos) [e,f] [] cpos) (lE X.K (iG to tk tx)):=by
 refine PE.imp (u9 U ho he hf m) fun σ H Q h => ?_;obtain ⟨ρ,M,rs,rm,q⟩:=h;refine ⟨ρ,M,rs,rm,mo _ _ _ _ (fun x M1 ⟨a,t,kvs,e,Y,Z⟩ v H1 x1 j rd1 => ?_) q⟩;subst e
 cases Kz.mp rd1
 have B:=rs.mono (x1.stab rm);refine ⟨a,rfl,zU j Y, ρ,M1,B,j,mk _ _ _ _ (fun k M2 q2 v2 H2 L F G => ?_) Z⟩;have J:=B.mono (L.stab j);refine ⟨ρ,M2,J,F,mx _ _ _ _ (fun z M3 ⟨t',kvs',e3,ok,q3⟩ v3 H3 O rm3 rd3 => ?_) q2⟩;obtain ⟨w,g,g1,g2⟩:=nV rm3 e3 ok (G.mono (O.stab F));refine ⟨w,g, ?_⟩;refine q3 _ H3 (x1.trans (L.trans O)) rm3 ?_
 cases e4:dget kvs' k with
 | none=>rw [g2 e4];exact rd3
 | some d =>
   obtain ⟨w',e5,r5⟩:=g1 d e4;rw [e5];exact r5
end
end
end Mi
end L2
namespace L2
open PySem PySem.Spec PyProof.Rows
namespace Mi
end Mi
end L2
namespace L2
open PySem PySem.Spec PyProof.Rows
namespace Mi
end Mi
end L2
namespace L2
open PySem PySem.Spec PyProof.Rows
namespace Mi
end Mi
end L2
namespace L2
open PySem PySem.Spec PyProof.Rows
section
section
variable {prog:CG} {w:CT} {A:D1} {E:e6->h7->Prop} {s:h7}
theorem xQ:typeLookup (.type "list") "keys" = pure none:=by rw [typeLookup_type,HJ];kernel_rfl
theorem xR {l:Addr} {o:Obj} {xs:Array e6} {k:Nat} {Q:Option e6->h7->Prop} (B:A.handled=none) (ho:s.heap.get? l=some o) (z:o.cls = .type "list") (hd:o.data = .seq xs k) (j:o.dict=none)
 (q:∀ h' tk,(∀ b o,s.heap.get? b=some o->h'.get? b=some o)->Q none { s with heap:=h',toks:=tk }):CB (model prog w) A (getAttr? (.ref l) "keys") Q E s:=by
 have ty:s.TypeIs (.ref l) "list" := ⟨_,ho,z⟩;unfold getAttr?;unfold mkText;refine b0 ?_;refine b0 (wpAny_fresh ?_);refine hh ?_;unfold getAttrBy?;refine b0 (E5 ?_);unfold getAttrBy;refine De ?_;refine b0 (F6 (s := { s with toks:=s.toks+1 }) ty ?_)
 refine b0 (FX F.slot_list_getattribute.lookup ?_);refine HE (by decide) ?_
 unfold HC hookBefore;rw [if_neg (by decide)]
 refine b0 (hh ?_);refine b0 (E5 (De ?_));unfold callGetattribute boundAndCalled;rw [if_neg (by decide)]
 refine b0 (FX (F.slot_list_getattribute.bind _) ?_);dsimp only;obtain ⟨cls,dd,dat,sl⟩:=o;dsimp only at z hd j;subst z hd j;refine Jj F.slot_list_getattribute (s := { s with toks:=s.toks+1 }) ty am_entry_list_getattribute (F.args_list_getattribute_2 _ _) ((meets_getattribute_miss_list l xs k sl "keys" s.toks xQ (by decide) (by decide)).inModel prog w) ⟨ho,B,fun h' tk a ne => ?_⟩
 ·have ne:s.heap.NewAttrErr h' a (.ref l) "keys" := ne;obtain ⟨t,u,he⟩:=ne.there;unfold getattributeRaised;refine b0 (Ew (T := "AttributeError") (b:=true) ⟨_,he,rfl⟩ (by rw [I9];kernel_rfl) ?_)
  rw [if_pos rfl];unfold hookBehind;rw [if_neg (by decide)]
  refine b0 (FX am_list_getattr_none ?_);unfold hookOrError attributeErrorLeaves;dsimp only;rw [if_pos (by decide)]
  refine b0 (JU ?_);refine b0 (Ew (T := "AttributeError") (b:=true) ⟨_,he,rfl⟩ (by rw [I9];kernel_rfl) ?_)
  rw [if_pos rfl];exact hh (q h' tk ne.keeps)
end
end
section
theorem lL:entryFor table "dict.update.loop" = some EH.«dict.update.loop» := JI (by kernel_rfl)
theorem lM:plainId "dict.update.loop" = true:=by decide +kernel
section
variable {X:Cx} {pins:List (Addr×Obj)} {σ:St} {H:Hp}
def PrV (H:Hp) (v:V) (kv:List Key×V):Prop := ∃ t b,v = .ref t/\H t=some (.tup [.ref b,kv.2])/\H b=some (.tup (kv.1.map kV))
noncomputable abbrev bH (kvs:List (List Key×V)):List (List Key×V):=kvs.foldl (fun a kv=>b5 a kv.1 kv.2) []
theorem pW (kvs:List (List Key×V)):(bH kvs).length<=kvs.length:=by
 have g:∀ (r:List (List Key×V)) (a:List (List Key×V)),(r.foldl (fun a kv=>b5 a kv.1 kv.2) a).length<=a.length+r.length:=by
  intro r
  induction r with
  | nil=>intro a;simp
  | cons x r ih =>
    intro a;have h1:=ih (b5 a x.1 x.2);have h2:=cA a x.1 x.2;simp only [G3,D4];lia
 have:=g kvs [];simpa using this
theorem iH {α β:Type} {R : α -> β -> Prop}:∀ {l:List α} {m:List β} {i:Nat} {x : α},CU R l m->l[i]? = some x -> ∃ y,m[i]? = some y/\R x y
 | _,_,_,_, .nil,e=>by simp at e
 | _,_,0,_, .cons r _,e=>by simp at e;subst e;exact ⟨_,rfl,r⟩
 | _,_,i+1,x, .cons _ t,e=>by
   simp at e;obtain ⟨y,h1,h2⟩:=iH t e;exact ⟨y,by simpa using h1,h2⟩
theorem xS {A:D1} (hu:A.units+1 < Fi) (hn:A.handled=none) {l it p:Addr} {vs:List V} {kvs:List (List Key×V)} (Z:H p=none) (Y:H l=some (.lst vs)) (G:CU (PrV H) vs kvs) (hz:vs.length < hP) {R:Result->h7->Prop} (hf:bS X pins H it) (j:it≠p) :
 ∀ (k i:Nat) (s:h7),vs.length - i=k->i<=vs.length->Inv X pins σ (upd H p (.dT (bH (kvs.take i)))) s->s.heap.IsListIter it l i ->
  (∀ s',Inv X pins σ (upd H p (.dT (bH kvs))) s'->R (.ok (.ret .none)) s') ->
  Gd (model X.prog X.w) A (.builtin "dict.update.loop" ⟨[.ref p, .ref it,EC i, .none],[]⟩) R s:=by
 have J:l≠p:=fun z=>by rw [z,Z] at Y;cases Y
 have hlen:vs.length=kvs.length:=Ek G;obtain ⟨f0,f1,f2,f3,f4,f5⟩:=hf;intro k
 induction k with
 | zero =>
   intro i s hk hi I st q;have BN:i=vs.length:=by lia
   obtain ⟨its,rv,pl,_⟩:=I.list (SqL.of (K:=X.K) ((ae J).trans Y));refine codeAny_builtin lL ?_;unfold EH.«dict.update.loop»;dsimp only;refine b0 (HG hn st pl.isList (by have:=rv.length;simp;lia) fun h' eb => ?_)
   refine b0 ?_;unfold Builtin.Dict.addKeywords;refine b0 ?_;have B:=I.turned (t':=s.toks) (h':=h') (fun b o F e=>eb b o F e) ((ae j).trans f0) f1 f3 f4 f5;rw [BN,hlen,List.take_length] at B;exact hh (hh (hh (q _ B)))
 | succ k ih =>
   intro i s hk hi I st q;have L:i < vs.length:=by lia
   obtain ⟨its,rv,pl,_⟩:=I.list (SqL.of (K:=X.K) ((ae J).trans Y));obtain ⟨u,BO,ru⟩:=rv.get (h6 L);obtain ⟨kv,BP,t,b,hv,ht,F⟩:=iH G (h6 L);rw [hv] at ru
   cases (show u=CO t from ru)
   refine codeAny_builtin lL ?_;rw [Around.under_plain (by rfl) (by rfl)]
   unfold EH.«dict.update.loop»;dsimp only;refine b0 (Hj st pl.isList (x := .ref t) (by simpa using BO) fun h' st' sb => ?_)
   have B:=I.turned (t':=s.toks) (h':=h') (fun b o F e=>(sb.2 b F).trans e) ((ae j).trans f0) f1 f3 f4 f5;dsimp only;have BQ:t≠p:=fun z=>by rw [z,Z] at ht;cases ht
   have BR:b≠p:=fun z=>by rw [z,Z] at F;cases F
   obtain ⟨tits,rt,tt,_⟩:=B.tuple (SqT.of (K:=X.K) ((ae BQ).trans ht));obtain ⟨ob,O,BS,nt,BU⟩:=id tt
   cases rt with
   | cons r1 rt =>
     cases rt with
     | cons r2 rt =>
       cases rt
       cases (show _=CO b from r1)
       rename_i uv;refine b0 (De ?_);refine b0 (wpAny_tryCatch ?_);unfold Builtin.Dict.pairItems;refine b0 (F6 (T := "tuple") (s := { s with heap:=h' }) ⟨ob,O,BS⟩ ?_)
       rw [if_pos (by decide)]
       refine b0 (DV (s := { s with heap:=h' }) O BU ?_)
       refine hh ?_;refine De ?_;obtain ⟨z,hd,xs,rel,dd⟩:=vY (a:=p) B.hok ak;have BV:xs.length<=hP:=by rw [<- Ek rel];exact z
       have U:upd H p (.dT (bH (kvs.take i))) b=some (.tup (kv.1.map kV)):=(ae BR).trans F;have BW:(b5 (bH (kvs.take i)) kv.1 kv.2).length<=hP:=by
        have h1:=cA (bH (kvs.take i)) kv.1 kv.2;have h2:=pW (kvs.take i);rw [DO] at h2;lia
       have etk:b5 (bH (kvs.take i)) kv.1 kv.2=bH (kvs.take (i+1)):=by
        unfold bH;rw [List.take_succ,BP,List.foldl_append];rfl
       refine wpAny_dictSet_heap (hsz:=BV) (knd:=Fu (aE X.prog X.w)) (EG hu) (fq B.hok U) dd fun h2 dd' hs => ?_;obtain ⟨q',es,ep,hq,g2,g3,g4,_,g5⟩:=dd';have I2:=iX (t':=s.toks+(Fu (aE X.prog X.w)).draws kv.1) B (a:=p) (ob := .dT (b5 (bH (kvs.take i)) kv.1 kv.2)) (by rw [ak];exact Dy) hs ⟨q',hq⟩ ⟨BW,hd,_,(rel.put kv.1 U r2).keeps fun c ys ec => ?_,q',es,ep,hq,g2,g3,g4,g5⟩
       ·rw [wz,etk] at I2;refine hh ⟨plainId_quiet lM _,ih (i+1) _ (by lia) (by lia) I2 ?_ q⟩
        exact st'.at fun o e=>(hs.2 it j).trans e
       ·rw [ae (vL ec ak (fun z=>nomatch z))];exact ec
end
section
variable {X:Cx}
theorem iI (hu:X.A.units+16 < Fi) (hc:X.calm=true):CallR X (.type "dict") (fun xs H Q => ∃ l vs kvs,xs=[V.ref l]/\H l=some (.lst vs)/\CU (PrV H) vs kvs/\vs.length < hP /\ ∀ p,H p=none->Q (.ref p) (upd H p (.dT (bH kvs)))):=by
 intro pins s σ H xs us Q I r h;obtain ⟨l,vs,kvs,rfl,J,L,hz,q⟩:=h
 cases r with
 | cons r1 rr =>
 cases rr
 cases (show _=CO l from r1)
 have Z:=I.ok.hd hc;have O:H s.heap.objs.size=none:=I.hok.fresh (q0 _);have I1:=I.laid (a:=s.heap.objs.size) (o := .dT []) (t':=s.toks) (fun _ _ q=>h8 _ q) (q0 _) (kx s.heap I.big);have U:l≠s.heap.objs.size:=fun z=>by rw [z,O] at J;cases J
 refine callType_codes (Q₁ := fun obj s₁ => obj = .ref s.heap.objs.size/\s₁ = { s with heap:=s.heap.push { cls := .type "dict",data := .dict #[] } }) F.kt_called_dict (F.kt_typeCall_dict_1 _) F.entry_dict_init (kt_code_dict_new _ ⟨rfl,rfl⟩) fun obj s₁ h₁ => ?_
 obtain ⟨rfl,rfl⟩:=h₁;refine ⟨⟨_,hQ _ rfl,rfl⟩,F.args_dict_init_2 _ _, ?_⟩;unfold EH.«dict.__init__»;refine b0 ?_;unfold Builtin.Dict.selfAndRest;unfold Builtin.Dict.notOrdered;rw [if_pos (by decide)]
 have tyd:Shared.TypeIs { s with heap:=s.heap.push { cls := .type "dict",data := .dict #[] } } (.ref s.heap.objs.size) "dict" := ⟨_,hQ _ rfl,rfl⟩
 refine b0 (b0 (F6 tyd ?_));rw [if_neg (by decide)]
 refine hh ?_;refine b0 (hh (hh ?_));unfold Builtin.Dict.updateCommon Builtin.Dict.updateFrom;dsimp only;obtain ⟨its,rv,pl,_⟩:=I1.list (SqL.of (K:=X.K) ((ae U).trans J));have il:=pl.isList;refine b0 (F6 il.typeIs ?_);rw [if_pos (by decide)]
 obtain ⟨ob,nn,e1,j,B,G⟩:=id pl;refine b0 (xR Z e1 j G B fun h1 tk kp => ?_);rw [if_pos (show (none:Option e6).isNone=true from rfl)];refine b0 (EB ?_);have Y:=I1.kept (t':=tk) kp;refine b0 (DZ (s := { s with heap:=h1,toks:=tk }) (PlainL.isList (⟨ob,nn,kp _ _ e1,j,B,G⟩)) ?_)
 have I3:=Y.kept (t':=tk) (h':=h1.push { cls := .type "list_iterator",data := .fields #[.ref l, .int 0 0] }) fun b o e=>h8 _ e;refine hh ⟨plainId_quiet lM _, ?_⟩;have hle:s.heap.objs.size < h1.objs.size:=tv (kp _ _ (hQ _ rfl));have hf:bS X pins H h1.objs.size:=by
  have:=Y.fpOk (H':=upd H s.heap.objs.size (.dT [])) (q0 _) (Y.hok.fresh (q0 _));exact ⟨by rw [<- this.1,ae (E3 hle)],this.2⟩
 refine xS (A:=X.A.in1) (X:=X) (pins:=pins) (σ := σ) (H:=H) (p:=s.heap.objs.size) (kvs:=kvs) (by have:X.A.in1.units=X.A.units+1:=rfl;lia) Z O J L hz hf (E3 hle) vs.length 0 _ (by lia) (by lia) I3 ⟨_,hQ _ rfl,rfl,rfl⟩ fun s' I' => ?_
 exact ⟨rfl, .ref s.heap.objs.size,_,I',rfl,q _ O⟩
end
end
end L2
namespace L2
namespace Mi
open PySem PySem.Spec PyProof.Rows
section
section
variable {X:Cx}
noncomputable def pX (kvs:List (D×D)):List (D×D):=kvs.foldl (fun a kv=>bY a kv.1 kv.2) []
noncomputable def pY:RAd:=fun ds M Q => ∃ a kvs,ds=[.ref a]/\M a=some (.lst (kvs.map fun kv:D×D => .tup [kv.1,kv.2]))/\(∀ kv∈kvs,bK kv.1=true)/\kvs.length < hP /\ ∀ p,M p=none->Q (.ref p) (af M p (.dct true (pX kvs)))
theorem jG:aX pY:=fun _ _ _ _ h ⟨a,kvs,e,j,z,B,q⟩=>⟨a,kvs,e,j,z,B,fun p n=>h _ _ (q p n)⟩
theorem lN {K:Frag} {H:Hp}:∀ {kvs:List (D×D)} {vs:List V},RDs K H (kvs.map fun kv:D×D => .tup [kv.1,kv.2]) vs->(∀ kv∈kvs,bK kv.1=true) ->
 ∃ ps:List (List Key×V),CU (PrV H) vs ps/\CU (fun (p:D×D) (q:List Key×V)=>RKeys p.1 q.1/\RD K H p.2 q.2) kvs ps
 | [],vs,r,_=>by rw [RDs.nil_iff.mp r];exact ⟨[], .nil, .nil⟩
 | kv::kvs,vs,r,h=>by
   rw [CJ] at r;obtain ⟨v,vr,rfl,F,G⟩:=KD.mp r;obtain ⟨ps,h1,h2⟩:=lN G fun x hx=>h x (CM _ hx);have z:=h kv (D5 ..);obtain ⟨k,v⟩:=kv;obtain ⟨ks,j⟩:=j3 z
   cases k <;> first
    | exact j.elim
    | (obtain ⟨t,us,rfl,ht,ru⟩:=KU rfl F
       obtain ⟨Y,ur,rfl,J,ru⟩:=KD.mp ru;obtain ⟨L,O,rfl,U,ru⟩:=KD.mp ru;rw [RDs.nil_iff.mp ru] at ht;obtain ⟨b,ws,rfl,B,rw'⟩:=KU (j4 z) J;rw [eE j rw'] at B;exact ⟨(ks,L)::ps, .cons ⟨t,b,rfl,ht,B⟩ h1, .cons ⟨j,U⟩ h2⟩)
theorem lP {K:Frag} {H:Hp}:∀ {kvs:List (D×D)} {ps:List (List Key×V)} {a:List (D×D)} {b:List (List Key×V)},CU (fun (p:D×D) (q:List Key×V)=>RKeys p.1 q.1/\RD K H p.2 q.2) kvs ps->CU (fun (p:D×D) (q:List Key×V)=>RKeys p.1 q.1/\RD K H p.2 q.2) a b ->
 CU (fun (p:D×D) (q:List Key×V)=>RKeys p.1 q.1/\RD K H p.2 q.2) (kvs.foldl (fun a kv=>bY a kv.1 kv.2) a) (ps.foldl (fun a kv=>b5 a kv.1 kv.2) b)
 | _,_,_,_, .nil,h=>h
 | _,_,_,_, .cons r t,h=>by
   have g:=lP t (gL (RK:=RKeys) RKeys.inj RKeys.fun r.1 r.2 h);exact g
theorem nD (j:X.A.units+16 < Fi) (B:X.calm=true):CallR X (.type "dict") (lR X.K pY):=by
 refine CallR.of (iI j B) fun vs H Q h => ?_;obtain ⟨ds,M,rm,rs,a,kvs,rfl,e,F,G,q⟩:=h;obtain ⟨v,rfl,r⟩:=rs.one
 cases Kz.mp r
 obtain ⟨us,J,ru⟩:=rm _ _ e;obtain ⟨ps,h1,h2⟩:=lN ru F;refine ⟨a,us,ps,rfl,J,h1,by rw [ru.length,v5];exact G,fun p n => ?_⟩
 have st:Stab H (upd H p (.dT (bH ps))):=(KN (M:=M) n).stab rm;exact q p (rm.out n) (.ref p) _ (Ext.lay n) (rm.lay n ⟨_,ak,KG (lP h2 .nil) fun _ _ z=>⟨z.1,z.2.mono st⟩⟩) (Kz.mpr rfl)
end
end
section
section
variable {K:Frag} {p:Addr}
theorem Paired.len {α β:Type} {R : α -> β -> Prop}:∀ {a:List α} {b:List β},CU R a b->a.length=b.length
 | _,_, .nil=>rfl
 | _,_, .cons _ t=>by rw [D4,D4,Paired.len t]
end
end
end Mi
end L2
namespace L2
namespace Dk
open PySem PySem.Spec PyProof.Rows
section
variable {prog:CG} {w:CT} {A:D1} {E:e6->h7->Prop} {s:h7}
noncomputable def kO (d:Addr) (i n ep:Nat):Obj := { cls := .type "dict_keyiterator",data := .fields #[.ref d, .int i 0, .int n 0, .int ep 0] }
theorem slot_next:Slot "dict_keyiterator" "__next__" "dict_keyiterator.__next__" := .of (owner := "dict_keyiterator") (n := "__next__") (by rw [typeLookup_type,HJ];kernel_rfl) (by decide +kernel) (by decide +kernel) (by decide +kernel) (.inl (by decide +kernel)) (by rw [I9];kernel_rfl)
theorem iJ:entryFor table "dict_keyiterator.__next__" = some EH.«dict_keyiterator.__next__» := JI (by kernel_rfl)
theorem jH (a:e6):argsOk "dict_keyiterator.__next__" ⟨[a],[]⟩:=by unfold argsOk;kernel_rfl
theorem sg {it:Addr} (ty:s.TypeIs (.ref it) "dict_keyiterator") {types:List String} {Q:Bool->h7->Prop} (q:Q (types.any fun t => [FP "dict_keyiterator",FP "object"].contains (FP t)) s):CB (model prog w) A (GA (.ref it) types) Q E s:=by
 have hm:=IB;unfold GA
 wp_walk
 exact q
theorem nx_item {it d:Addr} {i ep:Nat} {cd:e6} {dd:Option Addr} {sl:Array (Option e6)} {es:Array F8} {e:F8} {Q:Option e6->h7->Prop} (hi:s.heap.get? it=some (kO d i es.size ep)) (hd:s.heap.get? d=some { cls:=cd,dict:=dd,data := .dict es ep,slots:=sl }) (he:es[i]? = some e)
 (q:∀ h',h'.get? it=some (kO d (i+1) es.size ep)->Dn it s.heap h'->Q (some e.key) { s with heap:=h' }):CB (model prog w) A (FA (.ref it)) Q E s:=by
 have ty:s.TypeIs (.ref it) "dict_keyiterator" := ⟨_,hi,rfl⟩;unfold FA;refine b0 (E5 (CW (name:=D6 "__next__") ty slot_next (D8 slot_next ty iJ ?_ (jH _))));unfold EH.«dict_keyiterator.__next__»;have hm:=IB
 wp_walk
 dsimp only;rw [if_neg (by simp)]
 simp only [Dq,he];refine b0 (E8 (Q:=fun n s'=>n=0/\s'=s) ?_ (fun n s' hs => ?_) fun _ _ z=>z)
 ·wp_walk
  exact ⟨by kernel_rfl,rfl⟩
 obtain ⟨rfl,rfl⟩:=hs;refine b0 (sg ty ?_);refine b0 (CY hi (by simp) fun h1 j s1 => ?_)
 rw [if_neg (by decide +kernel)] at j
 have j:h1.get? it=some (kO d (i+1) es.size ep):=j;have B:Shared.TypeIs { s' with heap:=h1 } (.ref it) "dict_keyiterator" := ⟨_,j,rfl⟩
 refine b0 (De ?_);refine b0 (sg B ?_);refine wpAny_ite_true (by decide +kernel) ?_
 refine hh (hh ⟨_,rfl,hh ?_⟩);exact q h1 j s1
theorem nx_end {it d:Addr} {ep:Nat} {cd:e6} {dd:Option Addr} {sl:Array (Option e6)} {es:Array F8} {Q:Option e6->h7->Prop} (j:A.handled=none) (hi:s.heap.get? it=some (kO d es.size es.size ep)) (hd:s.heap.get? d=some { cls:=cd,dict:=dd,data := .dict es ep,slots:=sl })
 (q:∀ h',(∀ b o,b≠it->s.heap.get? b=some o->h'.get? b=some o)->Q none { s with heap:=h' }):CB (model prog w) A (FA (.ref it)) Q E s:=by
 have ty:s.TypeIs (.ref it) "dict_keyiterator" := ⟨_,hi,rfl⟩;unfold FA;refine b0 (E5 (CW (name:=D6 "__next__") ty slot_next (D8 slot_next ty iJ ?_ (jH _))));unfold EH.«dict_keyiterator.__next__»;have hm:=IB
 wp_walk
 dsimp only;rw [if_neg (by simp)]
 have he:es[es.size]? = none:=Array.getElem?_eq_none (q0 _);simp only [Dq,he];refine b0 (E8 (Q:=fun n s'=>n=0/\s'=s) ?_ (fun n s' hs => ?_) fun _ _ z=>z)
 ·wp_walk
  exact ⟨by kernel_rfl,rfl⟩
 obtain ⟨rfl,rfl⟩:=hs;refine b0 (CY hi (by simp) fun h1 F s1 => ?_)
 refine b0 (m:=newExc (.type "StopIteration") []) ?_;simp only [newExc,newTuple];refine b0 (Dp ?_ (by size_fits))
 refine b0 (m:=Gy _ _) (FX (a:=D7) (by first | rfl | (simp only [Gy];rfl)) (Dp ?_ (by size_fits)))
 simp only [raiseNew];refine b0 (wpAny_handled ?_)
 first | rw [show A.in1.handled=none from j] | rw [j]
 refine b0 (hh (JU ?_));exact b0 (Ew (T := "StopIteration") (b:=true) ⟨_,hQ _ rfl,rfl⟩ HX (hh (q _ fun b o B e=>h8 _ (h8 _ (s1.extBut b o B e)))))
theorem it_dict {d:Addr} {es:Array F8} {ep:Nat} {dd:Option Addr} {sl:Array (Option e6)} {Q:e6->h7->Prop} (j:(d==Dg)=false) (hd:s.heap.get? d=some { cls := .type "dict",dict:=dd,data := .dict es ep,slots:=sl })
 (q:Q (.ref s.heap.objs.size) { s with heap:=s.heap.push (kO d 0 es.size ep) }):CB (model prog w) A (IK (.ref d)) Q E s:=by
 have ty:s.TypeIs (.ref d) "dict" := ⟨_,hd,rfl⟩;refine wpAny_pyIter_slot ty JJ (D8 JJ ty F.entry_dict_iter ?_ (F.args_dict_iter_1 _));unfold EH.«dict.__iter__»
 wp_walk
 exact ⟨_,rfl, "dict_keyiterator",_,⟨_,hQ _ rfl,rfl⟩,slot_next.lookup,q⟩
end
end Dk
end L2
namespace L2
namespace Mi
open PySem PySem.Spec PyProof.Rows L2.Srt
end Mi
end L2
namespace L2
open PySem PySem.Spec PyProof.Rows
section
section
variable {X:Cx} {pins:List (Addr×Obj)} {σ:St} {H:Hp} {s:h7}
theorem xT {x:V} {u:e6} {t:String} (I:Inv X pins σ H s) (rx:RelV x u) (ty:bT X.K H x (.type t)):∃ P,PySem.W.KitX X.K u (.type t) P/\P s.heap/\u≠Value.builtin "__main__.__loader__#opaque" := by
 generalize j:FP t=T at ty
 cases ty with
 | non=>cases (show u=D7 from rx);exact ⟨_,Ja,Dy,fun z=>nomatch z⟩
 | bl y=>cases (show u=II y from rx);exact ⟨_,Jb,Dy,fun z=>nomatch z⟩
 | int i=>obtain ⟨t,rfl⟩:=(show ∃ t,u=Ig i t from rx);exact ⟨_,Jw,Dy,fun z=>nomatch z⟩
 | str y=>obtain ⟨t,rfl⟩:=(show ∃ t,u=Ih y t from rx);exact ⟨_,Jx,Dy,fun z=>nomatch z⟩
 | flt y=>obtain ⟨t,rfl⟩:=(show ∃ t,u=JR y t from rx);exact ⟨_,IP,Dy,fun z=>nomatch z⟩
 | @lst a xs ea =>
  cases (show u=CO a from rx)
  obtain ⟨_,_,n,_,h1⟩:=(show ObjOk X.prog X.w H s.heap a (.lst xs) from I.hok a _ ea);exact ⟨_,FC,⟨_,h1,rfl⟩,fun z=>nomatch z⟩
 | @frz a ob xs ea =>
  cases (show u=CO a from rx)
  obtain ⟨_,_,_,n,_,h1⟩:=(show ObjOk X.prog X.w H s.heap a (.frz ob (.lst xs)) from I.hok a _ ea);exact ⟨_,FC,⟨_,h1,rfl⟩,fun z=>nomatch z⟩
 | @tup a xs ea =>
  cases (show u=CO a from rx)
  obtain ⟨_,_,⟨o,h1,h2,_⟩,_⟩:=I.tuple ea;exact ⟨_,IQ,⟨o,h1,h2⟩,fun z=>nomatch z⟩
 | @dK a kvs ea =>
  cases (show u=CO a from rx)
  obtain ⟨_,_,vs,_,o,es,ep,h1,h2,_⟩:=(show ObjOk X.prog X.w H s.heap a (.dK kvs) from I.hok a _ ea);exact ⟨_,FE,⟨o,h1,h2.1⟩,fun z=>nomatch z⟩
 | @dT a kvs ea =>
  cases (show u=CO a from rx)
  obtain ⟨_,_,xs,_,o,es,ep,h1,h2,_⟩:=(show ObjOk X.prog X.w H s.heap a (.dT kvs) from I.hok a _ ea);exact ⟨_,FE,⟨o,h1,h2.1⟩,fun z=>nomatch z⟩
 | ins=>cases j
end
namespace Mi
section
variable {X:Cx}
theorem xU (K:Frag) {T U:String} (j:T∈["bool", "int", "str", "tuple", "list", "dict"]) (q:U∈["bool", "int", "str", "tuple", "list", "dict"]) {t:String} (ht:t∈cc):F0 K (.type t) [.type T, .type U]=some (dj T t || dj U t):=by
 have h1:=jc K T j t ht;have h2:=jc K U q t ht;unfold F0;rw [h1]
 cases e1:dj T t with
 | true=>rfl
 | false =>
   dsimp only;unfold F0;rw [h2]
   cases dj U t <;> rfl
theorem pZ {T U:String} (z:T∈["bool", "int", "str", "tuple", "list", "dict"]) (B:U∈["bool", "int", "str", "tuple", "list", "dict"]):CallR X (.builtin "isinstance") (fun vs H Q => ∃ v t p,vs=[v, .ref p]/\H p=some (.tup [.ty T, .ty U])/\bT X.K H v (.type t)/\t∈cc/\Q (.bl (dj T t || dj U t)) H):=by
 intro pins s σ H xs us Q I r h;obtain ⟨v,t,p,rfl,F,ty,ht,q⟩:=h;obtain ⟨u,c,rfl,ru,rc⟩:=pj r
 cases (show c=CO p from rc)
 obtain ⟨P,g1,g2,g3⟩:=xT I ru ty;obtain ⟨_,its,rv,⟨cls,dd,dat,sl⟩,h1,h2,n,j⟩:=(show ObjOk X.prog X.w H s.heap p (.tup [.ty T, .ty U]) from I.hok p _ F);dsimp only at h2 j;subst h2 j
 cases rv with
 | cons G rv =>
 cases rv with
 | cons J rv =>
 cases rv
 cases G
 cases J
 exact K0 g1 I.kIn g2 h1 (xU X.K z B ht) g3 fun tk=>⟨.bl _,H,I.tok tk,rfl,q⟩
noncomputable def fK (T U:String) (ta:TEd):TEd:=fun ρ M Q=>ta ρ M fun x M1 => ∃ t,tyN M1 x=some t/\Q (.bl (dj T t || dj U t)) M1
theorem q8 {T U:String} {ta:TEd} (h:aa ta):aa (fK T U ta):=fun ρ M Q Q' i q=>h _ _ _ _ (fun x M1 ⟨t,e,j⟩=>⟨t,e,i _ _ j⟩) q
theorem v7 {e:Expr} {ta:TEd} {T U:String} {y z:Str} {k:Nat} {p p2 p3 p4 pos:Pos} (hT:T∈["bool", "int", "str", "tuple", "list", "dict"]) (hU:U∈["bool", "int", "str", "tuple", "list", "dict"]) (m:aa ta) (he:PE X e (lE X.K ta)) (hg:Gl X "isinstance") (hm:X.mg "isinstance" = none)
 (F:Gl X y) (G:X.mg y=none) (hv:DR y=some (.type T)) (hn:y ≠ "__name__") (J:(y==("__debug__":Str))=false)
 (L:Gl X z) (O:X.mg z=none) (Y:DR z=some (.type U)) (Z:z ≠ "__name__") (j:(z==("__debug__":Str))=false)
 (hs:CF [e, .Tuple [.Name y p2, .Name z p3] k p4] X.env=(false,eval e X.env)::CF [.Tuple [.Name y p2, .Name z p3] k p4] X.env) :
 PE X (.Call (.Name "isinstance" p) [e, .Tuple [.Name y p2, .Name z p3] k p4] [] pos) (lE X.K (fK T U ta)):=by
 have h2:PE X (.Name y p2) (tC (.ty T)):=fV F G hv rfl hn J;have h3:PE X (.Name z p3) (tC (.ty U)):=fV L O Y rfl Z j;have h4:PE X (.Tuple [.Name y p2, .Name z p3] k p4) _:=km (aM h2 (aM h3 ci rfl) rfl);refine PE.imp (bv (pZ hT hU) hg hm (by decide +kernel) (aM he (aM h4 ci rfl) hs) (by decide) (by decide) hs rfl) fun σ H Q h => ?_
 obtain ⟨ρ,M,rs,rm,q⟩:=h;refine ⟨ρ,M,rs,rm,m _ _ _ _ (fun x M1 ⟨t,e,q1⟩ v H1 x1 rm1 BN => ?_) q⟩;refine ⟨by simp;decide,fun pp n => ?_⟩
 have st:=(KN (M:=M1) (ho := .tup [.ty T, .ty U]) n).stab rm1;have B:=rm1.new (ho := .tup [.ty T, .ty U]) n;exact ⟨v,t,pp,rfl,ak,w8 B (BN.mono st) e,nW e,q1 _ _ (x1.trans (KN n)) B (KA.mpr rfl)⟩
end
end Mi
end
section
section
variable {X:Cx} {pins:List (Addr×Obj)} {σ:St} {H:Hp} {s:h7}
theorem Inv.freeze (I:Inv X pins σ H s) {a:Addr} {ps:List (List Key×V)} (e:H a=some (.dT ps)):∃ o,Inv X pins σ (upd H a (.frz o (.dT ps))) s:=by
 obtain ⟨B,j,xs,pr,o,es,ep,h1,h2,F,G,J⟩:=id (I.hok a _ e);have mu:Mut (H a):=by rw [e];exact Dy
 have u:Un X.fs [] H (upd H a (.frz o (.dT ps))) s.heap s.heap:=Un.write mu (.inl rfl) (fun b u _ q=>q) ⟨_,h1⟩;have ok:HOk X.prog X.w (upd H a (.frz o (.dT ps))) s.heap:=HOk.write I.hok mu (.inl rfl) (fun b u _ q=>q) ⟨_,h1⟩
  ⟨h1,(I.hok a _ e).stay (fun b u _ q=>q) (fun b q=>by rw [ae (fun z=>by subst z;rw [e] at q;cases q)];exact q) (fun b xs q=>by rw [ae (fun z=>by subst z;rw [e] at q;cases q)];exact q)⟩
 exact ⟨o,I.un (t':=s.toks) u ok⟩
end
noncomputable def Itk (n:Nat) (G:Hp->Prop) (yl:Nat->V->Hp->Prop):It:=⟨fun i H=>i < n/\G H,fun i H x H'=>H'=H/\yl i x H,fun i H=>n<=i/\G H⟩
theorem sh {P:CG} {w:CT} {K:Frag} {tg:Expr} (a it:Addr) {cd:e6} {dd:Option Addr} {sl:Array (Option e6)} {es:Array F8} {ep:Nat} {G:Hp->Prop} {yl:Nat->V->Hp->Prop}
 (U:∀ H,G H -> ∃ u,H a=some (.frz { cls:=cd,dict:=dd,data := .dict es ep,slots:=sl } u)) (Z:∀ i H h,HOk P w H h->G H -> ∀ e,es[i]? = some e -> ∃ x,RelV x e.key/\yl i x H) :
 fe P w K tg (Itk es.size G yl) [it] it (fun i h=>i<=es.size/\h.get? it=some (Dk.kO a i es.size ep)) where
 mem:=by simp
 obj:=fun i h st b q=>by
  have e:b=it:=by simpa using q
  subst e;exact ⟨_,st.2,fun v z=>by cases z⟩
 keep:=fun i h h' st k=>⟨st.1,k it (by simp) _ st.2⟩
 item:=by
  intro X B hw F Y i pins s σ H E I hf st j;subst B hw F;obtain ⟨hi,j⟩:=j;obtain ⟨u,J⟩:=U H j;obtain ⟨f0,f1,f2,L,f4,O⟩:=hf it (by simp)
  obtain ⟨x,rx,yx⟩:=Z i H s.heap I.hok j es[i] (GI hi);refine Dk.nx_item (e:=es[i]) st.2 (I.hok a _ J).1 (GI hi) fun h' st' sb => ?_;have I1:Inv X pins σ H { s with heap:=h' }:=I.turned (t':=s.toks) (fun b o q e=>(sb.2 b q).trans e) f0 f1 L f4 O
  exact ⟨_,rfl,jR (s := { s with heap:=h' }) (n := "dict_keyiterator") st' rfl rfl (by decide) ⟨x,H,I1,rx,⟨rfl,yx⟩,⟨hi,st'⟩,fun b q=>(hf b q).1⟩⟩
 done:=by
  intro X B hw F Y i pins s σ H E I hf st j;subst B hw F;obtain ⟨hi,j⟩:=j;obtain ⟨u,J⟩:=U H j;obtain ⟨f0,f1,f2,L,f4,O⟩:=hf it (by simp)
  have e:i=es.size:=by have:=st.1;lia
  subst e;exact Dk.nx_end (I.ok.hd Y) st.2 (I.hok a _ J).1 fun h' k=>⟨rfl,I.turned (t':=s.toks) (fun b o q e=>k b o q e) f0 f1 L f4 O⟩
 self:=fun A i s Q E st h=>wpAny_pyIter_keyiter ⟨_,st.2,rfl,rfl⟩ h
namespace Mi
section
variable {X:Cx}
noncomputable def q9 (i:Nat) (t:TSd):TSd:=fun A ρ M => ∃ a kvs, ρ[i]? = some (some (.ref a))/\((M a=some (.dct true kvs)/\t A ρ (af M a (.fdc kvs)))∨(M a=some (.fdc kvs)/\t A ρ M))
theorem v8 {i:Nat} {t:TSd} (h:az t):az (q9 i t):=fun a b ρ M l ⟨p,kvs,e,q⟩=>⟨p,kvs,e,q.imp (fun q=>⟨q.1,h _ _ _ _ l q.2⟩) fun q=>⟨q.1,h _ _ _ _ l q.2⟩⟩
theorem zV {st:Stmt} {i:Nat} {t:TSd} (h:PS X st (lS X.K t)):PS X st (lS X.K (q9 i t)):=by
 intro pins s σ H D I ⟨ρ,M,A,rs,rm,lk,a,kvs,e,q⟩
 rcases q with ⟨m,q⟩ | ⟨m,q⟩
 ·obtain ⟨ps,j,pr⟩:=rm a _ m;obtain ⟨o,I'⟩:=I.freeze j;have sb:Stab H (upd H a (.frz o (.dT ps))):=rm.stabPut m;exact h pins s σ _ D I' ⟨ρ,af M a (.fdc kvs),A,rs.mono sb,rm.put m ⟨o,ps,ak,KG pr fun _ _ z=>⟨z.1,z.2.mono sb⟩⟩,lk.ext (Ext.put m),q⟩
 ·exact h pins s σ H D I ⟨ρ,M,A,rs,rm,lk,q⟩
noncomputable def iK (ta:TEd):TId:=fun ρ M R=>ta ρ M fun x M1 => ∃ a kvs,x = .ref a/\M1 a=some (.fdc kvs)/\R (kvs.map (·.1)) (fun _=>True) M1
theorem sj {ta:TEd} (h:aa ta):bX (iK ta):=fun ρ M Q Q' i q=>h _ _ _ _ (fun x M1 ⟨a,ds,e,j,z⟩=>⟨a,ds,e,j,i _ _ _ z⟩) q
theorem oh {K:Frag} {H:Hp}:∀ {kvs:List (D×D)} {es:List F8},CU (v6 K H) kvs es -> ∀ (i:Nat) (e:F8),es[i]? = some e -> ∃ (kv:D×D) (v:V),kvs[i]? = some kv/\RD K H kv.1 v/\RelV v e.key
 | _,_, .nil,_,_,h=>by simp at h
 | _,_, .cons r t,0,_,h=>by
   simp at h;subst h;obtain ⟨kV,vV,g1,g2,_,_⟩:=r;exact ⟨_,kV,rfl,g1,g2⟩
 | _,_, .cons _ t,i+1,e,h=>by
   obtain ⟨kv,v,h1,h2⟩:=oh t i e (by simpa using h)
   exact ⟨kv,v,by simpa using h1,h2⟩
theorem xV {tg e:Expr} {ta:TEd} (m:aa ta) (he:PE X e (lE X.K ta)):PI X tg e (lI X.K (iK ta)):=by
 intro pins s σ H R I h;obtain ⟨ρ,M,rs,rm,q⟩:=h;have hq:lE X.K ta σ H (fun v H1 => ∃ a kvs M1,v = .ref a/\Ext M H M1 H1/\RM X.K M1 H1/\M1 a=some (.fdc kvs) /\ ∀ J,fy X.K H1 (kvs.map (·.1)) (fun _=>True) J->R J H1) :=
  ⟨ρ,M,rs,rm,m _ _ _ _ (fun x M1 ⟨a,kvs,e,L,O⟩ v H1 x1 j rd1=>by
    subst e
    cases Kz.mp rd1
    exact ⟨a,kvs,M1,rfl,x1,j,L,fun J ij=>O J H1 x1 j ij⟩) q⟩
 refine thn (he pins s σ H _ I hq) fun u s1 ⟨x,H1,B,r1,a,kvs,M1,e0,x1,j,L,O⟩ => ?_;subst e0
 cases r1
 obtain ⟨o,ps,U,pr⟩:=j _ _ L;obtain ⟨g0,ok⟩:=B.hok a _ U;obtain ⟨cd,dd,sl,es,ep,g1,g2,g3⟩:=se ok pr;obtain ⟨ty,_,Y⟩:=ky B (.inr ⟨ps, .inr ⟨o,U⟩⟩);rw [g0] at g1
 cases g1
 have Z:cd = .type "dict" := by
  obtain ⟨o,h1,h2⟩:=ty;rw [g0] at h1;cases h1;exact h2
 subst Z;have lz:kvs.length=es.size:=by have:=be g3;simpa using this
 refine Dk.it_dict Y g0 ?_;refine ⟨s1.heap.objs.size,[s1.heap.objs.size],_,_,H1,rfl,B.kept (t':=s1.toks) fun b o e=>h8 _ e,sh (G:=fun H=>H a=some (.frz { cls := .type "dict",dict:=dd,data := .dict es ep,slots:=sl } (.dT ps))/\CU (fun (p:D×D) (q:List Key×V)=>RKeys p.1 q.1/\RD X.K H p.2 q.2) kvs ps) (yl:=fun i x H => ∃ kv,kvs[i]? = some kv/\RD X.K H kv.1 x) a _ (fun H h=>⟨_,h.1⟩) (fun i H h hok ⟨ha,pr'⟩ e he => ?_),⟨DH _,hQ _ rfl⟩,fun b hb => ?_,O _ ?_⟩
 ·obtain ⟨z0,ok'⟩:=hok a _ ha;obtain ⟨cd,dd,sl',es',ep',z1,_,z3⟩:=se ok' pr';rw [z0] at z1
  cases z1
  obtain ⟨kv,v,y1,y2,y3⟩:=oh z3 i e (by simpa using he)
  exact ⟨v,y3,kv,y1,y2⟩
 ·have e:b=s1.heap.objs.size:=by simpa using hb
  subst e;exact B.fpOk (q0 _) (B.hok.fresh (q0 _))
 ·intro M' H' st rm' _ i;have F:=st.frz _ _ _ U;have pr':CU (fun (p:D×D) (q:List Key×V)=>RKeys p.1 q.1/\RD X.K H' p.2 q.2) kvs ps:=KG pr fun _ _ z=>⟨z.1,z.2.mono st⟩;rw [v5,lz];refine ⟨fun hi=>⟨hi,F,pr'⟩,fun hi=>⟨⟨hi,F,pr'⟩,fun x H'' y => ?_⟩⟩;obtain ⟨e,kv,y1,y2⟩:=y;subst e;exact ⟨.inl rfl,kv.1,by rw [CK,y1];rfl,y2⟩
end
end Mi
end
section
section
variable {prog:CG} {w:CT} {K:Type} [DecidableEq K] {knd:HeapKind prog w K} {A:D1} {E:e6->h7->Prop} {s:h7}
noncomputable def cI (ev:e6->e6->Bool) (xb:List (K×Addr×e6)) (x:K×Addr×e6):Bool:=match HQ xb x.1 with
 | some p=>ev x.2.2 p.2
 | none=>false
theorem zW {nm:String} {a b:Addr} {xa xb:List (K×Addr×e6)} {ev:e6->e6->Bool} {Q:Bool->h7->Prop} (hu:knd.room A) (ha:(a==Dg)=false) (hb:(b==Dg)=false)
 (da:s.heap.DictOfH knd a xa) (db:s.heap.DictOfH knd b xb) (BR:∀ x∈xa, ∀ y∈xb,SeqAt.EqAt A s x.2.2 y.2.2 (ev x.2.2 y.2.2)) (h:Q (xa.length==xb.length&&xa.all (cI ev xb)) s) :
 CB (model prog w) A (Hu nm a b) Q E s:=by
 obtain ⟨oa,es,ep,F,_,G,BO,BS,BZ⟩:=da;obtain ⟨ob,es',ep',L,_,O,U,BU,BP⟩:=db;have Y:xa.length=es.size:=(size_of_entries BO).symm;have BV:xb.length=es'.size:=(size_of_entries U).symm;rw [Y,BV] at h;unfold Hu Builtin.Dict.showsAll;rw [if_neg (show ¬ (a==Dg)=true by rw [ha];exact hG),if_neg (show ¬ (b==Dg)=true by rw [hb];exact hG)]
 refine b0 (hh (b0 (hh ?_)));refine b0 (FK F G ?_);dsimp only;refine b0 (FK L O ?_)
 by_cases hsz:es.size=es'.size
 case neg =>
  rw [if_pos (by simpa using hsz)]
  have BW:(es.size==es'.size)=false:=by simpa using hsz
  rw [BW,Gn] at h;exact b0 (EB (hh h))
 case pos =>
  have h':Q (xa.all (cI ev xb)) s:=by simpa [hsz] using h
  rw [if_neg (by rw [hsz];simp)]
  refine b0 (wpAny_dictEpoch F G ?_);refine b0 ?_;rw [Std.Legacy.Range.forIn_eq_forIn_range'];simp only [Std.Legacy.Range.size,Nat.sub_zero,Nat.add_sub_cancel,Nat.div_one];refine wpAny_forIn_list _
   (fun rest q s'=>s'=s/\q=(none,()) /\ ∃ i,rest=List.range' i (es.size - i)/\i<=es.size/\xa.all (cI ev xb)=(xa.drop i).all (cI ev xb))
   _ ?_ ?_ _ _ ⟨rfl,rfl,0,by simp,DH _,by simp⟩
  ·rintro x rest q s' ⟨rfl,rfl,i,hr,hi,z⟩;have BQ:i < es.size:=by
    rcases Nat.lt_or_ge i es.size with h | h
    ·exact h
    ·rw [Nat.sub_eq_zero_of_le h] at hr;simp at hr
   obtain ⟨rfl,Z⟩:x=i/\rest=List.range' (i+1) (es.size - (i+1)):=by
    have e:es.size - i=(es.size - (i+1))+1:=by lia
    rw [e,JK] at hr
    injection hr with h1 h2
    exact ⟨h1,h2⟩
   have B:x < xa.length:=by rw [Y];exact BQ
   refine b0 (FK F G ?_);rw [entry_at BO x,h6 B];have BN:xa.drop x=xa[x]::xa.drop (x+1):=Fd B;have J:xa[x]∈xa:=E7 B;rw [BN,Ep] at z;show CB _ _ (holding [_,_] _ >>= _) _ _ _;refine b0 (De (b0 (wpAny_dictFind_heap (k:=xa[x].1) (a:=xa[x].2.1) hu (BS _ J) L O U BU BP (fun BX => ?_) (fun j p hj => ?_))))
   ·have hn:cI ev xb xa[x]=false:=by unfold cI;rw [atKey_none_of_get BX]
    rw [z,hn,Gn] at h';refine hh ?_;show CB _ _ (if (!false)=true then _ else _) _ _ _
    rw [if_pos (by decide)]
    exact hh (hh h')
   ·have hn:cI ev xb xa[x]=ev xa[x].2.2 p.2:=by unfold cI;rw [atKey_of_get BP hj]
    refine b0 (FK L O ?_);rw [entry_at U j,hj];refine De (BR _ J _ (CZ hj) prog w _ _ ?_);show CB _ _ (if (!(ev xa[x].2.2 p.2))=true then _ else _) _ _ _
    rw [hn] at z
    cases e:ev xa[x].2.2 p.2 with
    | false =>
      rw [e,Gn] at z;rw [z] at h';rw [if_pos (by decide)]
      exact hh (hh h')
    | true =>
      rw [e,Bool.true_and] at z;rw [if_neg (by decide)]
      refine b0 (wpAny_dictEpoch F G ?_);rw [if_neg (by simp)]
      exact hh ⟨rfl,rfl,x+1,Z,BQ,z⟩
  ·rintro q s' ⟨rfl,rfl,i,hr,hi,z⟩;have BY:i=es.size:=by
    rcases Nat.lt_or_ge i es.size with h | h
    ·have e:es.size - i=(es.size - (i+1))+1:=by lia
     rw [e,JK] at hr;exact nomatch hr
    ·exact Nat.le_antisymm hi h
   refine hh ?_;rw [BY, <- Y,Hd] at z;rw [z] at h';exact h'
theorem B4 {a b:Addr} {xa xb:List (K×Addr×e6)} {ev:e6->e6->Bool} {Q:e6->h7->Prop} (q:A.units < Fi) (hr:knd.room A.in1) (z:(a==Dg)=false) (B:(b==Dg)=false)
 (da:s.heap.DictOfH knd a xa) (db:s.heap.DictOfH knd b xb) (j:∀ x∈xa, ∀ y∈xb,SeqAt.EqAt A.in1 s x.2.2 y.2.2 (ev x.2.2 y.2.2)) (h:Q (.bool (!(xa.length==xb.length&&xa.all (cI ev xb)))) s) :
 CB (model prog w) A (D2 .NotEq (.ref a) (.ref b)) Q E s:=by
 refine wpAny_richCompare_same_room (op := .NotEq) da.typeIs db.typeIs Ia (D8 Ia da.typeIs PySem.F.entry_dict_ne ?_ (PySem.F.args_dict_ne_2 _ _)) q;show CB _ _ (GJ "__ne__" ⟨[.ref a, .ref b],[]⟩ >>= _) _ _ s;refine b0 ?_;unfold GJ;refine b0 (wpAny_notOrdered_dict da.typeIs ?_);show CB _ _ (pure (CO a,CO b)) _ _ s;refine hh ?_;refine b0 (Ew (T := "dict") db.typeIs PySem.F.sub_dict_dict ?_);simp only [GP,Dz,if_false];refine b0 (hh (b0 (hh ?_)));refine b0 (zW hr z B da db j ?_);refine hh ⟨_,rfl, ?_, ?_⟩
 ·exact fun x=>nomatch x
 ·simpa using h
end
namespace Mi
section
variable {X:Cx}
def dI (M:Mem) (a:Addr) (kvs:List (D×D)):Prop:=(M a=some (.dct true kvs)∨M a=some (.fdc kvs)) /\ ∀ kv∈kvs, ∃ i,kv.2 = .int i
noncomputable def eqD (ps qs:List (D×D)):Bool:=ps.length==qs.length&&ps.all fun kv=>decide (dget qs kv.1=some kv.2)
noncomputable def v9:R2d:=fun x y M Q => ∃ a b ps qs,x = .ref a/\y = .ref b/\dI M a ps/\dI M b qs/\Q (.bl (!eqD ps qs)) M
theorem va:ax v9:=fun _ _ _ _ _ h ⟨a,b,ps,qs,j,z,B,F,q⟩=>⟨a,b,ps,qs,j,z,B,F,h _ _ q⟩
noncomputable def evI:e6->e6->Bool
 | .int i _, .int j _=>i==j
 | _,_=>false
theorem dI.at {K:Frag} {M:Mem} {H:Hp} {a:Addr} {kvs:List (D×D)} (rm:RM K M H) (h:dI M a kvs):∃ ps,Rd H a (.dT ps)/\CU (fun (p:D×D) (q:List Key×V)=>RKeys p.1 q.1/\RD K H p.2 q.2) kvs ps:=by
 rcases h.1 with e | e
 ·obtain ⟨ps,j,pr⟩:=rm a _ e;exact ⟨ps, .inl j,pr⟩
 ·obtain ⟨o,ps,j,pr⟩:=rm a _ e;exact ⟨ps, .inr ⟨o,j⟩,pr⟩
theorem lQ {K:Frag} {H:Hp} {kvs:List (D×D)} {ps:List (List Key×V)} {xs:List (List Key×Addr×e6)} (pr:CU (fun (p:D×D) (q:List Key×V)=>RKeys p.1 q.1/\RD K H p.2 q.2) kvs ps) (kt:KT H ps xs) (hi:∀ kv∈kvs, ∃ i,kv.2 = .int i):∀ x∈xs, ∃ i t,x.2.2 = .int i t:=by
 induction pr generalizing xs with
 | nil=>cases kt;intro x hx;exact nomatch hx
 | @cons p q ps qs h t ih =>
  cases kt with
  | cons g gt =>
    intro x hx
    rcases CC.mp hx with e | hx
    ·subst e;obtain ⟨i,ei⟩:=hi p (by simp)
     have:=h.2;rw [ei] at this;have z:=g.2.2;rw [Ky.mp this] at z;obtain ⟨t,ht⟩:=z;exact ⟨i,t,ht⟩
    ·exact ih gt (fun kv j=>hi kv (by simp [j])) x hx
theorem zX {K:Frag} {H:Hp} {kvs:List (D×D)} {ps:List (List Key×V)} {xs:List (List Key×Addr×e6)} (pr:CU (fun (p:D×D) (q:List Key×V)=>RKeys p.1 q.1/\RD K H p.2 q.2) kvs ps) (kt:KT H ps xs) (hi:∀ kv∈kvs, ∃ i,kv.2 = .int i)
 {k:D} {q:List Key} (G:RKeys k q) (i:Int) (t:Tok) (b:Addr):cI evI xs (q,b, .int i t)=decide (dget kvs k=some (.int i)):=by
 obtain ⟨g1,g2⟩:=eF (RK:=RKeys) RKeys.inj RKeys.fun G pr;have B:=KT.val kt q;unfold cI;dsimp only
 cases e:dget kvs k with
 | none =>
   rw [g2 e] at B
   cases z:HQ xs q with
   | none=>simp
   | some p=>rw [z] at B;exact B.elim
 | some d =>
   obtain ⟨v,J,L⟩:=g1 d e;rw [J] at B
   cases z:HQ xs q with
   | none=>rw [z] at B;exact B.elim
   | some p =>
     rw [z] at B;obtain ⟨j,ej⟩:∃ j,d = .int j:=by
      unfold dget at e;obtain ⟨kv,h1,h2⟩:=EF.mp e;obtain ⟨j,O⟩:=hi kv (List.mem_of_find?_eq_some h1);exact ⟨j,by rw [<- h2];exact O⟩
     subst ej
     cases Ky.mp L
     obtain ⟨t',ht⟩:∃ t',p.2 = .int j t':=B;dsimp only;rw [ht];show (i==j)=decide (some (D.int j)=some (D.int i))
     by_cases hij:i=j
     ·subst hij;simp
     ·have F : ¬ j=i:=fun z=>hij z.symm;simp [hij,F]
theorem zY {K:Frag} {H:Hp} {kvs ls:List (D×D)} {ps us:List (List Key×V)} {xs ys:List (List Key×Addr×e6)} (pr:CU (fun (p:D×D) (q:List Key×V)=>RKeys p.1 q.1/\RD K H p.2 q.2) kvs ps) (kt:KT H ps xs) (hi:∀ kv∈kvs, ∃ i,kv.2 = .int i)
 (pr':CU (fun (p:D×D) (q:List Key×V)=>RKeys p.1 q.1/\RD K H p.2 q.2) ls us) (kt':KT H us ys) (j:∀ kv∈ls, ∃ i,kv.2 = .int i) :
 (xs.length==ys.length&&xs.all (cI evI ys))=eqD kvs ls:=by
 have l1:xs.length=kvs.length:=by rw [be pr,be kt]
 have l2:ys.length=ls.length:=by rw [be pr',be kt']
 unfold eqD;rw [l1,l2];congr 1;clear l1 l2
 induction pr generalizing xs with
 | nil=>cases kt;rfl
 | @cons p q ps qs h t ih =>
  cases kt with
  | @cons _ x _ xs g gt =>
   rw [Ep,Ep,ih gt (fun kv B=>hi kv (by simp [B]))]
   congr 1;obtain ⟨i,ei⟩:=hi p (by simp)
   have:=h.2;rw [ei] at this;have z:=g.2.2;rw [Ky.mp this] at z;obtain ⟨t,ht⟩:∃ t',x.2.2 = .int i t':=z;obtain ⟨x1,F,G⟩:=x;dsimp only at ht g;subst ht;rw [ei, <- g.1];exact zX pr' kt' j h.1 i t F
theorem vc {pins:List (Addr×Obj)} {σ:St} {H:Hp} {s:h7} {M:Mem} {A:D1} {E:e6->h7->Prop} {Q:e6->h7->Prop} {ps qs:List (D×D)} {a b:Addr} (J:A.units+2 < Fi) (I:Inv X pins σ H s) (rm:RM X.K M H) (h1:dI M a ps) (h2:dI M b qs) (h:Q (.bool (!eqD ps qs)) s):CB (model X.prog X.w) A (D2 .NotEq (.ref a) (.ref b)) Q E s:=by
 obtain ⟨us,z,pr⟩:=h1.at rm;obtain ⟨vs,q,pr'⟩:=h2.at rm;obtain ⟨_,sm,xs,kt,dd⟩:=fX I.hok z;obtain ⟨_,sm',ys,kt',dd'⟩:=fX I.hok q;have B:=lQ pr kt h1.2;have F:=lQ pr' kt' h2.2;refine B4 (ev:=evI) (by lia) (EG (by lia)) sm sm' dd dd' (fun x hx y G => ?_) (by rw [zY pr kt h1.2 pr' kt' h2.2];exact h)
 obtain ⟨i,t,e⟩:=B x hx;obtain ⟨j,u,e'⟩:=F y G;rw [e,e'];exact SeqAt.EqAt.int_int i t j u
theorem vd (j:X.A.units+2 < Fi):OpR X (D2 .NotEq) (l2 X.K v9):=by
 intro pins s σ H x y v u Q I rx ry h;obtain ⟨x',y',M,rm,rdx,rdy,a,b,ps,qs,rfl,rfl,h1,h2,q⟩:=h
 cases Kz.mp rdx
 cases Kz.mp rdy
 cases rx
 cases ry
 exact vc j I rm h1 h2 ⟨.bl (!eqD ps qs),H,I,rfl,q _ H Ext.refl rm (KA.mpr rfl)⟩
end
section
section
variable {lt:Nat->Nat->Bool} {prog:CG} {w:CT} {A:D1} {R:Result->h7->Prop} {I:Addr} {fp wr:List Addr} {n:Nat} {P:Nat->e6->Prop} {St:Nat->Heap->Prop} {h0:Heap} {S:Addr}
def Kpt (wr:List Addr) (S:Addr) (h h':Heap):Prop := ∀ b o,b∉wr->b≠S->h.get? b=some o->h'.get? b=some o
theorem Kpt.trans {wr:List Addr} {S:Addr} {a b c:Heap} (h:Kpt wr S a b) (g:Kpt wr S b c):Kpt wr S a c:=fun x o h1 h2 e=>g x o h1 h2 (h x o h1 h2 e)
end
end
end Mi
end
end L2
namespace L2
open PySem PySem.Spec PyProof.Rows
namespace Mi
end Mi
end L2
namespace L2
namespace Mi
open PySem PySem.Spec PyProof.Rows
section
section
variable {X:Cx}
theorem RDs.eraseIdx {K:Frag} {H:Hp}:∀ {ds:List D} {vs:List V} (i:Nat),RDs K H ds vs->RDs K H (ds.eraseIdx i) (vs.eraseIdx i):=by
 intro ds vs i r;rw [FN,FN];exact (r.take i).append (r.drop (i+1))
end
end
section
section
variable {X:Cx}
noncomputable def qa:R2d:=fun x y M Q => ∃ (l:List Int) (b:Addr) (ls:List (List Int)),x = .tup (l.map .int)/\y = .ref b/\M b=some (.lst (ls.map fun l => .tup (l.map .int)))/\Q (.bl (!decide (l∈ls))) M
theorem sk:ax qa:=fun _ _ _ _ _ h ⟨l,b,ls,j,z,B,q⟩=>⟨l,b,ls,j,z,B,h _ _ q⟩
noncomputable def zZ:e6->Int
 | .int i _=>i
 | _ => 0
noncomputable def dD (h:Heap):e6->List Int
 | .ref a=>match h.get? a with
  | some ⟨_,_, .seq vs _,_⟩=>vs.toList.map zZ
  | _ => []
 | _ => []
theorem eZ {h:Heap}:∀ {l:List Int} {vs:List e6} {as:List Addr},ReadsAll h vs (l.map Ht) as->vs.map zZ=l
 | [],vs,as,r=>by cases r;rfl
 | i::l,vs,as,r=>by
   cases r with
   | cons j q=>cases j;rw [CJ,eZ q];rfl
theorem ve {h:Heap} {l:List Int} {v:e6} {as:List Addr} (r:Reads h v (.tuple (l.map .int)) as):dD h v=l:=by
 cases r with
 | tuple e c d rs =>
   rename_i a o vs n;obtain ⟨oc,od,oda,os⟩:=o;simp only at d;subst d;unfold dD;dsimp only;rw [e];exact eZ rs
theorem rbI {n:Nat} {M:Mem}:∀ ns:List Int,aF (rb n M) (ns.map D.int)=some (ns.map Ht)
 | [] => rfl
 | x::r=>by
   have e:rb n M (.int x)=some (.int x):=by cases n <;> rfl
   simp [aF,e,rbI r]
theorem iL {pins:List (Addr×Obj)} {σ:St} {H:Hp} {s:h7} {M:Mem} (I:Inv X pins σ H s) (rm:RM X.K M H):∀ {ls:List (List Int)} {vs:List V} {us:List e6},RDs X.K H (ls.map fun l=>D.tup (l.map .int)) vs->Vals vs us ->
 us.map (dD s.heap)=ls /\ ∀ u∈us, ∃ as,Reads s.heap u (.tuple ((dD s.heap u).map .int)) as
 | [],vs,us,rs,q=>by
  cases RDs.nil_iff.mp rs
  cases q
  exact ⟨rfl,fun _ h=>by cases h⟩
 | l::ls,vs,us,rs,q=>by
   obtain ⟨v,r,rfl,h1,h2⟩:=KD.mp rs
   cases q with
   | cons B F =>
     obtain ⟨G,J⟩:=iL I rm h2 F;obtain ⟨as,ra⟩:=bB I rm 16 (.tup (l.map .int)) (.tuple (l.map .int)) _ _ (by simp [rb,rbI]) h1 B
     have z:=ve ra;refine ⟨by rw [CJ,z,G],fun u j => ?_⟩
     rcases CC.mp j with rfl | j
     ·exact ⟨as,by rw [z];exact ra⟩
     ·exact J u j
theorem so (O:X.A.units+18 < Fi):OpR X (D2 .NotIn) (l2 X.K qa):=by
 intro pins s σ H x y v u Q I rx ry h;obtain ⟨x',y',M,rm,rdx,rdy,l,b,ls,rfl,rfl,h2,q⟩:=h
 cases Kz.mp rdy
 cases (show u=CO b from ry)
 obtain ⟨vb,z,rbs⟩:=rm _ _ h2;obtain ⟨ib,qb,pb,_⟩:=I.list (SqL.of z);obtain ⟨B,F⟩:=iL I rm rbs qb;have j:rb 16 M (.tup (l.map .int))=some (.tuple (l.map .int)):=by simp [rb,rbI]
 obtain ⟨as,ra⟩:=bB I rm 16 _ _ _ _ j rdx rx;obtain ⟨p1,p2⟩:=bA _ _ _ j;refine SeqAt.notIn_listAt (fun w=>decide (dD s.heap w=l)) pb.isList (fun w hw => ?_) ⟨.bl _,H,I,rfl, ?_⟩
 ·obtain ⟨bs,rw'⟩:=F w (by simpa using hw)
  have G:rb 16 M (.tup ((dD s.heap w).map .int))=some (.tuple ((dD s.heap w).map .int)):=by simp [rb,rbI]
  obtain ⟨U,J⟩:=bA _ _ _ G;have:=SeqAt.eqAt_reads _ _ X.A.in1 s w v _ _ rw' ra J p2 (by show X.A.units+1+_ < _;lia)
  rw [EI,L2.eqv_ints] at this;exact this
 ·have L:ib.toArray.any (fun w=>decide (dD s.heap w=l))=decide (l∈ls):=by
   rw [List.any_toArray, <- B,Bool.eq_iff_iff,Ey];simp
  rw [L];exact q _ H Ext.refl rm (KA.mpr rfl)
end
end
end Mi
end L2
namespace L2
open PySem PySem.Spec PyProof.Rows
namespace Mi
end Mi
end L2
namespace L2
open PySem PySem.Spec PyProof.Rows
namespace Mi
open L2.Srt
end Mi
end L2
namespace L2
namespace Srt
open PySem PySem.Spec PyProof.Rows
open AutoSeq1 (wpAny_loadPart')
open MeetsSeq MeetsSeq2 MeetsSeq3
end Srt
end L2
namespace L2
namespace Srt
open PySem PySem.Spec PyProof.Rows
end Srt
end L2
namespace L2
namespace Mi
open PySem PySem.Spec PyProof.Rows L2.Srt
end Mi
end L2
namespace L2
open PySem PySem.Spec PyProof.Rows
section
theorem KT.drop {H:Hp} {kvs:List (List Key×V)} {xs:List (List Key×Addr×e6)} (r:KT H kvs xs) (k:List Key):KT H (jS kvs k) (xs.filter fun x=>decide (x.1≠k)):=by
 unfold jS
 induction r with
 | nil=>exact .nil
 | @cons p q ps qs h t ih =>
  obtain ⟨h1,h2,j⟩:=h
  by_cases e:p.1=k
  ·rw [D9 (by simp [e]),D9 (by simp [h1.symm.trans e])];exact ih
  ·rw [Dc (by simp [e]),Dc (by simpa using fun z=>e (h1.trans z))];exact .cons ⟨h1,h2,j⟩ ih
namespace Mi
end Mi
end
end L2
namespace L2
open PySem PySem.Spec PyProof.Rows
namespace Mi
end Mi
end L2
namespace L2
namespace Mi
open PySem PySem.Spec PyProof.Rows
section
noncomputable def jX (te to1 ti1 to2 ti2:TEd):TSd:=fun D ρ M=>te ρ M fun v M1 => ∃ x y,v = .tup [x,y]/\to1 ρ M1 fun o1 M2=>ti1 ρ M2 fun i1 M3=>dC o1 i1 x M3 fun M4=>to2 ρ M4 fun o2 M5=>ti2 ρ M5 fun i2 M6=>dC o2 i2 y M6 fun M7=>D.nx ρ M7
theorem sr {te j z to2 B:TEd} (he:aa te) (F:aa j) (G:aa z) (J:aa to2) (L:aa B):az (jX te j z to2 B):=fun a b ρ M i q =>
 he _ _ _ _ (fun v M1 ⟨x,y,e,O⟩=>⟨x,y,e,F _ _ _ _ (fun o M2 U=>G _ _ _ _ (fun k M3 Y=>fJ (fun M4 Z=>J _ _ _ _ (fun o' M5 q5=>L _ _ _ _ (fun k' M6 q6=>fJ (fun M7 q7=>i.nx _ _ q7) q6) q5) Z) Y) U) O⟩) q
section
variable {X:Cx}
theorem xW {U Y Z i2 e:Expr} {te B F to2 G:TEd} {pos p1 p2 pt:Pos} {kt:Nat} (hc:X.calm=true) (hu:X.A.units+1 < Fi) (me:aa te) (BR:aa B) (BS:aa F) (BU:aa to2) (BV:aa G) (he:PE X e (lE X.K te)) (BW:PE X U (lE X.K B)) (BX:PE X Y (lE X.K F)) (BY:PE X Z (lE X.K to2)) (BZ:PE X i2 (lE X.K G))
 (hs:EO [.Tuple [.Subscript U Y p1, .Subscript Z i2 p2] kt pt] e pos.line X.env=pure false) (hw:DB [.Tuple [.Subscript U Y p1, .Subscript Z i2 p2] kt pt] e X.env=pure none)
 (ha:∀ v,assign (.Subscript U Y p1) X.env v=(do
   let ov <- holding [v] (eval U X.env)
   let iv <- holding [v,ov] (eval Y X.env)
   FT p1
   holding [v,ov,iv] (J1 ov iv v)
   release [v,ov,iv] []))
 (hb:∀ v,assign (.Subscript Z i2 p2) X.env v=(do
   let ov <- holding [v] (eval Z X.env)
   let iv <- holding [v,ov] (eval i2 X.env)
   FT p2
   holding [v,ov,iv] (J1 ov iv v)
   release [v,ov,iv] [])):PS X (.Assign [.Tuple [.Subscript U Y p1, .Subscript Z i2 p2] kt pt] e pos) (lS X.K (jX te B F to2 G)):=by
 have pset:=PSet.or (ko (X:=X)) (lF hu);refine PS.imp (kj he (qM (n := 2) hc (gF (kh BW BX pset ha) (gF (kh BY BZ pset hb) nI))) hs hw rfl) fun D σ H h => ?_;obtain ⟨ρ,M,A,rs,rm,l,q⟩:=h;refine ⟨ρ,M,rs,rm,me _ _ _ _ (fun v M1 ⟨x,y,ev,q1⟩ vv H1 x1 z rd1 => ?_) q⟩;subst ev;obtain ⟨b,us,rfl,C0,ru⟩:=KH rd1;obtain ⟨w1,w2,rfl,r1,r2⟩:=ru.two;have BN:=rs.mono (x1.stab rm);refine ⟨b,_,rfl,C0,rfl,w1,_,rfl, ?_⟩;refine ⟨ρ,M1,BN,z,BR _ _ _ _ (fun ov M2 q2 vo H2 x2 j C1 => ?_) q1⟩;have BO:=BN.mono (x2.stab z);refine ⟨ρ,M2,BO,j,BS _ _ _ _ (fun iv M3 q3 vi H3 x3 J C2 => ?_) q2⟩;have C3:=BO.mono (x3.stab j);have C4:=x1.trans (x2.trans x3);refine gM J (C1.mono (x3.stab j)) C2 ((r1.mono (x2.stab z)).mono (x3.stab j)) q3 fun M4 H4 x4 L q4 => ?_;have BP:=C3.mono (x4.stab J);refine ⟨w2,_,rfl, ρ,M4,BP,L,BU _ _ _ _ (fun Cb M5 q5 Cd H5 x5 O C5 => ?_) q4⟩;have C6:=BP.mono (x5.stab L);refine ⟨ρ,M5,C6,O,BV _ _ _ _ (fun Ce M6 q6 Cf H6 x6 C7 C8 => ?_) q5⟩;have BQ:=C4.trans (x4.trans (x5.trans x6));have C9:=((((r2.mono (x2.stab z)).mono (x3.stab j)).mono (x4.stab J)).mono (x5.stab L)).mono (x6.stab O);exact gM C7 (C5.mono (x6.stab O)) C8 C9 q6 fun M' H' x7 Ca q7=>⟨rfl,l.nx ρ M' σ H' (BQ.trans x7) (rs.mono ((BQ.trans x7).stab rm)) Ca q7⟩
end
end
end Mi
end L2
namespace L2
namespace It
open PySem PySem.Spec PyProof.Rows
end It
open PySem PySem.Spec PyProof.Rows
namespace Mi
end Mi
end L2
namespace L2
open PySem PySem.Spec PyProof.Rows
namespace Mi
end Mi
end L2
namespace L2
open PySem PySem.Spec PyProof.Rows
namespace Mi
open L2.Srt
end Mi
end L2
namespace L2
open PySem PySem.Spec PyProof.Rows
end L2
namespace L2
namespace Mi
open PySem PySem.Spec PyProof.Rows
end Mi
end L2
namespace L2
open PySem PySem.Spec PyProof.Rows
namespace Mi
end Mi
end L2
namespace L2
namespace Mi
open PySem PySem.Spec PyProof.Rows
section
mutual
noncomputable def GV (K:Frag):D->e6->Prop
 | .int i,v => ∃ t,v = .int i t
 | .str x,v => ∃ t,v = .str x t
 | .tup ds,v => ∃ a o its n,v = .ref a/\K.lookup a=some o/\o.cls = .type "tuple" /\ o.data = .seq its n/\its.size<=hP/\fk ds=false/\GVs K ds its.toList
 | _,_=>False
noncomputable def GVs (K:Frag):List D->List e6->Prop
 | [],us=>us=[]
 | d::ds,us => ∃ u r,us=u::r/\GV K d u/\GVs K ds r
end
theorem GV.ints {K:Frag} {i:Int} {t}:GV K (.int i) (.int i t):=by unfold GV;exact ⟨t,rfl⟩
theorem GV.tups {K:Frag} {ds:List D} {a:Addr} {od sl} {its:Array e6} {n:Nat} (h:K.lookup a=some ⟨.type "tuple",od, .seq its n,sl⟩) (j:its.size<=1000) (f:fk ds=false) (r:GVs K ds its.toList):GV K (.tup ds) (.ref a):=by
 unfold GV;exact ⟨a,_,its,n,rfl,h,rfl,rfl,by rw [hB];lia,f,r⟩
theorem GVs.nil {K:Frag}:GVs K [] []:=by unfold GVs;rfl
theorem GVs.cons {K:Frag} {d:D} {ds:List D} {u:e6} {us:List e6} (h:GV K d u) (r:GVs K ds us):GVs K (d::ds) (u::us):=by unfold GVs;exact ⟨u,us,rfl,h,r⟩
end
section
noncomputable def kd1:Int ⊕ List Int->D
 | .inl i => .int i
 | .inr ks => .tup (ks.map .int)
noncomputable def kdN (k:NK):D := .tup (k.map kd1)
noncomputable def BI:Int ⊕ List Int->Bool
 | .inl _=>true
 | .inr ks=>fk (ks.map .int)
noncomputable def okK (k:NK):Bool:=fk (k.map kd1)&&k.all BI
noncomputable def ng (kvs:List (NK×D)) (k:NK):Option D:=(kvs.find? fun p=>decide (p.1=k)).map (·.2)
noncomputable def np (kvs:List (NK×D)) (k:NK) (v:D):List (NK×D):=if (ng kvs k).isSome then kvs.map (fun p=>if p.1=k then (p.1,v) else p) else kvs++[(k,v)]
noncomputable def su:TEd:=fun _ M Q => ∀ p,M p=none->Q (.ref p) (af M p (.dcn []))
def B5 (o i v:D) (M:Mem) (Q:Mem->Prop):Prop := ∃ a kvs k,o = .ref a/\M a=some (.dcn kvs)/\i=kdN k/\okK k=true/\kvs.length < hP/\Q (af M a (.dcn (np kvs k v)))
noncomputable def wb (te to ti:TEd):TSd:=fun D ρ M=>te ρ M fun v M1=>to ρ M1 fun o M2=>ti ρ M2 fun i M3=>B5 o i v M3 fun M'=>D.nx ρ M'
end
section
section
variable {X:Cx}
noncomputable def wc (ta:TEd):TEd:=fun ρ M Q=>ta ρ M fun x M1 => ∃ (a:Addr) (nss:List (List Int)),x = .ref a/\M1 a=some (.lst (nss.map fun ns => .tup (ns.map .int)))/\(nss=[]->Q .non M1) /\ ∀ ns∈nss,(∀ ms∈nss,HT.lexLt ms ns=false)->Q (.tup (ns.map .int)) M1
noncomputable def wd (to ti:TEd):TSd:=fun D ρ M=>to ρ M fun x M1=>ti ρ M1 fun i M2 => ∃ (a:Addr) (ds:List _) (n:Nat),x = .ref a/\M2 a=some (.lst ds)/\i = .int (n:Nat)/\n < ds.length/\n < 2 ^ 62/\D.nx ρ (af M2 a (.lst (ds.eraseIdx n)))
end
end
end Mi
end L2
namespace L2
open PySem PySem.Spec PyProof.Rows
namespace Mi
section
variable {K:Frag} {M:Mem} {H:Hp}
noncomputable def kvN (kv:NK×D):D := .tup [kdN kv.1,kv.2]
noncomputable def we (to tk tx:TEd):TEd:=fun ρ M Q=>to ρ M fun x M1 => ∃ a kvs,x = .ref a/\M1 a=some (.dcn kvs)/\tk ρ M1 fun k M2=>tx ρ M2 fun z M3 => ∃ kvs' q,M3 a=some (.dcn kvs')/\k=kdN q/\okK q=true/\kvs'.length < hP /\
 (∀ d,ng kvs' q=some d->Q d M3)/\(ng kvs' q=none->Q z (af M3 a (.dcn (np kvs' q z))))
noncomputable def oi (ta:TEd):TId:=fun ρ M R=>ta ρ M fun x M1 => ∃ a kvs,x = .ref a/\M1 a=some (.fdn kvs)/\R (kvs.map kvN) (fun _=>True) M1
end
section
inductive BOp where | add | sub | mul | fdiv | mod | pow
inductive COp where | eq | ne | lt | le | gt | ge | neD | ninK
inductive BF where | len | abs | min2 | int | list | tuple | all | dict
inductive MF where | append
inductive MF0 where | clear
set_option genCtorIdx false
set_option genInjectivity false
mutual
inductive MG where
 | name (i:Nat)
 | tup (gs:MGs)
inductive MGs where
 | nil
 | cons (g:MG) (r:MGs)
end
mutual
inductive ME where
 | var (i:Nat)
 | int (i:Int)
 | bl (b:Bool)
 | non
 | bin (op:BOp) (a b:ME)
 | neg (a:ME)
 | cmp (op:COp) (a b:ME)
 | and (es:MEs)
 | or (es:MEs)
 | not (a:ME)
 | ite (c:MT) (a b:ME)
 | tup (es:MEs)
 | lst (es:MEs)
 | ix (a b:ME)
 | sl (a:ME) (lo hi:MO)
 | call (f:Nat) (es:MEs)
 | blt (f:BF) (es:MEs)
 | isin (a:ME) (T:String)
 | isin2 (a:ME) (T U:String)
 | chain (op op':COp) (a b c:ME)
 | dnew (t:Bool)
 | dget (o k x:ME)
 | meth (m:MF) (o a:ME)
 | meth0 (m:MF0) (o:ME)
 | comp (fr:List (Option Nat)) (N:List Str) (c:MC)
inductive MEs where
 | nil
 | cons (e:ME) (r:MEs)
inductive MO where
 | none
 | some (e:ME)
inductive MT where
 | tru (e:ME)
 | cmp (op:COp) (a b:ME)
 | chain (op op':COp) (a b c:ME)
 | and (ts:MTs)
 | or (ts:MTs)
 | not (t:MT)
inductive MTs where
 | nil
 | cons (t:MT) (r:MTs)
inductive MI where
 | seq (e:ME)
 | rng1 (a:ME)
 | zip (a b:ME)
 | enum (a:ME)
 | keys (a:ME)
inductive MC where
 | last (src:MI) (g:MG) (ifs:MTs) (elt:ME)
 | more (src:MI) (g:MG) (ifs:MTs) (rest:MC)
end
mutual
inductive MS where
 | asg (g:MG) (e:ME)
 | par (i j:Nat) (a b:ME)
 | put2 (o i o' i' e:ME)
 | put (o i e:ME)
 | drop (e:ME)
 | ret (e:ME)
 | ite (c:MT) (a b:MSs)
 | for (g:MG) (src:MI) (b:MSs)
 | while (c:MT) (b:MSs)
 | frz (i:Nat) (s:MS)
 | bot
 | pass | brk | cnt
inductive MSs where
 | nil
 | cons (s:MS) (r:MSs)
end
set_option genCtorIdx true
set_option genInjectivity true
noncomputable def opB:BOp->R2d
 | .add=>gH | .sub=>pG | .mul=>j8 | .fdiv=>jV | .mod=>pH | .pow=>pI
noncomputable def opC:COp->R2d
 | .eq=>wEq | .ne=>wNe | .lt=>wLt | .le=>wLe | .gt=>wGt | .ge=>wGe| .neD=>v9| .ninK=>qa
noncomputable def opF:BF->RAd
 | .len=>dL| .abs=>kR| .min2=>jW | .int=>jb | .list=>pN | .tuple=>kW| .all=>pU| .dict=>pY
noncomputable def opM:MF->D->List D->Mem->QD->Prop
 | .append=>jd
noncomputable def qc:MF0->D->List D->Mem->QD->Prop
 | .clear=>lf
theorem lU:∀ o,ax (opB o)
 | .add=>uh | .sub=>ui | .mul=>uj | .fdiv=>rE | .mod=>uk | .pow=>ul
theorem aW:∀ o,ax (opC o)
 | .eq=>xf | .ne=>xg | .lt=>xj | .le=>xk | .gt=>xl | .ge=>xm| .neD=>va| .ninK=>sk
theorem vf:∀ o,aX (opF o)
 | .len=>kQ| .abs=>kS| .min2=>jy | .int=>kU | .list=>jz | .tuple=>ik| .all=>lJ| .dict=>jG
theorem vg:∀ o,eJ (opM o)
 | .append=>gA
theorem sv:∀ o,eJ (qc o)
 | .clear=>iw
noncomputable abbrev Phi:=Nat->RAd
mutual
noncomputable def bG:MG->BT
 | .name i=>bC i
 | .tup gs=>lg (bGs gs)
noncomputable def bGs:MGs->BTs
 | .nil=>fw
 | .cons g r=>bO (bG g) (bGs r)
end
mutual
noncomputable def wE (Φ:Phi):ME->TEd
 | .var i=>cr i
 | .int i=>wC (.int i)
 | .bl b=>wC (.bl b)
 | .non=>wC .non
 | .bin op a b=>wOp (opB op) (wE Φ a) (wE Φ b)
 | .neg a=>wUn j9 (wE Φ a)
 | .cmp op a b=>wOp (opC op) (wE Φ a) (wE Φ b)
 | .and es=>wAnds Φ es
 | .or es=>wOrs Φ es
 | .not a=>iq (wE Φ a)
 | .ite c a b=>wIf (wT Φ c) (wE Φ a) (wE Φ b)
 | .tup es=>wAr kL (wA Φ es)
 | .lst es=>wAr j6 (wA Φ es)
 | .ix a b=>wOp wIx (wE Φ a) (wE Φ b)
 | .sl a lo hi=>wSl (wE Φ a) (wO Φ lo) (wO Φ hi)
 | .call f es=>wAr (Φ f) (wA Φ es)
 | .blt f es=>wAr (opF f) (wA Φ es)
 | .isin a T=>iu T (wE Φ a)
 | .isin2 a T U=>fK T U (wE Φ a)
 | .chain op op' a b c=>cB (opC op) (opC op') (wE Φ a) (wE Φ b) (wE Φ c)
 | .dnew t=>iF t
 | .dget o k x=>iG (wE Φ o) (wE Φ k) (wE Φ x)
 | .meth m o a=>wBM (opM m) (wE Φ o) (aH (wE Φ a) bw)
 | .meth0 m o=>wBM (qc m) (wE Φ o) bw
 | .comp fr _ c=>wCmp Φ fr c
noncomputable def wA (Φ:Phi):MEs->TAd
 | .nil=>bw
 | .cons e r=>aH (wE Φ e) (wA Φ r)
noncomputable def wAnds (Φ:Phi):MEs->TEd
 | .nil=>fun _ _ _=>False
 | .cons e .nil=>wE Φ e
 | .cons e (.cons f r)=>ip (wE Φ e) (wAnds Φ (.cons f r))
noncomputable def wOrs (Φ:Phi):MEs->TEd
 | .nil=>fun _ _ _=>False
 | .cons e .nil=>wE Φ e
 | .cons e (.cons f r)=>lc (wE Φ e) (wOrs Φ (.cons f r))
noncomputable def wO (Φ:Phi):MO->TOd
 | .none=>dS
 | .some e=>ir (wE Φ e)
noncomputable def wT (Φ:Phi):MT->TTd
 | .tru e=>kY (wE Φ e)
 | .cmp op a b=>eC (wOp (opC op) (wE Φ a) (wE Φ b))
 | .chain op op' a b c=>eC (cB (opC op) (opC op') (wE Φ a) (wE Φ b) (wE Φ c))
 | .and ts=>wAndTs Φ ts
 | .or ts=>wOrTs Φ ts
 | .not t=>im (wT Φ t)
noncomputable def wAndTs (Φ:Phi):MTs->TTd
 | .nil=>fun _ _ _=>False
 | .cons e .nil=>wT Φ e
 | .cons e (.cons f r)=>io (wT Φ e) (wAndTs Φ (.cons f r))
noncomputable def wOrTs (Φ:Phi):MTs->TTd
 | .nil=>fun _ _ _=>False
 | .cons e .nil=>wT Φ e
 | .cons e (.cons f r)=>kZ (wT Φ e) (wOrTs Φ (.cons f r))
noncomputable def wTl (Φ:Phi):MTs->List TTd
 | .nil => []
 | .cons t r=>wT Φ t::wTl Φ r
noncomputable def wI (Φ:Phi):MI->TId
 | .seq e=>lh (wE Φ e)
 | .rng1 a=>iy (aH (wE Φ a) bw)
 | .zip a b=>lj (wE Φ a) (wE Φ b)
 | .enum a=>iA (wE Φ a)
 | .keys a=>iK (wE Φ a)
noncomputable def wCl (Φ:Phi):MC->TCd
 | .last src g ifs elt=>cX (wI Φ src) (bG g) (bc (wTl Φ ifs) (ck (wE Φ elt)))
 | .more src g ifs rest=>cX (wI Φ src) (bG g) (bc (wTl Φ ifs) (wCl Φ rest))
noncomputable def wCmp (Φ:Phi) (fr:List (Option Nat)):MC->TEd
 | .last src g ifs elt=>gd fr (wI Φ src) (bG g) (bc (wTl Φ ifs) (ck (wE Φ elt)))
 | .more src g ifs rest=>gd fr (wI Φ src) (bG g) (bc (wTl Φ ifs) (wCl Φ rest))
end
mutual
noncomputable def wS (Φ:Phi):MS->TSd
 | .asg g e=>gK (wE Φ e) (bG g)
 | .par i j a b=>lw (aH (wE Φ a) (aH (wE Φ b) bw)) (bO (bC i) (bO (bC j) fw))
 | .put2 o i o' i' e=>jX (wE Φ e) (wE Φ o) (wE Φ i) (wE Φ o') (wE Φ i')
 | .put o i e=>lD (wE Φ e) (wE Φ o) (wE Φ i)
 | .drop e=>iD (wE Φ e)
 | .ret e=>lu (wE Φ e)
 | .ite c a b=>sIf (wT Φ c) (wSs Φ a) (wSs Φ b)
 | .for g src b=>lB (wI Φ src) (bG g) (wSs Φ b)
 | .while c b=>fH (wT Φ c) (wSs Φ b)
 | .frz i s=>q9 i (wS Φ s)
 | .bot=>fun _ _ _=>False
 | .pass=>gf
 | .brk=>fG
 | .cnt=>iC
noncomputable def wSs (Φ:Phi):MSs->TSd
 | .nil=>gf
 | .cons s r=>ln (wS Φ s) (wSs Φ r)
end
section
variable {Φ:Phi} (hΦ:∀ f,aX (Φ f))
include hΦ
mutual
theorem mE:∀ m,aa (wE Φ m)
 | .var _=>ug
 | .int _=>kI
 | .bl _=>kI
 | .non=>kI
 | .bin op a b=>dQ (lU op) (mE a) (mE b)
 | .neg a=>wY kN (mE a)
 | .cmp op a b=>dQ (aW op) (mE a) (mE b)
 | .and es=>mAnds es
 | .or es=>mOrs es
 | .not a=>rM (mE a)
 | .ite c a b=>xx (mT c) (mE a) (mE b)
 | .tup es=>fZ rB (mA es)
 | .lst es=>fZ rC (mA es)
 | .ix a b=>dQ nU (mE a) (mE b)
 | .sl a lo hi=>xB (mE a) (mO lo) (mO hi)
 | .call f es=>fZ (hΦ f) (mA es)
 | .blt f es=>fZ (vf f) (mA es)
 | .isin a T=>rP (mE a)
 | .isin2 a T U=>q8 (mE a)
 | .chain op op' a b c=>eL (aW op) (aW op') (mE a) (mE b) (mE c)
 | .dnew _=>sd
 | .dget o k x=>sf (mE o) (mE k) (mE x)
 | .meth m o a=>nX (vg m) (mE o) (aD (mE a) aB)
 | .meth0 m o=>nX (sv m) (mE o) aB
 | .comp fr _ c=>mCmp fr c
theorem mA:∀ m,b9 (wA Φ m)
 | .nil=>aB
 | .cons e r=>aD (mE e) (mA r)
theorem mAnds:∀ m,aa (wAnds Φ m)
 | .nil=>fun _ _ _ _ _ q=>q.elim
 | .cons e .nil=>mE e
 | .cons e (.cons f r)=>rL (mE e) (mAnds (.cons f r))
theorem mOrs:∀ m,aa (wOrs Φ m)
 | .nil=>fun _ _ _ _ _ q=>q.elim
 | .cons e .nil=>mE e
 | .cons e (.cons f r)=>uG (mE e) (mOrs (.cons f r))
theorem mO:∀ m,eI (wO Φ m)
 | .none=>nC
 | .some e=>rO (mE e)
theorem mT:∀ m,ay (wT Φ m)
 | .tru e=>uA (mE e)
 | .cmp op a b=>kJ (dQ (aW op) (mE a) (mE b))
 | .chain op op' a b c=>kJ (eL (aW op) (aW op') (mE a) (mE b) (mE c))
 | .and ts=>mAndTs ts
 | .or ts=>mOrTs ts
 | .not t=>rJ (mT t)
theorem mAndTs:∀ m,ay (wAndTs Φ m)
 | .nil=>fun _ _ _ _ _ q=>q.elim
 | .cons e .nil=>mT e
 | .cons e (.cons f r)=>rK (mT e) (mAndTs (.cons f r))
theorem mOrTs:∀ m,ay (wOrTs Φ m)
 | .nil=>fun _ _ _ _ _ q=>q.elim
 | .cons e .nil=>mT e
 | .cons e (.cons f r)=>uB (mT e) (mOrTs (.cons f r))
theorem mTl:∀ m, ∀ t∈wTl Φ m,ay t
 | .nil=>by rw [wTl];intro t ht;simp at ht
 | .cons t r=>by
  rw [wTl];intro t' ht
  rcases CC.mp ht with e | e
  ·rw [e];exact mT t
  ·exact mTl r t' e
theorem mI:∀ m,bX (wI Φ m)
 | .seq e=>uK (mE e)
 | .rng1 a=>rS (aD (mE a) aB)
 | .zip a b=>uL (mE a) (mE b)
 | .enum a=>rT (mE a)
 | .keys a=>sj (mE a)
theorem mCl:∀ m,bP (wCl Φ m)
 | .last src g ifs elt=>gB (mI src) (aI (bq (mE elt)) (mTl ifs))
 | .more src g ifs rest=>gB (mI src) (aI (mCl rest) (mTl ifs))
theorem mCmp (fr:List (Option Nat)):∀ m,aa (wCmp Φ fr m)
 | .last src g ifs elt=>jA (mI src) (aI (bq (mE elt)) (mTl ifs))
 | .more src g ifs rest=>jA (mI src) (aI (mCl rest) (mTl ifs))
end
mutual
theorem mS:∀ m,az (wS Φ m)
 | .asg g e=>uO (mE hΦ e)
 | .par i j a b=>uP (aD (mE hΦ a) (aD (mE hΦ b) aB))
 | .put2 o i o' i' e=>sr (mE hΦ e) (mE hΦ o) (mE hΦ i) (mE hΦ o') (mE hΦ i')
 | .put o i e=>uW (mE hΦ e) (mE hΦ o) (mE hΦ i)
 | .drop e=>rX (mE hΦ e)
 | .ret e=>uM (mE hΦ e)
 | .ite c a b=>uN (mT hΦ c) (mSs a) (mSs b)
 | .for g src b=>uQ (mI hΦ src) (mSs b)
 | .while c b=>pR (mT hΦ c) (mSs b)
 | .frz i s=>v8 (mS s)
 | .bot=>fun _ _ _ _ _ q=>q
 | .pass=>jC
 | .brk=>pQ
 | .cnt=>rV
theorem mSs:∀ m,az (wSs Φ m)
 | .nil=>jC
 | .cons s r=>rW (mS s) (mSs r)
end
end
end
section
structure Ctx where
 Γ:List Str
 N:List Str
 sc:Scope
 fn:List Str
 cs:List (Str×D)
noncomputable def glB (sc:Scope) (x:Str):Bool:=sc.names.lookup x==some .globalImplicit
noncomputable def vh (sc:Scope) (x:Str):Bool:=sc.names.lookup x==some .local || sc.names.lookup x==some .cell || sc.names.lookup x==some .free
noncomputable def vj (sc:Scope) (x:Str):Bool:=sc.names.lookup x==some .local || sc.names.lookup x==some .cell
noncomputable def aJ:Expr->Bool
 | .Starred .. => false
 | _=>true
noncomputable def lV:Expr->Bool
 | .Name .. | .Call .. | .Subscript .. | .Constant .. | .BinOp .. | .Attribute .. => true
 | _=>false
noncomputable def bQ:Expr->Bool
 | .Slice .. => false
 | _=>true
noncomputable def dX:Expr->Bool
 | .ListComp .. | .SetComp .. | .DictComp .. => false
 | _=>true
noncomputable def iM:Expr->Bool
 | .Set .. => false
 | _=>true
noncomputable def dY:Expr->Bool
 | .Call _ (_::_) _ _=>true
 | .Call .. => false
 | _=>true
noncomputable def opO:BOp->J9
 | .add => .Add | .sub => .Sub | .mul => .Mult | .fdiv => .FloorDiv | .mod => .Mod | .pow => .Pow
noncomputable def gN:COp->Iz
 | .eq => .Eq | .ne => .NotEq | .lt => .Lt | .le => .LtE | .gt => .Gt | .ge => .GtE| .neD => .NotEq| .ninK => .NotIn
noncomputable def lW:BF->Str
 | .len => "len"| .abs => "abs"| .min2 => "min" | .int => "int" | .list => "list" | .tuple => "tuple"| .all => "all"| .dict => "dict"
noncomputable def A0:MF->Str
 | .append => "append"
noncomputable def xX:MF0->Str
 | .clear => "clear"
noncomputable def bltNames:List Str := ["len", "abs", "max", "min", "int", "list", "tuple", "sum", "isinstance", "range", "bool", "str", "dict", "zip", "enumerate", "reversed", "sorted", "all", "any", "set"]
noncomputable def gO (sc osc:Scope):Scope :=
 { sc with names:=sc.names.map fun (n,k)=>if (k == .free&&osc.kind == .function&&osc.names.lookup n==some .cell) then (n, .cell) else (n,k) }
theorem nE (sc:Scope) (env:Env):relabel sc env=gO sc env.scope:=rfl
noncomputable def vk (sc osc:Scope) (oN N':List Str) (fr:List (Option Nat)):Bool :=
 decide (sc.kind = .function)&&decide ((sc.names.map (·.1)).Nodup)&&decide (N'.Nodup)
  && sc.names.all (fun x => !(x.2 == .free) || osc.names.lookup x.1==some .cell || osc.names.lookup x.1==some .free)
  && decide (fr.length=N'.length)
  && (CP N'.length).all fun i=>match fr[i]?,N'[i]? with
   | some (some j),some x=>decide (oN[j]? = some x)&&sc.names.any (fun y=>decide (y=(x,CQ)))
   | _,_=>true
theorem pk {p:Prop} [d:Decidable p] {t:p->Bool} (h:dite p t (fun _=>false)=true):∃ c,t c=true:=by
 cases d with
 | isTrue c=>exact ⟨c,h⟩
 | isFalse c=>cases h
noncomputable def cQ (e:Expr) (f:Str->Pos->Bool):Bool:=if h:e.ctorIdx=23 then @Kr.elim (fun _=>Bool) e h f else false
@[elab_as_elim]
theorem dE {P:Expr->Prop} (e:Expr) {f:Str->Pos->Bool} (h:cQ e f=true) (k:∀ a b,f a b=true->P (.Name a b)):P e :=
 (pk h).elim fun c => @Kr.elim (fun e => ∀ c, @Kr.elim (fun _=>Bool) e c f=true->P e) e c (fun a b _ h=>k a b h) c
noncomputable def dF (e:Expr) (f:Const->Nat->Pos->Bool):Bool:=if h:e.ctorIdx=19 then @IC.elim (fun _=>Bool) e h f else false
@[elab_as_elim]
theorem fL {P:Expr->Prop} (e:Expr) {f:Const->Nat->Pos->Bool} (h:dF e f=true) (k:∀ a b c,f a b c=true->P (.Constant a b c)):P e :=
 (pk h).elim fun c => @IC.elim (fun e => ∀ c, @IC.elim (fun _=>Bool) e c f=true->P e) e c (fun a b c _ h=>k a b c h) c
noncomputable def sx (e:Expr) (f:Expr->J9->Expr->Pos->Bool):Bool:=if h:e.ctorIdx=2 then @Kk.elim (fun _=>Bool) e h f else false
@[elab_as_elim]
theorem A1 {P:Expr->Prop} (e:Expr) {f:Expr->J9->Expr->Pos->Bool} (h:sx e f=true) (k:∀ a b c d,f a b c d=true->P (.BinOp a b c d)):P e :=
 (pk h).elim fun c => @Kk.elim (fun e => ∀ c, @Kk.elim (fun _=>Bool) e c f=true->P e) e c (fun a b c d _ h=>k a b c d h) c
noncomputable def eM (e:Expr) (f:UnaryOp->Expr->Pos->Bool):Bool:=if h:e.ctorIdx=3 then @Js.elim (fun _=>Bool) e h f else false
@[elab_as_elim]
theorem gQ {P:Expr->Prop} (e:Expr) {f:UnaryOp->Expr->Pos->Bool} (h:eM e f=true) (k:∀ a b c,f a b c=true->P (.UnaryOp a b c)):P e :=
 (pk h).elim fun c => @Js.elim (fun e => ∀ c, @Js.elim (fun _=>Bool) e c f=true->P e) e c (fun a b c _ h=>k a b c h) c
noncomputable def dk (e:Expr) (f:Expr->List Iz->List Expr->Pos->Bool):Bool:=if h:e.ctorIdx=15 then @Jt.elim (fun _=>Bool) e h f else false
@[elab_as_elim]
theorem eN {P:Expr->Prop} (e:Expr) {f:Expr->List Iz->List Expr->Pos->Bool} (h:dk e f=true) (k:∀ a b c d,f a b c d=true->P (.Compare a b c d)):P e :=
 (pk h).elim fun c => @Jt.elim (fun e => ∀ c, @Jt.elim (fun _=>Bool) e c f=true->P e) e c (fun a b c d _ h=>k a b c d h) c
noncomputable def dZ (e:Expr) (f:BoolOp->List Expr->Pos->Bool):Bool:=if h:e.ctorIdx=0 then @JW.elim (fun _=>Bool) e h f else false
@[elab_as_elim]
theorem gh {P:Expr->Prop} (e:Expr) {f:BoolOp->List Expr->Pos->Bool} (h:dZ e f=true) (k:∀ a b c,f a b c=true->P (.BoolOp a b c)):P e :=
 (pk h).elim fun c => @JW.elim (fun e => ∀ c, @JW.elim (fun _=>Bool) e c f=true->P e) e c (fun a b c _ h=>k a b c h) c
noncomputable def sy (e:Expr) (f:Expr->Expr->Expr->Pos->Bool):Bool:=if h:e.ctorIdx=5 then @Kl.elim (fun _=>Bool) e h f else false
@[elab_as_elim]
theorem A2 {P:Expr->Prop} (e:Expr) {f:Expr->Expr->Expr->Pos->Bool} (h:sy e f=true) (k:∀ a b c d,f a b c d=true->P (.IfExp a b c d)):P e :=
 (pk h).elim fun c => @Kl.elim (fun e => ∀ c, @Kl.elim (fun _=>Bool) e c f=true->P e) e c (fun a b c d _ h=>k a b c d h) c
noncomputable def cm (e:Expr) (f:List Expr->Nat->Pos->Bool):Bool:=if h:e.ctorIdx=25 then @Km.elim (fun _=>Bool) e h f else false
@[elab_as_elim]
theorem cC {P:Expr->Prop} (e:Expr) {f:List Expr->Nat->Pos->Bool} (h:cm e f=true) (k:∀ a b c,f a b c=true->P (.Tuple a b c)):P e :=
 (pk h).elim fun c => @Km.elim (fun e => ∀ c, @Km.elim (fun _=>Bool) e c f=true->P e) e c (fun a b c _ h=>k a b c h) c
noncomputable def wf (e:Expr) (f:List Expr->Pos->Bool):Bool:=if h:e.ctorIdx=24 then @Ks.elim (fun _=>Bool) e h f else false
@[elab_as_elim]
theorem B6 {P:Expr->Prop} (e:Expr) {f:List Expr->Pos->Bool} (h:wf e f=true) (k:∀ a b,f a b=true->P (.List a b)):P e :=
 (pk h).elim fun c => @Ks.elim (fun e => ∀ c, @Ks.elim (fun _=>Bool) e c f=true->P e) e c (fun a b _ h=>k a b h) c
noncomputable def bR (e:Expr) (f:Expr->Expr->Pos->Bool):Bool:=if h:e.ctorIdx=21 then @Ib.elim (fun _=>Bool) e h f else false
@[elab_as_elim]
theorem cn {P:Expr->Prop} (e:Expr) {f:Expr->Expr->Pos->Bool} (h:bR e f=true) (k:∀ a b c,f a b c=true->P (.Subscript a b c)):P e :=
 (pk h).elim fun c => @Ib.elim (fun e => ∀ c, @Ib.elim (fun _=>Bool) e c f=true->P e) e c (fun a b c _ h=>k a b c h) c
noncomputable def qd (e:Expr) (f:Expr->List Expr->List Gf->Pos->Bool):Bool:=if h:e.ctorIdx=16 then @Ku.elim (fun _=>Bool) e h f else false
@[elab_as_elim]
theorem wg {P:Expr->Prop} (e:Expr) {f:Expr->List Expr->List Gf->Pos->Bool} (h:qd e f=true) (k:∀ a b c d,f a b c d=true->P (.Call a b c d)):P e :=
 (pk h).elim fun c => @Ku.elim (fun e => ∀ c, @Ku.elim (fun _=>Bool) e c f=true->P e) e c (fun a b c d _ h=>k a b c d h) c
noncomputable def iN (e:Expr) (f:Expr->Str->Pos->Bool):Bool:=if h:e.ctorIdx=20 then @Ic.elim (fun _=>Bool) e h f else false
@[elab_as_elim]
theorem qe {P:Expr->Prop} (e:Expr) {f:Expr->Str->Pos->Bool} (h:iN e f=true) (k:∀ a b c,f a b c=true->P (.Attribute a b c)):P e :=
 (pk h).elim fun c => @Ic.elim (fun e => ∀ c, @Ic.elim (fun _=>Bool) e c f=true->P e) e c (fun a b c _ h=>k a b c h) c
noncomputable def sB (e:Expr) (f:Option Expr->Option Expr->Option Expr->Pos->Bool):Bool:=if h:e.ctorIdx=26 then @Kn.elim (fun _=>Bool) e h f else false
@[elab_as_elim]
theorem A3 {P:Expr->Prop} (e:Expr) {f:Option Expr->Option Expr->Option Expr->Pos->Bool} (h:sB e f=true) (k:∀ a b c d,f a b c d=true->P (.Slice a b c d)):P e :=
 (pk h).elim fun c => @Kn.elim (fun e => ∀ c, @Kn.elim (fun _=>Bool) e c f=true->P e) e c (fun a b c d _ h=>k a b c d h) c
noncomputable def jI (e:Expr) (f:Expr->List D3->Scope->Pos->Bool):Bool:=if h:e.ctorIdx=8 then @ID.elim (fun _=>Bool) e h f else false
@[elab_as_elim]
theorem sC {P:Expr->Prop} (e:Expr) {f:Expr->List D3->Scope->Pos->Bool} (h:jI e f=true) (k:∀ a b c d,f a b c d=true->P (.ListComp a b c d)):P e :=
 (pk h).elim fun c => @ID.elim (fun e => ∀ c, @ID.elim (fun _=>Bool) e c f=true->P e) e c (fun a b c d _ h=>k a b c d h) c
noncomputable def wj (e:Expr) (f:List (Option Expr)->List Expr->Pos->Bool):Bool:=if h:e.ctorIdx=6 then @Kv.elim (fun _=>Bool) e h f else false
@[elab_as_elim]
theorem B7 {P:Expr->Prop} (e:Expr) {f:List (Option Expr)->List Expr->Pos->Bool} (h:wj e f=true) (k:∀ a b c,f a b c=true->P (.Dict a b c)):P e :=
 (pk h).elim fun c => @Kv.elim (fun e => ∀ c, @Kv.elim (fun _=>Bool) e c f=true->P e) e c (fun a b c _ h=>k a b c h) c
noncomputable def dl (e:Stmt) (f:List Expr->Expr->Pos->Bool):Bool:=if h:e.ctorIdx=5 then @JX.elim (fun _=>Bool) e h f else false
@[elab_as_elim]
theorem eO {P:Stmt->Prop} (e:Stmt) {f:List Expr->Expr->Pos->Bool} (h:dl e f=true) (k:∀ a b c,f a b c=true->P (.Assign a b c)):P e :=
 (pk h).elim fun c => @JX.elim (fun e => ∀ c, @JX.elim (fun _=>Bool) e c f=true->P e) e c (fun a b c _ h=>k a b c h) c
noncomputable def sF (e:Stmt) (f:Expr->Pos->Bool):Bool:=if h:e.ctorIdx=24 then @Kw.elim (fun _=>Bool) e h f else false
@[elab_as_elim]
theorem A4 {P:Stmt->Prop} (e:Stmt) {f:Expr->Pos->Bool} (h:sF e f=true) (k:∀ a b,f a b=true->P (.Expr a b)):P e :=
 (pk h).elim fun c => @Kw.elim (fun e => ∀ c, @Kw.elim (fun _=>Bool) e c f=true->P e) e c (fun a b _ h=>k a b h) c
noncomputable def lX (e:Stmt) (f:Option Expr->Pos->Bool):Bool:=if h:e.ctorIdx=3 then @JY.elim (fun _=>Bool) e h f else false
@[elab_as_elim]
theorem vm {P:Stmt->Prop} (e:Stmt) {f:Option Expr->Pos->Bool} (h:lX e f=true) (k:∀ a b,f a b=true->P (.Return a b)):P e :=
 (pk h).elim fun c => @JY.elim (fun e => ∀ c, @JY.elim (fun _=>Bool) e c f=true->P e) e c (fun a b _ h=>k a b h) c
noncomputable def A5 (e:Stmt) (f:Expr->List Stmt->List Stmt->Pos->Bool):Bool:=if h:e.ctorIdx=12 then @Stmt.If.elim (fun _=>Bool) e h f else false
@[elab_as_elim]
theorem BJ {P:Stmt->Prop} (e:Stmt) {f:Expr->List Stmt->List Stmt->Pos->Bool} (h:A5 e f=true) (k:∀ a b c d,f a b c d=true->P (.If a b c d)):P e :=
 (pk h).elim fun c => @Stmt.If.elim (fun e => ∀ c, @Stmt.If.elim (fun _=>Bool) e c f=true->P e) e c (fun a b c d _ h=>k a b c d h) c
noncomputable def wk (e:Stmt) (f:Expr->Expr->List Stmt->List Stmt->Pos->Bool):Bool:=if h:e.ctorIdx=9 then @Stmt.For.elim (fun _=>Bool) e h f else false
@[elab_as_elim]
theorem B8 {P:Stmt->Prop} (e:Stmt) {f:Expr->Expr->List Stmt->List Stmt->Pos->Bool} (h:wk e f=true) (k:∀ a b c d e,f a b c d e=true->P (.For a b c d e)):P e :=
 (pk h).elim fun c => @Stmt.For.elim (fun e => ∀ c, @Stmt.For.elim (fun _=>Bool) e c f=true->P e) e c (fun a b c d e _ h=>k a b c d e h) c
noncomputable def oj (e:Stmt) (f:Expr->List Stmt->List Stmt->Pos->Bool):Bool:=if h:e.ctorIdx=11 then @Ko.elim (fun _=>Bool) e h f else false
@[elab_as_elim]
theorem xY {P:Stmt->Prop} (e:Stmt) {f:Expr->List Stmt->List Stmt->Pos->Bool} (h:oj e f=true) (k:∀ a b c d,f a b c d=true->P (.While a b c d)):P e :=
 (pk h).elim fun c => @Ko.elim (fun e => ∀ c, @Ko.elim (fun _=>Bool) e c f=true->P e) e c (fun a b c d _ h=>k a b c d h) c
noncomputable def sH (e:Stmt) (f:Pos->Bool):Bool:=if h:e.ctorIdx=25 then @Kx.elim (fun _=>Bool) e h f else false
@[elab_as_elim]
theorem A6 {P:Stmt->Prop} (e:Stmt) {f:Pos->Bool} (h:sH e f=true) (k:∀ a,f a=true->P (.Pass a)):P e :=
 (pk h).elim fun c => @Kx.elim (fun e => ∀ c, @Kx.elim (fun _=>Bool) e c f=true->P e) e c (fun a _ h=>k a h) c
noncomputable def ol (e:Stmt) (f:Pos->Bool):Bool:=if h:e.ctorIdx=26 then @Kq.elim (fun _=>Bool) e h f else false
@[elab_as_elim]
theorem xZ {P:Stmt->Prop} (e:Stmt) {f:Pos->Bool} (h:ol e f=true) (k:∀ a,f a=true->P (.Break a)):P e :=
 (pk h).elim fun c => @Kq.elim (fun e => ∀ c, @Kq.elim (fun _=>Bool) e c f=true->P e) e c (fun a _ h=>k a h) c
noncomputable def iO (e:Stmt) (f:Pos->Bool):Bool:=if h:e.ctorIdx=27 then @IE.elim (fun _=>Bool) e h f else false
@[elab_as_elim]
theorem qf {P:Stmt->Prop} (e:Stmt) {f:Pos->Bool} (h:iO e f=true) (k:∀ a,f a=true->P (.Continue a)):P e :=
 (pk h).elim fun c => @IE.elim (fun e => ∀ c, @IE.elim (fun _=>Bool) e c f=true->P e) e c (fun a _ h=>k a h) c
noncomputable def lv0 {α:Type} (xs:List α) (b:Bool):Bool:=xs.isEmpty&&b
noncomputable def lvc {α:Type} (xs:List α) (f : α -> List α -> Bool):Bool:=match xs with
 | y::r=>f y r
 | [] => false
noncomputable def lv1 {α:Type} (xs:List α) (f : α -> Bool):Bool:=lvc xs fun y r=>lv0 r (f y)
noncomputable def lv2 {α:Type} (xs:List α) (f : α -> α -> Bool):Bool:=lvc xs fun y r=>lv1 r (f y)
noncomputable def os {α:Type} (o:Option α) (f : α -> Bool):Bool:=match o with
 | some x=>f x
 | none=>false
noncomputable def on {α:Type} (o:Option α) (b:Bool):Bool:=o.isNone&&b
@[elab_as_elim]
theorem fM {α:Type} {P:List α -> Prop} (xs:List α) {b:Bool} (h:lv0 xs b=true) (k:b=true->P []):P xs:=by
 cases xs with
 | nil=>exact k h
 | cons _ _=>cases h
@[elab_as_elim]
theorem A7 {α:Type} {P:List α -> Prop} (xs:List α) {f : α -> List α -> Bool} (h:lvc xs f=true) (k:∀ y r,f y r=true->P (y::r)):P xs:=by
 cases xs with
 | nil=>cases h
 | cons y r=>exact k y r h
@[elab_as_elim]
theorem cJ {α:Type} {P:List α -> Prop} (xs:List α) {f : α -> Bool} (h:lv1 xs f=true) (k:∀ y,f y=true->P [y]):P xs :=
 A7 xs h fun y r h=>fM r h fun h=>k y h
@[elab_as_elim]
theorem cK {α:Type} {P:List α -> Prop} (xs:List α) {f : α -> α -> Bool} (h:lv2 xs f=true) (k:∀ y z,f y z=true->P [y,z]):P xs :=
 A7 xs h fun y r h=>cJ r h fun z h=>k y z h
@[elab_as_elim]
theorem jos {α:Type} {P:Option α -> Prop} (o:Option α) {f : α -> Bool} (h:os o f=true) (k:∀ x,f x=true->P (some x)):P o:=by
 cases o with
 | none=>cases h
 | some x=>exact k x h
@[elab_as_elim]
theorem jon {α:Type} {P:Option α -> Prop} (o:Option α) {b:Bool} (h:on o b=true) (k:b=true->P none):P o:=by
 cases o with
 | none=>exact k h
 | some x=>cases h
theorem bJ {a b:Bool} (h:(a&&b)=true):a=true/\b=true:=by rwa [gV] at h
noncomputable def cD (e:Expr) (g:Str->List Expr->Bool):Bool:=qd e fun f xs ks _=>lv0 ks (cQ f fun x _=>g x xs)
@[elab_as_elim]
theorem dq {P:Expr->Prop} (e:Expr) {g:Str->List Expr->Bool} (h:cD e g=true) (k:∀ x xs p pos,g x xs=true->P (.Call (.Name x p) xs [] pos)):P e :=
 wg e h fun f xs ks pos h=>fM ks h fun h=>dE f h fun x p h=>k x xs p pos h
noncomputable def jY (e:Expr) (g:Expr->Str->List Expr->Pos->Pos->Bool):Bool:=qd e fun f xs ks p=>lv0 ks (iN f fun o n q=>g o n xs q p)
@[elab_as_elim]
theorem qg {P:Expr->Prop} (e:Expr) {g:Expr->Str->List Expr->Pos->Pos->Bool} (h:jY e g=true) (k:∀ o n xs q p,g o n xs q p=true->P (.Call (.Attribute o n q) xs [] p)):P e :=
 wg e h fun f xs ks pos h=>fM ks h fun h=>qe f h fun o n q h=>k o n xs q pos h
noncomputable def iSl (e:Expr) (g:Expr->Option Expr->Option Expr->Option Expr->Bool):Bool:=bR e fun x y _=>sB y fun l u s _=>g x l u s
@[elab_as_elim]
theorem jSl {P:Expr->Prop} (e:Expr) {g:Expr->Option Expr->Option Expr->Option Expr->Bool} (h:iSl e g=true) (k:∀ x l u s p pos,g x l u s=true->P (.Subscript x (.Slice l u s p) pos)):P e :=
 cn e h fun x y pos h=>A3 y h fun l u s p h=>k x l u s p pos h
mutual
noncomputable def okG:MG->Ctx->Expr->Bool
 | .name i,C,e=>cQ e fun x _=>decide (C.N[i]? = some x)&&vj C.sc x&&(C.sc.names.lookup x==some .local || C.fn.contains x)
 | .tup gs,C,e=>cm e fun es _ _=>okGs gs C es
noncomputable def okGs:MGs->Ctx->List Expr->Bool
 | .nil,_,es=>es.isEmpty
 | .cons g r,C,es=>match es with
  | e::es=>aJ e&&okG g C e&&okGs r C es
  | [] => false
end
mutual
noncomputable def okE:ME->Ctx->Expr->Bool
 | .var i,C,e=>cQ e fun x _=>decide (C.N[i]? = some x)&&vh C.sc x && !(x==("__debug__":Str)) && !(x==("__classdict__":Str))
 | .int i,_,e=>dF e fun c _ _=>decide (c = .int i)
 | .bl i,_,e=>dF e fun c _ _=>decide (c = .bool i)
 | .non,_,e=>dF e fun c _ _=>decide (c = .none)
 | .bin op a b,C,e=>sx e fun l o r _=>decide (o=opO op)&&okE a C l&&okE b C r
 | .neg a,C,e=>eM e fun o x _=>decide (o = .USub)&&okE a C x
 | .cmp op a b,C,e=>dk e fun l os rs _=>lv1 os fun o=>lv1 rs fun r=>decide (o=gN op)&&okE a C l&&okE b C r && !(Fg o r)
 | .and es,C,e=>dZ e fun o xs _=>decide (o = .And) && !xs.isEmpty&&okEs es C xs
 | .or es,C,e=>dZ e fun o xs _=>decide (o = .Or) && !xs.isEmpty&&okEs es C xs
 | .not a,C,e=>eM e fun o x _=>decide (o = .Not)&&okE a C x
 | .ite c a b,C,e=>sy e fun t x y _=>okT c C t&&okE a C x&&okE b C y
 | .tup es,C,e=>cm e fun xs _ _=>okEs es C xs
 | .lst es,C,e=>wf e fun xs _=>okEs es C xs
 | .ix a b,C,e=>bR e fun x y _=>bQ y&&okE a C x&&okE b C y
 | .sl a lo hi,C,e=>iSl e fun x l u s=>on s (okE a C x&&okO lo C l&&okO hi C u)
 | .call f es,C,e=>cD e fun x xs=>decide (C.Γ[f]? = some x)&&glB C.sc x && !(x==("__debug__":Str))&&okEs es C xs
 | .blt f es,C,e=>cD e fun x xs=>decide (x=lW f)&&glB C.sc x && !xs.isEmpty&&okEs es C xs
 | .isin2 a T U,C,e=>cD e fun x xs=>lv2 xs fun y w=>cm w fun ws _ _=>lv2 ws fun z' v'=>cQ z' fun z _=>cQ v' fun v _=>decide (x = "isinstance")&&glB C.sc x&&glB C.sc z&&glB C.sc v&&decide (z=D6 T)&&decide (v=D6 U)&&decide (T∈["bool", "int", "str", "tuple", "list", "dict"])&&decide (U∈["bool", "int", "str", "tuple", "list", "dict"])&&aJ y&&okE a C y
 | .isin a T,C,e=>cD e fun x xs=>lv2 xs fun y w=>cQ w fun z _=>decide (x = "isinstance")&&glB C.sc x&&glB C.sc z&&decide (z=D6 T)&&decide (T∈["bool", "int", "str", "tuple", "list", "dict"])&&aJ y&&okE a C y
 | .chain op op' a b c,C,e=>dk e fun l os rs _=>lv2 os fun o o'=>lv2 rs fun r q=>decide (o=gN op)&&decide (o'=gN op')&&okE a C l&&okE b C r&&okE c C q && !(GW [o,o'] [r,q])
 | .dnew _,_,e=>wj e fun ks vs _=>lv0 ks (lv0 vs true)
 | .dget o k x,C,e=>jY e fun y n xs ap cp=>lv2 xs fun e1 e2=>decide (n = "get")&&dY y&&(ap.endLine==cp.line)&&aJ e1&&aJ e2&&okE o C y&&okE k C e1&&okE x C e2
 | .meth m o a,C,e=>jY e fun x n xs ap cp=>lv1 xs fun y=>decide (n=A0 m)&&dY x&&(ap.endLine==cp.line)&&aJ y&&okE o C x&&okE a C y
 | .meth0 m o,C,e=>jY e fun x n xs ap cp=>lv0 xs (decide (n=xX m)&&dY x&&(ap.endLine==cp.line)&&okE o C x)
 | .comp fr N' c,C,e=>jI e fun elt gens sc _=>vk sc C.sc C.N N' fr&&okC c C ⟨C.Γ,N',gO sc C.sc,(sc.names.filter (·.2 == .cell)).map (·.1),C.cs⟩ gens elt
noncomputable def okEs:MEs->Ctx->List Expr->Bool
 | .nil,_,es=>es.isEmpty
 | .cons m r,C,es=>match es with
  | e::es=>aJ e&&okE m C e&&okEs r C es
  | [] => false
noncomputable def okO:MO->Ctx->Option Expr->Bool
 | .none,_,e=>e.isNone
 | .some m,C,e=>match e with
  | some e=>okE m C e
  | none=>false
noncomputable def okT:MT->Ctx->Expr->Bool
 | .tru m,C,e=>lV e&&okE m C e
 | .cmp op a b,C,e=>dk e fun l os rs _=>lv1 os fun o=>lv1 rs fun r=>decide (o=gN op)&&okE a C l&&okE b C r && !(Fg o r)
 | .chain op op' a b c,C,e=>dk e fun l os rs _=>lv2 os fun o o'=>lv2 rs fun r q=>decide (o=gN op)&&decide (o'=gN op')&&okE a C l&&okE b C r&&okE c C q && !(GW [o,o'] [r,q])
 | .and ts,C,e=>dZ e fun o xs _=>decide (o = .And) && !xs.isEmpty&&okTs ts C xs
 | .or ts,C,e=>dZ e fun o xs _=>decide (o = .Or) && !xs.isEmpty&&okTs ts C xs
 | .not t,C,e=>eM e fun o x _=>decide (o = .Not)&&okT t C x
noncomputable def okTs:MTs->Ctx->List Expr->Bool
 | .nil,_,es=>es.isEmpty
 | .cons m r,C,es=>match es with
  | e::es=>okT m C e&&okTs r C es
  | [] => false
noncomputable def okI:MI->Ctx->Expr->Expr->Bool
 | .seq m,C,_,e=>iM e&&okE m C e
 | .keys m,C,_,e=>iM e&&okE m C e
 | .rng1 a,C,_,e=>cD e fun x xs=>lv1 xs fun y=>decide (x = "range")&&glB C.sc x&&aJ y&&okE a C y
 | .enum a,C,t,e=>cD e fun x xs=>lv1 xs fun y=>cm t fun _ _ _=>decide (x = "enumerate")&&glB C.sc x&&aJ y&&okE a C y
 | .zip a b,C,t,e=>cD e fun x xs=>lv2 xs fun y z=>cm t fun _ _ _=>decide (x = "zip")&&glB C.sc x&&aJ y&&aJ z&&okE a C y&&okE b C z
noncomputable def okC:MC->Ctx->Ctx->List D3->Expr->Bool
 | .last src g ifs m,Cs,C,gens,elt=>match gens with
  | [⟨t,it,fs,a⟩] => decide (a=0)&&okI src Cs t it&&okG g C t&&okTs ifs C fs&&okE m C elt
  | _=>false
 | .more src g ifs rest,Cs,C,gens,elt=>match gens with
  | ⟨t,it,fs,a⟩::g2::gs=>decide (a=0)&&okI src Cs t it&&okG g C t&&okTs ifs C fs&&okC rest C C (g2::gs) elt
  | _=>false
end
noncomputable def aS (sc:Scope) (ts:List Expr):List Str:=ts.filterMap fun
 | .Name id pos=>if sc.names.lookup id==some .local&&pos.line==(ts.head?.map (·.pos.line)).getD 0 then some id else none
 | _=>none
noncomputable def qh (sc:Scope) (ts vs:List Expr):Bool := !(ts.length==2 || ts.length==3) || vs.length != ts.length || (aS sc ts).length != ts.length || (aS sc ts).eraseDups.length != (aS sc ts).length || vs.all (IF 8)
noncomputable def qi (C:Ctx) (i:Nat) (x:Str):Bool:=decide (C.N[i]? = some x)&&decide (C.sc.names.lookup x=some .local)
noncomputable def qj (sc:Scope) (ts vs:List Expr) (ns:List Str):Bool := !(!(ts.length==2 || ts.length==3) || vs.length != ts.length) && !(vs.any fun | .Starred .. => true | _=>false)&&decide (aS sc ts=ns) && !((aS sc ts).length != ts.length || (aS sc ts).eraseDups.length != (aS sc ts).length) && !(vs.all (IF 8)) && !(vs.all (constantsAlone 8))
noncomputable def iP (sc:Scope) (tg e:Expr):Bool:=match tg,e with
 | .Tuple ts _ _, .Tuple vs _ _=>qh sc ts vs
 | .Tuple ..,_=>true
 | .Name ..,_=>true
 | _,_=>false
noncomputable def A8 (sc:Scope) (x:Str) (px:Pos) (e:Expr):Bool:=match e with
 | .DictComp _ _ _ s _ => !(sc.names.lookup x==some .local&&px.line==e.pos.line && !(s.names.any fun (n,k)=>n==x&&(k == .local || k == .cell)))
 | _=>true
noncomputable def qk (sc:Scope) (x:Str) (px:Pos) (e:Expr):Bool:=match e with
 | .ListComp _ _ s _=>sc.names.lookup x==some .local&&px.line==e.pos.line && !(s.names.any fun (n,k)=>n==x&&(k == .local || k == .cell))
 | _=>false
mutual
noncomputable def okS:MS->Ctx->Stmt->Bool
 | .asg g m,C,s=>dl s fun ts e _=>lv1 ts fun tg=>okG g C tg&&okE m C e&&iP C.sc tg e&&(match tg with | .Name x px=>A8 C.sc x px e | _=>dX e)
 | .par i j a b,C,s=>dl s fun ts e _=>lv1 ts fun tg=>cm tg fun ts _ _=>cm e fun es _ _=>lv2 ts fun t u=>lv2 es fun e f=>cQ t fun x px=>cQ u fun y py=>qi C i x&&qi C j y&&decide (i≠j)&&aJ e&&aJ f&&okE a C e&&okE b C f&&qj C.sc [.Name x px, .Name y py] [e,f] [x,y]
 | .put2 o i o' i' m,C,s=>dl s fun ts e _=>lv1 ts fun tg=>cm tg fun ts _ _=>lv2 ts fun t u=>bR t fun x y _=>bR u fun x' y' _=>bQ y&&bQ y'&&dX e&&okE o C x&&okE i C y&&okE o' C x'&&okE i' C y'&&okE m C e
 | .put o i m,C,s=>dl s fun ts e _=>lv1 ts fun tg=>bR tg fun x y _=>bQ y&&dX e&&okE o C x&&okE i C y&&okE m C e
 | .drop m,C,s=>sF s fun e _=>dX e&&okE m C e
 | .ret m,C,s=>lX s fun o _=>os o fun e=>okE m C e
 | .ite c a b,C,s=>A5 s fun t x y _=>okT c C t&&okSs a C x&&okSs b C y
 | .for g src b,C,s=>wk s fun tg it body els _=>lv0 els (iM it&&okG g C tg&&okI src C tg it&&okSs b C body)
 | .while c b,C,s=>oj s fun t body els _=>lv0 els (okT c C t&&okSs b C body)
 | .frz _ m,C,s=>okS m C s
 | .bot,_,_=>true
 | .pass,_,s=>sH s fun _=>true
 | .brk,_,s=>ol s fun _=>true
 | .cnt,_,s=>iO s fun _=>true
noncomputable def okSs:MSs->Ctx->List Stmt->Bool
 | .nil,_,ss=>ss.isEmpty
 | .cons m r,C,ss=>match ss with
  | s::ss=>okS m C s&&okSs r C ss
  | [] => false
end
theorem am {e:Expr} {es:List Expr} {env:Env} (h:aJ e=true):CF (e::es) env=(false,eval e env)::CF es env:=by
 cases e <;> first | rfl | (simp [aJ] at h;done)
theorem jJ {e:Expr} {es:List Expr} {env:Env} (h:aJ e=true):DN (e::es) env=(false,assign e env)::DN es env:=by
 cases e <;> first | rfl | (simp [aJ] at h;done)
theorem ql {e:Expr} {env:Env} (h:lV e=true):∀ whole,isTrue e env whole=(do let v <- whole;FT e.pos;holding [v] (truthy v)):=by
 intro w
 cases e <;> first | rfl | (simp [lV] at h;done)
theorem vn {e:Expr} (h:bQ e=true):iW e:=by
 intro o i
 cases e <;> first | rfl | (simp [bQ] at h;done)
theorem lY {e:Expr} {env:Env} (h:iM e=true):∀ x,DW e env x=pure x:=by
 intro x
 cases e <;> first | rfl | (simp [iM] at h;done)
theorem gS {e:Expr} {n:Str} {env:Env} (h:dY e=true):FU e n env (eval e env)=eval e env:=by
 cases e <;> first
  | rfl
  | (rename_i f xs _ _;cases xs with
     | nil=>simp [dY] at h
     | cons _ _=>cases f <;> rfl)
theorem gi {e:Expr} {t:Option Expr} {l:Nat} {env:Env} (h:dX e=true):Et e t l env=pure false:=by
 cases e <;> first | rfl | (simp [dX] at h;done)
end
section
noncomputable def lSp (K:Frag) (r:RAd):Sp:=fun vs H Q _=>lR K r vs H Q
structure Good (C:Ctx) (Φ:Phi) (k:Nat) (X:Cx):Prop where
 hx:∀ e s,X.xe e s->False
 calm:X.calm=true
 N:X.N=C.N
 sc:X.env.scope=C.sc
 nd:X.N.Nodup
 fn:∀ x∈C.fn,X.fn x=true
 room:Room k X.A
 mgB:∀ x∈bltNames,X.mg x=none
 fns:∀ (i:Nat) (x:Str),C.Γ[i]? = some x -> ∃ f fd ps,X.mg x=some (.ref f)/\FJ X.K Dl x=some (some (.ref f))/\E9 X.K (.ref f)=true/\Binds X.K fd ps []/\bu X.prog X.w X.K X.mg X.base CX0 k f fd ps (lSp X.K (Φ i))
 mono:∀ f,aX (Φ f)
 cs:∀ x d,(x,d)∈C.cs -> ∃ u,X.mg x=some u/\GV X.K d u
section
variable {C:Ctx} {Φ:Phi} {k:Nat} {X:Cx}
theorem Good.units (G:Good C Φ k X):X.A.units+64 < Fi:=G.room.units
theorem Good.gl (G:Good C Φ k X) {x:Str} (h:glB C.sc x=true):Gl X x:=by
 show X.env.scope.names.lookup x=_;rw [G.sc];simpa [glB] using h
theorem Good.vis (G:Good C Φ k X) {x:Str} (h:vh C.sc x=true):Vis X.env.scope x:=by
 unfold Vis;rw [G.sc];simp [vh] at h
 rcases h with (h | h) | h
 ·exact .inl h
 ·exact .inr (.inl h)
 ·exact .inr (.inr h)
theorem Good.loc (G:Good C Φ k X) {x:Str} (h:vj C.sc x=true):Loc X.env.scope x:=by
 unfold Loc;rw [G.sc];simpa [vj] using h
theorem Good.own (G:Good C Φ k X) {x:Str} (h:(C.sc.names.lookup x==some .local || C.fn.contains x)=true):X.fn x=true∨X.env.scope.names.lookup x=some .local:=by
 rw [G.sc];simp at h
 rcases h with h | h
 ·exact .inr h
 ·exact .inl (G.fn x h)
theorem A9 (G:Good C Φ k X):∀ o:BOp,OpR X (Dw (opO o)) (l2 X.K (opB o))
 | .add=>um | .sub=>uo | .mul=>uq | .fdiv=>rF | .mod=>uu | .pow=>uw
theorem cY (G:Good C Φ k X):∀ o:COp,OpR X (D2 (gN o)) (l2 X.K (opC o))
 | .eq=>xh (by have:=G.units;lia) | .ne=>xi (by have:=G.units;lia) | .lt=>xo | .le=>xq | .gt=>xt | .ge=>xu| .neD=>vd (by have:=G.units;lia)| .ninK=>so (by have:=G.units;lia)
theorem Aa (G:Good C Φ k X) {f:BF} {e:Expr} {es:List Expr} {t:TAd} {p pos:Pos} (mt:b9 t) (q:Gl X (lW f)) (z:PA X (e::es) (lA X.K t))
 (he:CF (e::es) X.env=(false,eval e X.env)::CF es X.env) (j:(Es pos (CF es X.env)).any (·.1)=false):PE X (.Call (.Name (lW f) p) (e::es) [] pos) (lE X.K (wAr (opF f) t)):=by
 cases f with
 | len=>exact PE.imp (bv pJ q (G.mgB _ (by decide)) PySem.boot_len z (by decide) (by decide) he j) (bN kQ mt)
 | abs=>exact PE.imp (bv pK q (G.mgB _ (by decide)) (by decide +kernel) z (by decide) (by decide) he j) (bN kS mt)
 | min2=>exact PE.imp (bv (nA G.calm) q (G.mgB _ (by decide)) (by decide +kernel) z (by decide) (by decide) he j) (bN jy mt)
 | int=>exact PE.imp (dA pM q (G.mgB _ (by decide)) (by decide +kernel) z (by decide) (by decide) he j) (bN kU mt)
 | list=>exact PE.imp (dA nB q (G.mgB _ (by decide)) (by decide +kernel) z (by decide) (by decide) he j) (bN jz mt)
 | tuple=>exact PE.imp (dA kX q (G.mgB _ (by decide)) (by decide +kernel) z (by decide) (by decide) he j) (bN ik mt)
 | all=>exact PE.imp (bv (pV G.calm) q (G.mgB _ (by decide)) (by decide +kernel) z (by decide) (by decide) he j) (bN lJ mt)
 | dict=>exact PE.imp (dA (nD (by have:=G.units;lia) G.calm) q (G.mgB _ (by decide)) (by decide +kernel) z (by decide) (by decide) he j) (bN jG mt)
theorem y0 (G:Good C Φ k X) {f:Nat} {x:Str} {e:Expr} {es:List Expr} {t:TAd} {p pos:Pos} (mt:b9 t) (hf:C.Γ[f]? = some x) (z:Gl X x) (j:(x==("__debug__":Str))=false) (B:PA X (e::es) (lA X.K t))
 (he:CF (e::es) X.env=(false,eval e X.env)::CF es X.env) (q:(Es pos (CF es X.env)).any (·.1)=false):PE X (.Call (.Name x p) (e::es) [] pos) (lE X.K (wAr (Φ f) t)):=by
 obtain ⟨a,fd,ps,hm,_,J,L,F⟩:=G.fns f x hf;refine PE.imp (wN F G.room z hm J L .nil vW B j he q) fun σ H Q h => ?_;have h2:=bN (G.mono f) mt σ H Q h;have:(fun vs H1=>lSp X.K (Φ f) (vs++[]) H1 Q E0)=fun vs H1=>lR X.K (Φ f) vs H1 Q:=by
  funext vs H1;rw [DF];rfl
 show (lA X.K t) σ H _;rw [this];exact h2
theorem vp (G:Good C Φ k X) {f:Nat} {x:Str} {p pos:Pos} (hf:C.Γ[f]? = some x) (z:Gl X x) (j:(x==("__debug__":Str))=false):PE X (.Call (.Name x p) [] [] pos) (lE X.K (wAr (Φ f) bw)):=by
 obtain ⟨a,fd,ps,hm,_,B,J,F⟩:=G.fns f x hf;refine PE.imp (tV F G.room z hm B J .nil vW j) fun σ H Q h => ?_;obtain ⟨ρ,M,rs,rm,q⟩:=h;exact ⟨[],M,rm,RDs.nil,q⟩
theorem gT {env:Env} {pos:Pos}:∀ {es:List Expr},es.all aJ=true->(Es pos (CF es env)).any (·.1)=false
 | [],_=>rfl
 | e::es,h=>by
   simp only [Ep,gV] at h;rw [am h.1];show (false || (Es pos (CF es env)).any (·.1))=false
   rw [gT h.2];rfl
theorem fN:∀ {ms:MEs} {es:List Expr},okEs ms C es=true->es.all aJ=true
 | .nil,[],_=>rfl
 | .nil,_::_,h=>by simp [okEs] at h
 | .cons m r,[],h=>by simp [okEs] at h
 | .cons m r,e::es,h=>by
  simp only [okEs,gV] at h;simp only [Ep,gV];exact ⟨h.1.1,fN h.2⟩
theorem om:∀ {gs:MGs} {es:List Expr},okGs gs C es=true -> ∀ ds ρ ρ',bGs gs ds ρ = some ρ'->ds.length=es.length
 | .nil,es,h,ds, ρ, ρ',e=>by
  simp [okGs] at h;subst h;rw [bGs] at e
  cases ds with
  | nil=>rfl
  | cons _ _=>cases e
 | .cons g r,[],h,_,_,_,_=>by simp [okGs] at h
 | .cons g r,x::es,h,ds, ρ, ρ',e=>by
  simp only [okGs,gV] at h;rw [bGs] at e
  cases ds with
  | nil=>cases e
  | cons d ds =>
    simp only [bO] at e
    cases e1:bG g d ρ with
    | none=>rw [e1] at e;cases e
    | some ρ1 =>
      rw [e1] at e;simp [om h.2 ds ρ1 ρ' e]
theorem lZ {env:Env}:∀ {gs:MGs} {es:List Expr},okGs gs C es=true->(DN es env).length=es.length/\(DN es env).findIdx? (·.1)=none
 | .nil,es,h=>by simp [okGs] at h;subst h;exact ⟨rfl,rfl⟩
 | .cons g r,[],h=>by simp [okGs] at h
 | .cons g r,x::es,h=>by
  simp only [okGs,gV] at h;obtain ⟨a,b⟩:=lZ (env:=env) h.2;rw [jJ h.1.1];refine ⟨by simp [a], ?_⟩
  rw [List.findIdx?_cons];simp [b]
mutual
theorem sG (G:Good C Φ k X):∀ (m:MG) (e:Expr),okG m C e=true->PG X e (lG X.K (bG m))
 | .name i,e,h=>by
  refine dE e h fun x _ h => ?_;simp only [gV] at h;exact xH G.nd (by rw [G.N];exact of_decide_eq_true h.1.1) (G.loc h.1.2) (G.own h.2)
 | .tup gs,e,h=>by
  refine cC e h fun es _ _ h => ?_;rw [bG];obtain ⟨a,b⟩:=lZ (env:=X.env) h;exact zL G.calm (om h) (sGs G gs _ h) a b
theorem sGs (G:Good C Φ k X):∀ (m:MGs) (es:List Expr),okGs m C es=true->PGs X es (lGs X.K (bGs m))
 | .nil,es,h=>by
  simp [okGs] at h;subst h;exact xI
 | .cons g r,[],h=>by simp [okGs] at h
 | .cons g r,e::es,h=>by
  simp only [okGs,gV] at h;exact uJ (sG G g e h.1.2) (sGs G r es h.2) (by rw [jJ h.1.1];rfl)
end
theorem PB.imp {F:Sem Fin->Sem Fin} {t t':TC} (h:PB X F t) (i:∀ σ H N,t' σ H N->t σ H N):PB X F t':=fun pins s σ H N k Q E I q hk=>h pins s σ H N k Q E I (i _ _ _ q) hk
theorem iQ {sc osc:Scope} {oN N':List Str} {fr:List (Option Nat)} (h:vk sc osc oN N' fr=true):aU sc osc oN N' fr:=by
 simp only [vk,gV,decide_eq_true_eq] at h;obtain ⟨⟨⟨⟨⟨h1,h2⟩,F⟩,G⟩,J⟩,L⟩:=h;refine ⟨h1,h2,F,fun x hx e => ?_,J,fun i j x hi hf => ?_⟩
 ·have z:=Ez.mp G x hx;rw [e] at z;simpa using z
 ·have B:i < N'.length:=(CI.mp hi).1;have q:=Ez.mp L i (Fz.mpr B);rw [hf,hi] at q;simp only [gV,decide_eq_true_eq,Ey] at q;obtain ⟨a,y,O,e⟩:=q;exact ⟨a,by rw [<- e];exact O⟩
theorem Good.blk (G:Good C Φ k X) {sc:Scope} {N':List Str} {fr:List (Option Nat)} (B:aU sc C.sc C.N N' fr) (s:h7) (H:Hp) (fp:List Addr) :
 Good ⟨C.Γ,N',gO sc C.sc,(sc.names.filter (·.2 == .cell)).map (·.1),C.cs⟩ Φ k (aA X sc N' s H fp):=by
 refine ⟨fun _ _ h=>h,G.calm,rfl, ?_,B.ndN,fun x hx => ?_,G.room,G.mgB,G.fns,G.mono,G.cs⟩
 ·show relabel sc X.env=_;rw [nE,G.sc]
 ·obtain ⟨y,q,e⟩:=Ej.mp hx;obtain ⟨h1,h2⟩:=Ef.mp q;obtain ⟨n,kd⟩:=y;have j:kd = .cell:=by simpa using h2
  subst j;have e':n=x:=e;subst e';show (sc.names.lookup n==some .cell)=true;rw [aN B.nd h1];rfl
end
end
section
section
variable {Φ:Phi} {k:Nat}
theorem cZ {C:Ctx} {X:Cx} (G:Good C Φ k X) {F:Sem Fin->Sem Fin} {p:Addr} {tb:TCd} {ifs:List Expr} {ts:List TTd} (mb:bP tb) (mt:∀ t∈ts,ay t) (j:PB X F (lC X.K p tb)) (q:CU (fun c t=>PT X c t) ifs (ts.map (lT X.K))) :
 PB X (fun k=>b7 ifs X.env >>= fun ok=>if ok=true then F k else k) (lC X.K p (bc ts tb)) :=
 PB.imp (ud G.hx j q) (iB mb mt)
theorem fO {m:MC} {Cs C:Ctx} {g2:D3} {gs:List D3} {elt:Expr} (h:okC m Cs C (g2::gs) elt=true):g2.is_async=0:=by
 obtain ⟨t,i,f,a⟩:=g2
 cases m with
 | last src g ifs m =>
   cases gs with
   | nil=>simp only [okC,gV,decide_eq_true_eq] at h;exact h.1.1.1.1
   | cons _ _=>simp [okC] at h
 | more src g ifs rest =>
   cases gs with
   | nil=>simp [okC] at h
   | cons _ _=>simp only [okC,gV,decide_eq_true_eq] at h;exact h.1.1.1.1
theorem gU {C:Ctx} {X:Cx} (G:Good C Φ k X):∀ T∈["bool", "int", "str", "tuple", "list", "dict"],X.mg (D6 T)=none/\DR (D6 T)=some (.type T)/\D6 T ≠ "__name__" /\ (D6 T==("__debug__":Str))=false:=by
 intro T j;simp only [CC,D0,or_false] at j
 rcases j with rfl | rfl | rfl | rfl | rfl | rfl
 all_goals exact ⟨G.mgB _ (by decide),by decide +kernel,by decide,by decide⟩
mutual
theorem sE:∀ (m:ME) {C:Ctx} {X:Cx} (G:Good C Φ k X) (e:Expr),okE m C e=true->PE X e (lE X.K (wE Φ m))
 | .var i,C,X,G,e,h=>by
  refine dE e h fun x _ h => ?_;simp only [gV,Df,decide_eq_true_eq] at h;exact zy (by rw [G.N];exact h.1.1.1) (G.vis h.1.1.2) h.1.2 h.2
 | .int i,C,X,G,e,h=>by
  refine fL e h fun c _ _ h => ?_;rw [of_decide_eq_true h];exact le_int
 | .bl i,C,X,G,e,h=>by
  refine fL e h fun c _ _ h => ?_;rw [of_decide_eq_true h];exact AS
 | .non,C,X,G,e,h=>by
  refine fL e h fun c _ _ h => ?_;rw [of_decide_eq_true h];exact zz
 | .bin op a b,C,X,G,e,h=>by
  refine A1 e h fun l o r _ h => ?_;simp only [gV,decide_eq_true_eq] at h;rw [h.1.1];exact AT (A9 G op) (lU op) (mE G.mono a) (mE G.mono b) (sE a G _ h.1.2) (sE b G _ h.2)
 | .neg a,C,X,G,e,h=>by
  refine gQ e h fun o x _ h => ?_;replace h:=bJ h;obtain ⟨ho,h⟩:=h
  cases of_decide_eq_true ho
  exact AU uz kN (mE G.mono a) (sE a G _ h)
 | .cmp op a b,C,X,G,e,h=>by
  refine eN e h fun l os rs pos h => ?_;refine cJ os h fun o h => ?_;refine cJ rs h fun r h => ?_;simp only [gV,decide_eq_true_eq] at h;obtain ⟨⟨⟨ho,O⟩,hb⟩,hm⟩:=h;rw [Df] at hm;subst ho;exact zA (cY G op) (aW op) (mE G.mono a) (mE G.mono b) (sE a G _ O) (sE b G _ hb) hm
 | .and es,C,X,G,e,h=>by
  refine gh e h fun o xs _ h => ?_;replace h:=bJ h;obtain ⟨ho,h⟩:=h;obtain ⟨ho,j⟩:=bJ ho
  cases of_decide_eq_true ho
  exact sAnds es G _ _ h (by intro z;rw [z] at j;cases j)
 | .or es,C,X,G,e,h=>by
  refine gh e h fun o xs _ h => ?_;replace h:=bJ h;obtain ⟨ho,h⟩:=h;obtain ⟨ho,j⟩:=bJ ho
  cases of_decide_eq_true ho
  exact sOrs es G _ _ h (by intro z;rw [z] at j;cases j)
 | .not a,C,X,G,e,h=>by
  refine gQ e h fun o x _ h => ?_;replace h:=bJ h;obtain ⟨ho,h⟩:=h
  cases of_decide_eq_true ho
  exact zK (mE G.mono a) (sE a G _ h)
 | .ite c a b,C,X,G,e,h=>by
  refine A2 e h fun t x y _ h => ?_;simp only [gV] at h;exact B0 (mT G.mono c) (mE G.mono a) (mE G.mono b) (sT c G _ h.1.1) (sE a G _ h.1.2) (sE b G _ h.2)
 | .tup es,C,X,G,e,h=>by
  refine cC e h fun xs _ _ h => ?_;exact zC (mA G.mono es) (sA es G _ h)
 | .lst es,C,X,G,e,h=>by
  refine B6 e h fun xs _ h => ?_;exact zD (mA G.mono es) (sA es G _ h)
 | .ix a b,C,X,G,e,h=>by
  refine cn e h fun x y _ h => ?_;simp only [gV] at h;exact AV (BG (by have:=G.units;lia)) nU (mE G.mono a) (mE G.mono b) (sE a G _ h.1.2) (sE b G _ h.2) (vn h.1.1)
 | .sl a lo hi,C,X,G,e,h=>by
  refine jSl e h fun x l u s p pos h => ?_;refine jon s h fun  h => ?_;simp only [gV] at h;exact B3 (mE G.mono a) (mO G.mono lo) (mO G.mono hi) (sE a G _ h.1.1) (sO lo G _ h.1.2) (sO hi G _ h.2)
 | .call f es,C,X,G,e,h=>by
  refine dq e h fun x xs p pos h => ?_;simp only [gV,decide_eq_true_eq,Df] at h;have hA:=sA es G _ h.2;have J:=fN h.2
  cases xs with
  | nil =>
    cases es with
    | nil=>exact vp G h.1.1.1 (G.gl h.1.1.2) h.1.2
    | cons _ _=>simp [okEs] at h
  | cons y ys =>
    simp only [Ep,gV] at J;exact y0 G (mA G.mono es) h.1.1.1 (G.gl h.1.1.2) h.1.2 hA (am J.1) (gT J.2)
 | .blt f es,C,X,G,e,h=>by
  refine dq e h fun x xs p pos h => ?_;simp only [gV,decide_eq_true_eq,Df] at h;have hA:=sA es G _ h.2;have J:=fN h.2;obtain ⟨⟨⟨rfl,Y⟩,j⟩,_⟩:=h
  cases xs with
  | nil=>simp at j
  | cons y ys =>
    simp only [Ep,gV] at J;exact Aa G (mA G.mono es) (G.gl Y) hA (am J.1) (gT J.2)
 | .chain op op' a b c,C,X,G,e,h=>by
  refine eN e h fun l os rs pos h => ?_;refine cK os h fun o o' h => ?_;refine cK rs h fun r q h => ?_;simp only [gV,decide_eq_true_eq,Df] at h;obtain ⟨⟨⟨⟨⟨rfl,rfl⟩,O⟩,hb⟩,hc⟩,hm⟩:=h;exact uY (cY G op) (cY G op') (aW op) (aW op') (mE G.mono a) (mE G.mono b) (mE G.mono c) (sE a G _ O) (sE b G _ hb) (sE c G _ hc) hm
 | .dnew t,C,X,G,e,h=>by
  refine B7 e h fun ks vs _ h => ?_;refine fM ks h fun  h => ?_;refine fM vs h fun  h => ?_;exact xN
 | .dget o k' x,C,X,G,e,h=>by
  refine qg e h fun y n xs ap cp h => ?_;refine cK xs h fun e1 e2 h => ?_;simp only [gV,decide_eq_true_eq] at h;obtain ⟨⟨⟨⟨⟨⟨⟨rfl,L⟩,hl⟩,BN⟩,BO⟩,ho⟩,hk⟩,hx⟩:=h;have st:CF [e1,e2] X.env=[(false,eval e1 X.env),(false,eval e2 X.env)]:=by
   rw [am BN,am BO];rfl
  refine xP (by have:=G.units;lia) (mE G.mono o) (mE G.mono k') (mE G.mono x) (sE o G _ ho) (sE k' G _ hk) (sE x G _ hx) ⟨gS L, ?_,hl, ?_⟩
  ·rw [st];rfl
  ·rw [st];rfl
 | .isin2 a T U,C,X,G,e,h=>by
  refine dq e h fun x xs p pos h => ?_;refine cK xs h fun y w h => ?_;refine cC w h fun ws k1 p1 h => ?_;refine cK ws h fun z' v' h => ?_;refine dE z' h fun z p2 h => ?_;refine dE v' h fun v p3 h => ?_;simp only [gV,decide_eq_true_eq] at h;obtain ⟨⟨⟨⟨⟨⟨⟨⟨⟨rfl,Y⟩,Z⟩,BP⟩,hz⟩,hy⟩,hT⟩,hU⟩,hs⟩,O⟩:=h;obtain ⟨n1,n2,n3,n4⟩:=gU G T hT;obtain ⟨m1,m2,m3,m4⟩:=gU G U hU;subst hz hy;exact v7 hT hU (mE G.mono a) (sE a G _ O) (G.gl Y) (G.mgB _ (by decide)) (G.gl Z) n1 n2 n3 n4 (G.gl BP) m1 m2 m3 m4 (am hs)
 | .isin a T,C,X,G,e,h=>by
  refine dq e h fun x xs p pos h => ?_;refine cK xs h fun y w h => ?_;refine dE w h fun z p2 h => ?_;simp only [gV,decide_eq_true_eq] at h;obtain ⟨⟨⟨⟨⟨⟨rfl,Y⟩,Z⟩,hz⟩,hT⟩,hs⟩,O⟩:=h;obtain ⟨n1,n2,n3,n4⟩:=gU G T hT;subst hz;exact xE hT (mE G.mono a) (sE a G _ O) (G.gl Y) (G.mgB _ (by decide)) (G.gl Z) n1 n2 n3 n4 (am hs) rfl
 | .meth m o a,C,X,G,e,h=>by
  refine qg e h fun x n xs ap cp h => ?_;refine cJ xs h fun y h => ?_;simp only [gV,decide_eq_true_eq] at h;obtain ⟨⟨⟨⟨⟨hn,L⟩,hl⟩,hs⟩,ho⟩,O⟩:=h;subst hn;have pa:PA X [y] (lA X.K (aH (wE Φ a) bw)):=cb (mE G.mono a) aB (sE a G _ O) dR (am hs);have few:((Es cp (CF [y] X.env)).all (fun x => !x.1)&&(Kf cp (HP [] X.env)).all (fun x=>x.1.isSome)&&decide (([y]:List Expr).length+([]:List Gf).length+(if ([]:List Gf).isEmpty then 0 else 1) < 30))=true:=by
   rw [am hs];rfl
  cases m with
  | append=>exact PE.imp (AK He PySem.F.slot_list_append PySem.F.type_list_append jq (sE o G _ ho) pa (gS L) few hl (am hs) rfl) (xF gA (mE G.mono o) (aD (mE G.mono a) aB) uI)
 | .meth0 m o,C,X,G,e,h=>by
  refine qg e h fun x n xs ap cp h => ?_;refine fM xs h fun  h => ?_;simp only [gV,decide_eq_true_eq] at h;obtain ⟨⟨⟨hn,L⟩,hl⟩,ho⟩:=h;subst hn
  cases m with
  | clear=>exact PE.imp (zk He PySem.F.slot_list_clear PySem.F.type_list_clear tZ (sE o G _ ho) (gS L) hl) (uH iw (mE G.mono o) xG)
 | .comp fr N' c,C,X,G,e,h=>by
  refine sC e h fun elt gens sc pos h => ?_;simp only [gV] at h;have B:aU sc X.env.scope X.N N' fr:=by rw [G.sc,G.N];exact iQ h.1
  have B':aU sc C.sc C.N N' fr:=iQ h.1
  cases c with
  | last src g ifs m =>
    have h2:=h.2;simp only [okC] at h2
    split at h2
    ·rename_i t it fs a;simp only [gV,decide_eq_true_eq] at h2;obtain ⟨⟨⟨⟨rfl,hi⟩,Y⟩,ht⟩,he⟩:=h2;refine PE.imp (gy G.calm G.hx B (fun g' z=>by simp at z) (sI src G _ t hi).1 (fun s H fp=>sG (G.blk B' s H fp) g t Y) (tb:=fun p=>lC X.K p (bc (wTl Φ ifs) (ck (wE Φ m)))) (fun s H fp p => ?_) (sI src G _ t hi).2) (dB (mI G.mono src) (aI (bq (mE G.mono m)) (mTl G.mono ifs)))
     have G':=G.blk B' s H fp;exact cZ (p:=p) G' (bq (mE G.mono m)) (mTl G.mono ifs) (PB.imp (j0 G'.hx (sE m G' elt he) rfl) (fB (mE G.mono m))) (sTl ifs G' fs ht)
    ·cases h2
  | more src g ifs rest =>
    have h2:=h.2;simp only [okC] at h2
    split at h2
    ·rename_i t it fs a g2 gs;simp only [gV,decide_eq_true_eq] at h2;obtain ⟨⟨⟨⟨rfl,hi⟩,Y⟩,ht⟩,he⟩:=h2;have BQ:∀ g',(g2::gs)[0]? = some g'->g'.is_async=0:=fun g' z=>by
      have z':g2=g':=by simpa using z
      subst z';exact fO he
     refine PE.imp (gy G.calm G.hx B BQ (sI src G _ t hi).1 (fun s H fp=>sG (G.blk B' s H fp) g t Y) (tb:=fun p=>lC X.K p (bc (wTl Φ ifs) (wCl Φ rest))) (fun s H fp p => ?_) (sI src G _ t hi).2) (dB (mI G.mono src) (aI (mCl G.mono rest) (mTl G.mono ifs)));have G':=G.blk B' s H fp;exact cZ (p:=p) G' (mCl G.mono rest) (mTl G.mono ifs) (sCl rest G' elt (⟨t,it,fs,0⟩::g2::gs) sc pos 0 (.inl rfl) p he) (sTl ifs G' fs ht)
    ·cases h2
theorem sA:∀ (m:MEs) {C:Ctx} {X:Cx} (G:Good C Φ k X) (es:List Expr),okEs m C es=true->PA X es (lA X.K (wA Φ m))
 | .nil,C,X,G,es,h=>by
  simp [okEs] at h;subst h;exact dR
 | .cons m r,C,X,G,[],h=>by simp [okEs] at h
 | .cons m r,C,X,G,e::es,h=>by
  simp only [okEs,gV] at h;exact cb (mE G.mono m) (mA G.mono r) (sE m G e h.1.2) (sA r G es h.2) (am h.1.1)
theorem sAnds:∀ (m:MEs) {C:Ctx} {X:Cx} (G:Good C Φ k X) (es:List Expr) (pos:Pos),okEs m C es=true->es≠[]->PE X (.BoolOp .And es pos) (lE X.K (wAnds Φ m))
 | .nil,C,X,G,es,pos,h,j=>by simp [okEs] at h;exact absurd h j
 | .cons m r,C,X,G,[],pos,h,j=>absurd rfl j
 | .cons m .nil,C,X,G,e::es,pos,h,_=>by
  simp only [okEs,gV] at h;obtain ⟨h1,h2⟩:=h;simp at h2;subst h2;exact rN (sE m G e h1.2)
 | .cons m (.cons m2 r),C,X,G,e::es,pos,h,_=>by
  simp only [okEs,gV] at h;obtain ⟨h1,h2⟩:=h
  cases es with
  | nil=>simp at h2
  | cons f fs =>
    exact zJ (mE G.mono m) (mAnds G.mono _) (sE m G e h1.2) (sAnds (.cons m2 r) G (f::fs) pos (by simpa only [okEs,gV] using h2) (by simp))
theorem sOrs:∀ (m:MEs) {C:Ctx} {X:Cx} (G:Good C Φ k X) (es:List Expr) (pos:Pos),okEs m C es=true->es≠[]->PE X (.BoolOp .Or es pos) (lE X.K (wOrs Φ m))
 | .nil,C,X,G,es,pos,h,j=>by simp [okEs] at h;exact absurd h j
 | .cons m r,C,X,G,[],pos,h,j=>absurd rfl j
 | .cons m .nil,C,X,G,e::es,pos,h,_=>by
  simp only [okEs,gV] at h;obtain ⟨h1,h2⟩:=h;simp at h2;subst h2;exact rN (sE m G e h1.2)
 | .cons m (.cons m2 r),C,X,G,e::es,pos,h,_=>by
  simp only [okEs,gV] at h;obtain ⟨h1,h2⟩:=h
  cases es with
  | nil=>simp at h2
  | cons f fs =>
    exact AZ (mE G.mono m) (mOrs G.mono _) (sE m G e h1.2) (sOrs (.cons m2 r) G (f::fs) pos (by simpa only [okEs,gV] using h2) (by simp))
theorem sO:∀ (m:MO) {C:Ctx} {X:Cx} (G:Good C Φ k X) (e:Option Expr),okO m C e=true->PO X e (lO X.K (wO Φ m))
 | .none,C,X,G,e,h=>by
  simp [okO] at h;subst h;exact xz
 | .some m,C,X,G,none,h=>by simp [okO] at h
 | .some m,C,X,G,some e,h=>by
  simp only [okO] at h;exact xA (mE G.mono m) (sE m G e h)
theorem sT:∀ (m:MT) {C:Ctx} {X:Cx} (G:Good C Φ k X) (e:Expr),okT m C e=true->PT X e (lT X.K (wT Φ m))
 | .tru m,C,X,G,e,h=>by
  simp only [okT,gV] at h;exact zF (mE G.mono m) (sE m G e h.2) (ql h.1)
 | .cmp op a b,C,X,G,e,h=>by
  refine eN e h fun l os rs pos h => ?_;refine cJ os h fun o h => ?_;refine cJ rs h fun r h => ?_;simp only [gV,decide_eq_true_eq] at h;obtain ⟨⟨⟨ho,B⟩,F⟩,hm⟩:=h;rw [Df] at hm;subst ho;exact zB (cY G op) (aW op) (mE G.mono a) (mE G.mono b) (sE a G _ B) (sE b G _ F) hm
 | .chain op op' a b c,C,X,G,e,h=>by
  refine eN e h fun l os rs pos h => ?_;refine cK os h fun o o' h => ?_;refine cK rs h fun r q h => ?_;simp only [gV,decide_eq_true_eq,Df] at h;obtain ⟨⟨⟨⟨⟨rfl,rfl⟩,B⟩,F⟩,J⟩,hm⟩:=h;exact uZ (cY G op) (cY G op') (aW op) (aW op') (mE G.mono a) (mE G.mono b) (mE G.mono c) (sE a G _ B) (sE b G _ F) (sE c G _ J) hm
 | .and ts,C,X,G,e,h=>by
  refine gh e h fun o xs _ h => ?_;replace h:=bJ h;obtain ⟨ho,h⟩:=h;obtain ⟨ho,j⟩:=bJ ho
  cases of_decide_eq_true ho
  exact (sAndTs ts G _ _ h (by intro z;rw [z] at j;cases j)).pt
 | .or ts,C,X,G,e,h=>by
  refine gh e h fun o xs _ h => ?_;replace h:=bJ h;obtain ⟨ho,h⟩:=h;obtain ⟨ho,j⟩:=bJ ho
  cases of_decide_eq_true ho
  exact (sOrTs ts G _ _ h (by intro z;rw [z] at j;cases j)).pt
 | .not t,C,X,G,e,h=>by
  refine gQ e h fun o x _ h => ?_;replace h:=bJ h;obtain ⟨ho,h⟩:=h
  cases of_decide_eq_true ho
  exact zG (mT G.mono t) (sT t G _ h)
theorem sAndTs:∀ (m:MTs) {C:Ctx} {X:Cx} (G:Good C Φ k X) (es:List Expr) (pos:Pos),okTs m C es=true->es≠[]->PW X (.BoolOp .And es pos) (lT X.K (wAndTs Φ m))
 | .nil,C,X,G,es,pos,h,j=>by simp [okTs] at h;exact absurd h j
 | .cons m r,C,X,G,[],pos,h,j=>absurd rfl j
 | .cons m .nil,C,X,G,e::es,pos,h,_=>by
  simp only [okTs,gV] at h;obtain ⟨h1,h2⟩:=h;simp at h2;subst h2;exact xw (sT m G e h1)
 | .cons m (.cons m2 r),C,X,G,e::es,pos,h,_=>by
  simp only [okTs,gV] at h;obtain ⟨h1,h2⟩:=h
  cases es with
  | nil=>simp at h2
  | cons f fs =>
    exact zI (mT G.mono m) (mAndTs G.mono _) (sT m G e h1) (sAndTs (.cons m2 r) G (f::fs) pos (by simpa only [okTs,gV] using h2) (by simp))
theorem sOrTs:∀ (m:MTs) {C:Ctx} {X:Cx} (G:Good C Φ k X) (es:List Expr) (pos:Pos),okTs m C es=true->es≠[]->PW X (.BoolOp .Or es pos) (lT X.K (wOrTs Φ m))
 | .nil,C,X,G,es,pos,h,j=>by simp [okTs] at h;exact absurd h j
 | .cons m r,C,X,G,[],pos,h,j=>absurd rfl j
 | .cons m .nil,C,X,G,e::es,pos,h,_=>by
  simp only [okTs,gV] at h;obtain ⟨h1,h2⟩:=h;simp at h2;subst h2;exact zH (sT m G e h1)
 | .cons m (.cons m2 r),C,X,G,e::es,pos,h,_=>by
  simp only [okTs,gV] at h;obtain ⟨h1,h2⟩:=h
  cases es with
  | nil=>simp at h2
  | cons f fs =>
    exact AY (mT G.mono m) (mOrTs G.mono _) (sT m G e h1) (sOrTs (.cons m2 r) G (f::fs) pos (by simpa only [okTs,gV] using h2) (by simp))
theorem sTl:∀ (m:MTs) {C:Ctx} {X:Cx} (G:Good C Φ k X) (es:List Expr),okTs m C es=true->CU (fun c t=>PT X c t) es ((wTl Φ m).map (lT X.K))
 | .nil,C,X,G,es,h=>by
  simp [okTs] at h;subst h;exact .nil
 | .cons m r,C,X,G,[],h=>by simp [okTs] at h
 | .cons m r,C,X,G,e::es,h=>by
  simp only [okTs,gV] at h;exact .cons (sT m G e h.1) (sTl r G es h.2)
theorem sI:∀ (m:MI) {C:Ctx} {X:Cx} (G:Good C Φ k X) (e tg:Expr),okI m C tg e=true->PI X tg e (lI X.K (wI Φ m)) /\ ∀ x,DW e X.env x=pure x
 | .seq m,C,X,G,e,tg,h=>by
  simp only [okI,gV] at h;exact ⟨zO (mE G.mono m) (sE m G e h.2),lY h.1⟩
 | .keys m,C,X,G,e,tg,h=>by
  simp only [okI,gV] at h;exact ⟨xV (mE G.mono m) (sE m G e h.2),lY h.1⟩
 | .rng1 a,C,X,G,e,tg,h=>by
  refine dq e h fun x xs p pos h => ?_;refine cJ xs h fun y h => ?_;simp only [gV,decide_eq_true_eq] at h;obtain ⟨⟨⟨rfl,q⟩,hs⟩,B⟩:=h;exact ⟨xJ (aD (mE G.mono a) aB) (G.gl q) (G.mgB _ (by decide)) (cb (mE G.mono a) aB (sE a G _ B) dR (am hs)) (am hs),fun x=>rfl⟩
 | .enum a,C,X,G,e,tg,h=>by
  refine dq e h fun x xs p pos h => ?_;refine cJ xs h fun y h => ?_;refine cC tg h fun ts kt pt h => ?_;simp only [gV,decide_eq_true_eq] at h;obtain ⟨⟨⟨rfl,q⟩,hs⟩,B⟩:=h;exact ⟨xK (mE G.mono a) (G.gl q) (G.mgB _ (by decide)) (cb (mE G.mono a) aB (sE a G _ B) dR (am hs)) (am hs),fun x=>rfl⟩
 | .zip a b,C,X,G,e,tg,h=>by
  refine dq e h fun x xs p pos h => ?_;refine cK xs h fun y z h => ?_;refine cC tg h fun ts kt pt h => ?_;simp only [gV,decide_eq_true_eq] at h;obtain ⟨⟨⟨⟨⟨rfl,q⟩,hs⟩,j⟩,B⟩,F⟩:=h;exact ⟨zR (mE G.mono a) (mE G.mono b) (G.gl q) (G.mgB _ (by decide)) (cb (mE G.mono a) (aD (mE G.mono b) aB) (sE a G _ B) (cb (mE G.mono b) aB (sE b G _ F) dR (am j)) (am hs)) (by rw [am hs,am j];rfl) (am j),fun x=>rfl⟩
theorem sCl:∀ (m:MC) {C:Ctx} {X:Cx} (G:Good C Φ k X) (elt:Expr) (gens:List D3) (sc:Scope) (pos:Pos) (d:Nat) (_:d=0∨d=d) (p:Addr),okC m C C (gens.drop (d+1)) elt=true ->
 PB X (aT elt gens sc pos d (.ref p) X.env) (lC X.K p (wCl Φ m))
 | .last src g ifs m,C,X,G,elt,gens,sc,pos,d,_,p,h=>by
  simp only [okC] at h
  split at h
  ·rename_i t it fs a hd;simp only [gV,decide_eq_true_eq] at h;obtain ⟨⟨⟨⟨rfl,hi⟩,q⟩,ht⟩,he⟩:=h;have B:gens[d+1]? = some ⟨t,it,fs,0⟩:=by
    have z:(gens.drop (d+1))[0]? = some ⟨t,it,fs,0⟩:=by rw [hd];rfl
    rw [Fs] at z;simpa using z
   have j:gens[d+1+1]? = none:=by
    have z:(gens.drop (d+1))[1]? = none:=by rw [hd];rfl
    rw [Fs] at z;simpa using z
   refine PB.imp (jv G.hx G.calm B (fun g' z=>by rw [j] at z;cases z) (sI src G _ t hi).1 (sG G g t q) (cZ (p:=p) G (bq (mE G.mono m)) (mTl G.mono ifs) (PB.imp (j0 G.hx (sE m G elt he) j) (fB (mE G.mono m))) (sTl ifs G fs ht)) (sI src G _ t hi).2) (gC (mI G.mono src) (aI (bq (mE G.mono m)) (mTl G.mono ifs)))
  ·cases h
 | .more src g ifs rest,C,X,G,elt,gens,sc,pos,d,_,p,h=>by
  simp only [okC] at h
  split at h
  ·rename_i t it fs a g2 gs hd;simp only [gV,decide_eq_true_eq] at h;obtain ⟨⟨⟨⟨rfl,hi⟩,q⟩,ht⟩,he⟩:=h;have B:gens[d+1]? = some ⟨t,it,fs,0⟩:=by
    have z:(gens.drop (d+1))[0]? = some ⟨t,it,fs,0⟩:=by rw [hd];rfl
    rw [Fs] at z;simpa using z
   have j:gens[d+1+1]? = some g2:=by
    have z:(gens.drop (d+1))[1]? = some g2:=by rw [hd];rfl
    rw [Fs] at z;simpa using z
   have J:gens.drop (d+1+1)=g2::gs:=by
    have z:(gens.drop (d+1)).drop 1=g2::gs:=by rw [hd];rfl
    rw [List.drop_drop] at z;simpa using z
   have F:∀ g',gens[d+1+1]? = some g'->g'.is_async=0:=fun g' z=>by
    rw [j] at z;cases z;exact fO he
   refine PB.imp (jv G.hx G.calm B F (sI src G _ t hi).1 (sG G g t q) (cZ (p:=p) G (mCl G.mono rest) (mTl G.mono ifs) (sCl rest G elt gens sc pos (d+1) (.inr rfl) p (by rw [J];exact he)) (sTl ifs G fs ht)) (sI src G _ t hi).2) (gC (mI G.mono src) (aI (mCl G.mono rest) (mTl G.mono ifs)))
  ·cases h
end
end
end
section
section
variable {Φ:Phi} {k:Nat} {C:Ctx} {X:Cx}
theorem vq {sc:Scope} {ts vs:List Expr} {kk k2:Nat} {pp p2:Pos} {env:Env} (hs:env.scope=sc) (j:sc.kind = .function) (h:qh sc ts vs=true):DB [.Tuple ts kk pp] (.Tuple vs k2 p2) env=pure none:=by
 have q:env.blockKind = .function:=by unfold GS;rw [hs,j];rfl
 have h':qh sc ts vs=true:=h;unfold DB;dsimp only;rw [q]
 by_cases c1:(!(ts.length==2 || ts.length==3) || vs.length != ts.length)=true
 ·simp only [c1,Bool.true_or,if_true]
 ·simp only [FR] at c1;rw [c1];simp only [GO,bne_self_eq_false,Dz,if_false]
  split
  ·rfl
  ·
    generalize z:List.filterMap _ ts=L;obtain rfl:L=aS sc ts:=by
     rw [<- z];unfold aS;congr 1
     funext x
     cases x <;> first | rfl | (unfold IZ;rw [hs])
    unfold qh at h';rw [c1] at h';simp only [GO,HF] at h'
    by_cases c3:((aS sc ts).length != ts.length || (aS sc ts).eraseDups.length != (aS sc ts).length)=true
    ·rw [if_pos c3]
    ·rw [if_neg c3];have B:vs.all (IF 8)=true:=by
      rcases h' with h' | h'
      ·exact absurd (HF _ _ |>.mpr h') c3
      ·exact h'
     rw [if_pos B]
theorem ya {sc:Scope} {ts vs:List Expr} {ns:List Str} {kk k2:Nat} {pp p2:Pos} {env:Env} (hs:env.scope=sc) (j:sc.kind = .function) (h:qj sc ts vs ns=true):DB [.Tuple ts kk pp] (.Tuple vs k2 p2) env=pure (some ns):=by
 have q:env.blockKind = .function:=by unfold GS;rw [hs,j];rfl
 simp only [qj,gV,Df,decide_eq_true_eq] at h;obtain ⟨⟨⟨⟨⟨c1,c2⟩,B⟩,F⟩,G⟩,J⟩:=h;unfold DB;dsimp only;rw [q,c1];simp only [GO,bne_self_eq_false,Dz,if_false]
 split
 ·next z=>exact absurd z (by rw [FR];exact c2)
 ·generalize O:List.filterMap _ ts=L;obtain rfl:L=aS sc ts:=by
   rw [<- O];unfold aS;congr 1
   funext x
   cases x <;> first | rfl | (unfold IZ;rw [hs])
  rw [F,G,J,B];rfl
theorem oo {C:Ctx} {i:Nat} {x:Str} (h:qi C i x=true):C.N[i]? = some x/\C.sc.names.lookup x=some .local:=by
 simpa [qi] using h
theorem cu {tg e:Expr} {l:Nat} {env:Env} {b:Bool} (h:Et e (some tg) l env=pure b):EO [tg] e l env=pure b:=by
 unfold EO;exact h
theorem Ab {j q z B e:Expr} {p1 p2 pt:Pos} {kt:Nat} {env:Env}:DB [.Tuple [.Subscript j q p1, .Subscript z B p2] kt pt] e env=pure none:=by
 cases e with
 | Tuple vs k2 p2 =>
   unfold DB;dsimp only
   split
   ·rfl
   ·split
    ·rfl
    ·rfl
 | _=>rfl
theorem yb {sc:Scope} {tg e:Expr} {env:Env} (hs:env.scope=sc) (j:sc.kind = .function) (h:iP sc tg e=true):DB [tg] e env=pure none:=by
 cases tg with
 | Tuple ts kk pp =>
   cases e with
   | Tuple vs k2 p2=>exact vq hs j h
   | _=>rfl
 | _=>first | rfl | (simp [iP] at h;done)
theorem m6 {elt:Expr} {gens:List D3} {s sc:Scope} {pos px:Pos} {x:Str} {l:Nat} {env:Env} (hs:env.scope=sc) (j:sc.kind = .function) :
 Et (.ListComp elt gens s pos) (some (.Name x px)) l env=pure (qk sc x px (.ListComp elt gens s pos)):=by
 have q:env.blockKind = .function:=by unfold GS;rw [hs,j];rfl
 unfold Et;dsimp only;rw [q];unfold qk IZ;rw [hs];rfl
theorem sJ {ek ev:Expr} {gens:List D3} {s sc:Scope} {pos px:Pos} {x:Str} {l:Nat} {env:Env} (hs:env.scope=sc) (j:sc.kind = .function) :
 Et (.DictComp ek ev gens s pos) (some (.Name x px)) l env=pure (sc.names.lookup x==some .local&&px.line==(Expr.DictComp ek ev gens s pos).pos.line && !(s.names.any fun (n,k)=>n==x&&(k == .local || k == .cell))):=by
 have q:env.blockKind = .function:=by unfold GS;rw [hs,j];rfl
 unfold Et;dsimp only;rw [q];unfold IZ;rw [hs];rfl
mutual
theorem sS:∀ (m:MS) (G:Good C Φ k X) (F:C.sc.kind = .function) (s:Stmt),okS m C s=true->PS X s (lS X.K (wS Φ m))
 | .asg g m,G,F,s,h=>by
  refine eO s h fun ts e pos h1 => ?_;clear h;refine cJ ts h1 fun tg h => ?_;clear h1;simp only [gV] at h;obtain ⟨⟨⟨J,he⟩,Z⟩,O⟩:=h;have hw:=yb G.sc F Z;have pg:=sG G g tg J;have plain:EO [tg] e pos.line X.env=pure false->PS X (.Assign [tg] e pos) (lS X.K (gK (wE Φ m) (bG g))):=fun hs =>
   PS.imp (kj (sE m G e he) pg hs hw (by cases tg <;> first | rfl | (simp [iP] at Z;done))) (uT (mE G.mono m))
  cases tg with
  | Tuple ts a b=>exact plain (cu (gi O))
  | Name x px =>
    cases e with
    | ListComp elt gens sc cpos =>
      by_cases sw:qk C.sc x px (.ListComp elt gens sc cpos)=true
      ·cases g with
       | tup gs=>exact absurd J hG
       | name i =>
         cases m with
         | comp fr N' c =>
           replace he:=bJ he;have B:aU sc X.env.scope X.N N' fr:=by rw [G.sc,G.N];exact iQ he.1
           have B':aU sc C.sc C.N N' fr:=iQ he.1;have BN:PG X (.Name x px) (fW i):=by
            have J:=bJ J;have J:=Il (bJ J.1) J.2;exact nH G.nd (by rw [G.N];exact of_decide_eq_true J.1.1) (G.loc J.1.2) (G.own J.2)
           have BO:∀ l,Et (.ListComp elt gens sc cpos) (some (.Name x px)) l X.env=pure true:=fun l=>by rw [m6 G.sc F,sw]
           have mc:=mCmp G.mono fr c
           cases c with
           | last src g ifs m =>
             have h2:=he.2;simp only [okC] at h2
             split at h2
             ·rename_i t it fs a;simp only [gV,decide_eq_true_eq] at h2;obtain ⟨⟨⟨⟨rfl,hi⟩,U⟩,ht⟩,L⟩:=h2;refine PS.imp (ig (i:=i) (g:=lG X.K (bG g)) (wi:=lI X.K (wI Φ src)) G.calm G.hx B (fun g' z=>by simp at z) (sI src G _ t hi).1 (fun s H fp=>sG (G.blk B' s H fp) g t U) (tb:=fun p=>lC X.K p (bc (wTl Φ ifs) (ck (wE Φ m)))) (fun s H fp p => ?_) (sI src G _ t hi).2 BN (BO _)) fun D σ H h => ?_
              ·have G':=G.blk B' s H fp;exact cZ (p:=p) G' (bq (mE G.mono m)) (mTl G.mono ifs) (PB.imp (j0 G'.hx (sE m G' elt L) rfl) (fB (mE G.mono m))) (sTl ifs G' fs ht)
              ·exact dB (mI G.mono src) (aI (bq (mE G.mono m)) (mTl G.mono ifs)) σ H _ (jE mc D σ H h)
             ·cases h2
           | more src g ifs rest =>
             have h2:=he.2;simp only [okC] at h2
             split at h2
             ·rename_i t it fs a g2 gs;simp only [gV,decide_eq_true_eq] at h2;obtain ⟨⟨⟨⟨rfl,hi⟩,U⟩,ht⟩,L⟩:=h2;have BQ:∀ g',(g2::gs)[0]? = some g'->g'.is_async=0:=fun g' z=>by
               have z':g2=g':=by simpa using z
               subst z';exact fO L
              refine PS.imp (ig (i:=i) (g:=lG X.K (bG g)) (wi:=lI X.K (wI Φ src)) G.calm G.hx B BQ (sI src G _ t hi).1 (fun s H fp=>sG (G.blk B' s H fp) g t U) (tb:=fun p=>lC X.K p (bc (wTl Φ ifs) (wCl Φ rest))) (fun s H fp p => ?_) (sI src G _ t hi).2 BN (BO _)) fun D σ H h => ?_
              ·have G':=G.blk B' s H fp;exact cZ (p:=p) G' (mCl G.mono rest) (mTl G.mono ifs) (sCl rest G' elt (⟨t,it,fs,0⟩::g2::gs) sc cpos 0 (.inl rfl) p L) (sTl ifs G' fs ht)
              ·exact dB (mI G.mono src) (aI (mCl G.mono rest) (mTl G.mono ifs)) σ H _ (jE mc D σ H h)
             ·cases h2
         | _=>exact absurd he hG
      ·refine plain ?_;simp only [FR] at sw;refine cu ?_;rw [m6 G.sc F,sw]
    | SetComp _ _ _ _=>cases m <;> exact absurd he hG
    | DictComp _ _ _ _ _ =>
      refine plain (cu ?_);rw [sJ G.sc F];unfold A8 at O;simp only [Df] at O;rw [O]
    | _=>exact plain (cu rfl)
  | _=>simp [iP] at Z
 | .par i j a b,G,F,s,h=>by
  refine eO s h fun ts e pos h => ?_;refine cJ ts h fun tg h => ?_;refine cC tg h fun ts k p h => ?_;refine cC e h fun es k' p' h => ?_;refine cK ts h fun t u h => ?_;refine cK es h fun e f h => ?_;refine dE t h fun x px h => ?_;refine dE u h fun y py h => ?_;simp only [gV,decide_eq_true_eq] at h;obtain ⟨⟨⟨⟨⟨⟨⟨hi,hj⟩,BR⟩,n1⟩,n2⟩,Z⟩,hb⟩,hw⟩:=h;obtain ⟨i1,i2⟩:=oo hi;obtain ⟨j1,j2⟩:=oo hj;exact PS.imp (yW G.calm G.nd (by rw [G.N];exact i1) (by rw [G.N];exact j1) BR (by rw [G.sc];exact i2) (by rw [G.sc];exact j2) (cb (mE G.mono a) (aD (mE G.mono b) aB) (sE a G _ Z) (cb (mE G.mono b) aB (sE b G _ hb) dR (am n2)) (am n1)) (ya G.sc F hw) (cu rfl)) (s9 (aD (mE G.mono a) (aD (mE G.mono b) aB)))
 | .put2 o i o' i' m,G,F,s,h=>by
  refine eO s h fun ts e pos h => ?_;refine cJ ts h fun tg h => ?_;refine cC tg h fun ts k p h => ?_;refine cK ts h fun t u h => ?_;refine cn t h fun x y tp h => ?_;refine cn u h fun x' y' tp' h => ?_;simp only [gV] at h;obtain ⟨⟨⟨⟨⟨⟨⟨Y,BP⟩,O⟩,ho⟩,hi⟩,BS⟩,BU⟩,he⟩:=h;exact xW G.calm (by have:=G.units;lia) (mE G.mono m) (mE G.mono o) (mE G.mono i) (mE G.mono o') (mE G.mono i') (sE m G e he) (sE o G x ho) (sE i G y hi) (sE o' G x' BS) (sE i' G y' BU) (cu (gi O)) Ab (fun v=>by cases y <;> first | rfl | (simp [bQ] at Y;done)) (fun v=>by cases y' <;> first | rfl | (simp [bQ] at BP;done))
 | .put o i m,G,F,s,h=>by
  refine eO s h fun ts e pos h => ?_;refine cJ ts h fun tg h => ?_;refine cn tg h fun x y tp h => ?_;simp only [gV] at h;obtain ⟨⟨⟨⟨Y,O⟩,ho⟩,hi⟩,he⟩:=h;exact zT (by have:=G.units;lia) (mE G.mono m) (mE G.mono o) (mE G.mono i) (sE m G e he) (sE o G x ho) (sE i G y hi) (cu (gi O)) rfl (fun v=>by cases y <;> first | rfl | (simp [bQ] at Y;done))
 | .drop m,G,F,s,h=>by
  refine A4 s h fun e _ h => ?_;simp only [gV] at h;exact PS.imp (wJ (sE m G _ h.2) (gi h.1)) (rZ (mE G.mono m))
 | .ret m,G,F,s,h=>by
  refine vm s h fun o _ h => ?_;refine jos o h fun e h => ?_;rw [wS];exact PS.imp (qL (sE m G _ h)) (uS (mE G.mono m))
 | .ite c a b,G,F,s,h=>by
  refine BJ s h fun t x y _ h => ?_;simp only [gV] at h;exact PS.imp (vP (sT c G _ h.1.1) (sSs a G F _ h.1.2) (sSs b G F _ h.2)) (xL (mT G.mono c))
 | .for g src b,G,F,s,h=>by
  refine B8 s h fun tg it body els _ h => ?_;refine fM els h fun  h => ?_;simp only [gV] at h;obtain ⟨⟨⟨hs,J⟩,hi⟩,hb⟩:=h;exact PS.imp (yY (fun e s z=>(G.hx e s z).elim) G.calm (sI src G _ _ hi).1 (sG G g _ J) (sSs b G F _ hb) (lY hs)) (uU (mI G.mono src) (mSs G.mono b))
 | .while c b,G,F,s,h=>by
  refine xY s h fun t body els _ h => ?_;refine fM els h fun  h => ?_;simp only [gV] at h;exact PS.imp (tM (fun e s z=>(G.hx e s z).elim) (sT c G _ h.1) (sSs b G F _ h.2)) (pT (mT G.mono c) (mSs G.mono b))
 | .frz i m,G,F,s,h=>by
  simp only [okS] at h;exact zV (sS m G F s h)
 | .bot,G,F,s,h=>fun pins s0 σ H D I ⟨ρ,M,A,rs,rm,l,q⟩=>q.elim
 | .pass,G,F,s,h=>by
  refine A6 s h fun _ h => ?_;exact PS.imp wH jD
 | .brk,G,F,s,h=>by
  refine xZ s h fun _ h => ?_;exact PS.imp tL pS
 | .cnt,G,F,s,h=>by
  refine qf s h fun _ h => ?_;exact PS.imp nv rY
theorem sSs:∀ (m:MSs) (G:Good C Φ k X) (j:C.sc.kind = .function) (s:List Stmt),okSs m C s=true->PSs X s (lS X.K (wSs Φ m))
 | .nil,G,j,s,h=>by
  simp [okSs] at h;subst h;exact PSs.imp wG jD
 | .cons m r,G,j,[],h=>by simp [okSs] at h
 | .cons m r,G,j,s::ss,h=>by
  simp only [okSs,gV] at h;exact PSs.imp (dg (sS m G j s h.1) (sSs r G j ss h.2)) (uR (mS G.mono m) (mSs G.mono r))
end
end
end
section
structure FD where
 name:Str
 st:Stmt
 N:List Str
 np:Nat
 body:MSs
noncomputable def bV (N:List Str) (ds:List D):al:=ds.map some++CD (N.length - ds.length) none
noncomputable def phi (T:List FD):Nat->Phi
 | 0=>fun _ _ _ _=>False
 | k+1=>fun f ds M Q => ∃ d,T[f]? = some d/\ds.length=d.np/\wSs (phi T k) d.body { nx:=fun _ M'=>Q .non M',rt:=Q } (bV d.N ds) M
theorem cv (T:List FD):∀ k f,aX (phi T k f)
 | 0,f=>fun _ _ _ _ _ q=>q.elim
 | k+1,f=>fun ds M Q Q' h ⟨d,e,l,q⟩=>⟨d,e,l,mSs (cv T k) d.body { nx:=fun _ M'=>Q .non M',rt:=Q } { nx:=fun _ M'=>Q' .non M',rt:=Q' } _ _ ⟨fun _ M' q'=>h _ _ q',h,fun _ _ z=>z,fun _ _ z=>z⟩ q⟩
noncomputable def je (Γ:List Str) (cs:List (Str×D)) (d:FD):Bool :=
 decide ((aj d.st).kind = .function) && !(aj d.st).isCoroutine && !(aj d.st).isGenerator&&decide (d.N.Nodup)&&decide (d.np<=d.N.length)
  && (d.N.take d.np).all (fun x=>(aj d.st).names.lookup x==some .local || (aj d.st).names.lookup x==some .cell)
  && (aj d.st).names.all (fun y => !(y.2 == .free))&&okSs d.body ⟨Γ,d.N,aj d.st,d.N,cs⟩ (bh d.st)
theorem gW {Γ:List Str} {cs:List (Str×D)} {d:FD} (h:je Γ cs d=true):cS d.N (d.N.take d.np) (aj d.st)/\(d.N.take d.np).length=d.np/\okSs d.body ⟨Γ,d.N,aj d.st,d.N,cs⟩ (bh d.st)=true:=by
 simp only [je,gV,decide_eq_true_eq,Df] at h;obtain ⟨⟨⟨⟨⟨⟨⟨h1,h2⟩,q⟩,B⟩,O⟩,F⟩,G⟩,J⟩:=h;have j:(d.N.take d.np).length=d.np:=by rw [DO];lia
 refine ⟨⟨h1,h2,q,B,by rw [j],fun x hx => ?_,fun y L e => ?_⟩,j,J⟩
 ·have z:=Ez.mp F x hx;simpa using z
 ·have z:=Ez.mp G y L;rw [e] at z;simp at z
section
variable {P:CG} {w:CT} {K:Frag} {mg:Str->Option e6} {base:Heap}
theorem Ac {T:List FD} {k i:Nat} {H:Hp} {a:Addr} {ns:List Int} (B:pC H) (F:SqL K H a (ns.map V.int)) (h:phi T k i [.con (ns.map D.int)] (fun _=>none) fun d _=>d = .bl true) :
 lSp K (phi T k i) [.ref a] H (fun v _=>v = .bl true) fun _ _ _=>False:=by
 have j:RM K (fun _=>none) H:=fun _ _ z=>by cases z
 refine ⟨[.con (ns.map D.int)],fun _=>none,j,RDs.cons (KI.mpr ⟨a,ns.map V.int,rfl, ?_,RDs.ints ns⟩) RDs.nil,cv T k i [.con (ns.map D.int)] (fun _=>none) (fun d _=>d = .bl true) (KE' K (fun _=>none) H fun v _=>v = .bl true) (fun d M' e=>fun v H' x rm rd => ?_) h⟩
 ·rcases F with (z | ⟨o,z⟩) | z
  ·rcases B a with q | ⟨o,xs,q⟩
   ·rw [z] at q;cases q
   ·rw [z] at q;cases q
  ·exact .inl ⟨o,z⟩
  ·exact .inr z
 ·subst e;exact KA.mp rd
end
theorem eP (us:List e6) (h:us.length=1):∃ a,us=[a]:=List.length_eq_one_iff.mp h
theorem bD (us:List e6) (h:us.length=2):∃ a b,us=[a,b]:=by
 cases us with
 | nil=>cases h
 | cons a us=>obtain ⟨b,rfl⟩:=eP us (Nat.succ.inj h);exact ⟨a,b,rfl⟩
theorem wl (us:List e6) (h:us.length=3):∃ a b c,us=[a,b,c]:=by
 cases us with
 | nil=>cases h
 | cons a us=>obtain ⟨b,c,rfl⟩:=bD us (Nat.succ.inj h);exact ⟨a,b,c,rfl⟩
end
end Mi
end L2
namespace L2
theorem PS.nox {X:Cx} {st:PySem.Stmt} {t:TS} (h:PS X.nox st t):PS X st t:=fun pins s σ H D I hw =>
 PySem.wpAny_mono (h pins s σ H D (I.wish _) hw) (fun _ _ q=>q.unwish) fun _ _ z=>False.elim z
namespace Mi
open PySem PySem.Spec PyProof.Rows
noncomputable def m7 (K:Frag) (r:RAd) (cls:e6):Sp:=fun vs H _ E => ∃ ds M,RM K M H/\RDs K H ds vs/\r ds M fun d M'=>eG M' d=some true /\ ∀ H',Ext M H M' H'->RM K M' H'->E cls none H'
theorem RS.start {K:Frag} {H:Hp} {N:List Str} {ds:List D} {vs:List V} (rs:RDs K H ds vs):RS K H (start N vs) (bV N ds):=by
 refine ⟨by simp [L2.start,bV,rs.length],fun j dd q => ?_⟩
 unfold bV at q;unfold L2.start
 by_cases B:j < ds.length
 ·rw [Fb (by simpa using B),CK] at q
  cases e3:ds[j]? with
  | none=>rw [e3] at q;cases q
  | some z =>
    rw [e3] at q;cases q;obtain ⟨v,F,rv⟩:=rs.get e3;refine ⟨v, ?_,rv⟩;rw [Fb (by rw [v5,rs.length];exact B),CK,F];rfl
 ·rw [Gq (by simpa using B),GX] at q
  split at q <;> cases q
section
variable {P:CG} {w:CT} {K:Frag} {mg:Str->Option e6} {base:Heap}
theorem Ad {T:List FD} {m k:Nat} {d:FD} {f:Addr} {fd:Eh} {C:Addr} {ga:MG} {ea:ME} {mc:MT} {L:Stmt} {c:Expr} {els rest:List Stmt} {xr:Str} {tx:Const} {kc:Nat} {ep np cpos rpos ipos:Pos} {Cc:Ctx} (eT:T[m]? = some d)
 (O:d.body = .cons (.asg ga ea) (.cons (.ite mc (.cons (.ret (.bl true)) .nil) .nil) .nil)) (Z:bh d.st=L :: .If c [.Raise (some (.Call (.Name xr np) [.Constant tx kc ep] [] cpos)) none rpos] els ipos::rest)
 (F:Fun K d.name d.name d.st f fd) (S:cS d.N (d.N.take d.np) (aj d.st)) (hl:(d.N.take d.np).length=d.np)
 (G:∀ (cdv:e6) (A:D1) (outer:List Env) (s:h7) (H:Hp) (E:XK),Room k (A.deeper (Fq d.name (aj d.st) s.heap.objs.size f cdv))->Good Cc (phi T k) k (dh (CXR P w base (.ref C)) P w K mg base d.N d.name (aj d.st) f cdv A outer s H E).nox)
 (hk:Cc.sc.kind = .function) (o1:okS (.asg ga ea) Cc L=true) (o2:okT mc Cc c=true) (hg:(aj d.st).names.lookup xr=some .globalImplicit) (hm:mg xr=some (.ref C)) (hx:ES K C vbm "ValueError.__new__" = true) (BN:(xr==("__debug__":Str))=false)
 (hc:∀ (X:Cx),PE X (.Constant tx kc ep) (tC (.str "")) ∨ ∃ v,PE X (.Constant tx kc ep) (tC v)) :
 bu P w K mg base (CXR P w base (.ref C)) (k+1) f fd (d.N.take d.np) (m7 K (phi T (k+1) m) (.ref C)):=by
 obtain ⟨oc,od,kV,doc,pm,an,cdv,ct,osl,rfl,lk,BO⟩:=F.ex;refine vS lk BO S (fun vs H Q E h => ?_) fun A outer s H vs Q E hr BP => ?_
 ·obtain ⟨ds,M,rm,rs,d',e',l,q⟩:=h;rw [eT] at e';cases e';rw [rs.length,l,hl]
 ·obtain ⟨ds,M,rm,rs,d',e',l,q⟩:=BP;rw [eT] at e';cases e';rw [O] at q;have G1:=G cdv A outer s H E hr;rw [Z];refine ⟨_,dg (PS.nox (sS (.asg ga ea) G1 hk L o1)) (dg (vP (u:=fun _ _ _=>False) (PT.nox (sT mc G1 c o2)) (iV (t:=fun _ _ H1=>E (.ref C) none H1) ?_) fun _ _ _ _ _ _ z=>z.elim) (u:=fun _ _ _=>False) fun _ _ _ _ _ _ z=>z.elim), ?_⟩
  ·intro pins s1 σ H1 D I h;obtain ⟨v,hv⟩:∃ v,PE _ (.Constant tx kc ep) (tC v):=(hc _).elim (fun z=>⟨_,z⟩) fun z=>z;exact ub I rfl hg hm hx (aM hv ci rfl) ⟨by simp,fun s2 J h' e args me=>jP h J me⟩ BN rfl rfl
  ·rw [wSs] at q;have q2:wS (phi T k) (.asg ga ea) { nx:=wSs (phi T k) (.cons (.ite mc (.cons (.ret (.bl true)) .nil) .nil) .nil) { nx:=fun _ M'=>eG M' .non=some true /\ ∀ H',Ext M H M' H'->RM K M' H'->E (.ref C) none H',rt:=fun d M'=>eG M' d=some true /\ ∀ H',Ext M H M' H'->RM K M' H'->E (.ref C) none H' },rt:=fun _ _=>False } (bV d.N ds) M:=q;refine ⟨bV d.N ds,M, { nx:=wSs (phi T k) (.cons (.ite mc (.cons (.ret (.bl true)) .nil) .nil) .nil) { nx:=fun _ M'=>eG M' .non=some true /\ ∀ H',Ext M H M' H'->RM K M' H'->E (.ref C) none H',rt:=fun d M'=>eG M' d=some true /\ ∀ H',Ext M H M' H'->RM K M' H'->E (.ref C) none H' },rt:=fun _ _=>False },RS.start rs,rm,⟨fun ρ M1 σ H1 x U j B => ?_,fun d1 M1 v H1 x j BR B=>B.elim,fun ρ M1 σ H1 x U j B=>B.elim,fun ρ M1 σ H1 x U j B=>B.elim⟩,q2⟩;rw [wSs] at B;refine ⟨ρ,M1,U,j,mT (cv T k) mc _ _ _ _ (fun b M2 Y H2 x2 BQ => ?_) B⟩
   cases b with
   | false =>
     rw [if_neg hG] at Y;rw [wSs] at Y;exact absurd Y.1 (by simp [eG])
   | true =>
     rw [if_pos rfl] at Y ⊢;rw [wSs] at Y;exact Y.2 H2 (x.trans x2) BQ
end
section
section
variable {P:CG} {w:CT} {K:Frag} {mg:Str->Option e6} {base:Heap}
theorem yc {T:List FD} {m k:Nat} {d d1:FD} {f f1:Addr} {fd j:Eh} {i0 ie i:Nat} {C D B1 B2:Addr} {n c1 c2 b1 b2 xD x fx:Str} {B:Expr} {es:List Expr} {ms:MEs} {p0 p1 p2 p3 p4 p5 p6 p7 p8 p9 pa pb pc pd pe pf:Pos} {kk ka:Nat} {fp cpos epos np xp apos L tpos BN BO BP BQ BR:Pos} {Cc:Ctx}
 (eT:T[i0]? = some d) (z:d.body = .cons (.asg (.name i) (.bl false)) (.cons (.ite (.tru (.call m ms)) (.cons (.ret (.bl true)) .nil) (.cons .bot .nil)) .nil))
 (O:bh d.st=[.Assign [.Name x BN] (.Constant (.bool false) ka BO) BP, .Try [.Expr (.Call (.Name fx fp) (B::es) [] cpos) epos] [.ExceptHandler (some (.Name xD np)) (some n) [.Assign [.Name x xp] (hEx n c1 c2 b1 b2 p0 p1 p2 p3 p4 p5 p6 p7 p8 p9 pa pb pc pd pe pf kk) apos] L] [] [] tpos, .Return (some (.Name x BQ)) BR])
 (F:Fun K d.name d.name d.st f fd) (S:cS d.N (d.N.take d.np) (aj d.st)) (hl:(d.N.take d.np).length=d.np)
 (G:∀ (cdv:e6) (A:D1) (outer:List Env) (s:h7) (H:Hp) (E:XK),Room k (A.deeper (Fq d.name (aj d.st) s.heap.objs.size f cdv))->Good Cc (phi T k) k (dh CX0 P w K mg base d.N d.name (aj d.st) f cdv A outer s H E).nox)
 (Z:∀ X:Cx,X.mg=mg->X.K=K->X.env.scope=aj d.st->kD X c1 c2 b1 b2 xD C D B1 B2)
 (hi:d.N[i]? = some x) (hx:(aj d.st).names.lookup x=some .local) (BS:d.N[ie]? = some n) (hn:(aj d.st).names.lookup n=some .local) (U:ie≠i) (hd:(n==("__debug__":Str))=false) (BU:(n==("__classdict__":Str))=false) (BV:(x==("__debug__":Str))=false) (BW:(x==("__classdict__":Str))=false)
 (F1:bu P w K mg base (CXR P w base (.ref C)) k f1 j (d1.N.take d1.np) (m7 K (phi T k m) (.ref C))) (hg:(aj d.st).names.lookup fx=some .globalImplicit) (hm:mg fx=some (.ref f1)) (hk:E9 K (.ref f1)=true) (hb:Binds K j (d1.N.take d1.np) [])
 (ha:okEs ms Cc (B::es)=true) (BX:(fx==("__debug__":Str))=false)
 (he:∀ env,CF (B::es) env=(false,eval B env)::CF es env) (BY:∀ env,(Es cpos (CF es env)).any (·.1)=false) (BZ:∀ env,Et (.Call (.Name fx fp) (B::es) [] cpos) none epos.line env=pure false) :
 bu P w K mg base CX0 (k+1) f fd (d.N.take d.np) (lSp K (phi T (k+1) i0)):=by
 refine F.ok S (fun vs H Q E h => ?_) fun cdv A outer s H vs Q E hr h => ?_
 ·obtain ⟨ds,M,rm,rs,d',e',l,q⟩:=h;rw [eT] at e';cases e';rw [rs.length,l,hl]
 ·obtain ⟨ds,M,rm,rs,d',e',l,q⟩:=h;rw [eT] at e';cases e';rw [z] at q;have G1:=G cdv A outer s H E hr;rw [O];refine ⟨_,dg (qN (i:=i) S.nd hi (.inl hx) vM rfl (.inr hx)) (dg (zu (k:=k) (C:=C) (D:=D) (B1:=B1) (B2:=B2) (i:=i) (ie:=ie) (f:=f1) (fd:=j) rfl rfl rfl (fun a=>Z _ rfl rfl rfl) S.nd hi hx BS hn U hd BU F1 hr hg hm hk hb (sA ms G1 (B::es) ha) BX (he _) (BY _) (BZ _)) (iV (qL (kf (i:=i) hi (.inl hx) BV BW)))), ?_⟩;rw [wSs] at q;obtain ⟨ρ,e0,q⟩:=q
  cases e0
  have Y:RS K H ((start d.N vs).set i (some (.bl false))) ((bV d.N ds).set i (some (.bl false))):=(RS.start rs).set i (KA.mpr rfl);refine ⟨_,M,Y,rm,mA (cv T k) ms _ _ _ _ (fun C0 M1 q1 C5 H1 x1 C1 C2=>⟨C0,M1,C1,C2,cv T k m _ _ _ _ (fun dd M2 J => ?_) q1⟩) q⟩;obtain ⟨b,tb,J⟩:=J
  cases b with
  | false =>
    rw [if_neg hG] at J;exact J.elim
  | true =>
    rw [if_pos rfl] at J;refine ⟨tb,fun H2 x2 C3 p hp => ?_⟩;have C4:i < ((start d.N vs).set i (some (.bl false))).length:=by
     rw [Y.1,G2];have:=(RS.start (N:=d.N) rs).1;rw [<- this,L2.start];have hN:=(CI.mp hi).1;simp;omega
    refine ⟨.bl true, ?_, ?_⟩
    ·rw [DU U,Dh C4]
    ·exact J (.bl true) _ ((x1.trans x2).trans (KN hp)) (C3.new hp) (KA.mpr rfl)
end
end
section
theorem yd {K:Frag} {C:Addr} (q:Dr K (.ref C) "__getattribute__" = some (some (.builtin "BaseException.__getattribute__"))) (z:Dr K (.ref C) "__getattr__" = some none) (B:Dr K (.ref C) "__class__" = some (some (.builtin "object.__class__")))
 (F:GL K (.builtin "object.__class__") "__get__" = some (some (.builtin "getset_descriptor.__get__"))) (G:Hx K (.builtin "object.__class__")=some true) (J:Fh K C (.type "object")=some true) (L:Fl K (.ref C) (.type "BaseException")=some true) (O:K5 K C=true):kA K C:=by
 have j:(GQ K C).isSome=true:=O;refine ⟨q,z, ?_,J,L,j⟩;obtain ⟨cd,e⟩:=DS.mp j;unfold G5;rw [e,Ex,B,Ex];simp [F,G]
section
variable {P:CG} {w:CT} {K:Frag} {mg:Str->Option e6} {base:Heap}
structure Ae (K:Frag) (mg:Str->Option e6) (T:List FD) (m r:Nat) (cs:List (Str×D)):Prop where
 blt:∀ x∈bltNames,mg x=none
 fns:∀ (i:Nat) (d:FD),T[i]? = some d -> ∃ f fd,Fun K d.name d.name d.st f fd/\mg d.name=some (.ref f)/\FJ K Dl d.name=some (some (.ref f))/\Binds K fd (d.N.take d.np) []
 ok:∀ (i:Nat) (d:FD),T[i]? = some d->i < m->i≠r->je ((T.take m).map (·.name)) cs d=true
 cst:∀ x d,(x,d)∈cs -> ∃ u,mg x=some u/\GV K d u
theorem B9 {T:List FD} {m r:Nat} {cs:List (Str×D)} (h:((CP m).all fun i=>i==r || (T[i]?).all (je ((T.take m).map (·.name)) cs))=true) (i:Nat) (d:FD) (e:T[i]? = some d) (hi:i < m) (hr:i≠r):je ((T.take m).map (·.name)) cs d=true:=by
 have z:=Ez.mp h i (Fz.mpr hi);rw [e] at z;simpa [hr] using z
def qm (P:CG) (w:CT) (K:Frag) (mg:Str->Option e6) (base:Heap) (T:List FD) (m:Nat) (cs:List (Str×D)) (CX:CXT) (k:Nat) (d:FD):Prop :=
 ∀ (f:Addr) (cdv:e6) (A:D1) (outer:List Env) (s:h7) (H:Hp) (E:XK),Room k (A.deeper (Fq d.name (aj d.st) s.heap.objs.size f cdv))->Good ⟨(T.take m).map (·.name),d.N,aj d.st,d.N,cs⟩ (phi T k) k (dh CX P w K mg base d.N d.name (aj d.st) f cdv A outer s H E).nox
theorem ou {T:List FD} {m r:Nat} {dm dr:FD} {cs:List (Str×D)} {C:Addr} (O:Ae K mg T m r cs) (er:T[r]? = some dr) (nm:dm.N.Nodup) (nr:dr.N.Nodup)
 (Y:∀ k f fd,qm P w K mg base T m cs (CXR P w base (.ref C)) k dm->Fun K dm.name dm.name dm.st f fd->bu P w K mg base (CXR P w base (.ref C)) (k+1) f fd (dm.N.take dm.np) (m7 K (phi T (k+1) m) (.ref C)))
 (Z:∀ k f fd,qm P w K mg base T m cs CX0 k dr->(∀ f fd,Fun K dm.name dm.name dm.st f fd->bu P w K mg base (CXR P w base (.ref C)) k f fd (dm.N.take dm.np) (m7 K (phi T k m) (.ref C)))->Fun K dr.name dr.name dr.st f fd->bu P w K mg base CX0 (k+1) f fd (dr.N.take dr.np) (lSp K (phi T (k+1) r))) :
 ∀ k:Nat,(∀ (i:Nat) (d:FD) (f:Addr) (fd:Eh),T[i]? = some d->i < m->Fun K d.name d.name d.st f fd->bu P w K mg base CX0 k f fd (d.N.take d.np) (lSp K (phi T k i))) /\ ∀ f fd,Fun K dm.name dm.name dm.st f fd->bu P w K mg base (CXR P w base (.ref C)) k f fd (dm.N.take dm.np) (m7 K (phi T k m) (.ref C))
 | 0=>⟨fun i d f fd _ _ _=>⟨fun vs H Q E h=>by obtain ⟨ds,M,_,_,q⟩:=h;exact q.elim,fun A outer s H args us vs Q E _ _ _ _ h=>by obtain ⟨ds,M,_,_,q⟩:=h;exact q.elim⟩,
  fun f fd _=>⟨fun vs H Q E h=>by obtain ⟨ds,M,_,_,q⟩:=h;exact q.elim,fun A outer s H args us vs Q E _ _ _ _ h=>by obtain ⟨ds,M,_,_,q⟩:=h;exact q.elim⟩⟩
 | k+1=>by
   obtain ⟨IH,IX⟩:=ou O er nm nr Y Z k;have G:∀ (d:FD) (CX:CXT),d.N.Nodup->qm P w K mg base T m cs CX k d:=fun d CX nd f cdv A outer s H E hr=>by
    refine ⟨fun _ _ z=>z,rfl,rfl,rfl,nd,fun _ _=>rfl,hr,O.blt,fun j x hx => ?_,cv T k,O.cst⟩;have B:((T.take m).map (·.name))[j]? = some x:=hx;rw [CK,List.getElem?_take] at B
    by_cases U:j < m
    ·rw [if_pos U] at B
     cases L:T[j]? with
     | none=>rw [L] at B;cases B
     | some d2 =>
       rw [L] at B;cases B;obtain ⟨f2,J,F2,m2,n2,b2⟩:=O.fns j d2 L;exact ⟨f2,J,_,m2,n2,F2.kp,b2,IH j d2 f2 J L U F2⟩
    ·rw [if_neg U] at B;cases B
   refine ⟨fun i d f fd e hi F => ?_,fun f fd F=>Y k f fd (G _ _ nm) F⟩
   by_cases hir:i=r
   ·subst hir;rw [er] at e;cases e;exact Z k f fd (G _ _ nr) IX F
   ·obtain ⟨S,hl,hb⟩:=gW (O.ok i d e hi hir);refine F.ok S (fun vs H Q E h => ?_) fun cdv A outer s H vs Q E hr h => ?_
    ·obtain ⟨ds,M,rm,rs,d',e',l,q⟩:=h;rw [e] at e';cases e';rw [rs.length,l,hl]
    ·obtain ⟨ds,M,rm,rs,d',e',l,q⟩:=h;rw [e] at e';cases e';exact ⟨_,sSs d.body (G d CX0 S.nd f cdv A outer s H E hr) S.kind _ hb,bV d.N ds,M, { nx:=fun _ M'=>KE' K M H Q .non M',rt:=KE' K M H Q },RS.start rs,rm,⟨fun ρ M' σ H' x rs' rm' q'=>q' .non H' x rm' (KJ.mpr rfl),fun d M' v H' x rm' rd' q'=>q' v H' x rm' rd',fun _ _ _ _ _ _ _ z=>z,fun _ _ _ _ _ _ _ z=>z⟩,q⟩
end
end
section
theorem Af {T:List FD} {k f:Nat} {d:FD} {ds:List D} {M:Mem} {Q:QD} (e:T[f]? = some d) (l:ds.length=d.np) {ρ:al} (r:bV d.N ds = ρ)
 (h:wSs (phi T k) d.body { nx:=fun _ M'=>Q .non M',rt:=Q } ρ M):phi T (k+1) f ds M Q:=⟨d,e,l,by rw [r];exact h⟩
theorem ar {T:List FD} {n f:Nat} {d:FD} {ds:List D} {M:Mem} {Q:QD} (j : 1<=n) (e:T[f]? = some d) (l:ds.length=d.np) {ρ:al} (r:bV d.N ds = ρ)
 (h:wSs (phi T (n - 1)) d.body { nx:=fun _ M'=>Q .non M',rt:=Q } ρ M):phi T n f ds M Q:=by
 obtain ⟨k,rfl⟩:∃ k,n=k+1:=⟨n - 1,by lia⟩
 exact Af e l r h
theorem ye {Φ:Phi} {D:aZ} {ρ:al} {M:Mem}:wSs Φ .nil D ρ M=D.nx ρ M:=by rw [wSs];rfl
theorem eQ {Φ:Phi} {s:MS} {r:MSs} {D:aZ} {ρ:al} {M:Mem}:wSs Φ (.cons s r) D ρ M=wS Φ s { D with nx:=wSs Φ r D } ρ M:=by rw [wSs];rfl
theorem ow {ds:List D} {y:D} {M:Mem} {Q:QD}:wIx (.tup ds) y M Q = ∃ i d,y = .int i/\atI ds i=some d/\Q d M:=rfl
theorem ox {ds:List D} {y:D} {M:Mem} {Q:QD}:wIx (.con ds) y M Q = ∃ i d,y = .int i/\atI ds i=some d/\Q d M:=rfl
theorem au {a:Addr} {i:Int} {ds:List D} {d:D} {M:Mem} {Q:QD} (h:M a=some (.lst ds)) (e:atI ds i=some d) (q:Q d M):wIx (.ref a) (.int i) M Q := .inl ⟨ds,i,d,h,rfl,e,q⟩
theorem bL {a:Addr} {i:Int} {ds:List D} {v:D} {j:Nat} {M:Mem} {Q:Mem->Prop} (h:M a=some (.lst ds)) (e:ixN ds.length i=some j) (q:Q (af M a (.lst (ds.set j v)))):dC (.ref a) (.int i) v M Q:=⟨a,rfl, .inl ⟨ds,i,j,rfl,h,e,q⟩⟩
theorem ce {a:Addr} {ds:List D} {M:Mem} {Q:QD} (h:M a=some (.lst ds)) (q:Q (.int ds.length) M):dL [.ref a] M Q:=⟨_,_,rfl,by simp only [gI,h],q⟩
theorem ag {a:Addr} {ds:List D} {M:Mem} (h:M a=some (.lst ds)):av M (.ref a)=some ds:=by simp only [av,h]
theorem Ag {i:Int} {M:Mem} {Q:QD}:jb [.int i] M Q=Q (.int i) M:=by
 apply propext;constructor
 ·rintro (⟨j,e,q⟩ | ⟨k,e,q⟩)
  ·cases e;exact q
  ·cases e
 ·exact fun q => .inl ⟨i,rfl,q⟩
theorem sK {b:Bool} {M:Mem} {Q:QD}:jb [.bl b] M Q=Q (.int (if b then 1 else 0)) M:=by
 apply propext;constructor
 ·rintro (⟨j,e,q⟩ | ⟨k,e,q⟩)
  ·cases e
  ·cases e;exact q
 ·exact fun q => .inr ⟨b,rfl,q⟩
theorem wm {i j:Int} {M:Mem} {Q:QD}:wEq (.int i) (.int j) M Q=Q (.bl (i==j)) M:=by
 simp [wEq,rb,EI]
theorem Ba {i j:Int} {M:Mem} {Q:QD}:wNe (.int i) (.int j) M Q=Q (.bl (!(i==j))) M:=by
 simp [wNe,rb,EI]
theorem sL {i j:Int} {M:Mem} {Q:QD}:gH (.int i) (.int j) M Q=Q (.int (i+j)) M:=rfl
theorem sM {a b:List D} {M:Mem} {Q:QD}:gH (.tup a) (.tup b) M Q=((a≠[]∨True)/\a.length+b.length<=hP/\Q (.tup (a++b)) M):=rfl
theorem sN {i j:Int} {M:Mem} {Q:QD}:pG (.int i) (.int j) M Q=Q (.int (i - j)) M:=rfl
theorem sP {i j:Int} {M:Mem} {Q:QD}:j8 (.int i) (.int j) M Q=(MulOk i j/\Q (.int (i*j)) M):=rfl
theorem sQ {ds:List D} {k:Int} {M:Mem} {Q:QD}:j8 (.tup ds) (.int k) M Q=(-(2 ^ 63)<=k/\k < 2 ^ 63/\ds.length*k.toNat<=hP/\Q (.tup (CD k.toNat ds).flatten) M):=rfl
theorem oy {i j:Int} {M:Mem} {Q:QD}:jV (.int i) (.int j) M Q=(0 < j/\j < 2 ^ 256/\Q (.int (i / j)) M):=rfl
theorem sR {i j:Int} {M:Mem} {Q:QD}:pH (.int i) (.int j) M Q=(0 < j/\Q (.int (i % j)) M):=rfl
theorem sU {i j:Int} {M:Mem} {Q:QD}:pI (.int i) (.int j) M Q=(0<=j/\j<=1000000/\i.natAbs < 2 ^ 64/\Q (.int (i ^ j.toNat)) M):=rfl
theorem wn {i j:Int} {M:Mem} {Q:QD}:wLt (.int i) (.int j) M Q=Q (.bl (decide (i < j))) M:=rfl
theorem wo {i j:Int} {M:Mem} {Q:QD}:wLe (.int i) (.int j) M Q=Q (.bl (decide (i<=j))) M:=rfl
theorem qo {i j:Int} {M:Mem} {Q:QD}:wGt (.int i) (.int j) M Q=Q (.bl (decide (j < i))) M:=rfl
theorem wp {i j:Int} {M:Mem} {Q:QD}:wGe (.int i) (.int j) M Q=Q (.bl (decide (j<=i))) M:=rfl
theorem sV {i:Int} {M:Mem} {Q:QD}:j9 (.int i) M Q=Q (.int (-i)) M:=rfl
theorem Ah {i:Int} {M:Mem} {Q:QD}:kR [.int i] M Q=Q (.int (if i < 0 then -i else i)) M:=by simp [kR]
theorem yf {i j:Int} {M:Mem} {Q:QD}:jW [.int i, .int j] M Q=Q (.int (if j < i then j else i)) M:=by
 apply propext;constructor
 ·rintro ⟨a,b,e,q⟩;cases e;exact q
 ·exact fun q=>⟨i,j,rfl,q⟩
theorem Ai {ds:List D} {M:Mem} {Q:QD}:dL [.con ds] M Q=Q (.int ds.length) M:=by simp [dL,gI]
theorem Aj {ds:List D} {M:Mem} {Q:QD}:dL [.tup ds] M Q=Q (.int ds.length) M:=by simp [dL,gI]
theorem sW {ds:List D} {M:Mem}:av M (.tup ds)=some ds:=rfl
theorem sX {ds:List D} {M:Mem}:av M (.con ds)=some ds:=rfl
theorem wq {α:Sort _} {a b : α}:(if true=true then a else b)=a:=rfl
theorem wt {α:Sort _} {a b : α}:(if false=true then a else b)=b:=rfl
theorem yg {ta tb:TEd} {ρ:al} {M:Mem} {R:List D->(Mem->Prop)->Mem->Prop}:lj ta tb ρ M R=ta ρ M fun x M1=>tb ρ M1 fun y M2 => ∃ xs ys,av M2 x=some xs/\av M2 y=some ys/\R (F9 iz xs ys) (fun M=>av M x=some xs/\av M y=some ys) M2:=by
 unfold lj aH;congr 1;funext x M1;unfold bw;congr 1;funext y M2;apply propext;constructor
 ·rintro ⟨x',y',xs,ys,e,q⟩
  cases e;exact ⟨xs,ys,q⟩
 ·rintro ⟨xs,ys,q⟩;exact ⟨x,y,xs,ys,rfl,q⟩
theorem sY {x y:Str} {M:Mem} {Q:QD}:gH (.str x) (.str y) M Q=(x.length+y.length<=hP/\Q (.str (x++y)) M):=rfl
local macro_rules | `(tactic| walk_at "wp") => `(tactic| ((try dsimp only [wS,wE,wA,wAnds,wOrs,wO,wT,wAndTs,wOrTs,wTl,wI,wCl,wCmp,bG,bGs,opB,opC,opF,opM,qc,opI,cr,wd,wb,wc,su,we,oi,jX,wC,wOp,wUn,bw,aH,wAr,eC,kL,j6,kY,im,io,kZ,ip,lc,iq,wIf,dS,ir,wSl,iu,fK,cB,iF,iG,wBM,bC,fw,bO,lg,lh,iA,iK,iy,ck,bc,cX,gd,j5,gf,ln,fG,iC,iD,lu,sIf,gK,lw,lB,fH,lD,sL,sM,sY,sN,sP,sQ,oy,sR,sU,wn,wo,qo,wp,sV,sW,sX,ow,ox,wq,wt,Hf,Hg,GB,GC,Ex,Fp,JL,JM,JN,CJ,Gg,D4,HB]);(try simp only [wS,wE,wA,wAnds,wOrs,wO,wT,wAndTs,wOrTs,wTl,wI,wCl,wCmp,bG,bGs,opB,opC,opF,opM,qc,opI,cr,wc,su,wb,wd,we,oi,wC,wOp,wUn,bw,aH,wAr,eC,kL,j6,kY,im,io,kZ,ip,lc,iq,wIf,dS,ir,wSl,iu,fK,cB,iF,iG,wBM,bC,fw,bO,lg,lh,yg,iA,iK,iy,ck,bc,cX,gd,j5,gf,ln,fG,iC,iD,lu,sIf,gK,lw,lB,fH,lD,ye,
 sL,sM,sY,sN,sP,sQ,oy,sR,sU,wn,wo,qo,wp,sV,Ag,sK,wm,Ba,Ah,yf,Ai,Aj,sW,sX,ow,ox,wq,wt,Dz,if_false,if_true,
 Hf,Hg,GB,GC,Jq,exists_eq_left',exists_eq_left,exists_eq_right,exists_and_left,exists_and_right,D.bl.injEq,D.int.injEq,D.ref.injEq,D.tup.injEq,Ex,Fp,JL,JM,JN,CJ,Gg,decide_eq_true_eq,List.cons.injEq,and_true,true_and,D4,HB])))
local macro_rules | `(tactic| walk_at "st") => `(tactic| ((first | rw [eQ] | (dsimp only;rw [eQ]));walk_at "wp"))
theorem sZ {a:Addr} {kvs:List (D×D)} {k d:D} {M:Mem} {Q:QD} (h:M a=some (.fdc kvs)) (ok:bK k=true) (e:dget kvs k=some d) (q:Q d M):wIx (.ref a) k M Q := .inr (.inr ⟨kvs,d,h,ok,e,q⟩)
theorem yh {i:Nat} {t:TSd} {A:aZ} {ρ:al} {M:Mem} {a:Addr} {kvs:List (D×D)} (e : ρ[i]? = some (some (.ref a))) (m:M a=some (.dct true kvs)) (h:t A ρ (af M a (.fdc kvs))):q9 i t A ρ M:=⟨a,kvs,e, .inl ⟨m,h⟩⟩
theorem vt {a:Addr} {t:Bool} {kvs:List (D×D)} {k v:D} {M:Mem} {Q:Mem->Prop} (h:M a=some (.dct t kvs)) (ok:ii t k=true) (j:kvs.length < hP) (q:Q (af M a (.dct t (bY kvs k v)))):dC (.ref a) k v M Q:=⟨a,rfl, .inr ⟨t,kvs,h,ok,j,q⟩⟩
theorem jK {M:Mem} {a:Addr} {o o':O}:af (af M a o) a o'=af M a o':=by
 funext b;unfold af;split <;> rfl
def Ge (M M':Mem):Prop := ∀ a o,M a=some o->M' a=some o
theorem Ge.refl {M:Mem}:Ge M M:=fun _ _ h=>h
theorem Ge.trans {M M' M'':Mem} (h:Ge M M') (g:Ge M' M''):Ge M M'':=fun _ _ e=>g _ _ (h _ _ e)
theorem Ge.new {M:Mem} {p:Addr} {o:O} (h:M p=none):Ge M (af M p o):=fun a o' e=>by
 rw [aw (fun z=>by rw [z,h] at e;cases e)];exact e
def Box (b:Addr) (M:Mem):Prop := ∃ x y z:Int,M b=some (.lst [.int x, .int y, .int z])
structure Bx (b:Addr) (M M':Mem):Prop where
 box:Box b M'
 keep:∀ a o,a≠b->M a=some o->M' a=some o
theorem Bx.refl {b:Addr} {M:Mem} (h:Box b M):Bx b M M:=⟨h,fun _ _ _ e=>e⟩
theorem Bx.trans {b:Addr} {M M' M'':Mem} (h:Bx b M M') (g:Bx b M' M''):Bx b M M'':=⟨g.box,fun a o n e=>g.keep a o n (h.keep a o n e)⟩
theorem Bx.ge {b:Addr} {M M' M'':Mem} (h:Bx b M M') (g:Ge M' M''):Bx b M M'':=⟨by obtain ⟨x,y,z,e⟩:=h.box;exact ⟨x,y,z,g _ _ e⟩,fun a o n e=>g _ _ (h.keep a o n e)⟩
theorem Bx.put {b:Addr} {M:Mem} {x y z:Int}:Bx b M (af M b (.lst [.int x, .int y, .int z])):=⟨⟨x,y,z,ad⟩,fun a o n e=>by rw [aw n];exact e⟩
theorem Bx.of {b:Addr} {M M':Mem} (h:Box b M) (g:Ge M M'):Bx b M M':=(Bx.refl h).ge g
theorem fP {b:BT} {tb:TCd} {chk:Mem->Prop} {N:NC} (I:List D->al->Mem->List D->Prop) {xs:List D} {ρ:al} {M:Mem} {acc:List D}
 (h0:I [] ρ M acc)
 (q:∀ l ρ M acc,I l ρ M acc->chk M)
 (hs:∀ l x r ρ M acc,xs=l++x::r->I l ρ M acc -> ∃ ρ',b x ρ = some ρ' /\ ∀ N':NC,(∀ ρ2 M2 j,I (l++[x]) ρ2 M2 j->N' ρ2 M2 j)->tb ρ' M acc N')
 (z:∀ ρ M acc,I xs ρ M acc->N ρ M acc):ba b tb chk N xs ρ M acc:=by
 have g:∀ (r l:List D) (ρ:al) (M:Mem) (acc:List D),xs=l++r->I l ρ M acc->ba b tb chk N r ρ M acc:=by
  intro r
  induction r with
  | nil=>intro l ρ M acc e i;rw [DF] at e;subst e;exact ⟨q _ _ _ _ i,z _ _ _ i⟩
  | cons x r ih =>
    intro l ρ M acc e i;obtain ⟨ρ',B,h⟩:=hs l x r ρ M acc e i;exact ⟨q _ _ _ _ i, ρ',B,h _ fun ρ2 M2 j F=>ih (l++[x]) ρ2 M2 j (by rw [e];simp) F⟩
 exact g xs [] ρ M acc rfl h0
theorem vw {b:BT} {tb:TSd} {chk:Mem->Prop} {E:aZ} (I:List D->al->Mem->Prop) {xs:List D} {ρ:al} {M:Mem}
 (h0:I [] ρ M)
 (j:∀ l ρ M,I l ρ M->chk M)
 (hs:∀ l x r ρ M,xs=l++x::r->I l ρ M -> ∃ ρ',b x ρ = some ρ' /\ ∀ F:al->Mem->Prop,(∀ ρ2 M2,I (l++[x]) ρ2 M2->F ρ2 M2)->tb { E with nx:=F,ct:=F,bk:=E.nx } ρ' M)
 (q:∀ ρ M,I xs ρ M->E.nx ρ M):bn b tb chk E xs ρ M:=by
 have g:∀ (r l:List D) (ρ:al) (M:Mem),xs=l++r->I l ρ M->bn b tb chk E r ρ M:=by
  intro r
  induction r with
  | nil=>intro l ρ M e i;rw [DF] at e;subst e;exact ⟨j _ _ _ i,q _ _ i⟩
  | cons x r ih =>
    intro l ρ M e i;obtain ⟨ρ',z,h⟩:=hs l x r ρ M e i;exact ⟨j _ _ _ i, ρ',z,h _ fun ρ2 M2 B=>ih (l++[x]) ρ2 M2 (by rw [e];simp) B⟩
 exact g xs [] ρ M rfl h0
section
variable {T:List FD}
noncomputable def iR (s:Stmt):FD:=⟨"_law_cell_at",s,["_law_script", "_law_k"],2,
 (.cons (.ite (.cmp .lt (.var 1) (.blt .len (.cons (.var 0) .nil))) (.cons (.ret (.ix (.var 0) (.var 1)))
 .nil) .nil)
 (.cons (.ret (.int 0))
 .nil))⟩
theorem vx {α:Type} {xs:List α} {i:Int} (h0 : 0<=i) (h1:i < xs.length):∃ x,atI xs i=some x/\xs[i.toNat]? = some x:=by
 have:i.toNat < xs.length:=by lia
 refine ⟨xs[i.toNat], ?_,h6 this⟩;unfold atI ixN;simp [h0,h1,h6 this]
theorem yi {f:Nat} {s:Stmt} (hf:T[f]? = some (iR s)) {n:Nat} (z : 1<=n) {ns:List Int} {k:Int} {M:Mem} {Q:QD} (h0 : 0<=k) (q:∀ i,Q (.int i) M):phi T n f [.con (ns.map D.int), .int k] M Q:=by
 refine ar z hf rfl (ρ := [some _,some _]) rfl ?_;unfold iR;walk_at "st"
 split
 ·next h =>
  walk_at "st";obtain ⟨x,e,j⟩:=vx (xs:=ns.map D.int) h0 h;rw [CK] at j
  cases e3:ns[k.toNat]? with
  | none=>rw [e3] at j;cases j
  | some y=>rw [e3] at j;cases j;exact ⟨_,e,q y⟩
 ·walk_at "st";exact q 0
theorem vy {i j:Int} (h : -(2 ^ 64) < i/\i < 2 ^ 64):MulOk i j := .inl h
theorem jf {i j:Int} (h : -(2 ^ 64) < j/\j < 2 ^ 64):MulOk i j := .inr (.inl h)
noncomputable def oz (s:Stmt):FD:=⟨"_law_mixed",s,["_law_number_here", "_law_k", "_law_once", "_law_twice"],2,
 (.cons (.asg (.name 2) (.bin .mod (.bin .mul (.bin .add (.bin .add (.bin .mod (.var 0) (.int 1000000007)) (.bin .mul (.int 7) (.var 1))) (.int 1)) (.int 48271)) (.int 2147483647)))
 (.cons (.asg (.name 3) (.bin .mod (.bin .mul (.var 2) (.bin .add (.bin .add (.bin .mod (.var 2) (.int 1009)) (.var 1)) (.int 3))) (.int 998244353)))
 (.cons (.ret (.bin .fdiv (.bin .mod (.bin .add (.bin .mul (.var 3) (.int 39373)) (.var 2)) (.int 2147483629)) (.int 64)))
 .nil)))⟩
noncomputable def qp (s:Stmt) (fc fm:Nat):FD:=⟨"_law_box",s,["_law_script", "_law_k", "_law_cell"],2,
 (.cons (.asg (.name 2) (.call fc (.cons (.var 0) (.cons (.var 1) .nil))))
 (.cons (.ret (.lst (.cons (.bin .mul (.blt .abs (.cons (.var 2) .nil)) (.blt .int (.cons (.cmp .ge (.blt .abs (.cons (.var 2) .nil)) (.bin .pow (.int 10) (.int 18))) .nil))) (.cons (.call fm (.cons (.var 2) (.cons (.bin .add (.int 900) (.var 1)) .nil))) (.cons (.int 0) .nil)))))
 .nil))⟩
theorem Ak {f fc fm:Nat} {s sc:Stmt} (hf:T[f]? = some (qp s fc fm)) (z:T[fc]? = some (iR sc)) {n:Nat} (B:∀ {x k:Int} {M:Mem} {Q:QD},(∀ i,Q (.int i) M)->phi T (n - 1) fm [.int x, .int k] M Q) (G : 2<=n) {ns:List Int} {k:Int} {M:Mem} {Q:QD} (h0 : 0<=k)
 (q:∀ p x y,M p=none->Q (.ref p) (af M p (.lst [.int x, .int y, .int 0]))):phi T n f [.con (ns.map D.int), .int k] M Q:=by
 refine ar (by lia) hf rfl (ρ := [some _,some _,none]) rfl ?_
 unfold qp;walk_at "st";refine yi z (by lia) h0 fun i => ?_
 walk_at "st";refine ⟨by decide,by decide,by decide,jf ?_, ?_⟩
 ·split <;> lia
 refine B fun j => ?_;exact ⟨by rw [hB];lia,fun p F=>q p _ _ F⟩
noncomputable def m8 (s:Stmt) (fm:Nat):FD:=⟨"_law_take",s,["_law_box_here", "_law_many", "_law_found", "_law_reach"],2,
 (.cons (.ite (.cmp .gt (.ix (.var 0) (.int 0)) (.int 0)) (.cons (.asg (.name 2) (.bin .mod (.ix (.var 0) (.int 0)) (.var 1)))
 (.cons (.put (.var 0) (.int 0) (.bin .fdiv (.ix (.var 0) (.int 0)) (.var 1)))
 (.cons (.ret (.var 2))
 .nil))) .nil)
 (.cons (.asg (.tup (.cons (.name 2) (.cons (.name 3) .nil))) (.tup (.cons (.int 0) (.cons (.int 1) .nil))))
 (.cons (.while (.cmp .lt (.var 3) (.var 1)) (.cons (.put (.var 0) (.int 2) (.bin .add (.ix (.var 0) (.int 2)) (.int 1)))
 (.cons (.asg (.name 2) (.bin .add (.bin .mul (.var 2) (.int 33554432)) (.call fm (.cons (.ix (.var 0) (.int 1)) (.cons (.ix (.var 0) (.int 2)) .nil)))))
 (.cons (.asg (.name 3) (.bin .mul (.var 3) (.int 33554432)))
 .nil))))
 (.cons (.ret (.bin .mod (.var 2) (.var 1)))
 .nil))))⟩
def qq (T:List FD) (n fm:Nat):Prop := ∀ {x k:Int} {M:Mem} {Q:QD},(∀ i,Q (.int i) M)->phi T n fm [.int x, .int k] M Q
theorem yj {f fm:Nat} {s:Stmt} (hf:T[f]? = some (m8 s fm)) {n:Nat} (J:qq T (n - 1) fm) (O : 2<=n) {b:Addr} {m:Int} {M:Mem} {Q:QD} (L:Box b M) (h1 : 0 < m) (h2:m<=2 ^ 120)
 (q:∀ r M',0<=r->r < m->Bx b M M'->Q (.int r) M'):phi T n f [.ref b, .int m] M Q:=by
 refine ar (by lia) hf rfl (ρ := [some _,some _,none,none]) rfl ?_
 unfold m8;obtain ⟨x,y,z,G⟩:=L;walk_at "st";refine au G (d := .int x) rfl ?_;simp only [qo];walk_at "wp"
 split
 ·next hx =>
  walk_at "st";refine au G (d := .int x) rfl ?_;walk_at "wp";refine ⟨h1, ?_⟩;walk_at "st";refine au G (d := .int x) rfl ?_;walk_at "wp";refine ⟨h1,by lia, ?_⟩
  refine bL G (j := 0) rfl ?_;walk_at "st";exact q _ _ (G8 _ (by lia)) (Ft _ h1) Bx.put
 ·next hx =>
  walk_at "st";refine ⟨by rw [hB];lia, ?_⟩
  walk_at "st";refine ⟨6, ?_⟩;have go:∀ (f:Nat) (found reach z:Int) (M':Mem),m<=reach*33554432 ^ f->M' b=some (.lst [.int x, .int y, .int z])->Bx b M M' ->
   aY (eC (wOp wLt (cr 3) (cr 1))) (wSs (phi T (n - 1)) (MSs.cons (MS.put (ME.var 0) (ME.int 2) (ME.bin BOp.add ((ME.var 0).ix (ME.int 2)) (ME.int 1)))
    (MSs.cons (MS.asg (MG.name 2) (ME.bin BOp.add (ME.bin BOp.mul (ME.var 2) (ME.int 33554432)) (ME.call fm (MEs.cons ((ME.var 0).ix (ME.int 1)) (MEs.cons ((ME.var 0).ix (ME.int 2)) MEs.nil)))))
      (MSs.cons (MS.asg (MG.name 3) (ME.bin BOp.mul (ME.var 3) (ME.int 33554432))) MSs.nil))))
    { nx:=wSs (phi T (n - 1)) (MSs.cons (MS.ret (ME.bin BOp.mod (ME.var 2) (ME.var 1))) MSs.nil) { nx:=fun x M'=>Q D.non M',rt:=Q },rt:=Q } (f+1) [some (.ref b),some (.int m),some (.int found),some (.int reach)] M':=by
   intro f
   induction f with
   | zero =>
     intro found reach z M' hm F B;simp only [aY];walk_at "wp";rw [if_neg (by lia)]
     walk_at "st";exact ⟨h1,q _ _ (G8 _ (by lia)) (Ft _ h1) B⟩
   | succ f ih =>
     intro found reach z M' hm F B;rw [aY];walk_at "wp"
     split
     ·next hr =>
      walk_at "st";refine au F (d := .int z) rfl ?_;walk_at "wp";refine bL F (j := 2) rfl ?_;walk_at "st";refine ⟨jf (by decide), ?_⟩
      refine au ad (d := .int y) rfl ?_;refine au ad (d := .int (z+1)) rfl ?_;refine J fun i => ?_;walk_at "wp";walk_at "st";refine ⟨jf (by decide), ?_⟩
      exact ih _ _ (z+1) _ (by rw [Int.mul_assoc, <- Int.pow_succ'];exact hm) ad (B.trans Bx.put)
     ·walk_at "st";exact ⟨h1,q _ _ (G8 _ (by lia)) (Ft _ h1) B⟩
  exact go 5 0 1 z M (by lia) G (Bx.refl ⟨x,y,z,G⟩)
def du (T:List FD) (n f:Nat):Prop := ∀ {b:Addr} {m:Int} {M:Mem} {Q:QD},Box b M->0 < m->m<=2 ^ 120->(∀ r M',0<=r->r < m->Bx b M M'->Q (.int r) M')->phi T n f [.ref b, .int m] M Q
end
section
variable {T:List FD}
theorem bf {lo:Int} {n:Nat}:(bj lo n).length=n:=by simp [bj]
theorem aG {α:Type} {xs l r:List α} {x : α} (e:xs=l++x::r):l.length < xs.length:=by rw [e];simp
theorem jL {α:Type} {xs l r:List α} {x : α} (e:xs=l++x::r):xs[l.length]? = some x:=by rw [e];simp
noncomputable abbrev Pr:=List Int×List Int×List Int
noncomputable def prD (p:Pr):D := .tup [.tup (p.1.map .int), .tup (p.2.1.map .int), .tup (p.2.2.map .int)]
noncomputable def eR (p:Pr):Ki := .tuple [.tuple (p.1.map .int), .tuple (p.2.1.map .int), .tuple (p.2.2.map .int)]
theorem gj {k:Nat} {M:Mem}:∀ ns:List Int,aF (rb k M) (ns.map D.int)=some (ns.map Ht)
 | [] => rfl
 | x::r=>by
   have e:rb k M (.int x)=some (.int x):=by cases k <;> rfl
   simp [aF,e,gj r]
theorem Bb {k:Nat} {M:Mem} (p:Pr):rb (k+2) M (prD p)=some (eR p):=by
 simp [rb,prD,eR,aF,gj]
theorem t5 {k:Nat} {M:Mem}:∀ ps:List Pr,aF (rb (k+2) M) (ps.map prD)=some (ps.map eR)
 | [] => rfl
 | p::r=>by simp [aF,Bb,t5 r]
theorem Al {k:Nat} {M:Mem} {a:Addr} {ds:List D} (h:M a=some (.lst ds)):rb (k+1) M (.ref a)=(aF (rb k M) ds).map JV:=by
 simp only [rb,h]
theorem m9 {Φ:Phi} {s:MS} {r:MSs} {E:aZ} {ρ:al} {M:Mem} (I:al->Mem->Prop) (h1:∀ R:al->Mem->Prop,(∀ ρ M,I ρ M->R ρ M)->wS Φ s { E with nx:=R } ρ M) (h2:∀ ρ M,I ρ M->wSs Φ r E ρ M):wSs Φ (.cons s r) E ρ M:=by
 rw [eQ];exact h1 _ h2
theorem Bx.upd {b q:Addr} {M M':Mem} {o:O} (h:Bx b M M') (B:M q=none) (j:q≠b):Bx b M (af M' q o) :=
 ⟨by obtain ⟨x,y,z,e⟩:=h.box;exact ⟨x,y,z,by rw [aw j.symm];exact e⟩,fun u o' nu eu=>by
   rw [aw (fun z=>by rw [z,B] at eu;cases eu)];exact h.keep u o' nu eu⟩
theorem Bx.none {b q:Addr} {M M':Mem} (h:Bx b M M') (z:M' q=none) (j:q≠b):M q=none:=by
 cases e:M q with
 | none=>rfl
 | some o=>rw [h.keep q o j e] at z;cases z
noncomputable def prL (p:Pr):List D := [.tup (p.1.map .int), .tup (p.2.1.map .int), .tup (p.2.2.map .int)]
theorem BK {k:Nat}:(CD k [D.int 0]).flatten=(CD k (0:Int)).map D.int:=by
 induction k with
 | zero=>rfl
 | succ k ih=>rw [Dm,DY,ih];rfl
end
section
theorem bM {α:Type} {f : α -> D} {b:BT} {tb:TCd} {chk:Mem->Prop} {N:NC} (I:List α -> al->Mem->List D->Prop) {ys:List α} {xs:List D} (hx:xs=ys.map f) {ρ:al} {M:Mem} {acc:List D}
 (h0:I [] ρ M acc)
 (q:∀ l ρ M acc,I l ρ M acc->chk M)
 (hs:∀ l x r ρ M acc,ys=l++x::r->I l ρ M acc -> ∃ ρ',b (f x) ρ = some ρ' /\ ∀ N':NC,(∀ ρ2 M2 j,I (l++[x]) ρ2 M2 j->N' ρ2 M2 j)->tb ρ' M acc N')
 (z:∀ ρ M acc,I ys ρ M acc->N ρ M acc):ba b tb chk N xs ρ M acc:=by
 subst hx;have g:∀ (r l:List α) (ρ:al) (M:Mem) (acc:List D),ys=l++r->I l ρ M acc->ba b tb chk N (r.map f) ρ M acc:=by
  intro r
  induction r with
  | nil=>intro l ρ M acc e i;rw [DF] at e;subst e;exact ⟨q _ _ _ _ i,z _ _ _ i⟩
  | cons x r ih =>
    intro l ρ M acc e i;obtain ⟨ρ',B,h⟩:=hs l x r ρ M acc e i;exact ⟨q _ _ _ _ i, ρ',B,h _ fun ρ2 M2 j F=>ih (l++[x]) ρ2 M2 j (by rw [e];simp) F⟩
 exact g ys [] ρ M acc rfl h0
theorem bg {α:Type} {f : α -> D} {b:BT} {tb:TSd} {chk:Mem->Prop} {E:aZ} (I:List α -> al->Mem->Prop) {ys:List α} {xs:List D} (hx:xs=ys.map f) {ρ:al} {M:Mem}
 (h0:I [] ρ M)
 (j:∀ l ρ M,I l ρ M->chk M)
 (hs:∀ l x r ρ M,ys=l++x::r->I l ρ M -> ∃ ρ',b (f x) ρ = some ρ' /\ ∀ F:al->Mem->Prop,(∀ ρ2 M2,I (l++[x]) ρ2 M2->F ρ2 M2)->tb { E with nx:=F,ct:=F,bk:=E.nx } ρ' M)
 (q:∀ ρ M,I ys ρ M->E.nx ρ M):bn b tb chk E xs ρ M:=by
 subst hx;have g:∀ (r l:List α) (ρ:al) (M:Mem),ys=l++r->I l ρ M->bn b tb chk E (r.map f) ρ M:=by
  intro r
  induction r with
  | nil=>intro l ρ M e i;rw [DF] at e;subst e;exact ⟨j _ _ _ i,q _ _ i⟩
  | cons x r ih =>
    intro l ρ M e i;obtain ⟨ρ',z,h⟩:=hs l x r ρ M e i;exact ⟨j _ _ _ i, ρ',z,h _ fun ρ2 M2 B=>ih (l++[x]) ρ2 M2 (by rw [e];simp) B⟩
 exact g ys [] ρ M rfl h0
theorem oA {M M':Mem} {x:D} {ds:List D} (h:av M x=some ds) (g:Ge M M'):av M' x=some ds:=by
 cases x with
 | ref a =>
   simp only [av] at h ⊢
   split at h
   ·next e=>rw [g _ _ e];exact h
   ·cases h
 | _=>exact h
theorem vz {M:Mem} {x:D} {ds:List D} (h:av M x=some ds):gI M x=some ds.length:=by
 cases x with
 | ref a =>
   simp only [av] at h
   split at h
   ·next e=>cases h;simp only [gI,e]
   ·cases h
 | tup es=>cases h;rfl
 | con es=>cases h;rfl
 | _=>cases h
theorem jg {M:Mem} {x:D} {ds:List D} {Q:QD} (h:av M x=some ds) (q:Q (.int ds.length) M):dL [x] M Q:=⟨_,_,rfl,vz h,q⟩
theorem ao {α:Type} {xs:List α} {k:Nat} {x : α} (h:xs[k]? = some x):atI xs (k:Int)=some x:=by
 have j:k < xs.length:=(CI.mp h).1;unfold atI ixN;rw [if_pos (by lia),if_pos (by lia)]
 exact h
theorem bE {n:Nat}:bj 0 n=(CP n).map fun i=>D.int (i:Nat):=by simp [bj]
end
section
variable {T:List FD}
def Big (ns:List Int):Prop := ∀ x∈ns, -1000000000000<=x/\x<=1000000000000
theorem vA (a b:List Int):F9 iz (a.map .int) (b.map .int)=(a.zip b).map fun xy => .tup [.int xy.1, .int xy.2]:=by
 rw [List.zipWith_map,Iv,JO];rfl
theorem nF {α β γ:Type} (f : α -> β -> γ) (a:List α) (b:List β):F9 f a b=(a.zip b).map fun xy=>f xy.1 xy.2:=by
 rw [Iv,JO]
end
section
variable {T:List FD}
noncomputable def mj (x:Str) (s:Stmt):FD:=⟨"_law_mixed",s,[x, "_law_k", "_law_once", "_law_twice"],2,(oz s).body⟩
theorem t6 {f:Nat} {x:Str} {s:Stmt} (hf:T[f]? = some (mj x s)) {n:Nat} (j : 1<=n):qq T n f:=by
 intro x k M Q q;refine ar j hf rfl (ρ := [some _,some _,none,none]) rfl ?_;unfold mj oz;walk_at "st";refine ⟨by decide,vy (by decide),jf (by decide),by decide, ?_⟩
 walk_at "st";refine ⟨by decide,vy ?_,by decide, ?_⟩
 ·have h1:=G8 ((x % 1000000007+7*k+1)*48271) (b := 2147483647) (by decide)
  have h2:=Ft ((x % 1000000007+7*k+1)*48271) (b := 2147483647) (by decide)
  lia
 walk_at "st";refine ⟨jf (by decide),by decide,by decide,by decide, ?_⟩
 exact q _
end
section
open PySem PySem.Spec PyProof.Rows L2.Srt
variable {T:List FD}
noncomputable abbrev K3:=Int×Int×Int
noncomputable abbrev Tm:=K3×Int
noncomputable def k3D (k:K3):D := .tup [.int k.1, .int k.2.1, .int k.2.2]
noncomputable def kcD (t:Tm):D×D:=(k3D t.1, .int t.2)
theorem gp {a b:K3} (h:k3D a=k3D b):a=b:=by
 obtain ⟨a1,a2,j⟩:=a;obtain ⟨b1,b2,b3⟩:=b;simp [k3D] at h;simp [h]
noncomputable def cf (ts:List Tm) (k:K3):Int:=((ts.filter fun t=>decide (t.1=k)).map (·.2)).sum
theorem e7 {k:K3}:cf [] k=0:=rfl
theorem bo {t:Tm} {ts:List Tm} {k:K3}:cf (t::ts) k=(if t.1=k then t.2 else 0)+cf ts k:=by
 unfold cf
 by_cases h:t.1=k
 ·rw [Dc (by simpa using h),if_pos h];simp
 ·rw [D9 (by simpa using h),if_neg h];simp
theorem cE {a b:List Tm} {k:K3}:cf (a++b) k=cf a k+cf b k:=by
 induction a with
 | nil=>simp [e7]
 | cons t a ih=>rw [JP,bo,bo,ih];lia
theorem oB {ts:List Tm} {k:K3} (h:∀ t∈ts,t.1≠k):cf ts k=0:=by
 induction ts with
 | nil=>rfl
 | cons t ts ih=>rw [bo,if_neg (h t (by simp)),ih fun u j=>h u (by simp [j])];rfl
theorem mv {ts:List Tm} (j:(ts.map (·.1)).Nodup) {t:Tm} (ht:t∈ts):cf ts t.1=t.2:=by
 induction ts with
 | nil=>simp at ht
 | cons u ts ih =>
   simp only [CJ,DG] at j;rw [bo]
   rcases CC.mp ht with z | z
   ·subst z;rw [if_pos rfl,oB fun v q e=>j.1 (by rw [<- e];exact DC q)]
    lia
   ·rw [if_neg fun e=>j.1 (by rw [e];exact DC z),ih j.2 z];lia
noncomputable def dw (L:List Tm) (k:K3) (c:Int):List Tm:=if (L.any fun p=>decide (p.1=k))=true then L.map fun p=>if p.1=k then (p.1,p.2+c) else p else L++[(k,c)]
theorem oC {L:List Tm} {k:K3}:dget (L.map kcD) (k3D k)=(L.find? fun p=>decide (p.1=k)).map fun p => .int p.2:=by
 unfold dget
 induction L with
 | nil=>rfl
 | cons t L ih =>
   by_cases h:t.1=k
   ·rw [CJ,FL (by simp [kcD,h]),FL (by simpa using h)];rfl
   ·rw [CJ,EJ (by simp only [decide_eq_true_eq];exact fun e=>h (gp e)),EJ (by simpa using h),ih]
theorem t7 {L:List Tm} {k:K3}:((L.map kcD).any fun p=>decide (p.1=k3D k))=L.any fun p=>decide (p.1=k):=by
 induction L with
 | nil=>rfl
 | cons t L ih =>
   rw [CJ,ER,ER,ih];congr 1
   by_cases h:t.1=k
   ·simp [kcD,h]
   ·rw [decide_eq_false h];exact decide_eq_false (fun e=>h (gp e))
theorem yk {L:List Tm} (j:(L.map (·.1)).Nodup) {k:K3} {c:Int}:bY (L.map kcD) (k3D k) (.int ((((L.find? fun p=>decide (p.1=k)).map (·.2)).getD 0)+c))=(dw L k c).map kcD:=by
 unfold bY dw;rw [t7]
 split
 ·next h =>
  rw [EK,EK];apply Er;intro t ht;simp only [IG]
  by_cases e:t.1=k
  ·rw [if_pos (by rw [<- e];rfl),if_pos e]
   have:L.find? (fun p=>decide (p.1=k))=some t:=by
    clear h
    induction L with
    | nil=>simp at ht
    | cons u L ih =>
      simp only [CJ,DG] at j
      rcases CC.mp ht with z | z
      ·subst z;rw [FL (by simpa using e)]
      ·rw [EJ (by simp;intro q;exact j.1 (by rw [q, <- e];exact DC z))]
       exact ih j.2 z
   rw [this];rfl
  ·rw [if_neg (c:=(kcD t).1=k3D k) (fun z=>e (gp z)),if_neg e]
 ·next h =>
  have:L.find? (fun p=>decide (p.1=k))=none:=by
   rw [List.find?_eq_none];intro x hx;simp only [decide_eq_true_eq];intro e;exact h (Ey.mpr ⟨x,hx,by simpa using e⟩)
  rw [this];simp [kcD]
theorem t8 {L:List Tm} {k:K3} {c:Int}:(dw L k c).map (·.1)=if (L.any fun p=>decide (p.1=k))=true then L.map (·.1) else L.map (·.1)++[k]:=by
 unfold dw
 split
 ·rw [EK];apply Er;intro t _;simp only [IG]
  split <;> rfl
 ·simp
theorem qr {L:List Tm} (j:(L.map (·.1)).Nodup) {k:K3} {c:Int}:((dw L k c).map (·.1)).Nodup:=by
 rw [t8]
 split
 ·exact j
 ·next h =>
  refine Ju.mpr ⟨j,by simp,fun a z b q e => ?_⟩
  simp at q;subst q;subst e;obtain ⟨t,ht,e⟩:=Ej.mp z;exact h (Ey.mpr ⟨t,ht,by simpa using e⟩)
theorem vB {L:List Tm} {k:K3} {c:Int}:(dw L k c).length<=L.length+1:=by
 unfold dw;split <;> simp
theorem ym {L:List Tm} (j:(L.map (·.1)).Nodup) {k a:K3} {c:Int}:cf (dw L k c) a=cf L a+if k=a then c else 0:=by
 unfold dw
 split
 ·next h =>
  obtain ⟨t,ht,e⟩:=Ey.mp h;have e:t.1=k:=by simpa using e
  clear h
  induction L with
  | nil=>simp at ht
  | cons u L ih =>
    simp only [CJ,DG] at j;rw [CJ,bo,bo]
    by_cases eu:u.1=k
    ·have rest:(L.map fun p=>if p.1=k then (p.1,p.2+c) else p)=L:=by
      conv=>rhs;rw [<- List.map_id L]
      apply Er;intro p q;rw [if_neg fun z=>j.1 (by rw [eu, <- z];exact DC q)];rfl
     rw [rest,if_pos eu];dsimp only
     by_cases ea:u.1=a
     ·rw [if_pos ea,if_pos ea,if_pos (by rw [<- eu];exact ea)];lia
     ·rw [if_neg ea,if_neg ea,if_neg (by rw [<- eu];exact ea)];lia
    ·rcases CC.mp ht with z | z
     ·exact absurd (by rw [<- z];exact e) eu
     ·rw [ih j.2 z,if_neg eu];lia
 ·rw [cE,bo,e7];simp
noncomputable def aK (ts:List Tm):List Tm:=ts.foldl (fun L t=>dw L t.1 t.2) []
theorem dG {ts:List Tm} {t:Tm}:aK (ts++[t])=dw (aK ts) t.1 t.2:=by simp [aK]
theorem eS {α:Type} {P:List α -> Prop} (h0:P []) (h1:∀ l x,P l->P (l++[x])) (l:List α):P l:=by
 have:∀ r:List α,P r.reverse:=by
  intro r
  induction r with
  | nil=>exact h0
  | cons x r ih=>rw [EV];exact h1 _ _ ih
 have:=this l.reverse;rw [List.reverse_reverse] at this;exact this
theorem eU (ts:List Tm):((aK ts).map (·.1)).Nodup:=eS (P:=fun ts=>((aK ts).map (·.1)).Nodup) (by simp [aK]) (fun l x ih=>by rw [dG];exact qr ih) ts
theorem yn (ts:List Tm) (k:K3):cf (aK ts) k=cf ts k:=eS (P:=fun ts=>cf (aK ts) k=cf ts k) rfl (fun l x ih=>by
 rw [dG,ym (eU l),ih,cE,bo,e7];lia) ts
theorem my (ts:List Tm):(aK ts).length<=ts.length:=eS (P:=fun ts=>(aK ts).length<=ts.length) (by simp [aK]) (fun l x ih=>by
 rw [dG];have:=vB (L:=aK l) (k:=x.1) (c:=x.2);simp;lia) ts
theorem Bc {ts:List Tm} {k:K3}:Mi.cf (ts.filter fun t => !(t.2==0)) k=Mi.cf ts k:=by
 induction ts with
 | nil=>rfl
 | cons t ts ih =>
   rw [bo]
   by_cases h:t.2=0
   ·rw [D9 (by simp [h]),ih,h];split <;> lia
   ·rw [Dc (by simp [h]),bo,ih]
theorem Ge.upd {M M1:Mem} {d:Addr} {o:O} (g:Ge M M1) (hd:M d=none):Ge M (af M1 d o):=fun a o' e=>by
 rw [aw (fun z=>by rw [z,hd] at e;cases e)];exact g _ _ e
end
section
open PySem PySem.Spec PyProof.Rows L2.Srt
theorem b8 {b p:Addr} {M:Mem} (j:Box b M) (q:M p=none):p≠b:=fun z=>by
 obtain ⟨x,y,w,e⟩:=j;rw [<- z,q] at e;cases e
end
section
open PySem PySem.Spec PyProof.Rows L2.Srt
variable {T:List FD}
noncomputable def vC (L:List Tm) (k:K3) (c:Int):List Tm:=if (L.any fun p=>decide (p.1=k))=true then L.map (fun p=>if p.1=k then (p.1,c) else p) else L++[(k,c)]
theorem vD {L:List Tm} {k:K3} {c:Int}:bY (L.map kcD) (k3D k) (.int c)=(vC L k c).map kcD:=by
 unfold bY vC;rw [t7]
 split
 ·rw [EK,EK];refine Er fun p _ => ?_;simp only [IG]
  by_cases h:p.1=k
  ·rw [if_pos h,if_pos (show (kcD p).1=k3D k by show k3D p.1=k3D k;rw [h])];rfl
  ·rw [if_neg h,if_neg (show ¬ (kcD p).1=k3D k from fun z=>h (gp z))]
 ·rw [G9];rfl
theorem gX {L:List Tm} (j:(L.map (·.1)).Nodup) {t:Tm} (ht:t∈L):dget (L.map kcD) (k3D t.1)=some (.int t.2):=by
 rw [oC];have:L.find? (fun p=>decide (p.1=t.1))=some t:=by
  induction L with
  | nil=>simp at ht
  | cons x L ih =>
    simp only [CJ,DG] at j
    rcases CC.mp ht with z | z
    ·subst z;simp
    ·have:x.1≠t.1:=fun e=>j.1 (by rw [e];exact DC z)
     rw [EJ (by simpa using this)]
     exact ih j.2 z
 rw [this];rfl
theorem vE {L:List Tm} (j:(L.map (·.1)).Nodup):pX (L.map kcD)=L.map kcD:=by
 have g:∀ (r l:List Tm),(((l++r).map (·.1)).Nodup)->(r.map kcD).foldl (fun a kv=>bY a kv.1 kv.2) (l.map kcD)=(l++r).map kcD:=by
  intro r
  induction r with
  | nil=>intro l _;simp
  | cons t r ih =>
    intro l h;rw [CJ,G3];have e:bY (l.map kcD) (kcD t).1 (kcD t).2=(l++[t]).map kcD:=by
     show bY (l.map kcD) (k3D t.1) (.int t.2)=_;rw [vD];unfold vC;rw [if_neg];intro z;obtain ⟨p,q,e⟩:=Ey.mp z;rw [G9,Ju] at h;exact h.2.2 _ (DC q) _ (DC (D5 ..)) (of_decide_eq_true e)
    rw [e,ih (l++[t]) (by rw [Ei];exact h)]
    rw [Ei];rfl
 have:=g L [] (by simpa using j)
 simpa [pX] using this
theorem qt (k:K3):bK (k3D k)=true:=rfl
end
section
open PySem PySem.Spec PyProof.Rows L2.Srt
variable {T:List FD}
noncomputable def idx (l:List Int):List (Int×Int):=l.mapIdx fun i x=>((i:Nat),x)
noncomputable def nz (l:List Int):List (Int×Int):=(idx l).filter fun q => !(q.2==0)
noncomputable def pD (q:Int×Int):D := .tup [.int q.1, .int q.2]
theorem oD {l:List Int}:(idx l).length=l.length:=by simp [idx]
theorem mz {l:List Int}:(nz l).length<=l.length:=by
 unfold nz;exact Dt (Ec _ _) (by rw [oD];exact q0 _)
theorem vF {l:List Int}:eK (l.map .int)=(idx l).map pD:=by
 unfold eK idx;apply List.ext_getElem?;intro j;simp only [I7,CK]
 cases l[j]? <;> rfl
noncomputable def fQ (xp xn:Str) (s:Stmt):FD:=⟨"_law_nonzero",s,[xp],1,
 (.cons (.ret (.comp [none,none] ["_law_place",xn] (.last (.enum (.var 0)) (.tup (.cons (.name 0) (.cons (.name 1) .nil))) (.cons (.cmp .ne (.var 1) (.int 0)) .nil) (.tup (.cons (.var 0) (.cons (.var 1) .nil))))))
 .nil)⟩
theorem qu {f:Nat} {xp xn:Str} {s:Stmt} (hf:T[f]? = some (fQ xp xn s)) {n:Nat} (G : 1<=n) {l:List Int} (J:l.length<=10000000) {M:Mem} {Q:QD} (q:∀ p,M p=none->Q (.ref p) (af M p (.lst ((nz l).map pD)))):phi T n f [.tup (l.map .int)] M Q:=by
 refine ar (by lia) hf rfl (ρ := [some _]) rfl ?_
 unfold fQ;walk_at "st";rw [vF];refine bM (f:=pD) (ys:=idx l) (I:=fun r ρ M' acc=>(∃ o0 z, ρ = [o0,z])/\M'=M/\acc=(r.filter fun q => !(q.2==0)).map pD) rfl ⟨⟨_,_,rfl⟩,rfl,rfl⟩ (fun _ _ _ _ _=>by first | rfl | trivial) ?_ ?_
 ·rintro l' x r ρ M1 acc e ⟨⟨o0,z,rfl⟩,rfl,rfl⟩;refine ⟨_,rfl,fun N' j => ?_⟩;have B:=aG e;rw [oD] at B;have F:(l'.filter fun q => !(q.2==0)).length<=l'.length:=Ec _ _;walk_at "wp"
  by_cases hz:x.2=0
  ·rw [if_neg (by simp [hz])]
   refine j _ _ _ ⟨⟨_,_,rfl⟩,rfl, ?_⟩;rw [DP,D9 (by simp [hz])];simp
  ·rw [if_pos (by simp [hz])]
   refine ⟨by rw [hB];lia,by rw [v5,hB];lia,j _ _ _ ⟨⟨_,_,rfl⟩,rfl, ?_⟩⟩
   rw [DP,Dc (by simp [hz])];simp [pD]
 ·rintro ρ M1 acc ⟨⟨o0,z,rfl⟩,rfl,rfl⟩ p hp;exact q p hp
noncomputable def bF (i a j b:Int) (zs:List (Int×Int)):List Tm:=zs.map fun z=>((z.1,i,j),a*b*z.2)
noncomputable def bU (i a:Int) (ys zs:List (Int×Int)):List Tm:=ys.flatMap fun y=>bF i a y.1 y.2 zs
noncomputable def cq (xs ys zs:List (Int×Int)):List Tm:=xs.flatMap fun x=>bU x.1 x.2 ys zs
noncomputable def dN (p:Pr):List Tm:=cq (nz p.1) (nz p.2.1) (nz p.2.2)
noncomputable def aP (ps:List Pr):List Tm:=ps.flatMap dN
theorem mC {i a j b:Int} {zs:List (Int×Int)}:(bF i a j b zs).length=zs.length:=by simp [bF]
theorem mD {i a:Int} {ys zs:List (Int×Int)}:(bU i a ys zs).length=ys.length*zs.length:=by
 unfold bU
 induction ys with
 | nil=>simp
 | cons y ys ih=>rw [E1,z4,ih,mC,D4,F7];lia
theorem gY {xs ys zs:List (Int×Int)}:(cq xs ys zs).length=xs.length*(ys.length*zs.length):=by
 unfold cq
 induction xs with
 | nil=>simp
 | cons y ys ih=>rw [E1,z4,ih,mD,D4,F7];lia
noncomputable def mF (xs:Str) (s:Stmt) (fz:Nat):FD:=⟨"_law_sums",s,[xs, "_law_found", "_law_l", "_law_r", "_law_o", "_law_rights", "_law_outs", "_law_i", "_law_a", "_law_j", "_law_b", "_law_k", "_law_c"],1,
 (.cons (.asg (.name 1) (.dnew true))
 (.cons (.for (.tup (.cons (.name 2) (.cons (.name 3) (.cons (.name 4) .nil)))) (.seq (.ix (.var 0) (.int 3))) (.cons (.asg (.name 5) (.call fz (.cons (.var 3) .nil)))
 (.cons (.asg (.name 6) (.call fz (.cons (.var 4) .nil)))
 (.cons (.for (.tup (.cons (.name 7) (.cons (.name 8) .nil))) (.seq (.call fz (.cons (.var 2) .nil))) (.cons (.for (.tup (.cons (.name 9) (.cons (.name 10) .nil))) (.seq (.var 5)) (.cons (.for (.tup (.cons (.name 11) (.cons (.name 12) .nil))) (.seq (.var 6)) (.cons (.put (.var 1) (.tup (.cons (.var 11) (.cons (.var 7) (.cons (.var 9) .nil)))) (.bin .add (.dget (.var 1) (.tup (.cons (.var 11) (.cons (.var 7) (.cons (.var 9) .nil)))) (.int 0)) (.bin .mul (.bin .mul (.var 8) (.var 10)) (.var 12))))
 .nil))
 .nil))
 .nil))
 .nil))))
 (.cons (.frz 1 (.ret (.blt .dict (.cons (.comp [none,(some 1)] ["_law_place", "_law_found"] (.last (.keys (.var 1)) (.name 0) (.cons (.cmp .ne (.ix (.var 1) (.var 0)) (.int 0)) .nil) (.tup (.cons (.var 0) (.cons (.ix (.var 1) (.var 0)) .nil))))) .nil))))
 .nil)))⟩
def Am (T:List FD) (n f:Nat):Prop := ∀ {l:List Int} {M:Mem} {Q:QD},l.length<=10000000->(∀ p,M p=none->Q (.ref p) (af M p (.lst ((nz l).map pD))))->phi T n f [.tup (l.map .int)] M Q
structure vG (p:Pr):Prop where
 b1:Big p.1
 b2:Big p.2.1
 b3:Big p.2.2
 l1:p.1.length<=100
 l2:p.2.1.length<=100
 l3:p.2.2.length<=100
structure wu (ps:List Pr) (L:List Tm):Prop where
 nd:(L.map (·.1)).Nodup
 nz:∀ t∈L,t.2≠0
 cf:∀ k,cf L k=cf (aP ps) k
def Od (d:Addr) (M M':Mem):Prop := ∀ a,a≠d->M' a=M a
theorem Od.refl {d:Addr} {M:Mem}:Od d M M:=fun _ _=>rfl
theorem Od.trans {d:Addr} {M M' M'':Mem} (h:Od d M M') (g:Od d M' M''):Od d M M'':=fun a n=>(g a n).trans (h a n)
theorem Od.upd {d:Addr} {M M':Mem} {o:O} (h:Od d M M'):Od d M (af M' d o):=fun a n=>(aw n).trans (h a n)
noncomputable def wv:MSs := .cons (.put (.var 1) (.tup (.cons (.var 11) (.cons (.var 7) (.cons (.var 9) .nil)))) (.bin .add (.dget (.var 1) (.tup (.cons (.var 11) (.cons (.var 7) (.cons (.var 9) .nil)))) (.int 0)) (.bin .mul (.bin .mul (.var 8) (.var 10)) (.var 12)))) .nil
noncomputable def qv:MSs := .cons (.for (.tup (.cons (.name 11) (.cons (.name 12) .nil))) (.seq (.var 6)) wv) .nil
noncomputable def qw:MSs := .cons (.for (.tup (.cons (.name 9) (.cons (.name 10) .nil))) (.seq (.var 5)) qv) .nil
noncomputable abbrev bd (x:Int):Prop := -1000000000000<=x/\x<=1000000000000
theorem Bd {Φ:Phi} {v0 v2 O v4 U B G:Option D} {d po:Addr} {i a j b:Int} {zs:List (Int×Int)} {pre:List Tm} {M:Mem} {E:aZ} (J:M po=some (.lst (zs.map pD))) (Y:po≠d) (hd:M d=some (.dct true ((aK pre).map kcD))) (hl:pre.length+zs.length<=10000000) (ha:bd a) (hb:bd b)  (hc:∀ z∈zs,bd z.2)
 (q:∀ M' B G,Od d M M'->M' d=some (.dct true ((aK (pre++bF i a j b zs)).map kcD))->E.nx [v0,some (.ref d),v2,O,v4,U,some (.ref po),some (.int i),some (.int a),some (.int j),some (.int b),B,G] M') :
 wSs Φ qv E [v0,some (.ref d),v2,O,v4,U,some (.ref po),some (.int i),some (.int a),some (.int j),some (.int b),B,G] M:=by
 unfold qv;walk_at "st";refine ⟨_,ag J, ?_⟩;refine bg (f:=pD) (ys:=zs) (I:=fun l ρ M' => ∃ B G, ρ = [v0,some (.ref d),v2,O,v4,U,some (.ref po),some (.int i),some (.int a),some (.int j),some (.int b),B,G]/\Od d M M'/\M' d=some (.dct true ((aK (pre++bF i a j b l)).map kcD))) rfl ⟨_,_,rfl,Od.refl,by simpa [bF] using hd⟩ (fun l ρ M' ⟨_,_,_,g,_⟩=>ag ((g po Y).trans J)) ?_ ?_
 ·rintro l z r ρ M1 e ⟨B,G,rfl,g1,L⟩;refine ⟨_,rfl,fun F hF => ?_⟩;have BN:=aG e;have hz:=hc z (by rw [e];simp)
  have Z:=my (pre++bF i a j b l);rw [z4,mC] at Z;unfold wv;rw [eQ];walk_at "wp";refine ⟨⟨_,_,L⟩,by rw [hB];lia,_,_,L,rfl,vy (by lia),jf (by lia), ?_⟩
  have ek:D.tup [D.int z.1,D.int i,D.int j]=k3D (z.1,i,j):=rfl;rw [ek,oC];have eg:((Option.map (fun p:Tm=>D.int p.2) ((aK (pre++bF i a j b l)).find? fun p=>decide (p.1=(z.1,i,j)))).getD (.int 0)) = .int (((((aK (pre++bF i a j b l)).find? fun p=>decide (p.1=(z.1,i,j))).map (·.2)).getD 0)):=by
   cases (aK (pre++bF i a j b l)).find? fun p=>decide (p.1=(z.1,i,j)) <;> rfl
  rw [eg];walk_at "wp";refine ⟨by rw [hB];lia,vt L rfl (by rw [v5,hB];lia) ?_⟩
  rw [yk (eU _)];refine hF _ _ ⟨_,_,rfl,g1.upd, ?_⟩;rw [ad,show bF i a j b (l++[z])=bF i a j b l++[((z.1,i,j),a*b*z.2)] by simp [bF], <- Ei,dG]
 ·rintro ρ M1 ⟨B,G,rfl,g1,L⟩;dsimp only;walk_at "wp";exact q _ _ _ g1 L
theorem Be {Φ:Phi} {v0 v2 U v4 J G j B:Option D} {d pr po:Addr} {i a:Int} {ys zs:List (Int×Int)} {pre:List Tm} {M:Mem} {E:aZ} (L:M pr=some (.lst (ys.map pD))) (Y:pr≠d) (Z:M po=some (.lst (zs.map pD))) (O:po≠d) (hd:M d=some (.dct true ((aK pre).map kcD))) (hl:pre.length+ys.length*zs.length<=10000000) (ha:bd a) (hb:∀ z∈ys,bd z.2) (hc:∀ z∈zs,bd z.2)
 (q:∀ M' J G j B,Od d M M'->M' d=some (.dct true ((aK (pre++bU i a ys zs)).map kcD))->E.nx [v0,some (.ref d),v2,U,v4,some (.ref pr),some (.ref po),some (.int i),some (.int a),J,G,j,B] M') :
 wSs Φ qw E [v0,some (.ref d),v2,U,v4,some (.ref pr),some (.ref po),some (.int i),some (.int a),J,G,j,B] M:=by
 unfold qw;walk_at "st";refine ⟨_,ag L, ?_⟩;refine bg (f:=pD) (ys:=ys) (I:=fun l ρ M' => ∃ J G j B, ρ = [v0,some (.ref d),v2,U,v4,some (.ref pr),some (.ref po),some (.int i),some (.int a),J,G,j,B]/\Od d M M'/\M' d=some (.dct true ((aK (pre++bU i a l zs)).map kcD))) rfl ⟨_,_,_,_,rfl,Od.refl,by simpa [bU] using hd⟩ (fun l ρ M' ⟨_,_,_,_,_,g,_⟩=>ag ((g pr Y).trans L)) ?_ ?_
 ·rintro l y r ρ M1 e ⟨J,G,j,B,rfl,g1,hM⟩;refine ⟨_,rfl,fun F hF => ?_⟩;have BN:=aG e;have hy:=hb y (by rw [e];simp)
  have hm:(l.length+1)*zs.length<=ys.length*zs.length:=Ie _ BN;rw [F7] at hm;refine Bd ((g1 po O).trans Z) O hM (by rw [z4,mD];lia) ha hy hc fun M2 j B g2 h2=>hF _ _ ⟨_,_,_,_,rfl,g1.trans g2, ?_⟩
  rw [h2,show bU i a (l++[y]) zs=bU i a l zs++bF i a y.1 y.2 zs by simp [bU],Ei]
 ·rintro ρ M1 ⟨J,G,j,B,rfl,g1,hM⟩;dsimp only;walk_at "wp";exact q _ _ _ _ _ g1 hM
theorem Bf {Φ:Phi} {v0 v2 Z v4:Option D} {d pr po pl:Addr} {xs ys zs:List (Int×Int)} {pre:List Tm} {M:Mem} {E:aZ} {L O J j B G:Option D} (BN:M pl=some (.lst (xs.map pD))) (BO:pl≠d) (BP:M pr=some (.lst (ys.map pD))) (U:pr≠d) (BQ:M po=some (.lst (zs.map pD))) (Y:po≠d) (hd:M d=some (.dct true ((aK pre).map kcD))) (hl:pre.length+xs.length*(ys.length*zs.length)<=10000000) (ha:∀ z∈xs,bd z.2) (hb:∀ z∈ys,bd z.2) (hc:∀ z∈zs,bd z.2)
 (q:∀ M' L O J j B G,Od d M M'->M' d=some (.dct true ((aK (pre++cq xs ys zs)).map kcD))->E.nx [v0,some (.ref d),v2,Z,v4,some (.ref pr),some (.ref po),L,O,J,j,B,G] M') :
 bn (lg (bO (bC 7) (bO (bC 8) fw))) (wSs Φ qw) (fun M=>av M (.ref pl)=some (xs.map pD)) E (xs.map pD) [v0,some (.ref d),v2,Z,v4,some (.ref pr),some (.ref po),L,O,J,j,B,G] M:=by
 refine bg (f:=pD) (ys:=xs) (I:=fun l ρ M' => ∃ L O J j B G, ρ = [v0,some (.ref d),v2,Z,v4,some (.ref pr),some (.ref po),L,O,J,j,B,G]/\Od d M M'/\M' d=some (.dct true ((aK (pre++cq l ys zs)).map kcD))) rfl ⟨_,_,_,_,_,_,rfl,Od.refl,by simpa [cq] using hd⟩ (fun l ρ M' ⟨_,_,_,_,_,_,_,g,_⟩=>ag ((g pl BO).trans BN)) ?_ ?_
 ·rintro l x r ρ M1 e ⟨L,O,J,j,B,G,rfl,g1,hM⟩;refine ⟨_,rfl,fun F hF => ?_⟩;have BR:=aG e;have hx:=ha x (by rw [e];simp)
  have hm:(l.length+1)*(ys.length*zs.length)<=xs.length*(ys.length*zs.length):=Ie _ BR;rw [F7] at hm;refine Be ((g1 pr U).trans BP) U ((g1 po Y).trans BQ) Y hM (by rw [z4,gY];lia) hx hb hc fun M2 J j B G g2 h2=>hF _ _ ⟨_,_,_,_,_,_,rfl,g1.trans g2, ?_⟩
  rw [h2,show cq (l++[x]) ys zs=cq l ys zs++bU x.1 x.2 ys zs by simp [cq],Ei]
 ·rintro ρ M1 ⟨L,O,J,j,B,G,rfl,g1,hM⟩;exact q _ _ _ _ _ _ _ g1 hM
theorem mG {l:List Int} (h:Big l):∀ z∈nz l,bd z.2:=fun z j=>by
 unfold nz at j;have j:=(Ef.mp j).1;unfold idx at j;obtain ⟨i,hi,e⟩:=List.mem_mapIdx.mp j;rw [<- e];exact h _ (E7 hi)
theorem t9 {ps:List Pr} {p:Pr}:aP (ps++[p])=aP ps++dN p:=by simp [aP]
theorem yo {f fz:Nat} {xs:Str} {s:Stmt} (hf:T[f]? = some (mF xs s fz)) {n:Nat} (BN:Am T (n - 1) fz) (hn : 1<=n) {x0 x1 x2:D} {p:Addr} {ps:List Pr} {M:Mem} {Q:QD} (hp:M p=some (.lst (ps.map prD))) (hl:(aP ps).length<=10000000) (hF:∀ p∈ps,vG p)
 (q:∀ (L:List Tm) d M',wu ps L->L.length<=10000000->Ge M M'->M d=none->M' d=some (.dct true (L.map kcD))->Q (.ref d) M'):phi T n f [.tup [x0,x1,x2, .ref p]] M Q:=by
 refine ar (by lia) hf rfl (ρ := [some _,none,none,none,none,none,none,none,none,none,none,none,none]) rfl ?_
 unfold mF;walk_at "st";intro d hd;have g0:=Ge.new (o := .dct true []) hd;have d0:=ad (M:=M) (a:=d) (o := .dct true []);generalize af M d (.dct true [])=M0 at g0 d0 ⊢;walk_at "st";refine ⟨_,rfl,_,ag (g0 _ _ hp), ?_⟩;have C1:p≠d:=fun z=>by rw [z,hd] at hp;cases hp
 refine bg (f:=prD) (ys:=ps) (I:=fun l ρ M' => ∃ o2 o3 o4 o5 o6 o7 o8 o9 B G J, ρ = [some (.tup [x0,x1,x2, .ref p]),some (.ref d),o2,o3,o4,o5,o6,o7,o8,o9,B,G,J]/\Ge M M'/\M' d=some (.dct true ((aK (aP l)).map kcD))) rfl ⟨_,_,_,_,_,_,_,_,_,_,_,rfl,g0,d0⟩ (fun l ρ M' ⟨_,_,_,_,_,_,_,_,_,_,_,_,g,_⟩=>ag (g _ _ hp)) ?_ ?_
 ·rintro l x r ρ M1 e ⟨o2,o3,o4,o5,o6,o7,o8,o9,B,G,J,rfl,g1,j⟩;refine ⟨_,rfl,fun F BS => ?_⟩;have hx:=hF x (by rw [e];simp)
  have BU:(aP l).length+(dN x).length<=10000000:=by
   have:aP ps=aP l++dN x++aP r:=by rw [e];simp [aP]
   rw [this,z4,z4] at hl;lia
  walk_at "st";refine BN (by have:=hx.l2;lia) fun pr O => ?_
  have BV:pr≠d:=fun z=>by rw [z,j] at O;cases O
  have gr:=Ge.new (o := .lst ((nz x.2.1).map pD)) O;have er:=ad (M:=M1) (a:=pr) (o := .lst ((nz x.2.1).map pD));have j:=gr _ _ j;have g2:=g1.trans gr;generalize af M1 pr (.lst ((nz x.2.1).map pD))=M2 at er j g2 ⊢;clear g1 gr O;walk_at "st";refine BN (by have:=hx.l3;lia) fun po U => ?_
  have BW:po≠d:=fun z=>by rw [z,j] at U;cases U
  have go:=Ge.new (o := .lst ((nz x.2.2).map pD)) U;have eo:=ad (M:=M2) (a:=po) (o := .lst ((nz x.2.2).map pD));have j:=go _ _ j;have er:=go _ _ er;have g3:=g2.trans go;generalize af M2 po (.lst ((nz x.2.2).map pD))=M3 at er eo j g3 ⊢;clear g2 go U;walk_at "st";refine BN (by have:=hx.l1;lia) fun pl Y => ?_
  have BX:pl≠d:=fun z=>by rw [z,j] at Y;cases Y
  have gl:=Ge.new (o := .lst ((nz x.1).map pD)) Y;have el:=ad (M:=M3) (a:=pl) (o := .lst ((nz x.1).map pD));have j:=gl _ _ j;have er:=gl _ _ er;have eo:=gl _ _ eo;have g4:=g3.trans gl;generalize af M3 pl (.lst ((nz x.1).map pD))=M4 at er eo el j g4 ⊢;clear g3 gl Y;refine ⟨_,ag el, ?_⟩;refine Bf el BX er BV eo BW j (by have:=gY (xs:=nz x.1) (ys:=nz x.2.1) (zs:=nz x.2.2);unfold dN at BU;lia) (mG hx.b1) (mG hx.b2) (mG hx.b3) fun M5 o7 o8 o9 B G J g5 h5 => ?_
  walk_at "wp";refine BS _ _ ⟨_,_,_,_,_,_,_,_,_,_,_,rfl,fun a o ea => ?_,by rw [h5,t9];rfl⟩
  by_cases had:a=d
  ·subst had;rw [hd] at ea;cases ea
  ·rw [g5 a had];exact g4 _ _ ea
 ·rintro ρ M1 ⟨o2,o3,o4,o5,o6,o7,o8,o9,B,G,J,rfl,g1,j⟩;dsimp only;walk_at "st";refine yh rfl j ?_;have fd:=ad (M:=M1) (a:=d) (o := .fdc ((aK (aP ps)).map kcD));have g2:Ge M (af M1 d (.fdc ((aK (aP ps)).map kcD))):=g1.upd hd;have BY:=Dt (my (aP ps)) hl;have Z:=eU (aP ps);have BP:=yn (aP ps);generalize af M1 d (.fdc ((aK (aP ps)).map kcD))=M2 at fd g2 ⊢;generalize aK (aP ps)=L at fd BY Z BP;walk_at "wp";refine ⟨_,fd, ?_⟩;refine bM (f:=fun t:Tm=>k3D t.1) (ys:=L) (I:=fun l ρ M' acc=>(∃ o0, ρ = [o0,some (.ref d)])/\M'=M2/\acc=(l.filter fun t => !(t.2==0)).map fun t => .tup [k3D t.1, .int t.2]) (by rw [EK];rfl) ⟨⟨_,rfl⟩,rfl,rfl⟩ (fun _ _ _ _ _=>trivial) ?_ ?_
  ·rintro l t r ρ M3 acc e ⟨⟨o0,rfl⟩,rfl,rfl⟩;refine ⟨_,rfl,fun N' BQ => ?_⟩;have C2:=aG e;have ht:t∈L:=by rw [e];simp
   have BZ:(l.filter fun t => !(t.2==0)).length<=l.length:=Ec _ _;walk_at "wp";refine sZ fd (qt _) (gX Z ht) ?_;walk_at "wp"
   by_cases hz:t.2=0
   ·rw [if_neg (by simp [hz])]
    refine BQ _ _ _ ⟨⟨_,rfl⟩,rfl, ?_⟩;rw [DP,D9 (by simp [hz])];simp
   ·rw [if_pos (by simp [hz])]
    refine sZ fd (qt _) (gX Z ht) ?_;refine ⟨by rw [hB];lia,by rw [v5,hB];lia,BQ _ _ _ ⟨⟨_,rfl⟩,rfl, ?_⟩⟩
    rw [DP,Dc (by simp [hz])];simp
  ·rintro ρ M3 acc ⟨⟨o0,rfl⟩,rfl,rfl⟩ p2 hp2;have BZ:(L.filter fun t => !(t.2==0)).length<=L.length:=Ec _ _;have BR:((L.filter fun t => !(t.2==0)).map (·.1)).Nodup:=Z.sublist (List.Sublist.map _ List.filter_sublist);refine ⟨p2,(L.filter fun t => !(t.2==0)).map kcD,rfl,by rw [ad,EK];rfl,fun kv C0 => ?_,by rw [v5,hB];lia,fun pf BO => ?_⟩
   ·obtain ⟨t,_,rfl⟩:=Ej.mp C0;exact qt _
   ·rw [vE BR];have g3:=g2.trans (Ge.new (o := .lst ((L.filter fun t => !(t.2==0)).map fun t=>D.tup [k3D t.1, .int t.2])) hp2);refine q (L.filter fun t => !(t.2==0)) pf _ ⟨BR,fun t ht => ?_,fun k=>by rw [Bc];exact BP k⟩ (by lia) (g3.trans (Ge.new BO)) ?_ ad
    ·have:=(Ef.mp ht).2;simpa using this
    ·cases hz:M pf with
     | none=>rfl
     | some o=>rw [g3 _ _ hz] at BO;cases BO
end
section
open PySem PySem.Spec PyProof.Rows L2.Srt
noncomputable def S1 (zs:List (Int×Int)) (k:Int):Int:=(zs.map fun z=>if z.1=k then z.2 else 0).sum
theorem de {z:Int×Int} {zs:List (Int×Int)} {k:Int}:S1 (z::zs) k=(if z.1=k then z.2 else 0)+S1 zs k:=by simp [S1]
theorem oE {α:Type} {F : α -> List Tm} {k:K3}:∀ l:List α,cf (l.flatMap F) k=(l.map fun x=>cf (F x) k).sum
 | [] => rfl
 | x::l=>by rw [E1,cE,oE l];simp
theorem oF {i a j b k i' j':Int}:∀ {zs:List (Int×Int)},cf (bF i a j b zs) (k,i',j')=if i=i'/\j=j' then a*b*S1 zs k else 0
 | [] => by simp [bF,e7,S1]
 | z::zs=>by
   rw [show bF i a j b (z::zs)=((z.1,i,j),a*b*z.2)::bF i a j b zs from rfl,bo,oF,de]
   by_cases h:i=i'/\j=j'
   ·obtain ⟨rfl,rfl⟩:=h
    by_cases q:z.1=k
    ·subst q;simp [Int.mul_add]
    ·have : ¬ ((z.1,i,j)=(k,i,j)):=fun e=>q (congrArg (·.1) e);rw [if_neg this,if_pos ⟨rfl,rfl⟩,if_pos ⟨rfl,rfl⟩,if_neg q];simp
   ·have : ¬ ((z.1,i,j)=(k,i',j')):=fun e=>h ⟨congrArg (·.2.1) e,congrArg (·.2.2) e⟩;rw [if_neg this,if_neg h,if_neg h];rfl
theorem oG {i a k i' j':Int} {zs:List (Int×Int)}:∀ {ys:List (Int×Int)},cf (bU i a ys zs) (k,i',j')=if i=i' then a*S1 ys j'*S1 zs k else 0
 | [] => by simp [bU,e7,S1]
 | y::ys=>by
   rw [show bU i a (y::ys) zs=bF i a y.1 y.2 zs++bU i a ys zs from by simp [bU],cE,oG,oF,de]
   by_cases h:i=i'
   ·subst h
    by_cases j:y.1=j'
    ·subst j;simp [Int.mul_add,Int.add_mul]
    ·rw [if_neg (fun e=>j e.2),if_pos rfl,if_pos rfl,if_neg j];simp
   ·rw [if_neg (fun e=>h e.1),if_neg h,if_neg h];rfl
theorem oH {k i' j':Int} {ys zs:List (Int×Int)}:∀ {xs:List (Int×Int)},cf (cq xs ys zs) (k,i',j')=S1 xs i'*S1 ys j'*S1 zs k
 | [] => by simp [cq,e7,S1]
 | x::xs=>by
   rw [show cq (x::xs) ys zs=bU x.1 x.2 ys zs++cq xs ys zs from by simp [cq],cE,oH,oG,de]
   by_cases h:x.1=i'
   ·subst h;simp [Int.add_mul]
   ·rw [if_neg h,if_neg h];simp
noncomputable def gz (l:List Int) (i:Int):Int:=if i < 0 then 0 else l.getD i.toNat 0
theorem tf {l:List Int} {i:Int} (h:i < 0):gz l i=0:=if_pos h
theorem iS {i:Int}:gz [] i=0:=by unfold gz;split <;> simp
theorem cg {x:Int} {l:List Int} {i:Int}:gz (x::l) i=if i=0 then x else gz l (i - 1):=by
 unfold gz
 by_cases h:i < 0
 ·rw [if_pos h,if_neg (by lia),if_pos (by lia)]
 ·rw [if_neg h]
  by_cases h0:i=0
  ·subst h0;simp
  ·rw [if_neg h0,if_neg (by lia)]
   obtain ⟨n,rfl⟩:∃ n:Nat,i=((n+1:Nat):Int):=⟨(i - 1).toNat,by lia⟩
   rw [show (((n+1:Nat):Int) - 1).toNat=n by lia,Dq]
   simp
theorem tj {a b:List Int}:∀ {i:Int},gz (a++b) i=if i < a.length then gz a i else gz b (i - a.length):=by
 induction a with
 | nil =>
   intro i
   by_cases h:i < 0
   ·rw [if_pos (by simpa using h),Hz,tf h,tf h]
   ·rw [if_neg (by simpa using h)];simp
 | cons x a ih =>
   intro i;rw [JP,cg,cg,ih,D4]
   by_cases h0:i=0
   ·subst h0;rw [if_pos rfl,if_pos rfl,if_pos (by lia)]
   ·rw [if_neg h0,if_neg h0]
    by_cases h:i < ((a.length+1:Nat):Int)
    ·rw [if_pos (by lia),if_pos h]
    ·rw [if_neg (by lia),if_neg h]
     congr 1;lia
theorem An {l:List Int} {i:Int} (h:gz l i≠0) : 0<=i/\i < l.length:=by
 unfold gz at h
 by_cases hi:i < 0
 ·rw [if_pos hi] at h;exact absurd rfl h
 ·rw [if_neg hi] at h;refine ⟨by lia, ?_⟩
  by_cases hl:i.toNat < l.length
  ·lia
  ·rw [F4,List.getElem?_eq_none (by lia)] at h;exact absurd rfl h
theorem tq {a b:List (Int×Int)} {k:Int}:S1 (a++b) k=S1 a k+S1 b k:=by simp [S1]
theorem iT {k:Int}:∀ zs:List (Int×Int),S1 (zs.filter fun q => !(q.2==0)) k=S1 zs k
 | [] => rfl
 | z::zs=>by
   rw [de]
   by_cases h:z.2=0
   ·rw [D9 (by simp [h]),iT zs,h];simp
   ·rw [Dc (by simp [h]),de,iT zs]
theorem mH (l:List Int) (k:Int):S1 (idx l) k=gz l k:=eS (P:=fun l=>S1 (idx l) k=gz l k) (by rw [iS];rfl) (fun l x ih=>by
 have e:idx (l++[x])=idx l++[(((l.length:Nat):Int),x)]:=by simp [idx,List.mapIdx_append]
 rw [e,tq,ih,tj,de];simp only [S1,Gg,List.sum_nil]
 by_cases h:k < l.length
 ·rw [if_pos h,if_neg (by lia)];lia
 ·rw [if_neg h,cg,iS];have z:gz l k=0:=by
   cases Decidable.em (gz l k=0) with
   | inl h=>exact h
   | inr h'=>exact absurd (An h').2 h
  rw [z]
  by_cases e:(l.length:Int)=k
  ·rw [if_pos e,if_pos (by lia)];lia
  ·rw [if_neg e,if_neg (by lia)];rfl) l
theorem yp {p:Pr} {k i j:Int}:cf (dN p) (k,i,j)=gz p.1 i*gz p.2.1 j*gz p.2.2 k:=by
 unfold dN;rw [oH];unfold nz;rw [iT,iT,iT,mH,mH,mH]
noncomputable def Tn (ps:List Pr) (k i j:Int):Int:=(ps.map fun p=>gz p.1 i*gz p.2.1 j*gz p.2.2 k).sum
theorem oI {ps:List Pr} {k i j:Int}:cf (aP ps) (k,i,j)=Tn ps k i j:=by
 unfold aP Tn;rw [oE];congr 1;exact Er fun p _=>yp
theorem yq {p:Pr} {a:List Pr} {k i j:Int}:Tn (p::a) k i j=gz p.1 i*gz p.2.1 j*gz p.2.2 k+Tn a k i j:=by simp [Tn]
theorem ww {l:List Tm} (g:(l.map (·.1)).Nodup):l.Nodup:=by
 rw [List.nodup_iff_pairwise_ne] at g ⊢;rw [List.pairwise_map] at g;exact g.imp fun {a b} hab e=>hab (by rw [e])
theorem tu {a:List Tm} (j:(a.map (·.1)).Nodup) {k:K3} (h:cf a k≠0):(k,cf a k)∈a:=by
 by_cases e:∃ r∈a,r.1=k
 ·obtain ⟨r,hr,rfl⟩:=e;rw [mv j hr];exact hr
 ·exact absurd (oB fun r hr z=>e ⟨r,hr,z⟩) h
theorem yr {a b:List Tm} (j:(a.map (·.1)).Nodup) (q:(b.map (·.1)).Nodup) (za:∀ t∈a,t.2≠0) (zb:∀ t∈b,t.2≠0) (h:∀ k,cf a k=cf b k):a.Perm b:=by
 refine (List.perm_ext_iff_of_nodup (ww j) (ww q)).mpr fun t=>⟨fun ht => ?_,fun ht => ?_⟩
 ·have e:=mv j ht;have:=tu q (k:=t.1) (by rw [<- h,e];exact za t ht)
  rwa [<- h,e] at this
 ·have e:=mv q ht;have:=tu j (k:=t.1) (by rw [h,e];exact zb t ht)
  rwa [h,e] at this
theorem vH {a b:List Tm} (q:(b.map (·.1)).Nodup) (h:a.Perm b):eqD (a.map kcD) (b.map kcD)=true:=by
 unfold eqD;rw [gV];refine ⟨by simp [h.length_eq], ?_⟩
 rw [Ez];intro kv j;obtain ⟨t,ht,rfl⟩:=Ej.mp j;exact decide_eq_true (gX q (h.mem_iff.mp ht))
end
section
open PySem PySem.Spec PyProof.Rows L2.Srt
noncomputable def ngl (l:List Int):List Int:=l.map fun x => -x
noncomputable def adl (a b:List Int):List Int:=F9 (· + ·) a b
def Lns (L0 L1 L2:Nat) (ps:List Pr):Prop := ∀ p∈ps,p.1.length=L0/\p.2.1.length=L1/\p.2.2.length=L2
theorem cw {a b:List Int} {L:Nat} (j:a.length=L) (q:b.length=L):(adl a b).length=L:=by simp [adl,j,q]
theorem iU:∀ {l:List Int} {i:Int},gz (ngl l) i = -gz l i
 | [],i=>by rw [show ngl []=[] from rfl,iS];rfl
 | x::l,i=>by
   show gz (-x::ngl l) i=_;rw [cg,cg]
   split
   ·rfl
   ·exact iU
theorem dz:∀ {a b:List Int} {i:Int},a.length=b.length->gz (adl a b) i=gz a i+gz b i
 | [],[],i,_=>by rw [show adl [] []=[] from rfl,iS];rfl
 | x::a,y::b,i,h=>by
   show gz ((x+y)::adl a b) i=_;rw [cg,cg,cg]
   split
   ·rfl
   ·exact dz (by simpa using h)
 | [],_::_,_,h=>by simp at h
 | _::_,[],_,h=>by simp at h
def Bdd (B:Nat) (l:List Int):Prop := ∀ x∈l,x.natAbs<=B
def BdP (B:Nat) (p:Pr):Prop:=Bdd B p.1/\Bdd B p.2.1/\Bdd B p.2.2
theorem Bdd.le {B C:Nat} (h:B<=C) {l:List Int} (b:Bdd B l):Bdd C l:=fun x hx=>Dt (b x hx) h
theorem cy {B:Nat}:∀ {a b:List Int},Bdd B a->Bdd B b->Bdd (2*B) (adl a b)
 | [],_,_,_=>fun x h=>by simp [adl] at h
 | _::_,[],_,_=>fun x h=>by simp [adl] at h
 | x::a,y::b,F,G=>fun z j=>by
   rcases CC.mp (show z∈(x+y)::adl a b from j) with rfl | j
   ·have:=F x (by simp);have:=G y (by simp);lia
   ·exact cy (fun u q=>F u (by simp [q])) (fun u q=>G u (by simp [q])) z j
theorem gq {B:Nat} {l:List Int} (h:Bdd B l):Bdd B (ngl l):=fun x hx=>by
 obtain ⟨y,j,rfl⟩:=Ej.mp hx;have:=h y j;lia
end
section
open PySem PySem.Spec PyProof.Rows L2.Srt
variable {T:List FD}
noncomputable def cF (s:Stmt):FD:=⟨"negated",s,["part"],1,
 (.cons (.ret (.blt .tuple (.cons (.comp [none] ["x"] (.last (.seq (.var 0)) (.name 0) .nil (.neg (.var 0)))) .nil)))
 .nil)⟩
theorem gZ {l:List Int} (F:l.length<=100000) {M:Mem} {N:NC} {chk:Mem->Prop} (z:chk M) {o0:Option D} (q:∀ ρ,N ρ M ((ngl l).map .int)) :
 ba (bC 0) (ck (wUn j9 (cr 0))) chk N (l.map .int) [o0] M []:=by
 refine bM (f:=D.int) (ys:=l) (I:=fun s ρ M' acc=>(∃ o0, ρ = [o0])/\M'=M/\acc=(ngl s).map .int) rfl ⟨⟨_,rfl⟩,rfl,rfl⟩ (fun _ _ _ _ h=>by rw [h.2.1];exact z) ?_ ?_
 ·rintro l' x r ρ M1 acc e ⟨⟨o0,rfl⟩,rfl,rfl⟩;refine ⟨_,rfl,fun N' j => ?_⟩;have B:=aG e;walk_at "wp";refine ⟨by simp [ngl,hB];lia,j _ _ _ ⟨⟨_,rfl⟩,rfl, ?_⟩⟩
  simp [ngl]
 ·rintro ρ M1 acc ⟨⟨o0,rfl⟩,rfl,rfl⟩;exact q _
theorem eV {f:Nat} {s:Stmt} (hf:T[f]? = some (cF s)) {k:Nat} (B : 1<=k) {l:List Int} (j:l.length<=100000) {M:Mem} {Q:QD} (q:∀ M',Ge M M'->Q (.tup ((ngl l).map .int)) M'):phi T k f [.tup (l.map .int)] M Q:=by
 refine ar (by lia) hf rfl (ρ := [some _]) rfl ?_
 unfold cF;walk_at "st";refine gZ j (by first | rfl | trivial) fun ρ p z => ?_
 exact ⟨_,_,rfl,ag ad,q _ (Ge.new z)⟩
noncomputable def e8 (s:Stmt):FD:=⟨"added",s,["one", "other"],2,
 (.cons (.ret (.blt .tuple (.cons (.comp [none,none] ["x", "y"] (.last (.zip (.var 0) (.var 1)) (.tup (.cons (.name 0) (.cons (.name 1) .nil))) .nil (.bin .add (.var 0) (.var 1)))) .nil)))
 .nil)⟩
theorem cz {f:Nat} {s:Stmt} (hf:T[f]? = some (e8 s)) {k:Nat} (F : 1<=k) {a b:List Int} (G:a.length<=100000) {M:Mem} {Q:QD} (q:∀ M',Ge M M'->Q (.tup ((adl a b).map .int)) M'):phi T k f [.tup (a.map .int), .tup (b.map .int)] M Q:=by
 refine ar (by lia) hf rfl (ρ := [some _,some _]) rfl ?_
 unfold e8;walk_at "st";rw [vA];have J:(a.zip b).length<=a.length:=by simp;lia
 refine bM (f:=fun xy:Int×Int=>D.tup [.int xy.1, .int xy.2]) (ys:=a.zip b) (I:=fun s ρ M' acc=>(∃ o0 j, ρ = [o0,j])/\M'=M/\acc=(s.map fun xy=>xy.1+xy.2).map .int) rfl ⟨⟨_,_,rfl⟩,rfl,rfl⟩ (fun _ _ _ _ _=>trivial) ?_ ?_
 ·rintro l' x r ρ M1 acc e ⟨⟨o0,j,rfl⟩,rfl,rfl⟩;refine ⟨_,rfl,fun N' z => ?_⟩;have B:=aG e;walk_at "wp";refine ⟨by simp [hB];lia,z _ _ _ ⟨⟨_,_,rfl⟩,rfl, ?_⟩⟩
  simp
 ·rintro ρ M1 acc ⟨⟨o0,j,rfl⟩,rfl,rfl⟩ p hp;refine ⟨_,_,rfl,ag ad, ?_⟩;have e:(a.zip b).map (fun xy=>xy.1+xy.2)=adl a b:=by unfold adl;rw [nF]
  rw [e];exact q _ (Ge.new hp)
def qz (B:Nat) (p:Pr):Prop:=p.1.length<=B/\p.2.1.length<=B/\p.2.2.length<=B
theorem jh {a b:List Int} {M:Mem} {Q:QD} (q:Q (.bl (decide (a=b))) M):wEq (.tup (a.map .int)) (.tup (b.map .int)) M Q:=by
 refine ⟨.tuple (a.map .int), .tuple (b.map .int),by simp [rb,gj],by simp [rb,gj], ?_⟩
 rw [EI,L2.eqv_ints];exact q
end
section
open PySem PySem.Spec PyProof.Rows L2.Srt
variable {T:List FD}
noncomputable instance memNK (k:NK) (l:List NK):Decidable (k∈l):=decidable_of_iff (∃ x∈l,x=k) ⟨fun ⟨_,h,e⟩=>e ▸ h,fun h=>⟨k,h,rfl⟩⟩
end
section
open PySem PySem.Spec PyProof.Rows L2.Srt
variable {T:List FD}
structure Tdy (L0 L1 L2:Nat) (ps:List Pr):Prop where
 l:Lns L0 L1 L2 ps
 h0 : 1<=L0/\L0<=1000
 h1 : 1<=L1/\L1<=1000
 h2 : 1<=L2/\L2<=1000
 n:ps.length<=10000
theorem Tdy.lp {j q L2:Nat} {ps:List Pr} (h:Tdy j q L2 ps):∀ p∈ps,qz 100000 p:=fun p z=>by
 obtain ⟨B,l1,l2⟩:=h.l p z;have a:=h.h0;have b:=h.h1;have c:=h.h2;exact ⟨by lia,by lia,by lia⟩
end
section
open PySem PySem.Spec PyProof.Rows L2.Srt
variable {T:List FD}
noncomputable def h9 (nm xp xn:Str) (s:Stmt):FD:=⟨nm,s,[xp],1,
 (.cons (.ret (.blt .tuple (.cons (.comp [none] [xn] (.last (.seq (.var 0)) (.name 0) .nil (.neg (.var 0)))) .nil)))
 .nil)⟩
theorem tw {f:Nat} {nm xp xn:Str} {s:Stmt} (hf:T[f]? = some (h9 nm xp xn s)) {k:Nat} (B : 1<=k) {l:List Int} (j:l.length<=100000) {M:Mem} {Q:QD} (q:∀ M',Ge M M'->Q (.tup ((ngl l).map .int)) M'):phi T k f [.tup (l.map .int)] M Q:=by
 refine ar (by lia) hf rfl (ρ := [some _]) rfl ?_
 unfold h9;walk_at "st";refine gZ j (by first | rfl | trivial) fun ρ p z => ?_
 exact ⟨_,_,rfl,ag ad,q _ (Ge.new z)⟩
noncomputable def prt (p:Pr):Nat->List Int | 0=>p.1 | 1=>p.2.1 | _=>p.2.2
noncomputable def pst (p:Pr) (m:List Int):Nat->Pr | 0=>(m,p.2.1,p.2.2) | 1=>(p.1,m,p.2.2) | _=>(p.1,p.2.1,m)
theorem bW {p:Pr} {i:Nat} (h:i < 3):(prL p)[i]? = some (.tup ((prt p i).map .int)):=by
 match i,h with
 | 0,_=>rfl
 | 1,_=>rfl
 | 2,_=>rfl
theorem oJ {p:Pr} {i:Nat} (h:i < 3) {m:List Int}:(prL p).set i (.tup (m.map .int))=prL (pst p m i):=by
 match i,h with
 | 0,_=>rfl
 | 1,_=>rfl
 | 2,_=>rfl
theorem ji {p:Pr} {B:Nat} (h:qz B p) {i:Nat}:(prt p i).length<=B:=by
 match i with
 | 0=>exact h.1
 | 1=>exact h.2.1
 | _+2=>exact h.2.2
def mJ (T:List FD) (n f:Nat):Prop := ∀ {l:List Int} {M:Mem} {Q:QD},l.length<=100000->(∀ M',Ge M M'->Q (.tup ((ngl l).map .int)) M')->phi T n f [.tup (l.map .int)] M Q
noncomputable def hJ (s:Stmt):FD:=⟨"_law_added",s,["_law_one", "_law_other"],2,
 (.cons (.ret (.blt .tuple (.cons (.comp [none,(some 0),(some 1)] ["_law_at", "_law_one", "_law_other"] (.last (.rng1 (.blt .len (.cons (.var 0) .nil))) (.name 0) .nil (.bin .add (.ix (.var 1) (.var 0)) (.ix (.var 2) (.var 0))))) .nil)))
 .nil)⟩
theorem tz {f:Nat} {s:Stmt} (hf:T[f]? = some (hJ s)) {k:Nat} (F : 1<=k) {a b:List Int} (G:a.length<=100000) (z:a.length=b.length) {M:Mem} {Q:QD} (q:∀ M',Ge M M'->Q (.tup ((adl a b).map .int)) M'):phi T k f [.tup (a.map .int), .tup (b.map .int)] M Q:=by
 refine ar (by lia) hf rfl (ρ := [some _,some _]) rfl ?_
 unfold hJ;walk_at "st";rw [v5];refine ⟨by lia,by lia, ?_⟩
 rw [Dq,bE];refine bM (f:=fun i:Nat=>D.int (i:Nat)) (ys:=CP a.length) (I:=fun l ρ M' acc=>(∃ o0, ρ = [o0,some (.tup (a.map .int)),some (.tup (b.map .int))])/\M'=M/\acc=((adl a b).take l.length).map .int) rfl ⟨⟨_,rfl⟩,rfl,rfl⟩ (fun _ _ _ _ _=>trivial) ?_ ?_
 ·rintro l i r ρ M1 acc e ⟨⟨o0,rfl⟩,rfl,rfl⟩;refine ⟨_,rfl,fun N' B => ?_⟩;have j:=aG e;rw [E2] at j;have hi:i=l.length:=by
   have:=jL e;rw [Gb j] at this;exact (DE.inj this).symm
  subst hi;have h1:(a.map D.int)[l.length]? = some (.int (a[l.length]'j)):=by rw [CK,h6 j];rfl
  have h2:(b.map D.int)[l.length]? = some (.int (b[l.length]'(by lia))):=by rw [CK,h6 (by lia)];rfl
  walk_at "wp";refine ⟨_,ao h1,_,ao h2, ?_⟩;walk_at "wp";refine ⟨by simp [hB];lia,B _ _ _ ⟨⟨_,rfl⟩,rfl, ?_⟩⟩
  rw [z4,HH,List.take_succ,G9];congr 1;have:(adl a b)[l.length]? = some (a[l.length]'j+b[l.length]'(by lia)):=by
   unfold adl;rw [HI,h6 j,h6 (by lia)]
  rw [this];rfl
 ·rintro ρ M1 acc ⟨⟨o0,rfl⟩,rfl,rfl⟩ p hp;refine ⟨_,_,rfl,ag ad, ?_⟩;rw [E2,List.take_of_length_le (by rw [cw rfl z.symm];exact q0 _)]
  exact q _ (Ge.new hp)
end
section
open PySem PySem.Spec PyProof.Rows L2.Srt
variable {T:List FD}
def mK (T:List FD) (n f:Nat):Prop := ∀ {a b:List Int} {M:Mem} {Q:QD},a.length<=100000->a.length=b.length->(∀ M',Ge M M'->Q (.tup ((adl a b).map .int)) M')->phi T n f [.tup (a.map .int), .tup (b.map .int)] M Q
theorem oK {M M':Mem} {c:Addr} (g:Ge M M') (h:M' c=none):M c=none:=by
 cases hz:M c with
 | none=>rfl
 | some o=>have:=g _ _ hz;rw [h] at this;cases this
theorem qA {B F L2:Nat} {p q:Pr} (j:p.1.length=B/\p.2.1.length=F/\p.2.2.length=L2) (z:q.1.length=B/\q.2.1.length=F/\q.2.2.length=L2) {i:Nat}:(prt p i).length=(prt q i).length:=by
 match i with
 | 0=>exact j.1.trans z.1.symm
 | 1=>exact j.2.1.trans z.2.1.symm
 | _+2=>exact j.2.2.trans z.2.2.symm
theorem dO {n:Nat} {l r:List Nat} {i:Nat} (e:CP n=l++i::r):i=l.length/\i < n:=by
 have j:=aG e;rw [E2] at j;have:=jL e;rw [Gb j] at this;exact ⟨(DE.inj this).symm,by rw [<- DE.inj this];exact j⟩
end
section
open PySem PySem.Spec PyProof.Rows L2.Srt
variable {T:List FD}
noncomputable def mM (xn:Str) (s:Stmt) (ft:Nat):FD:=⟨"_law_pool",s,["_law_box_here", "_law_length", "_law_found"],2,
 (.cons (.asg (.name 2) (.comp [none,(some 1),(some 0)] ["_law_turn", "_law_length", "_law_box_here"] (.last (.rng1 (.bin .add (.int 1) (.call ft (.cons (.var 0) (.cons (.int 3) .nil))))) (.name 0) .nil (.blt .tuple (.cons (.comp [none,(some 2)] ["_law_k", "_law_box_here"] (.last (.rng1 (.var 1)) (.name 0) .nil (.ix (.lst (.cons (.int 0) (.cons (.int 1) (.cons (.neg (.int 1)) (.cons (.int 2) .nil))))) (.call ft (.cons (.var 1) (.cons (.int 4) .nil)))))) .nil)))))
 (.cons (.ite (.cmp .eq (.call ft (.cons (.var 0) (.cons (.int 2) .nil))) (.int 0)) (.cons (.drop (.meth .append (.var 2) (.blt .tuple (.cons (.comp [none] [xn] (.last (.seq (.ix (.var 2) (.int 0))) (.name 0) .nil (.neg (.var 0)))) .nil))))
 .nil) .nil)
 (.cons (.ite (.cmp .eq (.call ft (.cons (.var 0) (.cons (.int 6) .nil))) (.int 0)) (.cons (.drop (.meth .append (.var 2) (.bin .mul (.tup (.cons (.int 0) .nil)) (.var 1))))
 .nil) .nil)
 (.cons (.ret (.var 2))
 .nil))))⟩
noncomputable def tpD (l:List Int):D := .tup (l.map .int)
structure jj (L:Nat) (ls:List (List Int)):Prop where
 ne:ls≠[]
 n:ls.length<=5
 l:∀ l∈ls,l.length=L/\Bdd 2 l
theorem vI {ft n:Nat} (z:du T n ft) {b:Addr} {L:Nat} (hL:L<=1000) {M:Mem} (Z:Box b M) {N:NC} {o0:Option D} (q:∀ (l:List Int) ρ M',l.length=L->Bdd 2 l->Bx b M M'->N ρ M' (l.map .int)) :
 ba (bC 0) (ck (wOp wIx (wAr j6 (aH (wC (.int 0)) (aH (wC (.int 1)) (aH (wUn j9 (wC (.int 1))) (aH (wC (.int 2)) bw))))) (wAr (phi T n ft) (aH (cr 1) (aH (wC (.int 4)) bw))))) (fun _=>True) N (bj 0 L) [o0,some (.ref b)] M []:=by
 refine fP (I:=fun l ρ M' acc => ∃ ns:List Int,(∃ o0, ρ = [o0,some (.ref b)])/\acc=ns.map .int/\ns.length=l.length/\Bdd 2 ns/\Bx b M M') ⟨[],⟨_,rfl⟩,rfl,rfl,fun x h=>(by cases h),Bx.refl Z⟩ (fun _ _ _ _ _=>trivial) ?_ ?_
 ·rintro l x r ρ M1 acc e ⟨ns,⟨o0,rfl⟩,rfl,j,hs,x1⟩;have B:=aG e;rw [bf] at B;refine ⟨_,rfl,fun N' F => ?_⟩;walk_at "wp";refine ⟨by rw [hB];lia,fun p O => ?_⟩
  have G:=b8 x1.box O;have U:=x1.ge (Ge.new (o := .lst [.int 0, .int 1, .int (-1), .int 2]) O);refine z U.box (by decide) (by decide) fun i M2 i0 i1 Y => ?_
  have hm:M2 p=some (.lst [.int 0, .int 1, .int (-1), .int 2]):=Y.keep _ _ G ad;obtain ⟨v,hv,J⟩:∃ v:Int,atI [D.int 0, .int 1, .int (-1), .int 2] i=some (.int v)/\v.natAbs<=2:=by
   have:i=0∨i=1∨i=2∨i=3:=by lia
   rcases this with rfl | rfl | rfl | rfl
   ·exact ⟨0,rfl,by decide⟩
   ·exact ⟨1,rfl,by decide⟩
   ·exact ⟨-1,rfl,by decide⟩
   ·exact ⟨2,rfl,by decide⟩
  refine au hm hv ?_;refine ⟨by rw [v5,hB];lia,F _ _ _ ⟨ns++[v],⟨_,rfl⟩,by simp,by simp [j],fun y hy => ?_,U.trans Y⟩⟩
  rcases Ds.mp hy with h | h
  ·exact hs y h
  ·simp at h;subst h;exact J
 ·rintro ρ M1 acc ⟨ns,⟨o0,rfl⟩,rfl,j,hs,x1⟩;rw [bf] at j;exact q ns _ _ j hs x1
theorem yt {f ft:Nat} {xn:Str} {s:Stmt} (hf:T[f]? = some (mM xn s ft)) {n:Nat} (G:du T (n - 1) ft) (hn : 1<=n) {b:Addr} {L:Nat} (hL : 1<=L/\L<=1000) {M:Mem} {Q:QD} (hb:Box b M)
 (q:∀ ls p M',jj L ls->Bx b M M'->M p=none->M' p=some (.lst (ls.map tpD))->Q (.ref p) M'):phi T n f [.ref b, .int L] M Q:=by
 refine ar hn hf rfl (ρ := [some _,some _,none]) rfl ?_;unfold mM;walk_at "st";refine G hb (by decide) (by decide) fun c M0 c0 c1 x0 => ?_
 walk_at "wp";refine ⟨by lia,by lia, ?_⟩
 refine fP (I:=fun l ρ M' acc => ∃ ls:List (List Int),(∃ o0, ρ = [o0,some (.int L),some (.ref b)])/\acc=ls.map tpD/\ls.length=l.length/\(∀ l∈ls,l.length=L/\Bdd 2 l)/\Bx b M M') ⟨[],⟨_,rfl⟩,rfl,rfl,fun x h=>(by cases h),x0⟩ (fun _ _ _ _ _=>trivial) ?_ ?_
 ·rintro l x r ρ M1 acc e ⟨ls,⟨o0,rfl⟩,rfl,B,hs,x1⟩;have BN:=aG e;rw [bf] at BN;refine ⟨_,rfl,fun N' BO => ?_⟩;walk_at "wp";refine ⟨by lia,by lia, ?_⟩
  rw [Dq];refine vI G hL.2 x1.box fun v ρ M2 v1 v2 Y p Z => ?_;refine ⟨_,_,rfl,ag ad, ?_⟩;refine ⟨by rw [v5,hB];lia,BO _ _ _ ⟨ls++[v],⟨_,rfl⟩,by simp [tpD],by simp [B],fun y hy => ?_,x1.trans (Y.ge (Ge.new Z))⟩⟩
  rcases Ds.mp hy with h | h
  ·exact hs y h
  ·simp at h;subst h;exact ⟨v1,v2⟩
 rintro ρ M1 acc ⟨ls,⟨o0,rfl⟩,rfl,B,hs,x1⟩ pl hpl;rw [bf] at B;have j:=b8 x1.box hpl;have J:=x1.none hpl j;have Y:=x1.ge (Ge.new (o := .lst (ls.map tpD)) hpl);have m2:af M1 pl (.lst (ls.map tpD)) pl=some (.lst (ls.map tpD)):=ad;have F:jj L ls:=⟨fun z=>by rw [z] at B;simp at B;lia,by lia,hs⟩
 have O:ls.length<=3:=by lia
 generalize af M1 pl (.lst (ls.map tpD))=M2 at Y m2;clear hpl x1 hs B;refine m9 (I:=fun ρ M' => ∃ ls,jj L ls/\ls.length<=4/\Bx b M M'/\M' pl=some (.lst (ls.map tpD)) /\ ρ = [some (.ref b),some (.int L),some (.ref pl)]) (fun R hR => ?_) ?_
 ·walk_at "wp";refine G Y.box (by decide) (by decide) fun i M3 i0 i1 x3 => ?_
  walk_at "wp";have m3:=x3.keep _ _ j m2;have U:=Y.trans x3
  split
  ·walk_at "st";obtain ⟨l0,lr,rfl⟩:∃ l0 lr,ls=l0::lr:=by cases ls with | nil=>exact absurd rfl F.ne | cons a b=>exact ⟨a,b,rfl⟩
   obtain ⟨h1,h2⟩:=F.l l0 (by simp)
   refine ⟨⟨_,m3⟩, ?_⟩;refine au m3 (d:=tpD l0) (ao (k := 0) rfl) ?_;refine ⟨_,rfl, ?_⟩;refine gZ (by lia) (by first | rfl | trivial) fun ρ p Z => ?_
   refine ⟨_,_,rfl,ag ad, ?_⟩;have BP:pl≠p:=fun z=>by rw [<- z,m3] at Z;cases Z
   refine ⟨pl,_,_,rfl,rfl,Ge.new Z _ _ m3,by rw [v5,hB];lia, ?_⟩
   refine hR _ _ ⟨(l0::lr)++[ngl l0],⟨by simp,by simp at O ⊢;lia,fun l B => ?_⟩,by simp at O ⊢;lia, ?_, ?_,rfl⟩
   ·rcases Ds.mp B with h | h
    ·exact F.l l h
    ·simp at h;subst h;exact ⟨by simp [ngl,h1],gq h2⟩
   ·exact (U.ge (Ge.new Z)).upd J j
   ·rw [ad];simp [tpD]
  ·exact hR _ _ ⟨ls,F,by lia,U,m3,rfl⟩
 clear Y m2 F O;rintro ρ M3 ⟨ls,F,BQ,x3,m3,rfl⟩;refine m9 (I:=fun ρ M' => ∃ ls,jj L ls/\Bx b M M'/\M' pl=some (.lst (ls.map tpD)) /\ ρ = [some (.ref b),some (.int L),some (.ref pl)]) (fun R hR => ?_) ?_
 ·walk_at "wp";refine G x3.box (by decide) (by decide) fun i M4 i0 i1 U => ?_
  walk_at "wp";have m4:=U.keep _ _ j m3;have x5:=x3.trans U
  split
  ·walk_at "st";refine ⟨⟨_,m4⟩,by rw [hB];lia,by lia,by lia,by rw [hB];simp;lia, ?_⟩
   rw [Dq,BK];refine ⟨pl,_,_,rfl,rfl,m4,by rw [v5,hB];lia, ?_⟩
   refine hR _ _ ⟨ls++[CD L 0],⟨by simp,by simp;lia,fun l B => ?_⟩,x5.upd J j, ?_,rfl⟩
   ·rcases Ds.mp B with h | h
    ·exact F.l l h
    ·simp at h;subst h;exact ⟨by simp,fun y hy=>by rw [(List.mem_replicate.mp hy).2];decide⟩
   ·rw [ad];simp [tpD]
  ·exact hR _ _ ⟨ls,F,x5,m4,rfl⟩
 rintro ρ M4 ⟨ls,F,U,m4,rfl⟩;walk_at "st";exact q ls pl M4 F U J m4
end
section
open PySem PySem.Spec PyProof.Rows L2.Srt
variable {T:List FD}
noncomputable def mQ (s:Stmt) (ft fp:Nat):FD:=⟨"_law_near_scheme",s,["_law_box_here", "_law_most", "_law_lengths", "_law_pools", "_law_products", "_law_turn"],2,
 (.cons (.asg (.name 2) (.comp [none,(some 0)] ["_law_side", "_law_box_here"] (.last (.rng1 (.int 3)) (.name 0) .nil (.bin .add (.int 1) (.call ft (.cons (.var 1) (.cons (.ix (.lst (.cons (.int 4) (.cons (.int 12) .nil))) (.blt .int (.cons (.cmp .eq (.call ft (.cons (.var 1) (.cons (.int 8) .nil))) (.int 0)) .nil))) .nil)))))))
 (.cons (.asg (.name 3) (.comp [none,(some 0)] ["_law_length", "_law_box_here"] (.last (.seq (.var 2)) (.name 0) .nil (.call fp (.cons (.var 1) (.cons (.var 0) .nil))))))
 (.cons (.asg (.name 4) (.lst .nil))
 (.cons (.for (.name 5) (.rng1 (.call ft (.cons (.var 0) (.cons (.bin .add (.var 1) (.int 1)) .nil)))) (.cons (.drop (.meth .append (.var 4) (.blt .tuple (.cons (.comp [none,(some 0)] ["_law_pool_here", "_law_box_here"] (.last (.seq (.var 3)) (.name 0) .nil (.ix (.var 0) (.call ft (.cons (.var 1) (.cons (.blt .len (.cons (.var 0) .nil)) .nil)))))) .nil))))
 .nil))
 (.cons (.ret (.bin .add (.blt .tuple (.cons (.var 2) .nil)) (.tup (.cons (.var 4) .nil))))
 .nil)))))⟩
def tD (T:List FD) (n f:Nat):Prop := ∀ {b:Addr} {L:Nat} {M:Mem} {Q:QD},(1<=L/\L<=1000)->Box b M->(∀ ls p M',jj L ls->Bx b M M'->M p=none->M' p=some (.lst (ls.map tpD))->Q (.ref p) M')->phi T n f [.ref b, .int L] M Q
structure BL (L0 L1 L2:Nat) (ps:List Pr):Prop where
 h0 : 1<=L0/\L0<=12
 h1 : 1<=L1/\L1<=12
 h2 : 1<=L2/\L2<=12
 l:Lns L0 L1 L2 ps
 b:∀ p∈ps,BdP 1000 p
theorem hV {ft n:Nat} (j:du T n ft) {b:Addr} {M:Mem} (G:Box b M) {Q:QD} (q:∀ (i:Int) M',(i=4∨i=12)->Bx b M M'->phi T n ft [.ref b, .int i] M' Q) : 1+1<=hP /\ ∀ p,M p=none->phi T n ft [.ref b, .int 8] (af M p (.lst [.int 4, .int 12])) fun x M1=>wEq x (.int 0) M1 fun x M1=>jb [x] M1 fun y M2=>wIx (.ref p) y M2 fun x M1=>phi T n ft [.ref b,x] M1 Q:=by
 refine ⟨by rw [hB];lia,fun p J => ?_⟩
 have z:=b8 G J;have B:=(Bx.refl G).ge (Ge.new (o := .lst [.int 4, .int 12]) J);refine j B.box (by decide) (by decide) fun i M2 i0 L F => ?_
 have hm:M2 p=some (.lst [.int 4, .int 12]):=F.keep _ _ z ad;rw [wm,sK]
 by_cases h:i=0
 ·rw [beq_iff_eq.mpr h];exact au hm (d := .int 12) rfl (q 12 _ (.inr rfl) (B.trans F))
 ·rw [beq_false_of_ne h];exact au hm (d := .int 4) rfl (q 4 _ (.inl rfl) (B.trans F))
theorem jk {ft n:Nat} (z:du T n ft) {b a:Addr} {L:Nat} {ls:List (List Int)} (B:jj L ls) {M:Mem} (U:Box b M) (F:a≠b) (G:M a=some (.lst (ls.map tpD))) {Q:QD} (q:∀ (l:List Int) M',l.length=L->Bdd 2 l->Bx b M M'->Q (tpD l) M') :
 dL [.ref a] M fun y M2=>phi T n ft [.ref b,y] M2 fun y M2=>wIx (.ref a) y M2 Q:=by
 refine ce G ?_;have Y:=B.n;have h1 : 0 < ls.length:=List.length_pos_iff.mpr B.ne;rw [v5];refine z U (by lia) (by lia) fun i M2 i0 Z J => ?_
 obtain ⟨j,rfl⟩:=Dd i0;have O:j < ls.length:=by lia
 refine au (J.keep _ _ F G) (d:=tpD (ls[j]'O)) (ao (by rw [CK,h6 O];rfl)) ?_
 obtain ⟨h1,h2⟩:=B.l _ (E7 O);exact q _ _ h1 h2 J
theorem yu {f ft fp:Nat} {s:Stmt} (hf:T[f]? = some (mQ s ft fp)) {n:Nat} (B:du T (n - 1) ft) (BW:tD T (n - 1) fp) (hn : 1<=n) {b:Addr} {most:Nat} (hm:most<=1000) {M:Mem} {Q:QD} (hb:Box b M)
 (q:∀ L0 L1 L2 ps pr M',BL L0 L1 L2 ps->ps.length<=most->Bx b M M'->M pr=none->pr≠b->M' pr=some (.lst (ps.map prD))->Q (.tup [.int (L0:Nat), .int (L1:Nat), .int (L2:Nat), .ref pr]) M'):phi T n f [.ref b, .int most] M Q:=by
 refine ar hn hf rfl (ρ := [some _,some _,none,none,none,none]) rfl ?_;unfold mQ;walk_at "st";refine ⟨by decide,by decide, ?_⟩
 have er:bj 0 (3:Int).toNat=[.int 0, .int 1, .int 2]:=rfl;rw [er];simp only [ba];refine ⟨trivial,_,rfl, ?_⟩;walk_at "wp";refine hV B hb fun m0 M0 Cp x0 => ?_;refine B x0.box (by lia) (by lia) fun i0 M1 Cq Cr x1 => ?_
 walk_at "wp";refine ⟨by rw [hB];simp, ?_⟩
 have y1:=x0.trans x1;refine hV B y1.box fun m1 M2 Ct x2 => ?_;refine B x2.box (by lia) (by lia) fun i1 M3 Cu Cv x3 => ?_
 walk_at "wp";refine ⟨by rw [hB];simp, ?_⟩
 have y3:=(y1.trans x2).trans x3;refine hV B y3.box fun m2 M4 Cw x4 => ?_;refine B x4.box (by lia) (by lia) fun i2 M5 Cy Cz x5 => ?_
 walk_at "wp";refine ⟨by rw [hB];simp,fun pL BX => ?_⟩
 have y5:=(y3.trans x4).trans x5;obtain ⟨L0,e0⟩:=Dd (show 0<=1+i0 by lia)
 obtain ⟨L1,e1⟩:=Dd (show 0<=1+i1 by lia)
 obtain ⟨L2,e2⟩:=Dd (show 0<=1+i2 by lia)
 have h0 : 1<=L0/\L0<=12:=by lia
 have h1 : 1<=L1/\L1<=12:=by lia
 have h2 : 1<=L2/\L2<=12:=by lia
 have Z:=b8 y5.box BX;have y6:=y5.ge (Ge.new (o := .lst ([]++[.int (1+i0)]++[.int (1+i1)]++[.int (1+i2)])) BX);have mL:af M5 pL (.lst ([]++[.int (1+i0)]++[.int (1+i1)]++[.int (1+i2)])) pL=some (.lst [.int (L0:Nat), .int (L1:Nat), .int (L2:Nat)]):=by rw [ad,e0,e1,e2];rfl
 generalize af M5 pL (.lst ([]++[.int (1+i0)]++[.int (1+i1)]++[.int (1+i2)]))=M6 at y6 mL;clear x0 x1 x2 x3 x4 x5 y1 y3 y5 BX e0 e1 e2;walk_at "st";refine ⟨_,ag mL, ?_⟩;simp only [ba];refine ⟨ag mL,_,rfl, ?_⟩;walk_at "wp";refine BW (by lia) y6.box fun Ck a0 M7 P0 x7 Ca Cb => ?_
 have BN:=b8 y6.box Ca;have y7:=y6.trans x7;have BY:=x7.keep _ _ Z mL;refine ⟨by rw [hB];simp,ag BY, ?_⟩
 refine BW (by lia) y7.box fun Cl a1 M8 P1 x8 Cd Ce => ?_
 have BO:=b8 y7.box Cd;have y8:=y7.trans x8;have BZ:=x8.keep _ _ Z BY;refine ⟨by rw [hB];simp,ag BZ, ?_⟩
 refine BW (by lia) y8.box fun Cm a2 M9 P2 x9 Cf Cg => ?_
 have BS:=b8 y8.box Cf;have y9:=y8.trans x9;have C0:=x9.keep _ _ Z BZ;refine ⟨by rw [hB];simp,ag C0,fun pP C1 => ?_⟩
 have BP:=b8 y9.box C1;have gP:=Ge.new (o := .lst ([]++[.ref a0]++[.ref a1]++[.ref a2])) C1;have BQ:=y9.ge gP;have mP:af M9 pP (.lst ([]++[.ref a0]++[.ref a1]++[.ref a2])) pP=some (.lst [.ref a0, .ref a1, .ref a2]):=by rw [ad];rfl
 have J:=gP _ _ C0;have L:=gP _ _ (x9.keep _ _ BN (x8.keep _ _ BN Cb));have U:=gP _ _ (x9.keep _ _ BO Ce);have Y:=gP _ _ Cg;generalize af M9 pP (.lst ([]++[.ref a0]++[.ref a1]++[.ref a2]))=Ch at BQ mP J L U Y;clear x7 x8 x9 y6 y7 y8 y9 mL BY BZ C0 Cb Ce Cg gP C1 Ca Cd Cf;walk_at "st";refine ⟨by rw [hB];lia,fun pr j => ?_⟩
 have BR:=b8 BQ.box j;have Ci:=BQ.none j BR;have gR:=Ge.new (o := .lst []) j;have C2:=BQ.ge gR;have mR:af Ch pr (.lst []) pr=some (.lst (([]:List Pr).map prD)):=ad;have nL:pL≠pr:=fun z=>by rw [<- z,J] at j;cases j
 have nP:pP≠pr:=fun z=>by rw [<- z,mP] at j;cases j
 have n0:a0≠pr:=fun z=>by rw [<- z,L] at j;cases j
 have n1:a1≠pr:=fun z=>by rw [<- z,U] at j;cases j
 have n2:a2≠pr:=fun z=>by rw [<- z,Y] at j;cases j
 have BU:=gR _ _ J;have BV:=gR _ _ mP;have L:=gR _ _ L;have U:=gR _ _ U;have Y:=gR _ _ Y;generalize af Ch pr (.lst [])=M11 at C2 mR BU BV L U Y;clear gR J mP BQ j;walk_at "st";refine B C2.box (by lia) (by lia) fun c CA c0 c1 G => ?_
 refine ⟨c,rfl,by lia,by lia, ?_⟩
 refine vw (I:=fun l ρ M' => ∃ (ps:List Pr) (o5:Option D), ρ = [some (.ref b),some (.int most),some (.ref pL),some (.ref pP),some (.ref pr),o5]/\ps.length=l.length/\Lns L0 L1 L2 ps/\(∀ p∈ps,BdP 1000 p)/\Bx b M M'/\M' pr=some (.lst (ps.map prD))/\M' pL=some (.lst [.int (L0:Nat), .int (L1:Nat), .int (L2:Nat)])/\M' pP=some (.lst [.ref a0, .ref a1, .ref a2])/\M' a0=some (.lst (Ck.map tpD))/\M' a1=some (.lst (Cl.map tpD))/\M' a2=some (.lst (Cm.map tpD)))
  ⟨[],none,rfl,rfl,fun p h=>(by cases h),fun p h=>(by cases h),C2.trans G,G.keep _ _ BR mR,G.keep _ _ Z BU,G.keep _ _ BP BV,G.keep _ _ BN L,G.keep _ _ BO U,G.keep _ _ BS Y⟩ (fun _ _ _ _=>trivial) ?_ ?_
 ·rintro l x r ρ N0 e ⟨ps,o5,rfl,hl,C3,C4,z0,nr,nl,np',C5,C6,C7⟩;have Cn:=aG e;rw [bf] at Cn;refine ⟨_,rfl,fun F hF => ?_⟩;walk_at "st";refine ⟨⟨_,nr⟩,_,ag np', ?_⟩;simp only [ba];refine ⟨ag np',_,rfl, ?_⟩;walk_at "wp";refine jk B P0 z0.box BN C5 fun l0 N1 v0 w0 z1 => ?_;refine ⟨by rw [hB];simp,ag (z1.keep _ _ BP np'), ?_⟩
  refine jk B P1 z1.box BO (z1.keep _ _ BO C6) fun l1 N2 v1 w1 z2 => ?_;have C8:=z1.trans z2;refine ⟨by rw [hB];simp,ag (C8.keep _ _ BP np'), ?_⟩
  refine jk B P2 z2.box BS (C8.keep _ _ BS C7) fun l2 N3 v2 w2 z3 => ?_;have C9:=C8.trans z3;refine ⟨by rw [hB];simp,ag (C9.keep _ _ BP np'),fun pt Co => ?_⟩
  refine ⟨_,_,rfl,ag ad, ?_⟩;have gt:=Ge.new (o := .lst ([]++[tpD l0]++[tpD l1]++[tpD l2])) Co;have Cj:=C9.ge gt;refine ⟨pr,_,_,rfl,rfl,gt _ _ (C9.keep _ _ BR nr),by rw [v5,hB];lia, ?_⟩
  have kp:∀ {c:Addr} {o o':O},c≠b->c≠pr->N0 c=some o->af (af N3 pt (.lst ([]++[tpD l0]++[tpD l1]++[tpD l2]))) pr o' c=some o:=fun h1 h2 h3=>by rw [aw h2];exact Cj.keep _ _ h1 h3
  refine hF _ _ ⟨ps++[(l0,l1,l2)],_,rfl,by simp [hl],fun p hp => ?_,fun p hp => ?_,(z0.trans Cj).upd Ci BR, ?_,kp Z nL nl,kp BP nP np',kp BN n0 C5,kp BO n1 C6,kp BS n2 C7⟩
  ·rcases Ds.mp hp with h | h
   ·exact C3 p h
   ·simp at h;subst h;exact ⟨v0,v1,v2⟩
  ·rcases Ds.mp hp with h | h
   ·exact C4 p h
   ·simp at h;subst h;exact ⟨w0.le (by decide),w1.le (by decide),w2.le (by decide)⟩
  ·rw [ad];simp [prD,tpD]
 ·rintro ρ N0 ⟨ps,o5,rfl,hl,C3,C4,z0,nr,nl,np',C5,C6,C7⟩;rw [bf] at hl;walk_at "st";refine ⟨_,_,rfl,ag nl, ?_⟩;refine ⟨by rw [hB];lia, .inr trivial,by rw [hB];simp, ?_⟩
  exact q L0 L1 L2 ps pr N0 ⟨h0,h1,h2,C3,C4⟩ (by lia) z0 Ci BR nr
end
section
open PySem PySem.Spec PyProof.Rows L2.Srt
variable {T:List FD}
noncomputable def prn (ps:List Pr) (r:Nat):Pr:=ps.getD r ([],[],[])
theorem bp {ps:List Pr} {r:Nat} {p:Pr} (h:ps[r]? = some p):prn ps r=p:=by simp [prn,h]
noncomputable def tl3 (ps:List Pr) (r s:Nat) (l:List Nat):List K3:=(l.filter fun t=>decide (r≠s)&&decide (prt (prn ps r) t=prt (prn ps s) t)).map fun t:Nat=>((r:Int),(s:Int),(t:Int))
noncomputable def tl2 (ps:List Pr) (r:Nat) (l:List Nat):List K3:=l.flatMap fun s=>tl3 ps r s (CP 3)
noncomputable def tl1 (ps:List Pr) (l:List Nat):List K3:=l.flatMap fun r=>tl2 ps r (CP ps.length)
noncomputable def flp (ps:List Pr):List K3:=tl1 ps (CP ps.length)
theorem yv {ps:List Pr} {r s:Nat} {l:List Nat} {x:K3}:x∈tl3 ps r s l ↔ ∃ t,t∈l/\x=((r:Int),(s:Int),(t:Int))/\r≠s/\prt (prn ps r) t=prt (prn ps s) t:=by
 unfold tl3;rw [Ej];constructor
 ·rintro ⟨t,h,rfl⟩;rw [Ef] at h;simp only [gV,decide_eq_true_eq] at h;exact ⟨t,h.1,rfl,h.2⟩
 ·rintro ⟨t,h1,rfl,h2,j⟩;exact ⟨t,Ef.mpr ⟨h1,by simp [h2,j]⟩,rfl⟩
theorem flp_mem {ps:List Pr} {x:K3}:x∈flp ps ↔ ∃ r s t:Nat,r < ps.length/\s < ps.length/\t < 3/\x=((r:Int),(s:Int),(t:Int))/\r≠s/\prt (prn ps r) t=prt (prn ps s) t:=by
 unfold flp tl1 tl2;simp only [List.mem_flatMap,Fz,yv];constructor
 ·rintro ⟨r,hr,s,hs,t,ht,h⟩;exact ⟨r,s,t,hr,hs,ht,h⟩
 ·rintro ⟨r,s,t,hr,hs,ht,h⟩;exact ⟨r,hr,s,hs,t,ht,h⟩
theorem oM {ps:List Pr}:(flp ps).length<=3*(ps.length*ps.length):=by
 have j:∀ r s,(tl3 ps r s (CP 3)).length<=3:=fun r s=>by unfold tl3;rw [v5];exact Dt (Ec _ _) (by simp)
 have h2:∀ r (l:List Nat),(tl2 ps r l).length<=3*l.length:=fun r l=>by
  unfold tl2
  induction l with
  | nil=>simp
  | cons x l ih=>rw [E1,z4,D4];have:=j r x;lia
 have h1:∀ l:List Nat,(tl1 ps l).length<=3*(l.length*ps.length):=fun l=>by
  unfold tl1
  induction l with
  | nil=>simp
  | cons x l ih=>rw [E1,z4,D4,F7];have:=h2 x (CP ps.length);rw [E2] at this;lia
 have:=h1 (CP ps.length);rw [E2] at this;exact this
end
section
open PySem PySem.Spec PyProof.Rows L2.Srt
variable {T:List FD}
noncomputable def hW (s:Stmt):FD:=⟨"_law_flips",s,["_law_scheme", "_law_found", "_law_r", "_law_s", "_law_side"],1,
 (.cons (.asg (.name 1) (.lst .nil))
 (.cons (.for (.name 2) (.rng1 (.blt .len (.cons (.ix (.var 0) (.int 3)) .nil))) (.cons (.for (.name 3) (.rng1 (.blt .len (.cons (.ix (.var 0) (.int 3)) .nil))) (.cons (.for (.name 4) (.rng1 (.int 3)) (.cons (.ite (.and (.cons (.cmp .ne (.var 2) (.var 3)) (.cons (.cmp .eq (.ix (.ix (.ix (.var 0) (.int 3)) (.var 2)) (.var 4)) (.ix (.ix (.ix (.var 0) (.int 3)) (.var 3)) (.var 4))) .nil))) (.cons (.drop (.meth .append (.var 1) (.tup (.cons (.var 2) (.cons (.var 3) (.cons (.var 4) .nil))))))
 .nil) .nil)
 .nil))
 .nil))
 .nil))
 (.cons (.ret (.var 1))
 .nil)))⟩
theorem tE {f:Nat} {s:Stmt} (hf:T[f]? = some (hW s)) {k:Nat} (hk : 1<=k) {x y z:D} {p0:Addr} {ps:List Pr} (Y:ps.length<=1000) {M:Mem} {Q:QD} (h0:M p0=some (.lst (ps.map prD)))
 (q:∀ pr M',Ge M M'->M pr=none->M' pr=some (.lst ((flp ps).map k3D))->Q (.ref pr) M'):phi T k f [.tup [x,y,z, .ref p0]] M Q:=by
 refine ar (by lia) hf rfl (ρ := [some _,none,none,none,none]) rfl ?_
 unfold hW;walk_at "st";refine ⟨by rw [hB];lia,fun pf G => ?_⟩
 have g0:=Ge.new (o := .lst []) G;have m0:af M pf (.lst []) pf=some (.lst ((tl1 ps []).map k3D)):=ad;generalize af M pf (.lst [])=M0 at g0 m0;have BO:=oM (ps:=ps);have BP:ps.length*ps.length<=1000*1000:=GD Y Y;walk_at "st";refine ⟨_,rfl,ce (g0 _ _ h0) ?_⟩;rw [v5];refine ⟨_,rfl,by lia,by lia, ?_⟩
 rw [Dq,bE];refine bg (f:=fun i:Nat=>D.int (i:Nat)) (ys:=CP ps.length) (I:=fun l ρ M' => ∃ O B j:Option D, ρ = [some (.tup [x,y,z, .ref p0]),some (.ref pf),O,B,j]/\Ge M M'/\M' pf=some (.lst ((tl1 ps l).map k3D))) rfl
  ⟨none,none,none,rfl,g0,m0⟩ (fun _ _ _ _=>trivial) ?_ ?_
 ·rintro l r lr ρ M1 e ⟨O,B,j,rfl,g1,m1⟩;obtain ⟨hi,hr⟩:=dO e;have L1:(tl1 ps l).length+(tl2 ps r (CP ps.length)).length<=(flp ps).length:=by
   unfold flp;(conv=>rhs;rw [e]);unfold tl1;rw [Ff,E1];simp only [z4];lia
  have Z:ps[r]? = some (ps[r]'hr):=h6 hr;refine ⟨_,rfl,fun F hF => ?_⟩;walk_at "st";refine ⟨_,rfl,ce (g1 _ _ h0) ?_⟩;rw [v5];refine ⟨_,rfl,by lia,by lia, ?_⟩
  rw [Dq,bE];refine bg (f:=fun i:Nat=>D.int (i:Nat)) (ys:=CP ps.length) (I:=fun l' ρ M' => ∃ B j:Option D, ρ = [some (.tup [x,y,z, .ref p0]),some (.ref pf),some (.int (r:Nat)),B,j]/\Ge M M'/\M' pf=some (.lst ((tl1 ps l++tl2 ps r l').map k3D))) rfl
   ⟨B,j,rfl,g1,by simpa [tl2] using m1⟩ (fun _ _ _ _=>trivial) ?_ ?_
  ·rintro l' s' lr' ρ M2 e' ⟨B,j,rfl,g2,m2⟩;obtain ⟨BQ,hs⟩:=dO e';have L2:(tl2 ps r l').length+(tl3 ps r s' (CP 3)).length<=(tl2 ps r (CP ps.length)).length:=by
    (conv=>rhs;rw [e'])
    unfold tl2;rw [Ff,E1];simp only [z4];lia
   have hq:ps[s']? = some (ps[s']'hs):=h6 hs;refine ⟨_,rfl,fun F2 U => ?_⟩;walk_at "st";refine ⟨by decide,by decide, ?_⟩
   have er:bj 0 (3:Int).toNat=(CP 3).map fun i:Nat=>D.int (i:Nat):=by rw [bE];rfl
   rw [er];refine bg (f:=fun i:Nat=>D.int (i:Nat)) (ys:=CP 3) (I:=fun l'' ρ M' => ∃ j:Option D, ρ = [some (.tup [x,y,z, .ref p0]),some (.ref pf),some (.int (r:Nat)),some (.int (s':Nat)),j]/\Ge M M'/\M' pf=some (.lst ((tl1 ps l++(tl2 ps r l'++tl3 ps r s' l'')).map k3D))) rfl
    ⟨j,rfl,g2,by simpa [tl3] using m2⟩ (fun _ _ _ _=>trivial) ?_ ?_
   ·rintro l'' t lr'' ρ M3 e'' ⟨j,rfl,g3,m3⟩;obtain ⟨BN,ht⟩:=dO e'';have L3:(tl3 ps r s' l'').length<=(tl3 ps r s' (CP 3)).length:=by
     (conv=>rhs;rw [e''])
     unfold tl3;rw [DP,G9,z4];lia
    refine ⟨_,rfl,fun F3 J => ?_⟩;walk_at "st";have skip:(decide (r≠s')&&decide (prt (prn ps r) t=prt (prn ps s') t))=false->tl3 ps r s' (l''++[t])=tl3 ps r s' l'':=fun L=>by
     unfold tl3;rw [DP,D9 (by rw [L];decide)];simp
    by_cases L:r=s'
    ·rw [if_neg (by simp [L])]
     walk_at "wp";refine J _ _ ⟨_,rfl,g3, ?_⟩;rw [skip (by simp [L])];exact m3
    ·rw [if_pos (by simp;lia)]
     refine ⟨_,rfl,au (g3 _ _ h0) (d:=prD (ps[r]'hr)) (ao (by rw [CK,Z];rfl)) ?_⟩
     refine ⟨_,_,rfl,ao (bW ht), ?_⟩;refine ⟨_,rfl,au (g3 _ _ h0) (d:=prD (ps[s']'hs)) (ao (by rw [CK,hq];rfl)) ?_⟩
     refine ⟨_,_,rfl,ao (bW ht), ?_⟩;refine jh ⟨_,rfl, ?_⟩;have e1:=bp Z;have e2:=bp hq
     by_cases hw:prt (ps[r]'hr) t=prt (ps[s']'hs) t
     ·rw [if_pos (by simpa using hw)]
      walk_at "st";refine ⟨⟨_,m3⟩,by rw [hB];lia,pf,_,_,rfl,rfl,m3,by rw [v5,hB,z4,z4];lia, ?_⟩
      refine J _ _ ⟨_,rfl,fun c o ec => ?_, ?_⟩
      ·rw [aw (fun z=>by rw [z,G] at ec;cases ec)];exact g3 _ _ ec
      ·rw [ad];unfold tl3;rw [DP,Dc (by rw [e1,e2];simp [L,hw])];simp [k3D]
     ·rw [if_neg (by simpa using hw)]
      walk_at "wp";refine J _ _ ⟨_,rfl,g3, ?_⟩;rw [skip (by rw [e1,e2];simp [hw])];exact m3
   ·rintro ρ M3 ⟨j,rfl,g3,m3⟩;refine U _ _ ⟨_,_,rfl,g3, ?_⟩;rw [m3];unfold tl2;rw [Ff];simp
  ·rintro ρ M2 ⟨B,j,rfl,g2,m2⟩;refine hF _ _ ⟨_,_,_,rfl,g2, ?_⟩;rw [m2];unfold tl1;rw [Ff];simp
 ·rintro ρ M1 ⟨O,B,j,rfl,g1,m1⟩;walk_at "st";exact q pf M1 g1 G m1
end
section
open PySem PySem.Spec PyProof.Rows L2.Srt
variable {T:List FD}
noncomputable def fpr (p q:Pr):Nat->Pr×Pr
 | 0=>((p.1,adl p.2.1 q.2.1,p.2.2),(q.1,q.2.1,adl q.2.2 (ngl p.2.2)))
 | 1=>((adl p.1 q.1,p.2.1,p.2.2),(q.1,q.2.1,adl q.2.2 (ngl p.2.2)))
 | _=>((adl p.1 q.1,p.2.1,p.2.2),(q.1,adl q.2.1 (ngl p.2.1),q.2.2))
noncomputable def flq (ps:List Pr) (r s t:Nat):List Pr:=(ps.set r (fpr (prn ps r) (prn ps s) t).1).set s (fpr (prn ps r) (prn ps s) t).2
theorem gu {l:List Int}:(ngl l).length=l.length:=by simp [ngl]
theorem vJ {z B L2:Nat} {p q:Pr} (J:p.1.length=z/\p.2.1.length=B/\p.2.2.length=L2) (L:q.1.length=z/\q.2.1.length=B/\q.2.2.length=L2) (t:Nat) :
 ((fpr p q t).1.1.length=z/\(fpr p q t).1.2.1.length=B/\(fpr p q t).1.2.2.length=L2)/\((fpr p q t).2.1.length=z/\(fpr p q t).2.2.1.length=B/\(fpr p q t).2.2.2.length=L2):=by
 obtain ⟨p0,p1,p2⟩:=J;obtain ⟨j,F,G⟩:=L
 match t with
 | 0=>exact ⟨⟨p0,cw p1 F,p2⟩,j,F,cw G (by rw [gu];exact p2)⟩
 | 1=>exact ⟨⟨cw p0 j,p1,p2⟩,j,F,cw G (by rw [gu];exact p2)⟩
 | _+2=>exact ⟨⟨cw p0 j,p1,p2⟩,j,cw F (by rw [gu];exact p1),G⟩
theorem yw {q z L2:Nat} {ps:List Pr} (h:Tdy q z L2 ps) {r s t:Nat} (hr:r < ps.length) (hs:s < ps.length):Tdy q z L2 (flq ps r s t):=by
 have B:ps[r]? = some (prn ps r):=by rw [h6 hr,bp (h6 hr)]
 have F:ps[s]? = some (prn ps s):=by rw [h6 hs,bp (h6 hs)]
 have lp:=h.l _ (CZ B);have lq:=h.l _ (CZ F);obtain ⟨f1,f2⟩:=vJ lp lq t;refine ⟨fun u j => ?_,h.h0,h.h1,h.h2,by unfold flq;rw [G2,G2];exact h.n⟩
 unfold flq at j
 rcases Ee j with j | rfl
 ·rcases Ee j with j | rfl
  ·exact h.l u j
  ·exact f1
 ·exact f2
theorem yz {ps:List Pr} {r s t:Nat}:(flq ps r s t).length=ps.length:=by simp [flq]
noncomputable def bZ (s:Stmt):FD:=⟨"is_flip",s,["products", "flip", "r", "s", "side", "many"],2,
 (.cons (.asg (.tup (.cons (.name 2) (.cons (.name 3) (.cons (.name 4) .nil)))) (.var 1))
 (.cons (.asg (.name 5) (.blt .len (.cons (.var 0) .nil)))
 (.cons (.ite (.not (.and (.cons (.chain .le .lt (.int 0) (.var 2) (.var 5)) (.cons (.chain .le .lt (.int 0) (.var 3) (.var 5)) (.cons (.chain .le .le (.int 0) (.var 4) (.int 2)) .nil))))) (.cons (.ret (.bl false))
 .nil) .nil)
 (.cons (.ret (.and (.cons (.cmp .ne (.var 2) (.var 3)) (.cons (.cmp .eq (.ix (.ix (.var 0) (.var 2)) (.var 4)) (.ix (.ix (.var 0) (.var 3)) (.var 4))) .nil))))
 .nil))))⟩
structure mU (ps:List Pr) (r s t:Nat):Prop where
 hr:r < ps.length
 hs:s < ps.length
 ht:t < 3
 ne:r≠s
 eq:prt (prn ps r) t=prt (prn ps s) t
theorem dH {ps:List Pr} {r:Nat} (h:r < ps.length):(ps.map prD)[r]? = some (prD (prn ps r)):=by
 rw [CK,h6 h,bp (h6 h)];rfl
theorem tF {f:Nat} {s:Stmt} (hf:T[f]? = some (bZ s)) {k:Nat} (z : 1<=k) {p0:Addr} {ps:List Pr} (B:ps.length<=100000) {r s' t:Nat} (h:mU ps r s' t) {M:Mem} {Q:QD} (h0:M p0=some (.lst (ps.map prD))) (q:Q (.bl true) M):phi T k f [.ref p0,k3D ((r:Int),(s':Int),(t:Int))] M Q:=by
 refine ar (by lia) hf rfl (ρ := [some _,some _,none,none,none,none]) rfl ?_
 unfold bZ k3D;obtain ⟨hr,hs,ht,j,heq⟩:=h;walk_at "st";walk_at "st";refine ce h0 ?_;walk_at "st";rw [v5];rw [if_pos (by lia)]
 walk_at "wp";rw [if_pos (by lia)]
 walk_at "wp";rw [if_pos (by lia)]
 walk_at "wp";rw [if_pos (by lia)]
 walk_at "wp";rw [if_pos (by lia)]
 walk_at "wp";simp only [show ((t:Nat):Int)<=2 by lia,decide_true,GP,Dz,if_false]
 walk_at "st";rw [if_pos (by simp;lia)]
 refine au h0 (ao (dH hr)) ?_;refine ⟨_,_,rfl,ao (bW ht), ?_⟩;refine au h0 (ao (dH hs)) ?_;refine ⟨_,_,rfl,ao (bW ht), ?_⟩;refine jh ?_;rw [decide_eq_true heq];exact q
noncomputable def eW (s:Stmt) (fa fn:Nat):FD:=⟨"flipped_pair",s,["one", "other", "side", "a", "b", "c", "x", "y", "z"],3,
 (.cons (.asg (.tup (.cons (.tup (.cons (.name 3) (.cons (.name 4) (.cons (.name 5) .nil)))) (.cons (.tup (.cons (.name 6) (.cons (.name 7) (.cons (.name 8) .nil)))) .nil))) (.tup (.cons (.var 0) (.cons (.var 1) .nil))))
 (.cons (.ite (.cmp .eq (.var 2) (.int 0)) (.cons (.ret (.tup (.cons (.tup (.cons (.var 3) (.cons (.call fa (.cons (.var 4) (.cons (.var 7) .nil))) (.cons (.var 5) .nil)))) (.cons (.tup (.cons (.var 6) (.cons (.var 7) (.cons (.call fa (.cons (.var 8) (.cons (.call fn (.cons (.var 5) .nil)) .nil))) .nil)))) .nil))))
 .nil) .nil)
 (.cons (.ite (.cmp .eq (.var 2) (.int 1)) (.cons (.ret (.tup (.cons (.tup (.cons (.call fa (.cons (.var 3) (.cons (.var 6) .nil))) (.cons (.var 4) (.cons (.var 5) .nil)))) (.cons (.tup (.cons (.var 6) (.cons (.var 7) (.cons (.call fa (.cons (.var 8) (.cons (.call fn (.cons (.var 5) .nil)) .nil))) .nil)))) .nil))))
 .nil) .nil)
 (.cons (.ret (.tup (.cons (.tup (.cons (.call fa (.cons (.var 3) (.cons (.var 6) .nil))) (.cons (.var 4) (.cons (.var 5) .nil)))) (.cons (.tup (.cons (.var 6) (.cons (.call fa (.cons (.var 7) (.cons (.call fn (.cons (.var 4) .nil)) .nil))) (.cons (.var 8) .nil)))) .nil))))
 .nil))))⟩
theorem tG {f fa fn:Nat} {s sa sn:Stmt} (hf:T[f]? = some (eW s fa fn)) (j:T[fa]? = some (e8 sa)) (B:T[fn]? = some (cF sn)) {k:Nat} (O : 2<=k) {p q:Pr} (lp:qz 100000 p) (lq:qz 100000 q) {t:Nat} (ht:t < 3) {M:Mem} {Q:QD} (h:∀ M',Ge M M'->Q (.tup [prD (fpr p q t).1,prD (fpr p q t).2]) M'):phi T k f [prD p,prD q, .int (t:Nat)] M Q:=by
 refine ar (by lia) hf rfl (ρ := [some _,some _,some _,none,none,none,none,none,none]) rfl ?_
 unfold eW prD;obtain ⟨a,b,c⟩:=p;obtain ⟨x,y,z⟩:=q;obtain ⟨p1,p2,p3⟩:=lp;obtain ⟨L,G,F⟩:=lq;dsimp only at p1 p2 p3 L G F ⊢;walk_at "st";refine ⟨by rw [hB];lia, ?_⟩
 match t,ht with
 | 0,_ =>
  walk_at "st";walk_at "st";refine cz j (by lia) p2 fun M1 g1 => ?_
  walk_at "wp";refine ⟨by rw [hB];lia, ?_⟩
  refine eV B (by lia) p3 fun M2 g2 => ?_
  refine cz j (by lia) F fun J g3 => ?_
  walk_at "wp";exact ⟨by rw [hB];lia,by rw [hB];lia,h _ (g1.trans (g2.trans g3))⟩
 | 1,_ =>
  walk_at "st";rw [if_neg (by decide)]
  walk_at "st";rw [if_pos (by decide)]
  walk_at "st";refine cz j (by lia) p1 fun M1 g1 => ?_
  walk_at "wp";refine ⟨by rw [hB];lia, ?_⟩
  refine eV B (by lia) p3 fun M2 g2 => ?_
  refine cz j (by lia) F fun J g3 => ?_
  walk_at "wp";exact ⟨by rw [hB];lia,by rw [hB];lia,h _ (g1.trans (g2.trans g3))⟩
 | 2,_ =>
  walk_at "st";rw [if_neg (by decide)]
  walk_at "st";rw [if_neg (by decide)]
  walk_at "st";refine cz j (by lia) p1 fun M1 g1 => ?_
  walk_at "wp";refine ⟨by rw [hB];lia, ?_⟩
  refine eV B (by lia) p2 fun M2 g2 => ?_
  refine cz j (by lia) G fun J g3 => ?_
  walk_at "wp";exact ⟨by rw [hB];lia,by rw [hB];lia,h _ (g1.trans (g2.trans g3))⟩
noncomputable def fR (s:Stmt) (fi fp:Nat):FD:=⟨"flipped",s,["scheme", "flip", "left", "right", "many", "products", "r", "s", "side", "made"],2,
 (.cons (.asg (.tup (.cons (.name 2) (.cons (.name 3) (.cons (.name 4) (.cons (.name 5) .nil))))) (.var 0))
 (.cons (.ite (.not (.tru (.call fi (.cons (.var 5) (.cons (.var 1) .nil))))) (.cons .bot
 .nil) .nil)
 (.cons (.asg (.tup (.cons (.name 6) (.cons (.name 7) (.cons (.name 8) .nil)))) (.var 1))
 (.cons (.asg (.name 9) (.blt .list (.cons (.var 5) .nil)))
 (.cons (.put2 (.var 9) (.var 6) (.var 9) (.var 7) (.call fp (.cons (.ix (.var 5) (.var 6)) (.cons (.ix (.var 5) (.var 7)) (.cons (.var 8) .nil)))))
 (.cons (.ret (.tup (.cons (.var 2) (.cons (.var 3) (.cons (.var 4) (.cons (.var 9) .nil))))))
 .nil))))))⟩
def dJ (T:List FD) (n f:Nat):Prop := ∀ {L0 L1 L2:Nat} {x y z:Int} {p0:Addr} {ps:List Pr} {r s t:Nat} {M:Mem} {Q:QD},Tdy L0 L1 L2 ps->mU ps r s t->M p0=some (.lst (ps.map prD)) ->
 (∀ pr M',Ge M M'->M pr=none->M' pr=some (.lst ((flq ps r s t).map prD))->Q (.tup [.int x, .int y, .int z, .ref pr]) M')->phi T n f [.tup [.int x, .int y, .int z, .ref p0],k3D ((r:Int),(s:Int),(t:Int))] M Q
theorem qB {f fi fp fa fn:Nat} {s si sp sa sn:Stmt} (hf:T[f]? = some (fR s fi fp)) (hi:T[fi]? = some (bZ si)) (L:T[fp]? = some (eW sp fa fn)) (O:T[fa]? = some (e8 sa)) (U:T[fn]? = some (cF sn)) {n:Nat} (Z : 3<=n):dJ T n f:=by
 intro L0 L1 L2 x y z p0 ps r s' t M Q G B h0 q;have Y:=G.n;refine ar (by lia) hf rfl (ρ := [some _,some _,none,none,none,none,none,none,none,none]) rfl ?_
 unfold fR;have hr:=B.hr;have hs:=B.hs;walk_at "st";walk_at "st";refine tF hi (by lia) (by lia) B h0 ⟨true,rfl, ?_⟩
 rw [if_neg (by decide)]
 unfold k3D;walk_at "st";walk_at "st";refine ⟨_,_,rfl,ag h0,fun pm F => ?_⟩;have g1:=Ge.new (o := .lst (ps.map prD)) F;have mm:af M pm (.lst (ps.map prD)) pm=some (.lst (ps.map prD)):=ad;generalize af M pm (.lst (ps.map prD))=M1 at g1 mm;walk_at "st";refine au (g1 _ _ h0) (ao (dH hr)) ?_;refine au (g1 _ _ h0) (ao (dH hs)) ?_;have mp:prn ps r∈ps:=by rw [bp (h6 hr)];exact E7 hr
 have mq:prn ps s'∈ps:=by rw [bp (h6 hs)];exact E7 hs
 refine tG L O U (by lia) (G.lp _ mp) (G.lp _ mq) B.ht fun M2 g2 => ?_
 refine ⟨_,_,rfl, ?_⟩;walk_at "wp";refine bL (g2 _ _ mm) (j:=r) ?_ ?_
 ·unfold ixN;rw [if_pos (by lia),if_pos (by simp;lia)];rfl
 refine bL ad (j:=s') ?_ ?_
 ·unfold ixN;rw [if_pos (by lia),if_pos (by simp;lia)];rfl
 rw [jK];have J:=F;walk_at "st";refine ⟨by rw [hB];lia,q pm _ (fun c o ec => ?_) J ?_⟩
 ·rw [aw (fun w=>by rw [w,J] at ec;cases ec)];exact g2 _ _ (g1 _ _ ec)
 ·rw [ad];unfold flq;rw [Hv,Hv]
end
section
open PySem PySem.Spec PyProof.Rows L2.Srt
variable {T:List FD}
noncomputable def eX (s:Stmt) (fa fb:Nat):FD:=⟨"_law_flipped",s,["_law_scheme", "_law_flip", "_law_r", "_law_s", "_law_side", "_law_one", "_law_other", "_law_gains", "_law_gives", "_law_mine", "_law_yours", "_law_products"],2,
 (.cons (.asg (.tup (.cons (.name 2) (.cons (.name 3) (.cons (.name 4) .nil)))) (.var 1))
 (.cons (.par 5 6 (.blt .list (.cons (.ix (.ix (.var 0) (.int 3)) (.var 2)) .nil)) (.blt .list (.cons (.ix (.ix (.var 0) (.int 3)) (.var 3)) .nil)))
 (.cons (.asg (.tup (.cons (.name 7) (.cons (.name 8) .nil))) (.ix (.lst (.cons (.tup (.cons (.int 1) (.cons (.int 2) .nil))) (.cons (.tup (.cons (.int 0) (.cons (.int 2) .nil))) (.cons (.tup (.cons (.int 0) (.cons (.int 1) .nil))) .nil)))) (.var 4)))
 (.cons (.par 9 10 (.ix (.var 5) (.var 8)) (.ix (.var 6) (.var 7)))
 (.cons (.put (.var 5) (.var 7) (.call fa (.cons (.ix (.var 5) (.var 7)) (.cons (.var 10) .nil))))
 (.cons (.put (.var 6) (.var 8) (.call fa (.cons (.ix (.var 6) (.var 8)) (.cons (.call fb (.cons (.var 9) .nil)) .nil))))
 (.cons (.asg (.name 11) (.blt .list (.cons (.ix (.var 0) (.int 3)) .nil)))
 (.cons (.put2 (.var 11) (.var 2) (.var 11) (.var 3) (.tup (.cons (.blt .tuple (.cons (.var 5) .nil)) (.cons (.blt .tuple (.cons (.var 6) .nil)) .nil))))
 (.cons (.ret (.bin .add (.sl (.var 0) .none (.some (.int 3))) (.tup (.cons (.var 11) .nil))))
 .nil)))))))))⟩
noncomputable def gn:Nat->Nat | 0 => 1 | _ => 0
noncomputable def gv:Nat->Nat | 2 => 1 | _ => 2
theorem Ao {p q:Pr} {t:Nat} (h:t < 3):fpr p q t=(pst p (adl (prt p (gn t)) (prt q (gn t))) (gn t),pst q (adl (prt q (gv t)) (ngl (prt p (gv t)))) (gv t)):=by
 match t,h with
 | 0,_=>rfl
 | 1,_=>rfl
 | 2,_=>rfl
theorem jZ {t:Nat}:gn t < 3:=by unfold gn;split <;> decide
theorem kb {t:Nat}:gv t < 3:=by unfold gv;split <;> decide
theorem Bg {t:Nat} (h:t < 3) : [D.tup [.int 1, .int 2], .tup [.int 0, .int 2], .tup [.int 0, .int 1]][t]? = some (.tup [.int (gn t:Nat), .int (gv t:Nat)]):=by
 match t,h with
 | 0,_=>rfl
 | 1,_=>rfl
 | 2,_=>rfl
theorem oO {p:Pr} {i:Nat} (h:i < 3):ixN (prL p).length ((i:Nat):Int)=some i:=by
 unfold ixN;rw [if_pos (by lia),if_pos (by simp [prL];lia)];rfl
theorem nG {f fa fb:Nat} {s:Stmt} (hf:T[f]? = some (eX s fa fb)) {n:Nat} (ha:mK T (n - 1) fa) (hb:mJ T (n - 1) fb) (hn : 1<=n):dJ T n f:=by
 intro L0 L1 L2 x y z p0 ps r s' t M Q L F h0 q;have BW:=L.n;have hr:=F.hr;have hs:=F.hs;have ht:=F.ht;have mp:prn ps r∈ps:=by rw [bp (h6 hr)];exact E7 hr
 have mq:prn ps s'∈ps:=by rw [bp (h6 hs)];exact E7 hs
 have BS:=Ao (p:=prn ps r) (q:=prn ps s') ht;have O:flq ps r s' t=(ps.set r (fpr (prn ps r) (prn ps s') t).1).set s' (fpr (prn ps r) (prn ps s') t).2:=rfl;rw [BS] at O;have lp:=L.lp _ mp;have lq:=L.lp _ mq;have le:=fun i=>qA (L.l _ mp) (L.l _ mq) (i:=i);have ap:=dH hr;have aq:=dH hs;generalize prn ps r=p at *
 generalize prn ps s'=w at *
 refine ar (by lia) hf rfl (ρ := [some _,some _,none,none,none,none,none,none,none,none,none,none]) rfl ?_
 unfold eX k3D;walk_at "st";walk_at "st";refine ⟨_,rfl,au h0 (ao ap) ?_⟩;refine ⟨_,_,rfl,rfl,fun po G => ?_⟩;have g1:=Ge.new (o := .lst (prL p)) G;refine ⟨_,rfl,au (g1 _ _ h0) (ao aq) ?_⟩;refine ⟨_,_,rfl,rfl,fun pw B => ?_⟩;have g2:=g1.trans (Ge.new (o := .lst (prL w)) B);have now:po≠pw:=fun e=>by rw [<- e] at B;have:af M po (.lst (prL p)) po=none:=B;rw [ad] at this;cases this
 have mo:af (af M po (.lst (prL p))) pw (.lst (prL w)) po=some (.lst (prL p)):=by rw [aw now,ad]
 have mw:af (af M po (.lst (prL p))) pw (.lst (prL w)) pw=some (.lst (prL w)):=ad;have BU:=G;have BV:=oK g1 B;show wSs _ _ _ _ (af (af M po (.lst (prL p))) pw (.lst (prL w)));generalize af (af M po (.lst (prL p))) pw (.lst (prL w))=M1 at g2 mo mw;clear G B g1;walk_at "st";refine ⟨by rw [hB];lia,by rw [hB];lia,by rw [hB];lia,by rw [hB];lia,fun pg U => ?_⟩
 refine au ad (ao (Bg ht)) ⟨_,rfl, ?_⟩;have gg:=Ge.new (o := .lst [D.tup [.int 1, .int 2], .tup [.int 0, .int 2], .tup [.int 0, .int 1]]) U;have g3:=g2.trans gg;have mo:=gg _ _ mo;have mw:=gg _ _ mw;show wSs _ _ _ _ (af M1 pg (.lst [D.tup [.int 1, .int 2], .tup [.int 0, .int 2], .tup [.int 0, .int 1]]));generalize af M1 pg (.lst [D.tup [.int 1, .int 2], .tup [.int 0, .int 2], .tup [.int 0, .int 1]])=M2 at g3 mo mw;clear gg U g2;walk_at "st";refine au mo (ao (bW kb)) ?_;refine au mw (ao (bW jZ)) ?_;walk_at "st";refine au mo (ao (bW jZ)) ?_;refine ha (ji lp) (le _) fun M3 g4 => ?_;refine bL (g4 _ _ mo) (oO jZ) ?_;rw [oJ jZ];have Y:af M3 po (.lst (prL (pst p (adl (prt p (gn t)) (prt w (gn t))) (gn t)))) po=some (.lst (prL (pst p (adl (prt p (gn t)) (prt w (gn t))) (gn t)))):=ad;have J:af M3 po (.lst (prL (pst p (adl (prt p (gn t)) (prt w (gn t))) (gn t)))) pw=some (.lst (prL w)):=by rw [aw (Ne.symm now)];exact g4 _ _ mw
 have g5:Ge M (af M3 po (.lst (prL (pst p (adl (prt p (gn t)) (prt w (gn t))) (gn t))))):=fun c o ec=>by
  rw [aw (fun e=>by rw [e,BU] at ec;cases ec)];exact g4 _ _ (g3 _ _ ec)
 generalize af M3 po (.lst (prL (pst p (adl (prt p (gn t)) (prt w (gn t))) (gn t))))=M4 at Y J g5;walk_at "st";refine au J (ao (bW kb)) ?_;refine hb (ji lp) fun M5 g6 => ?_;refine ha (ji lq) (by rw [gu];exact (le _).symm) fun M6 g7 => ?_
 refine bL (g7 _ _ (g6 _ _ J)) (oO kb) ?_;rw [oJ kb];have Z:af M6 pw (.lst (prL (pst w (adl (prt w (gv t)) (ngl (prt p (gv t)))) (gv t)))) po=some (.lst (prL (pst p (adl (prt p (gn t)) (prt w (gn t))) (gn t)))):=by rw [aw now];exact g7 _ _ (g6 _ _ Y)
 have BN:af M6 pw (.lst (prL (pst w (adl (prt w (gv t)) (ngl (prt p (gv t)))) (gv t)))) pw=some (.lst (prL (pst w (adl (prt w (gv t)) (ngl (prt p (gv t)))) (gv t)))):=ad;have g8:Ge M (af M6 pw (.lst (prL (pst w (adl (prt w (gv t)) (ngl (prt p (gv t)))) (gv t))))):=fun c o ec=>by
  rw [aw (fun e=>by rw [e,BV] at ec;cases ec)];exact g7 _ _ (g6 _ _ (g5 _ _ ec))
 generalize af M6 pw (.lst (prL (pst w (adl (prt w (gv t)) (ngl (prt p (gv t)))) (gv t))))=M7 at Z BN g8;walk_at "st";refine ⟨_,rfl,_,_,rfl,ag (g8 _ _ h0),fun pm BO => ?_⟩;have gm:=Ge.new (o := .lst (ps.map prD)) BO;have g9:=g8.trans gm;have mm:af M7 pm (.lst (ps.map prD)) pm=some (.lst (ps.map prD)):=ad;have BP:=gm _ _ Z;have BQ:=gm _ _ BN;have BR:=oK g8 BO;generalize af M7 pm (.lst (ps.map prD))=M8 at g9 mm BP BQ;walk_at "st";refine ⟨_,_,rfl,ag BP, ?_⟩;refine ⟨_,_,rfl,ag BQ, ?_⟩;refine ⟨by rw [hB];lia,_,_,⟨rfl,rfl⟩, ?_⟩
 refine bL mm (j:=r) ?_ ?_
 ·unfold ixN;rw [if_pos (by lia),if_pos (by simp;lia)];rfl
 refine bL ad (j:=s') ?_ ?_
 ·unfold ixN;rw [if_pos (by lia),if_pos (by simp;lia)];rfl
 rw [jK];walk_at "st";refine (show dU (.tup [.int x, .int y, .int z, .ref p0]) none (some 3) _ _ from ⟨by rw [hB];lia, .inr trivial,by rw [hB];show 3+1<=16777216;decide, ?_⟩)
 refine q pm _ (fun c o ec => ?_) BR ?_
 ·rw [aw (fun e=>by rw [e,BR] at ec;cases ec)];exact g9 _ _ ec
 ·rw [ad,O,Hv,Hv];rfl
theorem Bh {ps:List Pr} {i:Nat} {x:K3} (h:(flp ps)[i]? = some x):∃ r s t:Nat,x=((r:Int),(s:Int),(t:Int))/\mU ps r s t:=by
 obtain ⟨r,s,t,h1,h2,j,q,z,B⟩:=flp_mem.mp (CZ h);exact ⟨r,s,t,q,h1,h2,j,z,B⟩
end
section
section
variable {T:List FD}
theorem yA {f:Nat} {s:Stmt} (hf:T[f]? = some (bZ s)) {k:Nat} (B : 1<=k) {p0:Addr} {ps:List Pr} (F:ps.length<=100000) {r s' t:Int} (h:(r,s',t)∉flp ps) {M:Mem} {Q:QD} (h0:M p0=some (.lst (ps.map prD))) (q:Q (.bl false) M):phi T k f [.ref p0,k3D (r,s',t)] M Q:=by
 refine ar (by lia) hf rfl (ρ := [some _,some _,none,none,none,none]) rfl ?_
 unfold bZ k3D;walk_at "st";walk_at "st";refine ce h0 ?_;walk_at "st";rw [v5];have no:∀ (w:Prop) (E:aZ) (ρ:al),E.rt=Q->(if (!false)=true then wSs (phi T (k - 1)) (MSs.cons (MS.ret (ME.bl false)) MSs.nil) E ρ M else w):=fun w E ρ e=>by
  rw [if_pos (by decide)]
  show E.rt (.bl false) M;rw [e];exact q
 by_cases a1 : 0<=r
 case neg =>
  rw [if_neg (by lia)]
  walk_at "wp";exact no _ _ _ rfl
 rw [if_pos (by lia)]
 walk_at "wp"
 by_cases a2:r < (ps.length:Int)
 case neg =>
  rw [if_neg (by lia)]
  walk_at "wp";exact no _ _ _ rfl
 rw [if_pos (by lia)]
 walk_at "wp"
 by_cases a3 : 0<=s'
 case neg =>
  rw [if_neg (by lia)]
  walk_at "wp";exact no _ _ _ rfl
 rw [if_pos (by lia)]
 walk_at "wp"
 by_cases a4:s' < (ps.length:Int)
 case neg =>
  rw [if_neg (by lia)]
  walk_at "wp";exact no _ _ _ rfl
 rw [if_pos (by lia)]
 walk_at "wp"
 by_cases a5 : 0<=t
 case neg =>
  rw [if_neg (by lia)]
  walk_at "wp";exact no _ _ _ rfl
 rw [if_pos (by lia)]
 walk_at "wp"
 by_cases a6:t<=2
 case neg =>
  simp only [a6,decide_false];exact no _ _ _ rfl
 simp only [a6,decide_true,GP,Dz,if_false];obtain ⟨r,rfl⟩:=Dd a1;obtain ⟨s',rfl⟩:=Dd a3;obtain ⟨t,rfl⟩:=Dd a5;have hr:r < ps.length:=by lia
 have hs:s' < ps.length:=by lia
 have ht:t < 3:=by lia
 walk_at "st"
 by_cases j:r=s'
 ·rw [if_neg (by simp;lia)]
  exact q
 ·rw [if_pos (by simp;lia)]
  refine au h0 (ao (dH hr)) ?_;refine ⟨_,_,rfl,ao (bW ht), ?_⟩;refine au h0 (ao (dH hs)) ?_;refine ⟨_,_,rfl,ao (bW ht), ?_⟩;refine jh ?_;rw [decide_eq_false fun z=>h (flp_mem.mpr ⟨r,s',t,hr,hs,ht,rfl,j,z⟩)];exact q
noncomputable def mV (s:Stmt) (fi:Nat):FD:=⟨"flipped",s,["scheme", "flip", "left", "right", "many", "products", "r", "s", "side", "made"],2,
 (.cons (.asg (.tup (.cons (.name 2) (.cons (.name 3) (.cons (.name 4) (.cons (.name 5) .nil))))) (.var 0)) (.cons (.ite (.not (.tru (.call fi (.cons (.var 5) (.cons (.var 1) .nil))))) (.cons (.ret (.bl true)) .nil) .nil) .nil))⟩
noncomputable def fS (s:Stmt) (fp:Nat):FD:=⟨"_law_refused",s,["_law_scheme", "_law_flip", "_law_found", "e"],2,
 (.cons (.asg (.name 2) (.bl false)) (.cons (.ite (.tru (.call fp (.cons (.var 0) (.cons (.var 1) .nil)))) (.cons (.ret (.bl true)) .nil) (.cons .bot .nil)) .nil))⟩
theorem qC {f fp fi:Nat} {s sp si:Stmt} (hf:T[f]? = some (fS s fp)) (j:T[fp]? = some (mV sp fi)) (hi:T[fi]? = some (bZ si)) {k:Nat} (F : 3<=k) {x y z:D} {p0:Addr} {ps:List Pr} (B:ps.length<=100000) {r s' t:Int} (h:(r,s',t)∉flp ps) {M:Mem} {Q:QD} (h0:M p0=some (.lst (ps.map prD))) (q:Q (.bl true) M) :
 phi T k f [.tup [x,y,z, .ref p0],k3D (r,s',t)] M Q:=by
 refine ar (by lia) hf rfl (ρ := [some _,some _,none,none]) rfl ?_
 unfold fS;walk_at "st";walk_at "st";refine ar (by lia) j rfl (ρ := [some _,some _,none,none,none,none,none,none,none,none]) rfl ?_
 unfold mV;walk_at "st";walk_at "st";refine yA hi (by lia) B h h0 ?_
 refine ⟨false,rfl, ?_⟩;rw [if_pos (by decide)]
 walk_at "st";refine ⟨true,rfl, ?_⟩;rw [if_pos rfl];walk_at "st";exact q
end
end
section
section
variable {T:List FD}
noncomputable def mW (s:Stmt) (ft:Nat):FD:=⟨"_law_none",s,["_law_box_here", "_law_scheme", "_law_some", "_law_many", "_law_drawn"],3,
 (.cons (.asg (.name 3) (.blt .len (.cons (.ix (.var 1) (.int 3)) .nil)))
 (.cons (.asg (.name 4) (.comp [none,(some 0),(some 3)] ["_law_turn", "_law_box_here", "_law_many"] (.last (.rng1 (.int 12)) (.name 0) .nil (.tup (.cons (.bin .sub (.call ft (.cons (.var 1) (.cons (.bin .add (.var 2) (.int 2)) .nil))) (.int 1)) (.cons (.bin .sub (.call ft (.cons (.var 1) (.cons (.bin .add (.var 2) (.int 2)) .nil))) (.int 1)) (.cons (.bin .sub (.call ft (.cons (.var 1) (.cons (.int 5) .nil))) (.int 1)) .nil)))))))
 (.cons (.asg (.name 4) (.bin .add (.var 4) (.lst (.cons (.tup (.cons (.int 0) (.cons (.int 0) (.cons (.int 0) .nil)))) (.cons (.tup (.cons (.var 3) (.cons (.int 0) (.cons (.int 0) .nil)))) (.cons (.tup (.cons (.int 0) (.cons (.var 3) (.cons (.int 1) .nil)))) (.cons (.tup (.cons (.neg (.int 1)) (.cons (.int 0) (.cons (.int 2) .nil)))) (.cons (.tup (.cons (.int 0) (.cons (.int 1) (.cons (.int 3) .nil)))) (.cons (.tup (.cons (.bin .pow (.int 10) (.int 20)) (.cons (.int 0) (.cons (.int 0) .nil)))) (.cons (.tup (.cons (.int 0) (.cons (.int 1) (.cons (.neg (.int 1)) .nil)))) .nil))))))))))
 (.cons (.ret (.comp [none,(some 2)] ["_law_flip", "_law_some"] (.last (.seq (.var 4)) (.name 0) (.cons (.cmp .ninK (.var 0) (.var 1)) .nil) (.var 0))))
 .nil))))⟩
theorem yB {f ft:Nat} {s:Stmt} (hf:T[f]? = some (mW s ft)) {n:Nat} (G:du T (n - 1) ft) (hn : 1<=n) {b p0 pf:Addr} {x y z:D} {ps:List Pr} (hl:ps.length<=1000) {fs:List K3} (BQ:p0≠b) (Z:pf≠b) {M:Mem} {Q:QD} (hb:Box b M) (h0:M p0=some (.lst (ps.map prD))) (h1:M pf=some (.lst (fs.map k3D)))
 (q:∀ (ks:List K3) p M',ks.length<=100->(∀ k∈ks,k∉fs)->Bx b M M'->M p=none->p≠b->M' p=some (.lst (ks.map k3D))->Q (.ref p) M'):phi T n f [.ref b, .tup [x,y,z, .ref p0], .ref pf] M Q:=by
 refine ar hn hf rfl (ρ := [some _,some _,some _,none,none]) rfl ?_;unfold mW;walk_at "st";refine ⟨_,rfl,ce h0 ?_⟩;walk_at "st";rw [v5];refine ⟨by decide,by decide, ?_⟩
 refine fP (I:=fun l ρ M' acc => ∃ ks:List K3,(∃ o0, ρ = [o0,some (.ref b),some (.int (ps.length:Nat))])/\acc=ks.map k3D/\ks.length=l.length/\Bx b M M') ⟨[],⟨_,rfl⟩,rfl,rfl,Bx.refl hb⟩ (fun _ _ _ _ _=>trivial) ?_ ?_
 ·rintro l u r ρ M1 acc e ⟨ks,⟨o0,rfl⟩,rfl,hk,x1⟩;have Y:=aG e;rw [bf] at Y;refine ⟨_,rfl,fun N' j => ?_⟩;walk_at "wp";refine G x1.box (by lia) (by lia) fun r1 M2 _ _ x2 => ?_
  walk_at "wp";have U:=x1.trans x2;refine G U.box (by lia) (by lia) fun r2 M3 _ _ x3 => ?_
  walk_at "wp";have F:=U.trans x3;refine G F.box (by lia) (by lia) fun r3 M4 _ _ x4 => ?_
  walk_at "wp";have y4:=F.trans x4;refine ⟨by rw [hB];lia,by rw [v5,hB];lia,j _ _ _ ⟨ks++[(r1 - 1,r2 - 1,r3 - 1)],⟨_,rfl⟩,by simp [k3D],by simp [hk],y4⟩⟩
 ·rintro ρ M1 acc ⟨ks,⟨o0,rfl⟩,rfl,hk,x1⟩ p hp;rw [bf] at hk;walk_at "st";refine ⟨by rw [hB];lia,by rw [hB];lia,by rw [hB];lia,by rw [hB];lia,by rw [hB];lia,by decide,by decide,by decide,by rw [hB];lia,by rw [hB];lia,by rw [hB];lia,fun p2 J => ?_⟩
  have np:M p=none:=by
   cases e:M p with
   | none=>rfl
   | some o=>exact absurd (x1.keep _ _ (b8 x1.box hp) e) (by rw [hp];simp)
  have BN:=b8 x1.box hp;have y1:=x1.ge (Ge.new (o := .lst (ks.map k3D)) hp);have m1:=Ge.new (o := .lst [D.tup [D.int 0,D.int 0,D.int 0],D.tup [D.int (ps.length:Nat),D.int 0,D.int 0],D.tup [D.int 0,D.int (ps.length:Nat),D.int 1],D.tup [D.int (-1),D.int 0,D.int 2],D.tup [D.int 0,D.int 1,D.int 3],D.tup [D.int (10 ^ JQ 20),D.int 0,D.int 0],D.tup [D.int 0,D.int 1,D.int (-1)]]) J;have BO:=b8 y1.box J;have U:=y1.ge m1;have ep:=m1 _ _ (ad (M:=M1) (a:=p) (o := .lst (ks.map k3D)));refine ⟨_,_,ep,ad,by rw [v5,hB];simp;lia,fun p3 L => ?_⟩
  obtain ⟨js,hj,BR⟩:∃ js:List K3,ks.map k3D++[D.tup [D.int 0,D.int 0,D.int 0],D.tup [D.int (ps.length:Nat),D.int 0,D.int 0],D.tup [D.int 0,D.int (ps.length:Nat),D.int 1],D.tup [D.int (-1),D.int 0,D.int 2],D.tup [D.int 0,D.int 1,D.int 3],D.tup [D.int (10 ^ JQ 20),D.int 0,D.int 0],D.tup [D.int 0,D.int 1,D.int (-1)]]=js.map k3D/\js.length<=100 :=
   ⟨ks++([(0,0,0),((ps.length:Int),0,0),(0,(ps.length:Int),1),(-1,0,2),(0,1,3),(10 ^ JQ 20,0,0),(0,1, -1)]:List K3),by simp [k3D],by simp;lia⟩
  rw [hj];have BP:=b8 U.box L;have F:=U.ge (Ge.new (o := .lst (js.map k3D)) L);have m3:=ad (M:=af (af M1 p (.lst (ks.map k3D))) p2 (.lst [D.tup [D.int 0,D.int 0,D.int 0],D.tup [D.int (ps.length:Nat),D.int 0,D.int 0],D.tup [D.int 0,D.int (ps.length:Nat),D.int 1],D.tup [D.int (-1),D.int 0,D.int 2],D.tup [D.int 0,D.int 1,D.int 3],D.tup [D.int (10 ^ JQ 20),D.int 0,D.int 0],D.tup [D.int 0,D.int 1,D.int (-1)]])) (a:=p3) (o := .lst (js.map k3D));have mf:=F.keep _ _ Z h1;generalize af _ p3 (.lst (js.map k3D))=M5 at F m3 mf ⊢;clear ep m1 L J hj U y1 x1;walk_at "st";refine ⟨_,ag m3, ?_⟩;refine bM (f:=k3D) (I:=fun l ρ M' acc => ∃ qs:List K3,(∃ o0, ρ = [o0,some (.ref pf)])/\acc=qs.map k3D/\qs.length<=l.length/\(∀ k∈qs,k∉fs)/\M'=M5) rfl ⟨[],⟨_,rfl⟩,rfl,by simp,fun _ h=>(by cases h),rfl⟩ (fun _ _ _ _ ⟨_,_,_,_,_,e⟩=>by rw [e];exact ag m3) ?_ ?_
  ·rintro l u r ρ M6 acc e ⟨qs,⟨o0,rfl⟩,rfl,hq,B,rfl⟩;have Y:=aG e;refine ⟨_,rfl,fun N' j => ?_⟩;walk_at "wp";have ed:decide ([u.1,u.2.1,u.2.2]∈fs.map fun k => [k.1,k.2.1,k.2.2])=decide (u∈fs):=by
    rw [decide_eq_decide,Ej];constructor
    ·rintro ⟨⟨k1,k2,k3⟩,O,ek⟩;obtain ⟨u1,u2,u3⟩:=u;simp at ek;obtain ⟨rfl,rfl,rfl⟩:=ek;exact O
    ·exact fun h=>⟨u,h,rfl⟩
   refine ⟨[u.1,u.2.1,u.2.2],pf,fs.map fun k => [k.1,k.2.1,k.2.2],rfl,rfl,by rw [EK];exact mf,_,rfl, ?_⟩
   rw [ed]
   by_cases hu:u∈fs
   ·rw [decide_eq_true hu,if_neg (by decide)]
    exact j _ _ _ ⟨qs,⟨_,rfl⟩,rfl,by simp;lia,B,rfl⟩
   ·rw [decide_eq_false hu,if_pos (by decide)]
    refine ⟨by rw [v5,hB];lia,j _ _ _ ⟨qs++[u],⟨_,rfl⟩,by simp,by simp;lia,fun k O => ?_,rfl⟩⟩
    rcases Ds.mp O with h | h
    ·exact B k h
    ·simp at h;subst h;exact hu
  ·rintro ρ M6 acc ⟨qs,⟨o0,rfl⟩,rfl,hq,B,rfl⟩ p4 hp4;have nb:=b8 F.box hp4;refine q qs p4 _ (by lia) B (F.ge (Ge.new hp4)) ?_ nb ad
   cases e:M p4 with
   | none=>rfl
   | some o=>exact absurd (F.keep _ _ nb e) (by rw [hp4];simp)
end
end
section
open PySem PySem.Spec PyProof.Rows L2.Srt
noncomputable def tm (p:Pr) (k i j:Int):Int:=gz p.1 i*gz p.2.1 j*gz p.2.2 k
theorem ke {p:Pr} {a:List Pr} {k i j:Int}:Tn (p::a) k i j=tm p k i j+Tn a k i j:=yq
theorem mX {k i j:Int} {p':Pr}:∀ {ps:List Pr} {n:Nat} {p:Pr},ps[n]? = some p->Tn (ps.set n p') k i j=Tn ps k i j - tm p k i j+tm p' k i j
 | [],n,p,h=>by simp at h
 | a::ps,0,p,h=>by
   simp at h;subst h;rw [GB,ke,ke];lia
 | a::ps,n+1,p,h=>by
   rw [GC,ke,ke,mX (ps:=ps) (n:=n) (p:=p) (by simpa using h)];lia
end
section
theorem Ap {p q:Pr} {t:Nat} (ht:t < 3) (h:prt p t=prt q t) (z:p.1.length=q.1.length) (B:p.2.1.length=q.2.1.length) (F:p.2.2.length=q.2.2.length) {k i j:Int} :
 tm (fpr p q t).1 k i j+tm (fpr p q t).2 k i j=tm p k i j+tm q k i j:=by
 have G:q.2.1.length=(ngl p.2.1).length:=by simp [ngl,B]
 have n2:q.2.2.length=(ngl p.2.2).length:=by simp [ngl,F]
 match t,ht,h with
 | 0,_,h =>
  have h:p.1=q.1:=h;simp only [tm,fpr];rw [dz B,dz n2,iU,h]
  grind
 | 1,_,h =>
  have h:p.2.1=q.2.1:=h;simp only [tm,fpr];rw [dz z,dz n2,iU,h]
  grind
 | 2,_,h =>
  have h:p.2.2=q.2.2:=h;simp only [tm,fpr];rw [dz z,dz G,iU,h]
  grind
theorem Aq {B F L2:Nat} {ps:List Pr} (q:Lns B F L2 ps) {r s t:Nat} (h:mU ps r s t) {k i j:Int}:Tn (flq ps r s t) k i j=Tn ps k i j:=by
 obtain ⟨hr,hs,ht,ne,eq⟩:=h;have er:ps[r]? = some (prn ps r):=by rw [h6 hr,bp (h6 hr)]
 have es:ps[s]? = some (prn ps s):=by rw [h6 hs,bp (h6 hs)]
 obtain ⟨G,a1,a2⟩:=q _ (CZ er);obtain ⟨J,b1,b2⟩:=q _ (CZ es);have z:=Ap ht eq (G.trans J.symm) (a1.trans b1.symm) (a2.trans b2.symm) (k:=k) (i:=i) (j:=j);unfold flq;rw [mX (p:=prn ps s) (by rw [DU ne];exact es),mX er]
 lia
theorem yC {B:Nat} {ps:List Pr} (z:∀ p∈ps,BdP B p) {r s t:Nat} (h:mU ps r s t):∀ p∈flq ps r s t,BdP (2*B) p:=by
 obtain ⟨hr,hs,ht,ne,eq⟩:=h;have er:ps[r]? = some (prn ps r):=by rw [h6 hr,bp (h6 hr)]
 have es:ps[s]? = some (prn ps s):=by rw [h6 hs,bp (h6 hs)]
 obtain ⟨F,a1,a2⟩:=z _ (CZ er);obtain ⟨q,b1,b2⟩:=z _ (CZ es);have h2:B<=2*B:=by lia
 have two:BdP (2*B) (fpr (prn ps r) (prn ps s) t).1/\BdP (2*B) (fpr (prn ps r) (prn ps s) t).2:=by
  match t,ht with
  | 0,_=>exact ⟨⟨F.le h2,cy a1 b1,a2.le h2⟩,q.le h2,b1.le h2,cy b2 (gq a2)⟩
  | 1,_=>exact ⟨⟨cy F q,a1.le h2,a2.le h2⟩,q.le h2,b1.le h2,cy b2 (gq a2)⟩
  | 2,_=>exact ⟨⟨cy F q,a1.le h2,a2.le h2⟩,q.le h2,cy b1 (gq a1),b2.le h2⟩
 intro p j;unfold flq at j
 rcases Ee j with j | rfl
 ·rcases Ee j with j | rfl
  ·obtain ⟨G,c1,c2⟩:=z p j;exact ⟨G.le h2,c1.le h2,c2.le h2⟩
  ·exact two.1
 ·exact two.2
end
section
variable {T:List FD}
noncomputable def e9 (y:Str) (s:Stmt) (f:Nat):FD:=⟨"_law_same",s,["_law_found",y],2,
 (.cons (.ite (.tru (.isin2 (.var 1) "list" "tuple")) (.cons (.ite (.or (.cons (.cmp .ne (.isin (.var 1) "list") (.isin (.var 0) "list")) (.cons (.cmp .ne (.isin (.var 1) "tuple") (.isin (.var 0) "tuple")) .nil))) (.cons (.ret (.bl false))
 .nil) .nil)
 (.cons (.ret (.and (.cons (.cmp .eq (.blt .len (.cons (.var 0) .nil)) (.blt .len (.cons (.var 1) .nil))) (.cons (.blt .all (.cons (.comp [none,(some 0),(some 1)] ["_law_k", "_law_found",y] (.last (.rng1 (.blt .len (.cons (.var 1) .nil))) (.name 0) .nil (.call f (.cons (.ix (.var 1) (.var 0)) (.cons (.ix (.var 2) (.var 0)) .nil))))) .nil)) .nil))))
 .nil)) .nil)
 (.cons (.ret (.and (.cons (.isin (.var 0) "int") (.cons (.not (.isin (.var 0) "bool")) (.cons (.cmp .eq (.var 0) (.var 1)) .nil)))))
 .nil))⟩
theorem wx {M:Mem} {x d:D} {ds:List D} {i:Int} {Q:QD} (h:av M x=some ds) (e:atI ds i=some d) (q:Q d M):wIx x (.int i) M Q:=by
 cases x with
 | ref a =>
   simp only [av] at h
   split at h
   ·next j=>cases h;exact au j e q
   ·cases h
 | tup es=>cases h;exact ⟨i,d,rfl,e,q⟩
 | con es=>cases h;exact ⟨i,d,rfl,e,q⟩
 | _=>cases h
noncomputable def Sm (M:Mem):Nat->D->D->Prop
 | _, .int i, .int j=>i=j
 | n+1, .tup ds, .tup es=>ds.length<=100000/\ds.length=es.length /\ ∀ (k:Nat) d e,ds[k]? = some d->es[k]? = some e->Sm M n d e
 | n+1, .ref a, .ref b => ∃ ds es,M a=some (.lst ds)/\M b=some (.lst es)/\ds.length<=100000/\ds.length=es.length /\ ∀ (k:Nat) d e,ds[k]? = some d->es[k]? = some e->Sm M n d e
 | _,_,_=>False
theorem Sm.ge {M M':Mem} (g:Ge M M'):∀ {n:Nat} {x y:D},Sm M n x y->Sm M' n x y:=by
 intro n
 induction n with
 | zero=>intro x y h;cases x <;> cases y <;> first | exact h.elim | exact h
 | succ n ih =>
   intro x y h
   cases x <;> cases y <;> first
    | exact h.elim
    | (obtain ⟨ds,es,j,B,z,l,q⟩:=h;exact ⟨ds,es,g _ _ j,g _ _ B,z,l,fun k d e h1 h2=>ih (q k d e h1 h2)⟩)
    | (obtain ⟨z,l,q⟩:=h;exact ⟨z,l,fun k d e h1 h2=>ih (q k d e h1 h2)⟩)
    | exact h
theorem Sm.int {M:Mem} {n:Nat} {i:Int}:Sm M n (.int i) (.int i):=by unfold Sm;cases n <;> rfl
section
variable {f:Nat} {y:Str} {s:Stmt}
theorem mY (hf:T[f]? = some (e9 y s f)) {n:Nat} (j : 1<=n) {x:Int} {M:Mem} {Q:QD} (q:Q (.bl true) M):phi T n f [.int x, .int x] M Q:=by
 refine ar (by lia) hf rfl (ρ := [some _,some _]) rfl ?_
 unfold e9;walk_at "st";refine ⟨"int",rfl,false,rfl, ?_⟩;rw [if_neg (by decide)]
 walk_at "st";refine ⟨"int",rfl, ?_⟩;rw [if_pos (by decide)]
 refine ⟨"int",rfl, ?_⟩;rw [if_pos (by decide),beq_self_eq_true]
 exact q
theorem jM {n m:Nat} (ih:∀ {x y:D} {M:Mem} {Q:QD},Sm M n x y->(∀ M',Ge M M'->Q (.bl true) M')->phi T m f [x,y] M Q) {u v:D} {ds es:List D} {M:Mem} {N:NC} (F:av M u=some ds) (G:av M v=some es) (z:ds.length<=100000) (l:ds.length=es.length)
 (h:∀ (k:Nat) d e,ds[k]? = some d->es[k]? = some e->Sm M n d e) (q:∀ ρ M',Ge M M'->N ρ M' (es.map fun _ => .bl true)) :
 ba (bC 0) (ck (wAr (phi T m f) (aH (wOp wIx (cr 1) (cr 0)) (aH (wOp wIx (cr 2) (cr 0)) bw)))) (fun _=>True) N (bj 0 (es.length:Int).toNat) [none,some u,some v] M []:=by
 refine bM (f:=fun i=>D.int (i:Nat)) (I:=fun l ρ M' acc=>(∃ o0, ρ = [o0,some u,some v])/\Ge M M'/\acc=l.map fun _ => .bl true) bE ⟨⟨_,rfl⟩,Ge.refl,rfl⟩ (fun _ _ _ _ _=>trivial) ?_ ?_
 ·rintro l' i r ρ M1 acc e ⟨⟨o0,rfl⟩,g,rfl⟩;refine ⟨_,rfl,fun N' j => ?_⟩;have B:=aG e;rw [E2] at B;have hi:i < es.length:=by
   have:i∈CP (es.length:Int).toNat:=by rw [e];simp
   have:=Fz.mp this;lia
  walk_at "wp";have h1:ds[i]? = some ds[i]:=h6 (by lia)
  have h2:es[i]? = some es[i]:=h6 hi;refine wx (oA F g) (ao h1) (wx (oA G g) (ao h2) (ih ((h i _ _ h1 h2).ge g) fun M2 g2 => ?_));refine ⟨by rw [v5,hB];lia,j _ _ _ ⟨⟨_,rfl⟩,g.trans g2,by simp⟩⟩
 ·rintro ρ M1 acc ⟨⟨o0,rfl⟩,g,rfl⟩;have e:(CP (es.length:Int).toNat).map (fun _=>D.bl true)=es.map fun _ => .bl true:=by
   rw [K6,K6];simp
  rw [e];exact q _ M1 g
theorem mZ:∀ es:List D,aF lH (es.map fun _ => .bl true)=some (es.map fun _=>true)
 | [] => rfl
 | e::es=>by rw [CJ,CJ];simp only [aF,lH,mZ es];rfl
theorem n6 {es:List D} {p:Addr} {M:Mem} {Q:QD} (q:Q (.bl true) (af M p (.lst (es.map fun _ => .bl true)))):pU [.ref p] (af M p (.lst (es.map fun _ => .bl true))) Q:=by
 refine ⟨_,_,es.map (fun _=>true),rfl,ag ad,mZ es, ?_⟩;rw [show ((es.map fun _=>true).all id)=true by simp]
 exact q
theorem yD (hf:T[f]? = some (e9 y s f)):∀ {n m:Nat},n+1<=m -> ∀ {u v:D} {M:Mem} {Q:QD},Sm M n u v->(∀ M',Ge M M'->Q (.bl true) M')->phi T m f [u,v] M Q:=by
 intro n
 induction n with
 | zero =>
   intro m hm u v M Q h q
   cases u <;> cases v <;> first
    | exact h.elim
    | (have e:=h;unfold Sm at e;subst e;exact mY hf (by lia) (q _ Ge.refl))
 | succ n ih =>
   intro m hm u v M Q h q
   cases u <;> cases v <;> first
    | exact h.elim
    | (have e:=h;unfold Sm at e;subst e;exact mY hf (by lia) (q _ Ge.refl))
    | skip
   case tup.tup ds es =>
    obtain ⟨z,l,h⟩:=h;refine ar (by lia) hf rfl (ρ := [some _,some _]) rfl ?_
    unfold e9;walk_at "st";refine ⟨"tuple",rfl,true,rfl, ?_⟩;rw [if_pos rfl];walk_at "st";refine ⟨"tuple",rfl, "tuple",rfl,_,_,rfl,rfl,false,rfl, ?_⟩;rw [if_neg (by decide)]
    refine ⟨"tuple",rfl, "tuple",rfl,_,_,rfl,rfl,false,rfl, ?_⟩;rw [if_neg (by decide)]
    walk_at "st";rw [if_pos (by simp [l])]
    refine ⟨by lia,by lia, ?_⟩
    exact jM (ih (m:=m - 1) (by lia)) rfl rfl z l h fun ρ M' g p hp=>n6 (q _ (g.trans (Ge.new hp)))
   case ref.ref a b =>
    obtain ⟨ds,es,B,j,z,l,h⟩:=h;refine ar (by lia) hf rfl (ρ := [some _,some _]) rfl ?_
    unfold e9;have t1:tyN M (.ref a)=some "list" := by simp [tyN,B]
    have F:tyN M (.ref b)=some "list" := by simp [tyN,j]
    walk_at "st";refine ⟨"list",F,true,rfl, ?_⟩;rw [if_pos rfl];walk_at "st";refine ⟨"list",F, "list",t1,_,_,rfl,rfl,false,rfl, ?_⟩;rw [if_neg (by decide)]
    refine ⟨"list",F, "list",t1,_,_,rfl,rfl,false,rfl, ?_⟩;rw [if_neg (by decide)]
    walk_at "st";refine jg (ag B) (jg (ag j) ?_);walk_at "wp";rw [if_pos (by simp [l])]
    refine jg (ag j) ?_;refine ⟨_,rfl,by lia,by lia, ?_⟩
    exact jM (ih (m:=m - 1) (by lia)) (ag B) (ag j) z l h fun ρ M' g p hp=>n6 (q _ (g.trans (Ge.new hp)))
end
end
section
open PySem PySem.Spec PyProof.Rows L2.Srt
theorem fT {M:Mem} {n:Nat} {l:List Int} (j:l.length<=100000):Sm M (n+1) (.tup (l.map .int)) (.tup (l.map .int)):=by
 refine ⟨by rw [v5];exact j,rfl,fun k d e h1 h2 => ?_⟩
 rw [h1] at h2;cases h2;rw [CK] at h1;obtain ⟨i,_,rfl⟩:=EF.mp h1;exact Sm.int
theorem yE {M:Mem} {p:Pr} (h:p.1.length<=100000/\p.2.1.length<=100000/\p.2.2.length<=100000):Sm M 2 (prD p) (prD p):=by
 refine ⟨by simp,rfl,fun k d e h1 h2 => ?_⟩
 rw [h1] at h2;cases h2;have hm:=CZ h1;simp only [CC,D0,or_false] at hm
 rcases hm with rfl | rfl | rfl
 ·exact fT h.1
 ·exact fT h.2.1
 ·exact fT h.2.2
theorem oP {M:Mem} {x y z:Int} {a b:Addr} {qs:List Pr} (j:qs.length<=100000) (q:M a=some (.lst (qs.map prD))) (B:M b=some (.lst (qs.map prD))) (h:∀ p∈qs,p.1.length<=100000/\p.2.1.length<=100000/\p.2.2.length<=100000) :
 Sm M 4 (.tup [.int x, .int y, .int z, .ref a]) (.tup [.int x, .int y, .int z, .ref b]):=by
 refine ⟨by simp,rfl,fun k d e h1 h2 => ?_⟩
 have:k=0∨k=1∨k=2∨k=3:=by
  have:=(CI.mp h1).1;simp at this;lia
 rcases this with rfl | rfl | rfl | rfl
 ·cases h1;cases h2;exact Sm.int
 ·cases h1;cases h2;exact Sm.int
 ·cases h1;cases h2;exact Sm.int
 ·cases h1;cases h2
  refine ⟨_,_,q,B,by rw [v5];exact j,rfl,fun k d e h1 h2 => ?_⟩
  rw [h1] at h2;cases h2;rw [CK] at h1;obtain ⟨p,F,rfl⟩:=EF.mp h1;exact yE (h p (CZ F))
theorem Ar:∀ ns:List Int,Fn (ns.map .int) (ns.map .int)=true
 | [] => rfl
 | n::ns=>by simp [Fn,EI,Ar ns]
theorem As:∀ ps:List Pr,Fn (ps.map eR) (ps.map eR)=true
 | [] => rfl
 | p::ps=>by simp [Fn,EI,As ps,eR,Ar]
theorem wy {M:Mem} {a:Addr} {ps:List Pr} (h:M a=some (.lst (ps.map prD))):rb 16 M (.ref a)=some (.list (ps.map eR)):=by rw [Al h,t5];rfl
theorem Bi {M:Mem} {a b:Addr} {ps:List Pr} {Q:QD} (j:M a=some (.lst (ps.map prD))) (z:M b=some (.lst (ps.map prD))) (q:Q (.bl false) M):wNe (.ref a) (.ref b) M Q:=by
 refine ⟨_,_,wy j,wy z, ?_⟩;rw [show EI (.list (ps.map eR)) (.list (ps.map eR))=true by simp [EI,As]]
 exact q
theorem n8 {a b c:Nat}:∀ {ps:List Pr},(∀ p∈ps,p.1.length<=a/\p.2.1.length<=b/\p.2.2.length<=c)->(aP ps).length<=ps.length*(a*(b*c))
 | [],_=>by simp [aP]
 | p::ps,h=>by
   rw [show aP (p::ps)=dN p++aP ps by simp [aP],z4,D4,F7]
   have h1:=n8 (ps:=ps) fun q j=>h q (by simp [j])
   obtain ⟨x,y,z⟩:=h p (by simp)
   have h2:(dN p).length<=a*(b*c):=by
    unfold dN;rw [gY];have:=mz (l:=p.1);have:=mz (l:=p.2.1);have:=mz (l:=p.2.2);exact GD (by lia) (GD (by lia) (by lia))
   lia
theorem oQ {L:List Tm}:∀ kv∈L.map kcD, ∃ i,kv.2 = .int i:=fun kv h=>by
 obtain ⟨t,_,rfl⟩:=Ej.mp h;exact ⟨t.2,rfl⟩
end
section
open PySem PySem.Spec PyProof.Rows L2.Srt
variable {T:List FD}
def yF (T:List FD) (n f:Nat):Prop := ∀ {L0 L1 L2:Nat} {x y z:Int} {p0:Addr} {ps:List Pr} {M:Mem} {Q:QD},Tdy L0 L1 L2 ps->ps.length<=1000->M p0=some (.lst (ps.map prD))->(∀ pr M',Ge M M'->M pr=none->M' pr=some (.lst ((flp ps).map k3D))->Q (.ref pr) M')->phi T n f [.tup [.int x, .int y, .int z, .ref p0]] M Q
end
section
namespace K36
noncomputable def ai (i:Nat):Stmt:=PySem.Challenge.pw_fewtimes_k36_flipped.main.body.getD i (.Pass ⟨0,0,0,0⟩)
noncomputable def d0:FD:=cF (ai 6)
noncomputable def d1:FD:=e8 (ai 7)
noncomputable def d2:FD:=bZ (ai 8)
noncomputable def d3:FD:=eW (ai 9) 1 0
noncomputable def d4:FD:=fR (ai 10) 2 3
noncomputable def d5:FD:=iR (ai 12)
noncomputable def b6:MSs :=
 (.cons (.asg (.name 2) (.bin .mod (.bin .mul (.bin .add (.bin .add (.bin .mod (.var 0) (.int 1000000007)) (.bin .mul (.int 7) (.var 1))) (.int 1)) (.int 48271)) (.int 2147483647)))
 (.cons (.asg (.name 3) (.bin .mod (.bin .mul (.var 2) (.bin .add (.bin .add (.bin .mod (.var 2) (.int 1009)) (.var 1)) (.int 3))) (.int 998244353)))
 (.cons (.ret (.bin .fdiv (.bin .mod (.bin .add (.bin .mul (.var 3) (.int 39373)) (.var 2)) (.int 2147483629)) (.int 64)))
 .nil)))
noncomputable def d6:FD:=⟨"_law_mixed",ai 13,["_law_number", "_law_k", "_law_once", "_law_twice"],2,b6⟩
noncomputable def d7:FD:=qp (ai 14) 5 6
noncomputable def d8:FD:=m8 (ai 15) 6
noncomputable def d9:FD:=e9 "_law_due" (ai 16) 9
noncomputable def d10:FD:=fQ "_law_part" "_law_number" (ai 17)
noncomputable def d11:FD:=mF "_law_scheme" (ai 18) 10
noncomputable def d12:FD:=mM "_law_number" (ai 19) 8
noncomputable def d13:FD:=mQ (ai 20) 8 12
noncomputable def d14:FD:=h9 "_law_about" "_law_part" "_law_number" (ai 21)
noncomputable def d15:FD:=hJ (ai 22)
noncomputable def d16:FD:=hW (ai 23)
noncomputable def d17:FD:=eX (ai 24) 15 14
noncomputable def d18:FD:=fS (ai 25) 21
noncomputable def d19:FD:=mW (ai 26) 8
noncomputable def b20:MSs :=
 (.cons (.for (.name 1) (.rng1 (.bin .add (.int 1) (.blt .min2 (.cons (.int 9) (.cons (.blt .len (.cons (.var 0) .nil)) .nil))))) (.cons (.asg (.name 2) (.call 7 (.cons (.var 0) (.cons (.var 1) .nil))))
 (.cons (.asg (.name 3) (.call 13 (.cons (.var 2) (.cons (.int 9) .nil))))
 (.cons (.asg (.name 4) (.call 16 (.cons (.var 3) .nil)))
 (.cons (.asg (.name 5) (.blt .list (.cons (.ix (.var 3) (.int 3)) .nil)))
 (.cons (.for (.name 6) (.rng1 (.blt .min2 (.cons (.int 12) (.cons (.blt .len (.cons (.var 4) .nil)) .nil)))) (.cons (.asg (.name 7) (.ix (.var 4) (.call 8 (.cons (.var 2) (.cons (.blt .len (.cons (.var 4) .nil)) .nil)))))
 (.cons (.asg (.name 8) (.call 17 (.cons (.var 3) (.cons (.var 7) .nil))))
 (.cons (.asg (.name 9) (.call 4 (.cons (.var 3) (.cons (.var 7) .nil))))
 (.cons (.ite (.or (.cons (.not (.tru (.call 9 (.cons (.var 9) (.cons (.var 8) .nil))))) (.cons (.cmp .neD (.call 11 (.cons (.var 8) .nil)) (.call 11 (.cons (.var 3) .nil))) .nil))) (.cons (.ret (.bl false))
 .nil) .nil)
 (.cons (.drop (.meth0 .clear (.ix (.var 9) (.int 3))))
 (.cons (.ite (.not (.tru (.call 9 (.cons (.call 4 (.cons (.var 3) (.cons (.var 7) .nil))) (.cons (.var 8) .nil))))) (.cons (.ret (.bl false))
 .nil) .nil)
 .nil)))))))
 (.cons (.for (.name 7) (.seq (.call 19 (.cons (.var 2) (.cons (.var 3) (.cons (.var 4) .nil))))) (.cons (.ite (.not (.tru (.call 18 (.cons (.var 3) (.cons (.var 7) .nil))))) (.cons (.ret (.bl false))
 .nil) .nil)
 .nil))
 (.cons (.ite (.cmp .ne (.ix (.var 3) (.int 3)) (.var 5)) (.cons (.ret (.bl false))
 .nil) .nil)
 .nil))))))))
 (.cons (.ret (.bl true))
 .nil))
noncomputable def d20:FD:=⟨"law",ai 27,["_law_script", "_law_k", "_law_box_here", "_law_scheme", "_law_some", "_law_kept", "_law_turn", "_law_flip", "_law_due", "_law_found"],1,b20⟩
noncomputable def d21:FD:=mV (ai 10) 2
noncomputable def tab:List FD := [d0,d1,d2,d3,d4,d5,d6,d7,d8,d9,d10,d11,d12,d13,d14,d15,d16,d17,d18,d19,d20,d21]
noncomputable def n9:List (Str×D) := []
end K36
end
section
namespace K36
theorem Au:((CP 21).all fun i=>i==18 || (tab[i]?).all (je ((tab.take 21).map (·.name)) n9))=true:=by decide +kernel
noncomputable abbrev PA (K:Frag) (x:Str) (f:Addr):Prop:=FJ K Dl x=some (some (.ref f))
noncomputable abbrev PL (K:Frag) (f:Addr) (x:Str) (s:Stmt) (oc:e6) (od:Option Addr) (kV dc pm:e6) (an:Option Addr) (cd ct:e6) (sl:Array (Option e6)):Prop:=K.lookup f=some ⟨oc,od, .func (EE x x (cT s) (bh s) (aj s) .none kV dc pm an cd ct),sl⟩
noncomputable abbrev PC (K:Frag) (c:e6) (x:Str):Prop:=Gr K c x=true
noncomputable abbrev PK (K:Frag) (f:Addr):Prop:=E9 K (.ref f)=true
theorem all_mk {l:HA} {w:CT} {K:Frag} {h:Heap} {mg:Str->Option e6} {fa:Addr} (X:K.In h) (G:h.Ns Dl mg) (hfa:mg "law" = some (.ref fa)) (z:∀ x∈bltNames,FJ K Dl x=some none)
 (a0:PA K "negated" f0) (l0:PL K f0 "negated" (ai 6) oc0 od0 kV0 dc0 pm0 an0 cd0 ct0 sl0) (c0:PC K cd0 "negated") (k0:PK K f0)
 (a1:PA K "added" f1) (l1:PL K f1 "added" (ai 7) oc1 od1 kV1 dc1 pm1 an1 cd1 ct1 sl1) (c1:PC K cd1 "added") (k1:PK K f1)
 (a2:PA K "is_flip" f2) (l2:PL K f2 "is_flip" (ai 8) oc2 od2 kV2 dc2 pm2 an2 cd2 ct2 sl2) (c2:PC K cd2 "is_flip") (k2:PK K f2)
 (a3:PA K "flipped_pair" f3) (l3:PL K f3 "flipped_pair" (ai 9) oc3 od3 kV3 dc3 pm3 an3 cd3 ct3 sl3) (c3:PC K cd3 "flipped_pair") (k3:PK K f3)
 (a4:PA K "flipped" f4) (l4:PL K f4 "flipped" (ai 10) oc4 od4 kV4 dc4 pm4 an4 cd4 ct4 sl4) (c4:PC K cd4 "flipped") (k4:PK K f4)
 (a5:PA K "_law_cell_at" f5) (l5:PL K f5 "_law_cell_at" (ai 12) oc5 od5 kV5 dc5 pm5 an5 cd5 ct5 sl5) (c5:PC K cd5 "_law_cell_at") (k5:PK K f5)
 (a6:PA K "_law_mixed" f6) (l6:PL K f6 "_law_mixed" (ai 13) oc6 od6 kV6 dc6 pm6 an6 cd6 ct6 sl6) (c6:PC K cd6 "_law_mixed") (k6:PK K f6)
 (a7:PA K "_law_box" f7) (l7:PL K f7 "_law_box" (ai 14) oc7 od7 kV7 dc7 pm7 an7 cd7 ct7 sl7) (c7:PC K cd7 "_law_box") (k7:PK K f7)
 (a8:PA K "_law_take" f8) (l8:PL K f8 "_law_take" (ai 15) oc8 od8 kV8 dc8 pm8 an8 cd8 ct8 sl8) (c8:PC K cd8 "_law_take") (k8:PK K f8)
 (a9:PA K "_law_same" f9) (l9:PL K f9 "_law_same" (ai 16) oc9 od9 kV9 dc9 pm9 an9 cd9 ct9 sl9) (c9:PC K cd9 "_law_same") (k9:PK K f9)
 (a10:PA K "_law_nonzero" f10) (l10:PL K f10 "_law_nonzero" (ai 17) oc10 od10 kV10 dc10 pm10 an10 cd10 ct10 sl10) (c10:PC K cd10 "_law_nonzero") (k10:PK K f10)
 (a11:PA K "_law_sums" f11) (l11:PL K f11 "_law_sums" (ai 18) oc11 od11 kV11 dc11 pm11 an11 cd11 ct11 sl11) (c11:PC K cd11 "_law_sums") (k11:PK K f11)
 (a12:PA K "_law_pool" f12) (l12:PL K f12 "_law_pool" (ai 19) oc12 od12 kV12 dc12 pm12 an12 cd12 ct12 sl12) (c12:PC K cd12 "_law_pool") (k12:PK K f12)
 (a13:PA K "_law_near_scheme" f13) (l13:PL K f13 "_law_near_scheme" (ai 20) oc13 od13 kV13 dc13 pm13 an13 cd13 ct13 sl13) (c13:PC K cd13 "_law_near_scheme") (k13:PK K f13)
 (a14:PA K "_law_about" f14) (l14:PL K f14 "_law_about" (ai 21) oc14 od14 kV14 dc14 pm14 an14 cd14 ct14 sl14) (c14:PC K cd14 "_law_about") (k14:PK K f14)
 (a15:PA K "_law_added" f15) (l15:PL K f15 "_law_added" (ai 22) oc15 od15 kV15 dc15 pm15 an15 cd15 ct15 sl15) (c15:PC K cd15 "_law_added") (k15:PK K f15)
 (a16:PA K "_law_flips" f16) (l16:PL K f16 "_law_flips" (ai 23) oc16 od16 kV16 dc16 pm16 an16 cd16 ct16 sl16) (c16:PC K cd16 "_law_flips") (k16:PK K f16)
 (a17:PA K "_law_flipped" f17) (l17:PL K f17 "_law_flipped" (ai 24) oc17 od17 kV17 dc17 pm17 an17 cd17 ct17 sl17) (c17:PC K cd17 "_law_flipped") (k17:PK K f17)
 (a18:PA K "_law_refused" f18) (l18:PL K f18 "_law_refused" (ai 25) oc18 od18 kV18 dc18 pm18 an18 cd18 ct18 sl18) (c18:PC K cd18 "_law_refused") (k18:PK K f18)
 (a19:PA K "_law_none" f19) (l19:PL K f19 "_law_none" (ai 26) oc19 od19 kV19 dc19 pm19 an19 cd19 ct19 sl19) (c19:PC K cd19 "_law_none") (k19:PK K f19)
 (a20:PA K "law" f20) (l20:PL K f20 "law" (ai 27) oc20 od20 kV20 dc20 pm20 an20 cd20 ct20 sl20) (c20:PC K cd20 "law") (k20:PK K f20)
 (uC:PA K "NoFlip" fC) (uD:PA K "TimesError" fD) (uE:PA K "BadRow" fE) (uF:PA K "BadStep" fF) (uV:FJ K Dl "ValueError" = some none)
 (x1:ES K fC [.type "ValueError", .type "Exception", .type "BaseException", .type "object"] "ValueError.__new__" = true) (x2:ES K fD [.type "ValueError", .type "Exception", .type "BaseException", .type "object"] "ValueError.__new__" = true) (x3:Fl K (.ref fC) (.ref fD)=some true) (x4:EX K (.ref fC) (.type "ValueError")=some true) (x5:F0 K (.ref fC) [.ref fE, .ref fF]=some false)
 (y1:Dr K (.ref fC) "__getattribute__" = some (some (.builtin "BaseException.__getattribute__"))) (y2:Dr K (.ref fC) "__getattr__" = some none) (y3:Dr K (.ref fC) "__class__" = some (some (.builtin "object.__class__"))) (y7:GL K (.builtin "object.__class__") "__get__" = some (some (.builtin "getset_descriptor.__get__"))) (y8:Hx K (.builtin "object.__class__")=some true) (y4:Fh K fC (.type "object")=some true) (y5:Fl K (.ref fC) (.type "BaseException")=some true) (y6:K5 K fC=true)
 : ∃ fd:Eh,(∀ (s:h7) (v:e6),Jd s fd ⟨[v],[]⟩ [("_law_script",v)]) /\ ∀ base:Heap,K.In base->base.Ns Dl mg->bu l.prog w K mg base CX0 40 fa fd ["_law_script"] (lSp K (phi tab 40 20)):=by
 have e:=hfa.symm.trans (CH X G a20)
 cases e
 have O:Ae K mg tab 21 18 n9:=by
  refine ⟨fun x hx=>J0 X G (z x hx), ?_,B9 Au, ?_⟩
  ·intro i d hd
   match i,hd with
   | 0,hd=>cases hd;exact ⟨_,_,ah l0 c0 k0,CH X G a0,a0,(ah l0 c0 k0).binds fun _ _ _ _ _ _ us hl=>by obtain ⟨u0,rfl⟩:=eP us hl;rfl⟩
   | 1,hd=>cases hd;exact ⟨_,_,ah l1 c1 k1,CH X G a1,a1,(ah l1 c1 k1).binds fun _ _ _ _ _ _ us hl=>by obtain ⟨u0,u1,rfl⟩:=bD us hl;rfl⟩
   | 2,hd=>cases hd;exact ⟨_,_,ah l2 c2 k2,CH X G a2,a2,(ah l2 c2 k2).binds fun _ _ _ _ _ _ us hl=>by obtain ⟨u0,u1,rfl⟩:=bD us hl;rfl⟩
   | 3,hd=>cases hd;exact ⟨_,_,ah l3 c3 k3,CH X G a3,a3,(ah l3 c3 k3).binds fun _ _ _ _ _ _ us hl=>by obtain ⟨u0,u1,u2,rfl⟩:=wl us hl;rfl⟩
   | 4,hd=>cases hd;exact ⟨_,_,ah l4 c4 k4,CH X G a4,a4,(ah l4 c4 k4).binds fun _ _ _ _ _ _ us hl=>by obtain ⟨u0,u1,rfl⟩:=bD us hl;rfl⟩
   | 5,hd=>cases hd;exact ⟨_,_,ah l5 c5 k5,CH X G a5,a5,(ah l5 c5 k5).binds fun _ _ _ _ _ _ us hl=>by obtain ⟨u0,u1,rfl⟩:=bD us hl;rfl⟩
   | 6,hd=>cases hd;exact ⟨_,_,ah l6 c6 k6,CH X G a6,a6,(ah l6 c6 k6).binds fun _ _ _ _ _ _ us hl=>by obtain ⟨u0,u1,rfl⟩:=bD us hl;rfl⟩
   | 7,hd=>cases hd;exact ⟨_,_,ah l7 c7 k7,CH X G a7,a7,(ah l7 c7 k7).binds fun _ _ _ _ _ _ us hl=>by obtain ⟨u0,u1,rfl⟩:=bD us hl;rfl⟩
   | 8,hd=>cases hd;exact ⟨_,_,ah l8 c8 k8,CH X G a8,a8,(ah l8 c8 k8).binds fun _ _ _ _ _ _ us hl=>by obtain ⟨u0,u1,rfl⟩:=bD us hl;rfl⟩
   | 9,hd=>cases hd;exact ⟨_,_,ah l9 c9 k9,CH X G a9,a9,(ah l9 c9 k9).binds fun _ _ _ _ _ _ us hl=>by obtain ⟨u0,u1,rfl⟩:=bD us hl;rfl⟩
   | 10,hd=>cases hd;exact ⟨_,_,ah l10 c10 k10,CH X G a10,a10,(ah l10 c10 k10).binds fun _ _ _ _ _ _ us hl=>by obtain ⟨u0,rfl⟩:=eP us hl;rfl⟩
   | 11,hd=>cases hd;exact ⟨_,_,ah l11 c11 k11,CH X G a11,a11,(ah l11 c11 k11).binds fun _ _ _ _ _ _ us hl=>by obtain ⟨u0,rfl⟩:=eP us hl;rfl⟩
   | 12,hd=>cases hd;exact ⟨_,_,ah l12 c12 k12,CH X G a12,a12,(ah l12 c12 k12).binds fun _ _ _ _ _ _ us hl=>by obtain ⟨u0,u1,rfl⟩:=bD us hl;rfl⟩
   | 13,hd=>cases hd;exact ⟨_,_,ah l13 c13 k13,CH X G a13,a13,(ah l13 c13 k13).binds fun _ _ _ _ _ _ us hl=>by obtain ⟨u0,u1,rfl⟩:=bD us hl;rfl⟩
   | 14,hd=>cases hd;exact ⟨_,_,ah l14 c14 k14,CH X G a14,a14,(ah l14 c14 k14).binds fun _ _ _ _ _ _ us hl=>by obtain ⟨u0,rfl⟩:=eP us hl;rfl⟩
   | 15,hd=>cases hd;exact ⟨_,_,ah l15 c15 k15,CH X G a15,a15,(ah l15 c15 k15).binds fun _ _ _ _ _ _ us hl=>by obtain ⟨u0,u1,rfl⟩:=bD us hl;rfl⟩
   | 16,hd=>cases hd;exact ⟨_,_,ah l16 c16 k16,CH X G a16,a16,(ah l16 c16 k16).binds fun _ _ _ _ _ _ us hl=>by obtain ⟨u0,rfl⟩:=eP us hl;rfl⟩
   | 17,hd=>cases hd;exact ⟨_,_,ah l17 c17 k17,CH X G a17,a17,(ah l17 c17 k17).binds fun _ _ _ _ _ _ us hl=>by obtain ⟨u0,u1,rfl⟩:=bD us hl;rfl⟩
   | 18,hd=>cases hd;exact ⟨_,_,ah l18 c18 k18,CH X G a18,a18,(ah l18 c18 k18).binds fun _ _ _ _ _ _ us hl=>by obtain ⟨u0,u1,rfl⟩:=bD us hl;rfl⟩
   | 19,hd=>cases hd;exact ⟨_,_,ah l19 c19 k19,CH X G a19,a19,(ah l19 c19 k19).binds fun _ _ _ _ _ _ us hl=>by obtain ⟨u0,u1,u2,rfl⟩:=wl us hl;rfl⟩
   | 20,hd=>cases hd;exact ⟨_,_,ah l20 c20 k20,CH X G a20,a20,(ah l20 c20 k20).binds fun _ _ _ _ _ _ us hl=>by obtain ⟨u0,rfl⟩:=eP us hl;rfl⟩
   | 21,hd=>cases hd;exact ⟨_,_,ah l4 c4 k4,CH X G a4,a4,(ah l4 c4 k4).binds fun _ _ _ _ _ _ us hl=>by obtain ⟨u0,u1,rfl⟩:=bD us hl;rfl⟩
   | i+22,hd=>simp [tab] at hd
  ·intro x i hx;simp only [n9,CC,D0,or_false,Prod.mk.injEq] at hx
 refine ⟨EE "law" "law" (cT (ai 27)) (bh (ai 27)) (aj (ai 27)) .none kV20 dc20 pm20 an20 cd20 ct20,fun s v => .of_eq rfl,fun base _ _ => ?_⟩;obtain ⟨Sm,hm,_⟩:=gW (Γ := []) (cs := []) (d := { d21 with body := .cons .bot (.cons .bot (.cons .bot (.cons .bot (.cons .bot (.cons .bot .nil))))) }) (by decide +kernel)
 obtain ⟨Sr,hr,_⟩:=gW (Γ := []) (cs := []) (d := { d18 with body := .cons .bot (.cons .bot (.cons .bot .nil)) }) (by decide +kernel)
 obtain ⟨fm,fdm,Fm,mm,_,bm⟩:=O.fns 21 d21 rfl;refine (ou (m := 21) (r := 18) (dm:=d21) (dr:=d18) (C:=fC) O rfl Sm.nd Sr.nd (fun k f fd Gx F => ?_) (fun k f fd Gx Fx F => ?_) 40).1 20 d20 _ _ rfl (by decide) (ah l20 c20 k20)
 ·exact Ad (d:=d21) (xr := "NoFlip") rfl rfl rfl F Sm hm (fun cdv A outer s H E hr=>Gx f cdv A outer s H E hr) Sm.kind (by decide +kernel) (by decide +kernel) (by decide +kernel) (CH X G uC) x1 (by decide) (fun X => .inr ⟨_,yO⟩)
 ·exact yc (d:=d18) (d1:=d21) (m := 21) (i0 := 18) (ie := 3) (i := 2) (C:=fC) (D:=fD) (B1:=fE) (B2:=fF) (n := "e") (c1 := "NoFlip") (c2 := "ValueError") (b1 := "BadRow") (b2 := "BadStep") (xD := "TimesError") (x := "_law_found") rfl rfl rfl F Sr hr (fun cdv A outer s H E hr=>Gx f cdv A outer s H E hr)
   (fun Y e1 e2 e3=>⟨by show Y.env.scope.names.lookup _=_;rw [e3];decide +kernel,by rw [e1];exact O.blt _ (by decide),by show Y.env.scope.names.lookup _=_;rw [e3];decide +kernel,by rw [e1];exact CH X G uC,by decide,by show Y.env.scope.names.lookup _=_;rw [e3];decide +kernel,by rw [e1];exact J0 X G uV,by decide +kernel,by decide,by decide,
     by show Y.env.scope.names.lookup _=_;rw [e3];decide +kernel,by rw [e1];exact CH X G uE,by decide,by show Y.env.scope.names.lookup _=_;rw [e3];decide +kernel,by rw [e1];exact CH X G uF,by decide,by show Y.env.scope.names.lookup _=_;rw [e3];decide +kernel,by rw [e1];exact CH X G uD,by decide,
     by rw [e2];exact yd y1 y2 y3 y7 y8 y4 y5 y6,by rw [e2];exact x2,by rw [e2];exact x3,by rw [e2];exact x4,by rw [e2];exact x5⟩)
   rfl (by decide +kernel) rfl (by decide +kernel) (by decide) (by decide) (by decide) (by decide) (by decide) (Fx fm fdm Fm) (by decide +kernel) mm Fm.kp bm (by decide +kernel) (by decide) (fun _=>rfl) (fun _=>rfl) (fun _=>rfl)
theorem walk {l:HA} {q:CG} {loose:List Str} {XP:(Str->Option e6)->Heap->Prop} {YP:CT->Heap->Prop} {d:DefRec} {K:Params->Frag} (hn:l.most=some 63) (hdf:d.params.defaults=[])
 (hlaw:∀ ns:List Int,ns.length<=63->phi tab 40 20 [.con (ns.map D.int)] (fun _=>none) fun d _=>d = .bl true)
 (hY:∀ (w:CT) (h:Heap),YP w h->(K w.params).In h)
 (F:∀ (w:CT) (mg:Str->Option e6) (fa:Addr) (h:Heap),(K w.params).In h->h.Ns Dl mg->mg d.name=some (.ref fa) ->
   ∃ fd:Eh,(∀ (s:h7) (u:e6),Jd s fd ⟨[u],[]⟩ [("_law_script",u)]) /\ ∀ base:Heap,(K w.params).In base->base.Ns Dl mg->bu l.prog w (K w.params) mg base CX0 40 fa fd ["_law_script"] (lSp (K w.params) (phi tab 40 20))) :
 PySem.W.WalkO q loose XP YP l.row.toRowW d [] (fun f vs=>Kg f vs) :=
 L2.walk_of (n := 63) (k := 40) (x := "_law_script") (CX:=fun _=>CX0) (sp:=fun w=>lSp (K w.params) (phi tab 40 20)) hn (by decide) hdf ⟨rfl,by decide,by decide⟩ hY F (fun w H a ns hl hO hS=>Ac hO hS (hlaw ns hl)) fun _ _ _ _ _ z=>z
end K36
end
section
namespace K36
theorem oR {n:Nat} (j : 1<=n):qq tab n 6:=t6 (x := "_law_number") (s:=ai 13) rfl j
theorem eY {n:Nat} (j : 2<=n):du tab n 8:=fun z h1 h2 q=>yj (s:=ai 15) (fm := 6) rfl (oR (by lia)) j z h1 h2 q
theorem nc {n m:Nat} (j:n+1<=m) {u v:D} {M:Mem} {Q:QD} (h:Sm M n u v) (q:∀ M',Ge M M'->Q (.bl true) M'):phi tab m 9 [u,v] M Q:=yD (s:=ai 16) (y := "_law_due") rfl j h q
theorem Av {n:Nat} (j : 1<=n):Am tab n 10:=fun z q=>qu (s:=ai 17) (xp := "_law_part") (xn := "_law_number") rfl j z q
theorem nh {n:Nat} (G : 2<=n) {x0 x1 j:D} {p:Addr} {ps:List Pr} {M:Mem} {Q:QD} (z:M p=some (.lst (ps.map prD))) (B:(aP ps).length<=10000000) (F:∀ p∈ps,vG p)
 (q:∀ (L:List Tm) d M',wu ps L->L.length<=10000000->Ge M M'->M d=none->M' d=some (.dct true (L.map kcD))->Q (.ref d) M'):phi tab n 11 [.tup [x0,x1,j, .ref p]] M Q:=yo (s:=ai 18) (xs := "_law_scheme") (fz := 10) rfl (Av (by lia)) (by lia) z B F q
theorem gD {n:Nat} (j : 3<=n):dJ tab n 4:=qB (s:=ai 10) (si:=ai 8) (sp:=ai 9) (sa:=ai 7) (sn:=ai 6) (fi := 2) (fp := 3) (fa := 1) (fn := 0) rfl rfl rfl rfl rfl j
theorem tH {n:Nat} (j : 1<=n):mJ tab n 14:=fun z q=>tw (nm := "_law_about") (xp := "_law_part") (xn := "_law_number") (s:=ai 21) rfl j z q
theorem qD {n:Nat} (z : 1<=n):mK tab n 15:=fun B j q=>tz (s:=ai 22) rfl z B j q
theorem qE {n:Nat} (j : 1<=n):yF tab n 16:=fun _ z h0 q=>tE (s:=ai 23) rfl j z h0 q
theorem ni {n:Nat} (j : 2<=n):dJ tab n 17:=nG (s:=ai 24) (fa := 15) (fb := 14) rfl (qD (by lia)) (tH (by lia)) (by lia)
theorem vK {n:Nat} (B : 3<=n):tD tab n 12:=fun j z q=>yt (s:=ai 19) (xn := "_law_number") (ft := 8) rfl (eY (by lia)) (by lia) j z q
theorem oS {j q L2 B:Nat} (h0:j<=12) (h1:q<=12) (h2:L2<=12) (L:B<=1000000000000) {ps:List Pr} (F:Lns j q L2 ps) (G:∀ p∈ps,BdP B p):∀ p∈ps,vG p:=fun p z=>by
 obtain ⟨O,l1,l2⟩:=F p z;obtain ⟨J,b1,b2⟩:=G p z;exact ⟨fun x hx=>by have:=J x hx;lia,fun x hx=>by have:=b1 x hx;lia,fun x hx=>by have:=b2 x hx;lia,by lia,by lia,by lia⟩
theorem tI {j q L2:Nat} (h0:j<=12) (h1:q<=12) (h2:L2<=12) {ps:List Pr} (z:Lns j q L2 ps) (F:ps.length<=12):(aP ps).length<=10000000:=by
 have:=n8 (a := 12) (b := 12) (c := 12) (ps:=ps) fun p B=>by obtain ⟨a,b,c⟩:=z p B;lia
 lia
theorem law_holds (ns:List Int) (hl:ns.length<=63):phi tab 40 20 [.con (ns.map D.int)] (fun _=>none) fun d _=>d = .bl true:=by
 refine ar (by lia) rfl rfl (ρ := [some _,none,none,none,none,none,none,none,none,none]) rfl ?_
 unfold d20 L2.Mi.K36.b20;walk_at "st";rw [v5];refine ⟨by split <;> lia,by split <;> lia, ?_⟩
 refine bg (I:=fun l ρ M' => ∃ o1 o2 o3 o4 o5 Z B o8 o9, ρ = [some (.con (ns.map D.int)),o1,o2,o3,o4,o5,Z,B,o8,o9]) bE ⟨_,_,_,_,_,_,_,_,_,rfl⟩ (fun _ _ _ hI=>trivial) ?_ ?_
 ·rintro l k r ρ M8 e ⟨o1,o2,o3,o4,o5,Z,B,o8,o9,rfl⟩;refine ⟨_,rfl,fun F hF => ?_⟩;walk_at "st";refine Ak (s:=ai 14) (fc := 5) (fm := 6) (sc:=ai 12) rfl rfl (oR (by lia)) (by lia) (by lia) fun bx x y hp => ?_
  walk_at "st";refine yu (s:=ai 20) (ft := 8) (fp := 12) (most := 9) rfl (eY (by lia)) (vK (by lia)) (by lia) (by lia) ⟨_,_,_,ad⟩ fun L0 L1 L2 ps pr M1 G hlen x1 C9 J mr => ?_
  have bb:=x1.box;have hT:Tdy L0 L1 L2 ps:=⟨G.l,by have:=G.h0;lia,by have:=G.h1;lia,by have:=G.h2;lia,by lia⟩
  clear x1 C9 hp;walk_at "st";refine qE (by lia) hT (by lia) mr fun pf M2 g2 BW mf => ?_
  have mr:=g2 _ _ mr;have C5:pf≠bx:=fun z=>by obtain ⟨_,_,_,h⟩:=bb;rw [z,h] at BW;cases BW
  have bb:Box bx M2:=by obtain ⟨u,v,w,h⟩:=bb;exact ⟨u,v,w,g2 _ _ h⟩
  clear g2 BW;walk_at "st";refine ⟨_,rfl,_,_,rfl,ag mr,fun pk BX => ?_⟩;have gk:=Ge.new (o := .lst (ps.map prD)) BX;have mk:af M2 pk (.lst (ps.map prD)) pk=some (.lst (ps.map prD)):=ad;have mr:=gk _ _ mr;have mf:=gk _ _ mf;have C6:pk≠bx:=b8 bb BX;have bb:Box bx (af M2 pk (.lst (ps.map prD))):=by obtain ⟨u,v,w,h⟩:=bb;exact ⟨u,v,w,gk _ _ h⟩
  generalize af M2 pk (.lst (ps.map prD))=M3 at mk mr mf bb;clear gk BX;walk_at "st";refine ce mf ?_;rw [v5];walk_at "wp";have Ch:=oM (ps:=ps);have Cf:ps.length*ps.length<=9*9:=GD hlen hlen;refine ⟨by split <;> lia,by split <;> lia, ?_⟩
  refine bg (I:=fun l ρ M' => ∃ Z B o8 o9:Option D, ρ = [some (.con (ns.map D.int)),some (.int (k:Nat)),some (.ref bx),some (.tup [.int (L0:Nat), .int (L1:Nat), .int (L2:Nat), .ref pr]),some (.ref pf),some (.ref pk),Z,B,o8,o9]/\Box bx M'/\M' pr=some (.lst (ps.map prD))/\M' pf=some (.lst ((flp ps).map k3D))/\M' pk=some (.lst (ps.map prD))) bE
   ⟨Z,B,o8,o9,rfl,bb,mr,mf,mk⟩ (fun _ _ _ _=>trivial) ?_ ?_
  ·rintro l' i' r' ρ M5 e' ⟨Z,B,o8,o9,rfl,bb,mr,mf,mk⟩;refine ⟨_,rfl,fun F2 BY => ?_⟩;have BZ:=aG e';rw [E2] at BZ;have Cg : 0 < (flp ps).length:=by
    rcases Nat.eq_zero_or_pos (flp ps).length with z | z
    ·rw [z] at BZ;simp at BZ
    ·exact z
   walk_at "st";refine ce mf ?_;rw [v5];refine eY (by lia) bb (by lia) (by lia) fun i M6 i0 i1 x6 => ?_
   have bb:=x6.box;have mr:=x6.keep _ _ J mr;have mf:=x6.keep _ _ C5 mf;have mk:=x6.keep _ _ C6 mk;clear x6;obtain ⟨j,rfl⟩:=Dd i0;have hj:j < (flp ps).length:=by lia
   obtain ⟨r0,s0,t0,ex,hI⟩:=Bh (h6 hj);refine au mf (ao (x:=k3D ((r0:Int),(s0:Int),(t0:Int))) (by rw [CK,h6 hj,ex];rfl)) ?_
   have C0:=yw hT hI.hr hI.hs (t:=t0);have Ci:(flq ps r0 s0 t0).length<=9:=by rw [yz];exact hlen
   have C7:∀ p∈flq ps r0 s0 t0,p.1.length<=100000/\p.2.1.length<=100000/\p.2.2.length<=100000:=C0.lp;have l0:=G.h0;have l1:=G.h1;have l2:=G.h2;walk_at "st";refine ni (by lia) hT hI mr fun pd M7 g7 Ca md => ?_
   have Cj:∀ {a:Addr} {o:O},M6 a=some o->a≠pd:=fun {a o} h z=>by rw [z,Ca] at h;cases h
   walk_at "st";refine gD (by lia) hT hI (g7 _ _ mr) fun pq M9 g9 Cb mq => ?_
   have L:∀ {a:Addr} {o:O},M7 a=some o->a≠pq:=fun {a o} h z=>by rw [z,Cb] at h;cases h
   have C1:=g9 _ _ md;walk_at "st";refine nc (n := 4) (by lia) (oP (by lia) mq C1 C7) fun Ck C2 => ?_
   refine ⟨true,rfl, ?_⟩;rw [if_neg (by decide)]
   have BO:=(g7.trans g9).trans C2;refine nh (by lia) (C2 _ _ C1) (tI l0.2 l1.2 l2.2 C0.l (by lia)) (oS l0.2 l1.2 l2.2 (by decide) C0.l (yC G.b hI)) fun X dx Cl hX _ C3 Cm ex' => ?_
   refine nh (by lia) ((BO.trans C3) _ _ mr) (tI l0.2 l1.2 l2.2 G.l (by lia)) (oS l0.2 l1.2 l2.2 (by decide) G.l G.b) fun Y dy BN hY _ C4 Cn ey => ?_
   refine ⟨dx,dy,_,_,rfl,rfl,⟨.inl (C4 _ _ ex'),oQ⟩,⟨.inl ey,oQ⟩, ?_⟩;rw [vH hY.nd (yr hX.nd hY.nd hX.nz hY.nz fun k=>by
    obtain ⟨a,b,c⟩:=k;rw [hX.cf,hY.cf,oI,oI,Aq G.l hI])]
   refine ⟨_,rfl, ?_⟩;rw [if_neg (by decide)]
   walk_at "st";have gg:=BO.trans (C3.trans C4);have BP:=C2.trans (C3.trans C4);have BQ:=BP _ _ mq;refine ⟨_,rfl,⟨_,rfl,_,BQ⟩,pq,_,rfl,rfl,BQ, ?_⟩;have kp:∀ {a:Addr} {o:O},a≠pq->BN a=some o->af BN pq (.lst []) a=some o:=fun {a o} h1 h2=>by rw [aw h1];exact h2
   have U:=kp (L (g7 _ _ mr)) (gg _ _ mr);have BR:=kp (L (g7 _ _ mf)) (gg _ _ mf);have BS:=kp (L (g7 _ _ mk)) (gg _ _ mk);have BU:=kp (L md) (BP _ _ C1);have BV:Box bx (af BN pq (.lst [])):=by
    obtain ⟨u,v,w,h⟩:=bb;exact ⟨u,v,w,kp (L (g7 _ _ h)) (gg _ _ h)⟩
   generalize af BN pq (.lst [])=M13 at U BR BS BU BV;walk_at "st";refine gD (by lia) hT hI U fun p2 Co C8 Cp m2 => ?_
   refine nc (n := 4) (by lia) (oP (by lia) m2 (C8 _ _ BU) C7) fun Cq Cd => ?_
   refine ⟨true,rfl, ?_⟩;rw [if_neg (by decide)]
   have q:=C8.trans Cd;refine BY _ _ ⟨_,_,_,_,rfl, ?_,q _ _ U,q _ _ BR,q _ _ BS⟩;obtain ⟨u,v,w,h⟩:=BV;exact ⟨u,v,w,q _ _ h⟩
  ·rintro ρ M5 ⟨Z,B,o8,o9,rfl,bb,mr,mf,mk⟩;walk_at "st";refine yB (s:=ai 26) (ft := 8) rfl (eY (by lia)) (by lia) (by lia) J C5 bb mr mf fun ks pn M6 Cr Ce x6 Ct Cu mn => ?_
   have mr:=x6.keep _ _ J mr;have mk:=x6.keep _ _ C6 mk;refine ⟨_,ag mn, ?_⟩;refine bg (f:=k3D) (ys:=ks) (I:=fun l ρ M' => ∃ B:Option D, ρ = [some (.con (ns.map D.int)),some (.int (k:Nat)),some (.ref bx),some (.tup [.int (L0:Nat), .int (L1:Nat), .int (L2:Nat), .ref pr]),some (.ref pf),some (.ref pk),Z,B,o8,o9]/\M'=M6) rfl ⟨B,rfl,rfl⟩ (fun _ _ _ ⟨_,_,e⟩=>by rw [e];exact ag mn) ?_ ?_
   ·rintro l' u r' ρ M7 e' ⟨B,rfl,rfl⟩;refine ⟨_,rfl,fun F2 BY => ?_⟩;walk_at "st";refine qC (s:=ai 25) (sp:=ai 10) (si:=ai 8) (fp := 21) (fi := 2) rfl rfl rfl (by lia) (by lia) (Ce u (by rw [e'];simp)) mr ?_
    refine ⟨true,rfl, ?_⟩;rw [if_neg (by decide)]
    exact BY _ _ ⟨_,rfl,rfl⟩
   ·rintro ρ M7 ⟨B,rfl,rfl⟩;walk_at "st";refine ⟨_,rfl,Bi mr mk ?_⟩;refine ⟨false,rfl, ?_⟩;rw [if_neg (by decide)]
    exact hF _ _ ⟨_,_,_,_,_,_,_,_,_,rfl⟩
 ·rintro ρ M8 ⟨o1,o2,o3,o4,o5,Z,B,o8,o9,rfl⟩;dsimp only;walk_at "st"
end K36
end
end
end Mi
end L2
namespace PySem.W.Fast
theorem tw6844935947584552830:True:=trivial
theorem tw11887501030817797490:True:=trivial
theorem tw4010936102283183491:True:=trivial
theorem tw17079185576033274817:True:=trivial
theorem tw879812944699661637:True:=trivial
theorem tw8769298192473874663:True:=trivial
theorem tw598314468798464418:True:=trivial
theorem tw4470488773793255717:True:=trivial
theorem tw12469558134613462720:True:=trivial
theorem tw3800154316330075103:True:=trivial
theorem tw14130036695835991140:True:=trivial
theorem tw10412055613828757593:True:=trivial
theorem tw7024267203883044506:True:=trivial
theorem tw11809951351524362991:True:=trivial
theorem tw2119073609218979438:True:=trivial
theorem tw5303230346018414636:True:=trivial
theorem tw17298984706688986020:True:=trivial
theorem tw13804058249354754754:True:=trivial
theorem tw9681653601723779312:True:=trivial
theorem tw9010207263236247418:True:=trivial
theorem tw18146332004034663441:True:=trivial
theorem tw9320213964884538280:True:=trivial
theorem tw195516100192631287:True:=trivial
theorem tw11735086818687614041:True:=trivial
theorem tw13659610474588414877:True:=trivial
theorem tw9396860545048216246:True:=trivial
theorem tw2429545184889190784:True:=trivial
theorem tw15016949716576106197:True:=trivial
theorem tw16730352873235181229:True:=trivial
theorem tw6596825789400196722:True:=trivial
theorem tw6095353038959623052:True:=trivial
theorem tw5093241989375001761:True:=trivial
theorem tw16020883888548389782:True:=trivial
theorem tw1894354417375416544:True:=trivial
theorem tw13909492678758574047:True:=trivial
theorem tw5998020324610957068:True:=trivial
theorem tw11574761379432375696:True:=trivial
theorem tw2771562021540557610:True:=trivial
theorem tw10556340384413253929:True:=trivial
theorem tw14973272119519636639:True:=trivial
theorem tw9538166463717873875:True:=trivial
theorem tw10684145096729819503:True:=trivial
theorem tw11262264129296484042:True:=trivial
theorem tw463598433335904638:True:=trivial
theorem tw6111389885476536246:True:=trivial
theorem tw5295800300695415415:True:=trivial
theorem tw957469119404908302:True:=trivial
theorem tw1314508447755954135:True:=trivial
theorem tw5637274128652997546:True:=trivial
theorem tw17333236038203416099:True:=trivial
theorem tw5782107667161827172:True:=trivial
theorem tw2630943723031640236:True:=trivial
theorem tw11802139218449592150:True:=trivial
theorem tw5928597495428190908:True:=trivial
theorem tw14508833980407616484:True:=trivial
theorem tw15012899354189891596:True:=trivial
theorem tw15228467291513175385:True:=trivial
theorem tw65363434553246114:True:=trivial
theorem tw2056430227389863229:True:=trivial
theorem tw15555756217341147850:True:=trivial
theorem tw12369103102631621386:True:=trivial
theorem tw17938692705512127998:True:=trivial
theorem tw18285534666796855952:True:=trivial
theorem tw10727061039335463841:True:=trivial
theorem tw6377833803897942360:True:=trivial
theorem tw12923123275335885729:True:=trivial
theorem tw15895779774891265671:True:=trivial
theorem tw9123317642414759930:True:=trivial
theorem tw8994867108145211187:True:=trivial
theorem tw5941580522861171522:True:=trivial
theorem tw10731901989692904654:True:=trivial
theorem tw1974126648064862711:True:=trivial
theorem tw3119185743991965126:True:=trivial
theorem tw14747222897372892707:True:=trivial
theorem tw12270197490628491299:True:=trivial
theorem tw11027660308872286478:True:=trivial
theorem tw5360181535290567110:True:=trivial
end PySem.W.Fast
open PySem.W in
set_option maxRecDepth 100000 in
set_option maxHeartbeats 0 in
theorem PySem.Challenge.cw_fewtimes_k36_flipped_holds : PySem.Challenge.rw_fewtimes_k36_flipped.Holds := by
 w_on;o_law;k_head;(case hw=>w_witness2)
 k_fill
 refine L2.Mi.K36.walk (l:=PySem.Challenge.rw_fewtimes_k36_flipped) rfl rfl L2.Mi.K36.law_holds (fun w h Y=>PySem.W.kIn_of Y) ?F
 case F =>
  intro w mg fa h KX G hmg;refine' L2.Mi.K36.all_mk KX G hmg ?z ?_ ?_ ?_ ?_ ?_ ?_ ?_ ?_ ?_ ?_ ?_ ?_ ?_ ?_ ?_ ?_ ?_ ?_ ?_ ?_ ?_ ?_ ?_ ?_ ?_ ?_ ?_ ?_ ?_ ?_ ?_ ?_ ?_ ?_ ?_ ?_ ?_ ?_ ?_ ?_ ?_ ?_ ?_ ?_ ?_ ?_ ?_ ?_ ?_ ?_ ?_ ?_ ?_ ?_ ?_ ?_ ?_ ?_ ?_ ?_ ?_ ?_ ?_ ?_ ?_ ?_ ?_ ?_ ?_ ?_ ?_ ?_ ?_ ?_ ?_ ?_ ?_ ?_ ?_ ?_ ?_ ?_ ?_ ?_ ?_ ?_ ?_ ?_ ?_ ?_ ?_ ?_ ?_ ?_ ?_ ?_ ?_ ?_ ?_ ?_ ?_ ?_
  case z =>
   intro x hx;simp only [L2.Mi.bltNames,List.mem_cons,List.not_mem_nil,or_false] at hx
   rcases hx with rfl | rfl | rfl | rfl | rfl | rfl | rfl | rfl | rfl | rfl | rfl | rfl | rfl | rfl | rfl | rfl | rfl | rfl | rfl | rfl <;> k_is
  all_goals try (show _=_;first | k_is | k_exc | kit_is)
