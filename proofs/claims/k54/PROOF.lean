import PyProof.Rows.All
import Wide.All
import OpenK.AllK
import Wide.FinOn
import Lean
import PyProof.EqAt
import PyProof.EqKinds
import PyProof.TupleCall
import PyProof.StationsW
import PyProof.ExcClass3
import OpenK.KOwn
import PyProof.ExcBaseAll.ValueError
import PyProof.RulesAs
import PyProof.NsDelKeeps
import KE.KIsAll
import PyProof.ExcArgsOwn
import PyProof.ExcAttrAll.ValueError
import PyProof.ZipIter
import PyProof.EnumMake
import PyProof.EnumFor
import PyProof.CollectIter
import PyProof.TupleKey
import PyProof.DictRoadsH
import PyProof.P3Eq
import PyProof.Rows.SeqMore
import PyProof.ConsumeWalk
import PyProof.Rows.SortShellK
import PyProof.DictItems
import PyProof.DictWalks
import PyProof.AttrMissHeap
import PyProof.DictIter
import PyProof.MaxThree
import PyProof.SeqI3
import PyProof.DictTruth
import PyProof.Rows.TupDisplay
import PyProof.ListCopy
import PyProof.NeKinds
import PyProof.SetKind
import PyProof.IsRules
import PyProof.Rows.SetFrom
import PyProof.SetRoads
import PyProof.RaisesDict
import KE.KIntText
import PyProof.Rows.CallKwBuiltin
import PyProof.Rows.CountFlat
import KE.KDictOf
import PyProof.DelItemList
import PyProof.ObjNew
import OpenK.KCls
import PyProof.InstStoreFacts
import OpenK.KMore
import PySem.Challenge.RW_fewtimes_k54_texts_of_no_scheme
set_option Elab.async false
set_option linter.all false
set_option compiler.extract_closed false
set_option genSizeOf false
set_option bootstrap.genMatcherCode false
set_option maxRecDepth 100000
set_option maxHeartbeats 4000000
open PySem.W (Frag)
open PySem.Str renaming ofString → gV, length_append → Jf, join → JH, empty → Kb, empty_append → NL, append_assoc → Pp, length → Rc
open PySem renaming wpAny_bind → h8, Value → hW, sizeLine_eq → td, Shared → z0, ofString_length → Ja, wpAny_pure → Jd, sizeLine → Je, wpAny → Jm, starEach → Jt, Program → Jy, Around → JI, compareOp → JM, World → JQ, wpAny_field → JR, wpAny_mono → JS, wpAny_holding → K2, Comprehension → K3, mainGlobals → K6, wpAny_setField_rec → K9, wpAny_callSpecial?_slot → Kc, wpAny_standAt → Kd, wpAny_truthy_bool → Kl, mem_of_lookup → Ks, binaryOp → Kx, wpAny_pyIter_tuple → Kz, backTo → KH, Paired → KI, wpAny_newObj_type → KJ, foldedSetIterable → KL, wpAny_pyIter_list → KP, wpAny_loadPart' → KS, FuncData → KW, swapsWith → L3, assignEach → L4, wpAny_call_entry → L5, codeAny_call_builtin → Lb, cellsFrom → Lc, wpAny_loadPart_at → Le, keywordEach → Lh, wpAny_Call_Name_kw → Ll, call_meets → Lm, wpAny_seqItems → Lp, rawInt → Ls, inplaceOp → Lv, wpAny_passesOwn → Lw, codeAny_mono → Lz, swappedStores → LF, behindInMarks → LG, IsPair → LL, NameKind → LO, excClassObj → LU, sysModules → LV, bootBuiltins → LW, wpAny_rule → LX, wpAny_execs_nil → Mc, wpAny_setField → Mp, checkBuiltinCall → My, swapsWithSole → MM, backToKw → MP, Builtin → MW, typeIs_str → Nb, sliceBounds → Nk, standAt → Np, Operator → Nq, cpsOfBytes_string → Nx, wpAny_call → NF, attributeBase → NM, codeAny → NO, Keyword → NP, wpAny_onRaise → NQ, wpAny_attempt → NS, wpAny_updateSeq_pair → NW, letOwnedTupleGo → NY, getAttrByItsOwn → O6, Model → Od, wpAny_isSubtype_exc → Of, wpAny_typeOf → Oi, pyNext → Ow, wpAny_binaryOp_repeat_ref → OK, wpAny_of_eq → OR, IsZip → OS, wpAny_pyIter_enum → OU, wpAny_Call_ofName → OW, wpAny_getItem_list_slice → OZ, wpAny_comprehension_free → P2, IsEnum → P4, GenState → P7, wpAny_execs_cons → P9, lastMarks → Pa, noFill_tuple_add → Pc, setFlight → Pd, wpAny_getItem_str_slice → Pl, builtinsNs → PD, IsPart → PH, getItem → PJ, typeLookup → PM, typeIs_int → PR, codeAny_of_tree → Q4, pushCells_keeps → Q5, wpAny_loadName_local → Q9, wpAny_Expr_any → Qa, wpAny_bindName → Qb, CmpOp → Qc, cLine → Qf, unbindBehindTheSuite → Qh, wpAny_point → Qi, newFunctionEnv → Qj, ZipApart → Qk, wpAny_letGo → Ql, intText? → Qp, tupleKind → Qz, PassesOwn → QA, BindsTo → QB, callerA → QC, valueAt → QE, noteFrame → QF, wpAny_loadName_cell → QG, assignInOrder → QR, seq_tuple_add → QS, evalPart_none → QT, foldedForSure → QZ, wpAny_Constant_int → R6, pyIter → R7, tupleKind_room_in1 → Rh, isInstance → Rk, cpsOfBytes → Rr, bindName → Rx, concat_meets → RC, wpAny_sequenceKey → RE, seqIndex_neg → RF, OwnTail → RN, callWith → RW, ExcBaseFacts → RY, getAttrBy → Sf, pushCells → Sg, wpAny_isInstance → Sj, wpAny_pyIter_zip → Sl, IsEnumOut → Sn, fillsInplaceSlot → Ss, seqIndex_of → SA, atKey → SD, OsState → SW, wpAny_Name → SX, bindL → SY, bindC → T1, call → T6, Meets → T8, PyData → T9
open Bool renaming and_eq_true → hX, false_ne_true → J9, not_eq_true' → JD, true_and → LM, false_and → LN, false_eq_true → LY, eq_false_iff → Mk, or_eq_true → MY, not_eq_true → NI, false_or → P0, or_true → PV, and_eq_true_iff → Qn
open PySem.Heap renaming get?_push_of_some → s9, lt_size → Jn, get?_push_size → Jo, get?_update_other → JV, get?_update_self → JX, size_push → Kh, SameBut → Kr, size_update → Mx, get?_none_of_le → NU, IsTuple → Ol, IsList → OT, get?_push_cases → Qm, get?_update_ne → QP, ExtBut → SE
open PySem.Txt renaming split → Jb, partition → JN, slice → Ka, startswith → Nu, slice_le → Nv, join → Ta
open List renaming length_map → Jc, getElem?_eq_getElem → Jh, mem_cons_of_mem → Ji, replicate → Jj, size_toArray → Jk, mem_cons → Jl, map_cons → Jp, length_append → Jq, length_cons → Jr, map_append → Jv, getElem?_eq_some_iff → Jw, length_take → Jx, mem_append → Jz, count_eq_zero_of_not_mem → JA, not_mem_nil → JB, mem_append_right → JC, mem_of_mem_drop → JE, getElem?_map → JF, length_drop → JG, all_eq_true → JK, length_singleton → JP, getElem?_set_self → JY, mem_of_mem_take → JZ, mem_cons_self → K0, mem_map → K1, drop_eq_getElem_cons → K5, replicate_succ → Kj, length_eq_zero_iff → Kn, append_nil → Kp, length_nil → Kq, append_assoc → Ku, take_append_drop → Kw, length_zipIdx → KA, mem_of_getElem? → KD, lookup_cons → KG, map_nil → KO, find?_cons → KR, range → KZ, getElem_idxOf → L6, mem_singleton → L7, getElem?_set_ne → La, flatten_cons → Ld, any_cons → Li, count_pos_iff → Lq, length_replicate → Lr, getElem?_mapIdx → LC, count_append → LD, filter_cons_of_pos → LQ, filter_cons_of_neg → LR, filter_append → Mb, nil_append → Md, map → Mf, reverse_cons → Mj, idxOf_lt_length_of_mem → Ml, getElem?_append_right → Mo, drop_drop → Ms, getElem?_zipIdx → Mt, drop_zero → Mu, zipIdx_cons → Mz, drop_length → MA, cons → MB, getElem?_append_left → MD, filterMap_cons → MJ, drop_succ_cons → MK, all_cons → MQ, idxOf_lt_length_iff → MR, nodup_cons → MU, forIn_cons → MX, count_cons → MZ, mem_filterMap → N0, contains_cons → Nc, getElem?_drop → Nf, getElem?_cons_zero → Nm, drop_left → Ny, take_left → Nz, take_of_length_le → NA, length_filter_le → NB, cons_append → NJ, sum_cons → NT, mem_append_left → NV, mem_filter → NX, length_set → NZ, foldl_cons → O0, mem_zipIdx_iff_getElem? → Oa, all_map → Om, mem_range → Ot, getD_eq_getElem?_getD → OE, mem_replicate → OH, exists_cons_of_ne_nil → OI, ext_getElem? → OX, length_range → OY, getElem?_replicate → Pb, isEmpty_iff → Pj, getElem?_cons_succ → Po, take_length → Pt, append_cancel_left → Pw, zipWith → PZ, of_mem_zip → Q2, idxOf_cons → Q6, count_cons_self → Qw, mem_iff_getElem → Qx, length_reverse → QN, map_eq_nil_iff → QQ, map_take → R1, map_drop → R4, foldl → Rf, set_cons_zero → Rp, set_cons_succ → Rq, count → Rt, map_map → S1, head?_append → S4, take_add_one → S8, sum_nil → S9, ext_getElem → So, getElem_mem → Sx, length → Sz, zipIdx_nil → SR, idxOf → Th
open Nat renaming le_refl → Jg, lt_of_lt_of_le → Ju, ne_of_lt → JU, le_trans → K7, zero_le → Kk, toDigits → Ky, lt_irrefl → L8, ne_of_gt → Ly, toDigits_of_lt_base → LP, le_of_lt → Mw, lt_of_succ_lt_succ → Nw, toDigits_append_toDigits → Ob, min_eq_left → Oc, eq_zero_or_pos → OJ, le_succ → OQ, succ_le_succ → Ph, mul_comm → PU, lt_trans → PX, log2_lt → Qo, pow_le_pow_right → Qv, succ_mul → RG, min_le_right → Sb, not_lt → T7
open PySem.W renaming mg_of → Js, findIn → Kf, kia_one → Kg, keepIn → KN, nsIn → Lg, InstAt → Lk, fnOf → LA, looks_findIn → Mr, findObj → MV, cellsFrom_some → Nr, mroIn → NN, subIn → NR, kitOne → Ox, codeIn → Oy, isNs_of_in → OC, methodObj → OO, specialIn → OP, excIn → P1, instObj → Q1, OpenLaw → Q3, lookIn → Qe, looks_subIn → QJ, clsIn → QV, callWith_K → R9, tail_of_in → Ri, looks_find → Rj, kitx_list → Ry, kitx_dict → Rz, plainGet → Sa, takesIn → SN
open PySem.NameKind renaming free → JJ, cell → L9
open PySem.Value renaming ref → JL, none → Ke, int → Mv, type → Pz, str → Qy, bool → R5, float → Sy
open PySem.NumText renaming digitsVal → JO
open PySem.StrLaws renaming join_split → JT, split_free → Ni, occ_head → Pu, At → Q0
open PySem.PyData renaming strOk → JW, eqv → KQ, eqvAll → R0, canLayAll0 → RU, list → SG, depthAll → SS
open Option renaming isSome_iff_exists → K8, some → Ki, bind_some → Lj, map_some → Lx, isSome_some → Rg, getD_none → Sd, join_some → Su, bind_none → Sv, join_none → Sw
open PySem.Builtin.Str renaming occurrences → Km, strSub → Ma, strSliceIndices → Oo, partsBetween → P5, strKind → QO
open ToString renaming toString → Ko
open Classical renaming not_not → Kv
open PyProof.Rows renaming slot_tuple_getitem → KU, callWith_type1 → Lf, envOfC → Na, kindOf → NG, callWith_builtin1 → NH, AllBare → Oh, assignInOrder_cons → Ov, seqSlot_of → Pg, split_pos → Pq, subscriptTail_builtinR → PN, entry_tuple_getitem → QH, subscriptTail → QU, args_tuple_getitem → Ra, assignInOrder_nil → Ru, isStrOf → RX, IntsAre → SV, Subscript_ → T3, tail_any → T5
open PySem.Obj renaming isFreed_of_fields → KY, data_mapFields → Ln, mapFields → LK, mapSeq → PQ, cls_mapFields → RJ
open PySem.F renaming slot_tuple_iterator_next → Lo, plainAttrs_str → LZ, slot_enumerate_next → Mg, args_tuple_add_2 → MN, entry_tuple_add → Nj, plainAttrs_list → Nl, slot_tuple_add → Nt, slot_int_rmul → O1, args_tuple_iterator_next_1 → O7, slot_zip_next → O8, entry_tuple_iterator_next → Oj, args_str_split_2 → OF, entry_str_split → OV, args_enumerate_next_1 → Pf, slot_str_split → Pk, slot_list_count → Pm, slot_list_index → Pn, entry_enumerate_next → PY, entry_enumerate_new → Q7, excBase_ValueError → Qq, called_enumerate → Rl, args_int_rmul_2 → RH, args_zip_next_1 → RP, entry_int_rmul → Se, entry_zip_next → Sh, fills_int_mul → SO, entry_bexc_ga → SQ
open PySem.Builtin.Slice renaming slicePlaces → Lu, sliceAdjust → MH, sliceApplied → Oz
open PySem.Shared renaming heap → LB
open PySem.Builtin.Tuple renaming tupleExact → LH, tupleItemsOf → OA, tupleIsExact → OB, tupleTooMany → OD, tupleHashOf → OM
open PySem.Builtin.List renaming listTooLong → LJ
open ForInStep renaming yield → Me
open Int renaming toNat_natCast → Mh, emod_lt_of_pos → Ng, emod_nonneg → O9, toNat_of_nonneg → QL, natAbs_natCast → Rn
open Array renaming mem_toList_iff → Mm, getElem?_eq_some_iff → Mq, length_toList → Oe, mem_of_getElem? → Q8, find?_toList → R8
open True renaming intro → Mn
open PySem.Paired renaming length → ML
open Char renaming toNat → Nh
open PyProof.Rows.IsTup renaming new → ND
open PySem.Expr renaming FormattedValue → Og, Subscript → Qr, Attribute → Qs, JoinedStr → Qt, Constant → QW, ListComp → QX, UnaryOp → RZ, Compare → S0, BoolOp → SH, BinOp → Tb, IfExp → Tc, Tuple → Td, Slice → Te, Name → Ti, List → Tj, Call → Tn
open LawfulBEq renaming eq_of_beq → Oq
open PySem.Calls renaming Name_function_global → Ou, evalArgs_plain → Qg
open PySem.Code renaming quiet_builtin → OG, isFrame → RB
open PySem.Builtin.ObjectAttr renaming bindTo → OL
open Decidable renaming byContradiction → ON
open PySem.Env renaming blockKind → P6, kindOf → Ro
open And renaming intro → Pe
open Sum renaming inl → Px, inr → Py
open PySem.Stmt renaming AugAssign → Qu, Continue → QY, Assign → SJ, Return → SK, While → Tf, Break → Tg, Expr → To, Pass → Tp
open PySem.EntryCells renaming newEntry → QI
open PySem.Heap.SameBut renaming update → QK
open PySem.Builtin.Int renaming intBits → QM
open PySem.Heap.IsSliceOf renaming new → Rb
open PySem.Around renaming in1_handled → Rm, under → RA
open List.Pairwise renaming nil → RI
open PySem.Heap.IsTuple renaming push → RQ
open Iff renaming rfl → RT
open Option.some renaming injEq → RV
open PySem.Heap.IsList renaming push → Sk
open List.cons renaming injEq → SU
namespace L2
open PySem PySem.Spec PyProof.Rows
section
noncomputable abbrev Key:=Sum Int Str
noncomputable def i4:Key->hW->Bool
 |.inl k,v=>Value.isInt k v
 |.inr x,v=>Value.isStrOf x v
noncomputable def EG (w:JQ):Key->Int
 |.inl k=>hashInt k
 |.inr x=>hashStr w x
theorem aY:∀ {k:Key} {v:hW},i4 k v=true->(∃ i t,k=Px i/\v=Mv i t)∨(∃ x t,k=Py x/\v=Qy x t)
 |.inl i,v,h=>by
  obtain⟨t,e⟩:=Value.isInt_shape (k:=i) (v:=v) h;exact .inl ⟨i,t,rfl,e⟩
 |.inr x,v,h=>by
  obtain⟨t,e⟩:=Value.isStrOf_shape (x:=x) (v:=v) h;exact .inr ⟨x,t,rfl,e⟩
theorem tV (i:Int)(t:Tok):i4 (.inl i) (.int i t)=true:=by simp[i4,Value.isInt]
theorem tW (x:Str)(t:Tok):i4 (.inr x) (.str x t)=true:=by simp[i4,Value.isStrOf]
theorem Ba (a b:Int):decide ((Px a:Key)=Px b)=(a==b):=by
 by_cases e:a=b
 ·subst e;simp
 ·have h : ¬ (Px a:Key)=Px b:=λq=>e (Px.inj q);rw[decide_eq_false h];exact(beq_eq_false_iff_ne.mpr e).symm
theorem Bb (a b:Str):decide ((Py a:Key)=Py b)=decide (a=b):=by
 by_cases e:a=b
 ·subst e;simp
 ·have h : ¬ (Py a:Key)=Py b:=λq=>e (Py.inj q);rw[decide_eq_false h,decide_eq_false e]
theorem Bc (a:Int)(b:Str):decide ((Px a:Key)=Py b)=false:=decide_eq_false (λq=>nomatch q)
theorem Bd (a:Str)(b:Int):decide ((Py a:Key)=Px b)=false:=decide_eq_false (λq=>nomatch q)
noncomputable def bc (prog:Jy) (w:JQ):PySem.KeyKind prog w Key where
 is:=i4
 hash:=EG w
 inj:=λv a b ha hb=>by
  rcases aY ha with⟨i,t,rfl,rfl⟩|⟨x,t,rfl,rfl⟩
  ·rcases aY hb with⟨j,u,rfl,e⟩|⟨y,u,rfl,e⟩
   ·injection e with e1 _;rw[e1]
   ·exact nomatch e
  ·rcases aY hb with⟨j,u,rfl,e⟩|⟨y,u,rfl,e⟩
   ·exact nomatch e
   ·injection e with e1 _;rw[e1]
 byValue:=λk v h=>by
  rcases aY h with⟨i,t,rfl,rfl⟩|⟨x,t,rfl,rfl⟩ <;> rfl
 pyHash:=λhv h=>by
  rcases aY hv with⟨i,t,rfl,rfl⟩|⟨x,t,rfl,rfl⟩
  ·exact wpAny_pyHash_int h
  ·exact wpAny_pyHash_str h
 eqBool:=λhu hv h=>by
  rcases aY hu with⟨i,t,rfl,rfl⟩|⟨x,t,rfl,rfl⟩
  ·rcases aY hv with⟨j,u,rfl,rfl⟩|⟨y,u,rfl,rfl⟩
   ·rw[Ba]at h;exact wpAny_eqBool_int h
   ·rw[Bc]at h;exact SeqAt.EqAt.int_str i t y u _ _ _ _ h
  ·rcases aY hv with⟨j,u,rfl,rfl⟩|⟨y,u,rfl,rfl⟩
   ·rw[Bd]at h;exact SeqAt.EqAt.str_int x t j u _ _ _ _ h
   ·rw[Bb]at h;exact wpAny_eqBool_str h
 «strs»:=λk x t v h=>by
  rcases aY h with⟨i,u,rfl,e⟩|⟨y,u,rfl,e⟩
  ·exact nomatch e
  ·injection e with e1 _
   subst e1
   cases v <;> rfl
theorem pY (prog:Jy)(w:JQ)(i:Int)(t:Tok):(bc prog w).is (.inl i) (.int i t)=true:=tV i t
theorem pZ (prog:Jy)(w:JQ)(x:Str)(t:Tok):(bc prog w).is (.inr x) (.str x t)=true:=tW x t
end
variable {us:List hW}{a b:Addr}{P:Jy}{w:JQ}{h:Heap}
section
inductive V where
 |non|bl (b:Bool)|int (i:Int)|str (x:Str)|byt (b:Array UInt8)|flt (b:UInt64)|ref (a:Addr)|ty (n:String)
 deriving DecidableEq
noncomputable def RelV:V->hW->Prop
 |.non,u=>u=Ke
 |.bl b,u=>u=R5 b
 |.int i,u=>∃ t,u=Mv i t
 |.str x,u=>∃ t,u=Qy x t
 |.byt b,u=>∃ t,u=Value.bytes b t
 |.flt b,u=>∃ t,u=Sy b t
 |.ref a,u=>u=JL a
 |.ty n,u=>u=Pz n
noncomputable abbrev Vals:List V->List hW->Prop:=KI RelV
theorem Vals.length {xs:List V}(r:Vals xs us):xs.length=us.length:=ML r
theorem Vals.get:∀ {xs:List V} {us:List hW} {i:Nat} {x:V},Vals xs us->xs[i]? = some x -> ∃ u,us[i]? = some u/\RelV x u
 |_,_,_,_,.nil,e=>by simp at e
 |_,_,0,_,.cons r _,e=>by simp at e;subst e;exact⟨_,rfl,r⟩
 | _,_,i+1,x,.cons _ t,e=>by
   obtain⟨u,h1,h2⟩:=Vals.get (i:=i) (x:=x) t (by simpa using e)
   exact⟨u,by simpa using h1,h2⟩
theorem Vals.set {x:V}{u:hW}(r:RelV x u):∀ {xs:List V} {us:List hW} (i:Nat),Vals xs us->Vals (xs.set i x) (us.set i u)
 |_,_,_,.nil=>.nil
 |_,_,0,.cons _ t=>.cons r t
 |_,_,i+1,.cons q t=>.cons q (Vals.set r i t)
theorem Vals.append:∀ {xs ys:List V} {us ws:List hW},Vals xs us->Vals ys ws->Vals (xs++ys) (us++ws)
 |_,_,_,_,.nil,s=>s
 |_,_,_,_,.cons r t,s=>.cons r (Vals.append t s)
theorem Vals.take:∀ {xs:List V} {us:List hW} (n:Nat),Vals xs us->Vals (xs.take n) (us.take n)
 |_,_,0,_=>.nil
 |_,_,_+1,.nil=>.nil
 |_,_,n+1,.cons r t=>.cons r (Vals.take n t)
theorem Vals.drop:∀ {xs:List V} {us:List hW} (n:Nat),Vals xs us->Vals (xs.drop n) (us.drop n)
 |_,_,0,r=>r
 |_,_,_+1,.nil=>.nil
 |_,_,n+1,.cons _ t=>Vals.drop n t
noncomputable def RelO:Option V->Option hW->Prop
 |some v,some u=>RelV v u
 |none,none=>True
 |_,_=>False
noncomputable def KV {κ:Type}:List (κ × V)->List (κ × hW)->Prop:=KI λ(p : κ × V) (q : κ × hW)=>p.1=q.1/\RelV p.2 q.2
noncomputable def kV:Key->V
 |.inl i=>.int i
 |.inr x=>.str x
inductive HO where
 |lst (xs:List V)
 |tup (xs:List V)
 |dK (kvs:List (Key×V))|dT (kvs:List (List Key×V))
 |set (S:Int->Bool) (n:Nat)
 |ins (C dx:Addr) (fs:List (Str×V))
 |own (x:Addr)
 |xd (fs:List (Str×V))
 |met (f x:Addr)
 |rng (lo hi:Int)
 |frz (o:Obj) (u:HO)
 |tbl (ps:Array hW)
 |ext (φ:Heap->Prop)
noncomputable abbrev Hp:=Addr->Option HO
noncomputable def upd (H:Hp) (a:Addr) (o:HO):Hp:=λb=>if b=a then some o else H b
theorem au {H:Hp}{o:HO}:upd H a o a=some o:=by unfold upd;rw[if_pos rfl]
theorem ai {H:Hp}{o:HO}(h:b≠a):upd H a o b=H b:=by unfold upd;rw[if_neg h]
theorem Dj {H:Hp}{o u:HO}(h:H a=some o)(h':H b=some u)(d:o≠u):a≠b:=by
 intro e;subst e;rw[h]at h';exact d (Ki.inj h')
theorem aZ {H:Hp}{o:HO}(h:H a=some o)(h':H b=none):a≠b:=by
 intro e;subst e;rw[h]at h';cases h'
section
variable (P:Jy) (w:JQ)
noncomputable def ObjOk (H:Hp) (h:Heap) (a:Addr):HO->Prop
 |.lst xs=>xs.length<=Je /\ ∃ (its:List hW) (n:Nat),Vals xs its/\h.get? a=some { cls:=.type "list",data:=.seq its.toArray n }
 |.tup xs=>xs.length<=Je /\ ∃ its:List hW,Vals xs its/\IsTup h a its.toArray
 |.dK kvs=>kvs.length<=Je/\(a==LV)=false /\ ∃ vs,KV kvs vs/\h.DictOf (bc P w) a vs
 |.dT kvs=>kvs.length<=Je/\(a==LV)=false /\ ∃ xs:List (List Key×Addr×hW),
  KI (λ(p:List Key×V) (q:List Key×Addr×hW)=>p.1=q.1/\H q.2.1=some (.tup (p.1.map kV))/\RelV p.2 q.2.2) kvs xs /\
  ∃ o es ep,h.get? a=some o/\o.ExactDict/\o.data = .dict es ep/\es.toList=xs.map (entryOfKey (Qz (bc P w)))/\(xs.map (·.1)).Nodup
 |.set S n=>h.SetOf (intKind P w) a S n
 |.ins C dx fs=>H dx=some (.own a)/\fs.length<=1000/\dx≠a/\h.get? a=some (Q1 C dx) /\
  ∃ mA,h.Ns1 dx mA/\(∀ f,RelO (fs.lookup f) (mA f))/\PySem.Within mA (fs.map (·.1))
 |.own _=>∃ o,h.get? a=some o
 |.xd fs=>∃ mA,h.Ns1 a mA /\ ∀ f,RelO (fs.lookup f) (mA f)
 |.rng lo hi=>∃ t u v,h.get? a=some { cls:=.type "range",data:=.fields #[.int lo t,.int hi u,.int 1 v] }
 |.frz o u=>h.get? a=some o/\ObjOk H h a u
 |.tbl ps=>h.get? a=some { cls:=.none,data:=.fields ps }
 |.met f x=>h.get? a=some (OO (.ref f) (.ref x))
 |.ext φ=>φ h/\(∃ o,h.get? a=some o) /\ ∀ h1 h2:Heap,φ h1->(∀ o,h1.get? a=some o->h2.get? a=some o) -> φ h2
def HOk (H:Hp) (h:Heap):Prop:=∀ a o,H a=some o->ObjOk P w H h a o
end
section
variable {P:Jy} {w:JQ} {H H':Hp} {h h':Heap} {a:Addr} {o:HO}
theorem ObjOk.lt (x:ObjOk P w H h a o):a<h.objs.size:=by
 cases o with
 |lst xs=>obtain⟨_,_,_,_,e⟩:=x;exact Jn e
 |tup xs=>obtain⟨_,_,_,p⟩:=x;exact p.lt
 |dK kvs=>obtain⟨_,_,_,_,o,_,_,e,_⟩:=x;exact Jn e
 |dT kvs=>obtain⟨_,_,_,_,o,_,_,e,_⟩:=x;exact Jn e
 |set S n=>obtain⟨o,_,_,_,e,_⟩:=x;exact Jn e
 |ins C dx fs=>obtain⟨_,_,_,e,_⟩:=x;exact Jn e
 |own y=>obtain⟨_,e⟩:=x;exact Jn e
 |xd fs=>obtain⟨_,⟨_,_,_,e,_⟩,_⟩:=x;exact Jn e
 |rng lo hi=>obtain⟨_,_,_,e⟩:=x;exact Jn e
 |frz ob u=>obtain⟨e,_⟩:=x;exact Jn e
 |tbl ps=>exact Jn (show h.get? a=some _ from x)
 |met f y=>exact Jn (show h.get? a=some _ from x)
 |ext φ=>obtain⟨_,⟨_,e⟩,_⟩:=x;exact Jn e
theorem Tx {α β:Type}{F G : α -> β -> Prop}:∀ {l₁:List α} {l₂:List β},KI F l₁ l₂ -> (∀ a b,F a b->G a b)->KI G l₁ l₂
 |_,_,.nil,_=>.nil
 |_,_,.cons r t,f=>.cons (f _ _ r) (Tx t f)
theorem ObjOk.stay (x:ObjOk P w H h a o)(k:∀ b u,(b=a∨H b=some (.own a))->h.get? b=some u->h'.get? b=some u)(ho:∀ b,H b=some (.own a)->H' b=some (.own a))(j:∀ b xs,H b=some (.tup xs)->H' b=some (.tup xs)):ObjOk P w H' h' a o:=by
 induction o with
 |lst xs=>obtain⟨z,its,n,r,e⟩:=x;exact⟨z,its,n,r,k _ _ (.inl rfl) e⟩
 |tup xs=>obtain⟨z,its,r,ob,e,c⟩:=x;exact⟨z,its,r,ob,k _ _ (.inl rfl) e,c⟩
 |dK kvs=>obtain⟨z,y,vs,r,ob,es,ep,e,c⟩:=x;exact⟨z,y,vs,r,ob,es,ep,k _ _ (.inl rfl) e,c⟩
 | dT kvs =>
   obtain⟨z,y,xs,r,ob,es,ep,e,c⟩:=x;exact⟨z,y,xs,Tx r λp q z=>⟨z.1,j _ _ z.2.1,z.2.2⟩,ob,es,ep,k _ _ (.inl rfl) e,c⟩
 |set S n=>obtain⟨ob,es,ep,t,e,c⟩:=x;exact⟨ob,es,ep,t,k _ _ (.inl rfl) e,c⟩
 | ins C dx fs =>
   obtain⟨d,z,ne,e,mA,⟨od,es,ep,F,c⟩,r⟩:=x;exact⟨ho _ d,z,ne,k _ _ (.inl rfl) e,mA,⟨od,es,ep,k _ _ (.inr d) F,c⟩,r⟩
 |own y=>obtain⟨ob,e⟩:=x;exact⟨ob,k _ _ (.inl rfl) e⟩
 |xd fs=>obtain⟨mA,⟨od,es,ep,e,c⟩,r⟩:=x;exact⟨mA,⟨od,es,ep,k _ _ (.inl rfl) e,c⟩,r⟩
 |rng lo hi=>obtain⟨t,u,v,e⟩:=x;exact⟨t,u,v,k _ _ (.inl rfl) e⟩
 |frz ob u ih=>obtain⟨e,q⟩:=x;exact⟨k _ _ (.inl rfl) e,ih q⟩
 | tbl ps =>
   have e:h.get? a=some { cls:=.none,data:=.fields ps }:=x;show h'.get? a=some { cls:=.none,data:=.fields ps };exact k a _ (.inl rfl) e
 | met f y =>
   have e:h.get? a=some (OO (.ref f) (.ref y)):=x;show h'.get? a=some (OO (.ref f) (.ref y));exact k a _ (.inl rfl) e
 |ext φ=>obtain⟨p,⟨o,e⟩,st⟩:=x;exact⟨st _ _ p λo q=>k _ _ (.inl rfl) q,⟨o,k _ _ (.inl rfl) e⟩,st⟩
theorem HOk.lt (x:HOk P w H h)(e:H a=some o):a<h.objs.size:=(x a o e).lt
theorem HOk.fresh (x:HOk P w H h)(e:h.objs.size<=a):H a=none:=by
 cases q:H a with
 |none=>rfl
 |some u=>exact absurd (Ju (x.lt q) e) (L8 _)
theorem HOk.kept (x:HOk P w H h)(k:∀ b u,h.get? b=some u->h'.get? b=some u):HOk P w H h':=λa o e =>
 (x a o e).stay (λb u _ q=>k b u q) (λ_ q=>q) λ_ _ q=>q
theorem HOk.laid (x:HOk P w H h)(k:∀ b u,h.get? b=some u->h'.get? b=some u)(z:h.objs.size<=a)(new:ObjOk P w (upd H a o) h' a o):HOk P w (upd H a o) h':=λb u e=>by
 have j:=x.fresh z
 by_cases hb:b=a
 ·subst hb;rw[au]at e;cases e;exact new
 ·rw[ai hb]at e;exact(x b u e).stay (λc v _ q=>k c v q) (λc q=>by rw[ai (aZ q j)];exact q) λc xs q=>by rw[ai (aZ q j)];exact q
end
def Rd (H:Hp) (a:Addr) (u:HO):Prop:=H a=some u∨∃ o,H a=some (.frz o u)
theorem Rd.ok {H:Hp}{u:HO}(r:Rd H a u)(x:HOk P w H h):ObjOk P w H h a u:=by
 rcases r with r|⟨o,r⟩
 ·exact x a u r
 ·obtain⟨_,q⟩:=x a _ r;exact q
noncomputable def Mut:Option HO->Prop
 |some (.lst _)=>True
 |some (.dK _)=>True
 |some (.dT _)=>True
 |some (.set _ _)=>True
 |some (.ins _ _ _)=>True
 |some (.ext _)=>True
 |_=>False
section
variable {P:Jy} {w:JQ} {H:Hp} {h h':Heap} {x e:Addr} {o':HO}
theorem HOk.write (ok:HOk P w H h)(mu:Mut (H x))(he:e=x∨H e=some (.own x))(k:∀ b u,b≠e->h.get? b=some u->h'.get? b=some u)(J:∃ u,h'.get? e=some u)(new:ObjOk P w (upd H x o') h' x o'):HOk P w (upd H x o') h':=λb u q=>by
 have nown:∀ c y,H c=some (.own y)->c≠x:=λc y r z=>by subst z;rw[r]at mu;exact mu
 have ntup:∀ c xs,H c=some (.tup xs)->c≠x:=λc xs r z=>by subst z;rw[r]at mu;exact mu
 by_cases hb:b=x
 ·subst hb;rw[au]at q;cases q;exact new
 ·rw[ai hb]at q
  by_cases j:b=e
  ·have q':H b=some (.own x):=by
    rcases he with z|z
    ·exact absurd (j.trans z) hb
    ·rw[j];exact z
   rw[q]at q';cases q';obtain⟨v,L⟩:=J;exact⟨v,by rw[j];exact L⟩
  ·refine(ok b u q).stay (λc v F r=>k c v ?_ r) (λc r=>by rw[ai (nown c b r)];exact r) λc xs r=>by rw[ai (ntup c xs r)];exact r
   rcases F with rfl|F
   ·exact j
   ·rintro rfl
    rcases he with z|z
    ·exact nown c b F z
    ·rw[F]at z;cases z;exact hb rfl
end
structure Un (fs ex:List Addr) (H H':Hp) (h h':Heap):Prop where
 keep:∀ b o,h.get? b=some o->H b=none->b∉fs->b∉ex->h'.get? b=some o
 slot:∀ b o,h.get? b=some o->H b=none->b∈fs->b∉ex -> ∃ sl,h'.get? b=some { o with slots:=sl }
 free:∀ b o,h.get? b=some o->H b=none->b∉ex->H' b=none
 there:∀ b o,h.get? b=some o->b∉ex -> ∃ o',h'.get? b=some o'
 tups:∀ b xs,H b=some (.tup xs)->H' b=some (.tup xs)
 frzs:∀ b o u,H b=some (.frz o u)->H' b=some (.frz o u)
 tbls:∀ b ps,H b=some (.tbl ps) -> ∃ more,H' b=some (.tbl (ps++more))
section
variable {fs fs' ex ex':List Addr} {H H1 H2:Hp} {h h1 h2 h':Heap} {a x e:Addr} {o:HO}
theorem Un.any (u:Un fs ex H H1 h h1){ob:Obj}(q:h.get? b=some ob)(n:H b=none)(hx:b∉ex):∃ sl,h1.get? b=some { ob with slots:=sl }:=by
 by_cases j:b∈fs
 ·exact u.slot b ob q n j hx
 ·exact⟨ob.slots,u.keep b ob q n j hx⟩
theorem Un.kept (k:∀ b u,h.get? b=some u->h'.get? b=some u):Un fs ex H H h h' :=
 ⟨λb ob q _ _ _=>k b ob q,λb ob q _ _ _=>⟨ob.slots,k b ob q⟩,λ_ _ _ n _=>n,λb ob q _=>⟨ob,k b ob q⟩,λ_ _ q=>q,λ_ _ _ q=>q,λ_ ps q=>⟨#[],by rw[q];simp⟩⟩
theorem Un.refl:Un fs ex H H h h:=Un.kept λ_ _ q=>q
theorem Un.laid (k:∀ b u,h.get? b=some u->h'.get? b=some u)(z:h.objs.size<=a)(j:H a=none):Un fs ex H (upd H a o) h h' where
 keep:=λb u q _ _ _=>k b u q
 slot:=λb u q _ _ _=>⟨u.slots,k b u q⟩
 free:=λb u q n _=>by rw[ai (JU (Ju (Jn q) z))];exact n
 there:=λb u q _=>⟨u,k b u q⟩
 tups:=λb xs q=>by rw[ai (aZ q j)];exact q
 frzs:=λb u xs q=>by rw[ai (aZ q j)];exact q
 tbls:=λb ps q=>⟨#[],by rw[ai (aZ q j),q];simp⟩
theorem Un.write (mu:Mut (H x))(he:e=x∨H e=some (.own x))(k:∀ b u,b≠e->h.get? b=some u->h'.get? b=some u)(F:∃ u,h'.get? e=some u):Un fs ex H (upd H x o) h h':=by
 have hx:∀ b,H b=none->b≠x:=λb n z=>by subst z;rw[n]at mu;exact mu
 have J:∀ b,H b=none->b≠e:=λb n z=>by
  subst z
  rcases he with r|r
  ·exact hx b n r
  ·rw[n]at r;cases r
 have hm:∀ b u,H b=some u -> ¬ Mut (some u)->b≠x:=λb u q nm z=>by subst z;rw[q]at mu;exact nm mu
 refine⟨λb u q n _ _=>k b u (J b n) q,λb u q n _ _=>⟨u.slots,k b u (J b n) q⟩,λb u q n _=>by rw[ai (hx b n)];exact n,λb u q _=>?_,
  λb xs q=>by rw[ai (hm b _ q λz=>z)];exact q,λb u xs q=>by rw[ai (hm b _ q λz=>z)];exact q,λb ps q=>⟨#[],by rw[ai (hm b _ q λz=>z),q];simp⟩⟩
 by_cases j:b=e
 ·subst j;exact F
 ·exact⟨u,k b u j q⟩
end
noncomputable def trk (h:Heap) (H:Hp):List Addr:=(KZ h.objs.size).filter λa=>(H a).isSome
noncomputable def fQ (h:Heap) (H:Hp):Heap:=PySem.W.hideAll h (trk h H)
theorem tX (h:Heap)(H:Hp):(fQ h H).objs.size=h.objs.size:=PySem.W.hideAll_size _ _
theorem wg {H:Hp}{o:Obj}(e:h.get? b=some o)(n:H b=none):(fQ h H).get? b=some o :=
 PySem.W.hideAll_get _ e λhm=>by
  have q:(H b).isSome=true:=(NX.mp hm).2;rw[n]at q;simp at q
theorem zo {H:Hp}{o:Obj}(e:(fQ h H).get? b=some o):h.get? b=some o/\H b=none:=by
 have e':h.get? b=some o:=PySem.W.of_hideAll (trk h H) e;refine⟨e',?_⟩
 cases q:H b with
 |none=>rfl
 | some x =>
   have hm:b∈trk h H:=NX.mpr ⟨Ot.mpr (Jn e'),by simp[q]⟩
   have z:(fQ h H).get? b=none:=PySem.W.hideAll_none (trk h H) hm;rw[z]at e;cases e
end
variable {H:Hp}{o:HO}{u:hW}{t' i j:Nat}{ch:List Addr}{x:Str}{e:Expr}{N:List Str}{M:Od}{A:JI}{v:V}{s:z0}
section
structure Mod (K:Frag) (mg:Str->Option hW) (base:Heap):Prop where
 kin:K.In base
 glob:base.Ns K6 mg
 blt:∃ mb,base.Ns PD mb /\ ∀ x:Str,x ≠ "__name__" -> mb x=LW x
 nolimit:base.NoLimit
structure Cx where
 prog:Jy
 w:JQ
 K:Frag
 mg:Str->Option hW
 base:Heap
 A:JI
 N:List Str
 s₀:z0
 H₀:Hp
 env:Env
 outer:List Env
 stack:List Env
 ex:List Addr
 fn:Str->Bool
 calm:Bool
 pn:List (Addr×Obj)
 xe:hW->z0->Prop
noncomputable def frs (l:List Env):List Addr:=l.filterMap (·.frame)
noncomputable abbrev Cx.fs (X:Cx):List Addr:=frs X.outer
def Vis (sc:Scope) (x:Str):Prop:=sc.names.lookup x=some .local∨sc.names.lookup x=some .cell∨sc.names.lookup x=some .free
def Loc (sc:Scope) (x:Str):Prop:=sc.names.lookup x=some .local∨sc.names.lookup x=some .cell
def Be (env:Env) (h:Heap) (m:Str->Option hW) (x:Str) (u:hW):Prop :=
 (env.kindOf x=some .local/\m x=some u)∨((env.kindOf x=some .cell∨env.kindOf x=some .free) /\ ∃ c,env.cells.lookup x=some c/\h.IsCell c (some u))
structure Cx.Ok (X:Cx):Prop where
 mod:Mod X.K X.mg X.base
 kind:X.env.scope.kind = .function
 glob:X.env.globals=K6
 blt:X.env.builtins=PD
 above:X.s₀.heap.objs.size<=X.env.locals
 inj:∀ x y c,X.env.cells.lookup x=some c->X.env.cells.lookup y=some c->x=y
 has:∀ x,(X.env.kindOf x=some .cell∨X.env.kindOf x=some .free) -> ∃ c,X.env.cells.lookup x=some c
 cab:∀ x c,X.fn x=true->X.env.cells.lookup x=some c->X.s₀.heap.objs.size<=c
 hd:X.calm=true->X.A.handled=none
 frames:X.A.frames=some X.stack
 stk:X.stack=X.outer∨(X.stack=X.env::X.outer/\X.env.frame=some X.env.locals)
 exf:∀ b∈X.ex,b≠X.env.locals /\ ∀ x c,X.env.cells.lookup x=some c->c≠b
 bs:∀ b o,X.base.get? b=some o->X.s₀.heap.get? b=some o/\X.H₀ b=none
 bsz:X.base.objs.size<=X.s₀.heap.objs.size
 noex:∀ b o,X.base.get? b=some o->b∉X.ex
 exfs:∀ b∈X.ex,b∉X.fs
 funs:X.s₀.heap.FunFrames X.base X.outer
 frf:∀ b∈X.fs,X.H₀ b=none
structure Inv (X:Cx) (pins:List (Addr×Obj)) (σ:List (Option V)) (H:Hp) (s:z0):Prop where
 ok:X.Ok
 os:s.os=X.s₀.os
 bare:Oh s.gens
 base:Un X.fs X.ex X.H₀ H X.s₀.heap s.heap
 loc:∃ m,s.heap.Ns X.env.locals m /\ ∀ (i:Nat) (x:Str) (v:V),X.N[i]? = some x -> σ[i]? = some (some v)->Vis X.env.scope x -> ∃ u,RelV v u/\Be X.env s.heap m x u
 cell:∀ x c,X.env.cells.lookup x=some c -> ∃ v,s.heap.IsCell c v
 free:H X.env.locals=none
 freeC:∀ x c,X.env.cells.lookup x=some c->H c=none
 pin:∀ p∈X.pn++pins,s.heap.get? p.1=some p.2/\H p.1=none/\p.1≠X.env.locals/\p.1∉X.fs /\ ∀ v,p.2.data ≠ .cell v
 hok:HOk X.prog X.w H s.heap
 len : σ.length=X.N.length
section
variable {X:Cx} {pins:List (Addr×Obj)} {σ:List (Option V)} {H H':Hp} {s:z0} {h':Heap}
theorem Cx.Ok.nofr (ok:X.Ok){o:Obj}(e:X.base.get? b=some o):b∉X.fs:=λj=>by
 have:=(ok.funs.mem j).1;rw[e]at this;cases this
theorem Inv.bs (I:Inv X pins σ H s):∀ b o,X.base.get? b=some o->s.heap.get? b=some o/\H b=none:=λb o e =>
 ⟨I.base.keep b o (I.ok.bs b o e).1 (I.ok.bs b o e).2 (I.ok.nofr e) (I.ok.noex b o e),I.base.free b o (I.ok.bs b o e).1 (I.ok.bs b o e).2 (I.ok.noex b o e)⟩
theorem Inv.bk (I:Inv X pins σ H s):∀ b o,X.base.get? b=some o->s.heap.get? b=some o:=λb o e=>(I.bs b o e).1
theorem Inv.mod (I:Inv X pins σ H s):Mod X.K X.mg X.base:=I.ok.mod
theorem Inv.kIn (I:Inv X pins σ H s):X.K.In s.heap:=I.ok.mod.kin.keeps I.bk
theorem Inv.lt (I:Inv X pins σ H s):X.env.locals<s.heap.objs.size:=let ⟨_,j,_⟩:=I.loc;j.lt
theorem Inv.sz (I:Inv X pins σ H s):X.s₀.heap.objs.size<=s.heap.objs.size:=K7 I.ok.above (Mw I.lt)
theorem Inv.nofs (I:Inv X pins σ H s)(h:s.heap.objs.size<=a):a∉X.fs:=λj=>by
 obtain⟨_,o,ho,_⟩:=I.ok.funs.mem j;exact absurd (Ju (Jn ho) (K7 I.sz h)) (L8 _)
theorem Inv.cne (I:Inv X pins σ H s):∀ x c,X.env.cells.lookup x=some c->c≠X.env.locals:=λx c e z=>by
 obtain⟨v,o,ho,hd⟩:=I.cell x c e;obtain⟨m,⟨o',es,ep,j,F,_⟩,_⟩:=I.loc;rw[z,j]at ho;cases ho;rw[F]at hd;cases hd
theorem Inv.funs (I:Inv X pins σ H s):s.heap.FunFrames X.base X.outer:=by
 have all:∀ (l:List Env),(∀ b∈frs l,b∈X.fs)->X.s₀.heap.FunFrames X.base l->s.heap.FunFrames X.base l:=by
  intro l
  induction l with
  |nil=>intro _ _;trivial
  | cons env r ih =>
    intro J O;obtain⟨hk,⟨L,o,hf,U,ho,hd⟩,hr⟩:=O;have j:L∈X.fs:=J L (by unfold frs;rw[MJ,hf];exact K0)
    obtain⟨sl,e⟩:=I.base.slot L o ho (I.ok.frf L j) j λz=>I.ok.exfs L z j;exact⟨hk,⟨L,_,hf,U,e,hd⟩,ih (λb F=>J b (by unfold frs;rw[MJ,hf];exact Ji _ F)) hr⟩
 exact all X.outer (λ_ F=>F) I.ok.funs
theorem Inv.stack (I:Inv X pins σ H s):s.heap.FunFrames X.base X.stack:=by
 rcases I.ok.stk with e|⟨e,hf⟩
 ·rw[e];exact I.funs
 ·rw[e];obtain⟨m,j,_⟩:=I.loc;refine .cons (by rw[I.ok.kind];decide) hf j ?_ I.funs
  exact NU (K7 I.ok.bsz I.ok.above)
theorem Inv.stkSub (I:Inv X pins σ H s):∀ b∈frs X.stack,b∈X.env.locals::X.fs:=λb j=>by
 rcases I.ok.stk with e|⟨e,hf⟩
 ·rw[e]at j;exact Ji _ j
 ·rw[e]at j;unfold frs at j;rw[MJ,hf]at j;exact j
theorem Inv.stkFree (I:Inv X pins σ H s):∀ b∈frs X.stack,H b=none:=λb j=>by
 rcases Jl.mp (I.stkSub b j) with e|j
 ·rw[e];exact I.free
 ·obtain⟨_,o,ho,_⟩:=I.ok.funs.mem j;exact I.base.free b o ho (I.ok.frf b j) λz=>I.ok.exfs b z j
theorem Inv.step {g':Array P7}{d':Drawn}(I:Inv X pins σ H s)(j:∀ b∈ch,(b∈X.ex∨X.s₀.heap.objs.size<=b)/\b≠X.env.locals/\(∀ x c,X.env.cells.lookup x=some c->c≠b) /\ ∀ p∈X.pn++pins,p.1≠b)(keep:∀ b o,b≠X.env.locals->b∉X.fs->b∉ch->s.heap.get? b=some o->H b=none->h'.get? b=some o)(slot:∀ b o,b≠X.env.locals->b∈X.fs->b∉ch->s.heap.get? b=some o->H b=none -> ∃ sl,h'.get? b=some { o with slots:=sl })(free:∀ b o,b∉ch->s.heap.get? b=some o->H b=none->H' b=none)(there:∀ b o,b∉ch->s.heap.get? b=some o -> ∃ o',h'.get? b=some o')(tups:∀ b xs,H b=some (.tup xs)->H' b=some (.tup xs))(frzs:∀ b o u,H b=some (.frz o u)->H' b=some (.frz o u))(tbls:∀ b ps,H b=some (.tbl ps) -> ∃ more,H' b=some (.tbl (ps++more)))(ns:∀ m,s.heap.Ns X.env.locals m->h'.Ns X.env.locals m)(hok:HOk X.prog X.w H' h')(Y:Oh g') :
 Inv X pins σ H' { s with heap:=h',gens:=g',drawn:=d',toks:=t' }:=by
 have neL:∀ b o,X.s₀.heap.get? b=some o->b≠X.env.locals:=λb o e=>JU (Ju (Jn e) I.ok.above);have neC:∀ b o,X.s₀.heap.get? b=some o->b∉X.ex->b∉ch:=λb o e hx J=>by
  rcases (j b J).1 with z|z
  ·exact hx z
  ·exact absurd (Ju (Jn e) z) (L8 _)
 have cellK:∀ x c,X.env.cells.lookup x=some c -> ∀ v,s.heap.IsCell c v->h'.IsCell c v:=λx c e v ⟨o,ho,hd⟩=>by
  have nch:c∉ch:=λz=>(j c z).2.2.1 x c e rfl
  by_cases O:c∈X.fs
  ·obtain⟨sl,q⟩:=slot c o (I.cne x c e) O nch ho (I.freeC x c e);exact⟨_,q,hd⟩
  ·exact⟨o,keep c o (I.cne x c e) O nch ho (I.freeC x c e),hd⟩
 refine⟨I.ok,I.os,Y,⟨λb o e n J hx=>?_,λb o e n J hx=>?_,λb o e n hx=>?_,λb o e hx=>?_,λb xs e=>tups b xs (I.base.tups b xs e),λb o xs e=>frzs b o xs (I.base.frzs b o xs e),λb ps e=>?_⟩,?_,λx c e=>?_,?_,λx c e=>?_,λp U=>?_,hok,I.len⟩
 ·exact keep b o (neL b o e) J (neC b o e hx) (I.base.keep b o e n J hx) (I.base.free b o e n hx)
 ·obtain⟨sl,F⟩:=I.base.slot b o e n J hx;obtain⟨sl',L⟩:=slot b _ (neL b o e) J (neC b o e hx) F (I.base.free b o e n hx);exact⟨sl',L⟩
 ·obtain⟨o',F⟩:=I.base.there b o e hx;exact free b o' (neC b o e hx) F (I.base.free b o e n hx)
 ·obtain⟨o',F⟩:=I.base.there b o e hx;exact there b o' (neC b o e hx) F
 ·obtain⟨Z,F⟩:=I.base.tbls b ps e;obtain⟨m2,L⟩:=tbls b _ F;exact⟨Z++m2,by rw[L,Array.append_assoc]⟩
 ·obtain⟨m,hn,hl⟩:=I.loc;refine⟨m,ns m hn,λi x v F L e3=>?_⟩;obtain⟨u,r,l⟩:=hl i x v F L e3;refine⟨u,r,?_⟩
  rcases l with l|⟨k,c,e,z⟩
  ·exact .inl l
  ·exact .inr ⟨k,c,e,cellK x c e _ z⟩
 ·obtain⟨v,z⟩:=I.cell x c e;exact⟨v,cellK x c e v z⟩
 ·obtain⟨m,⟨o,_,_,ho,_⟩,_⟩:=I.loc;exact free _ o (λz=>(j _ z).2.1 rfl) ho I.free
 ·obtain⟨v,o,ho,hd⟩:=I.cell x c e;exact free c o (λz=>(j c z).2.2.1 x c e rfl) ho (I.freeC x c e)
 ·obtain⟨e,n,ne,nf,d⟩:=I.pin p U;have nch:p.1∉ch:=λz=>(j p.1 z).2.2.2 p U rfl;exact⟨keep p.1 p.2 ne nf nch e n,free p.1 p.2 nch e n,ne,nf,d⟩
theorem Inv.un (I:Inv X pins σ H s)(u:Un X.fs [] H H' s.heap h')(hok:HOk X.prog X.w H' h'):Inv X pins σ H' { s with heap:=h',toks:=t' }:=by
 obtain⟨m,⟨o,es,ep,ho,r⟩,_⟩:=id I.loc;obtain⟨sl,J⟩:=u.any ho I.free (by simp)
 exact I.step (g':=s.gens) (d':=s.drawn) (ch:=[]) (λ_ z=>nomatch z) (λb o _ F _ e n=>u.keep b o e n F (by simp)) (λb o _ F _ e n=>u.slot b o e n F (by simp)) (λb o _ e n=>u.free b o e n (by simp)) (λb o _ e=>u.there b o e (by simp)) u.tups u.frzs u.tbls (λm' hm=>by
  obtain⟨o',es',ep',j,r'⟩:=hm;rw[ho]at j;cases j;exact⟨_,es',ep',J,r'⟩) hok I.bare
theorem Inv.call {g':Array P7}{d':Drawn}(I:Inv X pins σ H s)(u:Un (frs X.stack) ch H H' s.heap h')(hok:HOk X.prog X.w H' h')(O:Oh g')(F:∀ b∈ch,(b∈X.ex∨X.s₀.heap.objs.size<=b)/\b≠X.env.locals/\(∀ x c,X.env.cells.lookup x=some c->c≠b) /\ ∀ p∈X.pn++pins,p.1≠b) :
 Inv X pins σ H' { s with heap:=h',gens:=g',drawn:=d',toks:=t' }:=by
 obtain⟨m,⟨o,es,ep,ho,r⟩,_⟩:=id I.loc;obtain⟨sl,L⟩:=u.any ho I.free λz=>(F _ z).2.1 rfl;exact I.step (ch:=ch) F (λb o L U j e n=>u.keep b o e n (λz=>(Jl.mp (I.stkSub b z)).elim L U) j) (λb o _ _ j e n=>u.any e n j) (λb o j e n=>u.free b o e n j) (λb o j e=>u.there b o e j) u.tups u.frzs u.tbls (λm' hm=>by
  obtain⟨o',es',ep',J,r'⟩:=hm;rw[ho]at J;cases J;exact⟨_,es',ep',L,r'⟩) hok O
theorem Inv.turned {it:Addr}(I:Inv X pins σ H s)(k:∀ b o,b≠it->s.heap.get? b=some o->h'.get? b=some o)(J:H it=none)(F:it≠X.env.locals)(h1:it∈X.ex∨X.s₀.heap.objs.size<=it)(h2:∀ x c,X.env.cells.lookup x=some c->c≠it)(L:∀ p∈X.pn++pins,p.1≠it):Inv X pins σ H { s with heap:=h',toks:=t' }:=by
 have nit:∀ b u,H b=some u->b≠it:=λb u e z=>by rw[z,J]at e;cases e
 refine I.step (g':=s.gens) (d':=s.drawn) (ch:=[it]) (λb O=>?_) (λb o _ _ j e _=>k b o (λz=>j (by simp[z])) e) (λb o _ _ j e _=>⟨o.slots,k b o (λz=>j (by simp[z])) e⟩) (λ_ _ _ _ n=>n)
  (λb o j e=>⟨o,k b o (λz=>j (by simp[z])) e⟩) (λ_ _ e=>e) (λ_ _ _ e=>e) (λb ps e=>⟨#[],by rw[e];simp⟩) (λm hm=>?_) (λb u e=>?_) I.bare
 ·have e:b=it:=by simpa using O
  subst e;exact⟨h1,F,h2,L⟩
 ·obtain⟨o,es,ep,ho,r⟩:=hm;exact⟨o,es,ep,k _ o (Ne.symm F) ho,r⟩
 ·refine(I.hok b u e).stay (λc v j q=>k c v ?_ q) (λ_ q=>q) λ_ _ q=>q
  rcases j with z|z
  ·rw[z];exact nit b u e
  ·exact nit c _ z
theorem Inv.tok (I:Inv X pins σ H s)(t:Nat):Inv X pins σ H { s with toks:=t }:=I.un (h':=s.heap) (t':=t) Un.refl I.hok
theorem Inv.kept (I:Inv X pins σ H s)(k:∀ b u,s.heap.get? b=some u->h'.get? b=some u):Inv X pins σ H { s with heap:=h',toks:=t' }:=I.un (Un.kept k) (I.hok.kept k)
theorem Inv.laid (I:Inv X pins σ H s)(k:∀ b u,s.heap.get? b=some u->h'.get? b=some u)(j:s.heap.objs.size<=a)(new:ObjOk X.prog X.w (upd H a o) h' a o) :
 Inv X pins σ (upd H a o) { s with heap:=h',toks:=t' }:=I.un (Un.laid k j (I.hok.fresh j)) (I.hok.laid k j new)
theorem Inv.write {x e:Addr}(I:Inv X pins σ H s)(mu:Mut (H x))(he:e=x∨H e=some (.own x))(k:∀ b u,b≠e->s.heap.get? b=some u->h'.get? b=some u)(j:∃ u,h'.get? e=some u)(new:ObjOk X.prog X.w (upd H x o) h' x o):Inv X pins σ (upd H x o) { s with heap:=h',toks:=t' }:=I.un (Un.write mu he k j) (I.hok.write mu he k j new)
theorem Inv.pins_of {pins':List (Addr×Obj)}(I:Inv X pins σ H s)(h:∀ p∈pins',s.heap.get? p.1=some p.2/\H p.1=none/\p.1≠X.env.locals/\p.1∉X.fs /\ ∀ v,p.2.data ≠ .cell v):Inv X pins' σ H s :=
 ⟨I.ok,I.os,I.bare,I.base,I.loc,I.cell,I.free,I.freeC,λp j=>(Jz.mp j).elim (λz=>I.pin p (NV _ z)) (h p),I.hok,I.len⟩
theorem iL (z:N.Nodup)(a:N[i]? = some x)(b:N[j]? = some x):i=j:=by
 obtain⟨h1,F⟩:=Jw.mp a;obtain⟨h2,J⟩:=Jw.mp b;exact(List.getElem_inj z).mp (F.trans J.symm)
theorem kQ {E:hW->z0->Prop}{Q:Unit->z0->Prop}(I:Inv X pins σ H s)(hN:X.N.Nodup)(hi:X.N[i]? = some x)(hx:Loc X.env.scope x)(r:RelV v u)(h:∀ s',Inv X pins (σ.set i (some v)) H s'->(∃ a,Kr a s.heap s'.heap/\(a=X.env.locals∨X.env.cells.lookup x=some a))->Q () s')(hf:X.fn x=true∨X.env.scope.names.lookup x=some .local:=by first|exact .inl rfl|exact .inr rfl|assumption):Jm M A (storeName X.env x u) Q E s:=by
 obtain⟨m,hn,hl⟩:=id I.loc;have HJ:(X.env.scope.kind == .class || (X.env.scope.kind == .module&&X.env.locals != X.env.globals))=false:=by rw[I.ok.kind];rfl
 have HK:i<σ.length:=by rw[I.len];exact(Jw.mp hi).1
 have cne:=I.cne;have tracked:∀ {a:Addr} {h':Heap},(∃ o,s.heap.get? a=some o/\H a=none)->Kr a s.heap h'->HOk X.prog X.w H h':=λ{a h'} ha F b ob e=>by
  obtain⟨_,_,O⟩:=ha;refine(I.hok b ob e).stay (λc w' L q=>(F.2 c ?_).trans q) (λ_ q=>q) λ_ _ q=>q;rintro rfl
  rcases L with rfl|L
  ·rw[O]at e;cases e
  ·rw[O]at L;cases L
 rcases hx with hk|hk
 ·refine wpAny_storeName_local hk hn (λh' HQ F=>?_) HJ;obtain⟨oL,_,_,HR,_⟩:=id hn;refine h _ ⟨I.ok,I.os,I.bare,⟨λb o e n Y hx=>?_,λb o e n Y hx=>?_,I.base.free,λb o e hx=>?_,I.base.tups,I.base.frzs,I.base.tbls⟩,⟨_,HQ,λj y v' J U e3=>?_⟩,λy c e=>?_,I.free,I.freeC,λp hp=>?_,tracked ⟨oL,HR,I.free⟩ F,by simpa using I.len⟩ ⟨_,F,.inl rfl⟩
  ·exact(F.2 b (JU (Ju (Jn e) I.ok.above))).trans (I.base.keep b o e n Y hx)
  ·obtain⟨sl,J⟩:=I.base.slot b o e n Y hx;exact⟨sl,(F.2 b (JU (Ju (Jn e) I.ok.above))).trans J⟩
  ·obtain⟨o',J⟩:=I.base.there b o e hx;exact⟨o',(F.2 b (JU (Ju (Jn e) I.ok.above))).trans J⟩
  ·by_cases Z:j=i
   ·subst Z;rw[hi]at J;cases J;rw[JY HK]at U
    cases U
    exact⟨u,r,.inl ⟨hk,by simp⟩⟩
   ·rw[La (Ne.symm Z)]at U;obtain⟨u',r',q⟩:=hl j y v' J U e3;refine⟨u',r',?_⟩
    rcases q with⟨k,e⟩|⟨k,c,e,z⟩
    ·refine .inl ⟨k,?_⟩;have:y≠x:=λe=>Z (iL hN J (e ▸ hi));simp[this,e]
    ·exact .inr ⟨k,c,e,z.sameBut F (cne y c e)⟩
  ·obtain⟨w',z⟩:=I.cell y c e;exact⟨w',z.sameBut F (cne y c e)⟩
  ·obtain⟨e,n,ne,nf,d⟩:=I.pin p hp;exact⟨(F.2 p.1 ne).trans e,n,ne,nf,d⟩
 ·have HI:X.fn x=true:=by
   rcases hf with z|z
   ·exact z
   ·rw[z]at hk;cases hk
  obtain⟨c,L⟩:=I.ok.has x (.inl hk);obtain⟨w',z⟩:=I.cell x c L;refine wpAny_storeName_cell I.ok.kind hk L z (λh' HL F=>?_);obtain⟨oc,HM,HN⟩:=id z;refine h { s with heap:=h' } ⟨I.ok,I.os,I.bare,⟨λb o e n Y hx=>?_,λb o e n Y hx=>?_,I.base.free,λb o e hx=>?_,I.base.tups,I.base.frzs,I.base.tbls⟩,⟨m,hn.sameBut F (Ne.symm (cne x c L)),λj y v' J U e3=>?_⟩,λy c' e=>?_,I.free,I.freeC,λp hp=>?_,tracked ⟨oc,HM,I.freeC x c L⟩ F,by simpa using I.len⟩ ⟨c,F,.inr L⟩
  ·exact(F.2 b (JU (Ju (Jn e) (I.ok.cab x c HI L)))).trans (I.base.keep b o e n Y hx)
  ·obtain⟨sl,J⟩:=I.base.slot b o e n Y hx;exact⟨sl,(F.2 b (JU (Ju (Jn e) (I.ok.cab x c HI L)))).trans J⟩
  ·obtain⟨o',J⟩:=I.base.there b o e hx;exact⟨o',(F.2 b (JU (Ju (Jn e) (I.ok.cab x c HI L)))).trans J⟩
  ·by_cases Z:j=i
   ·subst Z;rw[hi]at J;cases J;rw[JY HK]at U
    cases U
    exact⟨u,r,.inr ⟨.inl hk,c,L,HL⟩⟩
   ·rw[La (Ne.symm Z)]at U;obtain⟨u',r',q⟩:=hl j y v' J U e3;refine⟨u',r',?_⟩
    rcases q with q|⟨k,c',e,z'⟩
    ·exact .inl q
    ·refine .inr ⟨k,c',e,z'.sameBut F ?_⟩;rintro rfl;exact Z (iL hN J (I.ok.inj _ _ _ e L ▸ hi))
  ·by_cases HP:c'=c
   ·subst HP;exact⟨_,HL⟩
   ·obtain⟨w2,z2⟩:=I.cell y c' e;exact⟨w2,z2.sameBut F HP⟩
  ·obtain⟨e,n,ne,nf,d⟩:=I.pin p hp;refine⟨(F.2 p.1 ?_).trans e,n,ne,nf,d⟩;intro q;rw[q,HM]at e;have q':oc=p.2:=Ki.inj e;exact d w' (by rw[<- q'];exact HN)
theorem cW {E:hW->z0->Prop}{Q:Unit->z0->Prop}(I:Inv X pins σ H s)(j:X.N.Nodup)(hi:X.N[i]? = some x)(hx:Loc X.env.scope x)(r:RelV v u)(h:∀ s',Inv X pins (σ.set i (some v)) H s'->Q () s')(hf:X.fn x=true∨X.env.scope.names.lookup x=some .local:=by first|exact .inl rfl|exact .inr rfl|assumption):Jm M A (storeName X.env x u) Q E s :=
 kQ I j hi hx r (λs' I' _=>h s' I') hf
theorem Inv.call' {s':z0}(I:Inv X pins σ H s)(ho:s'.os=s.os)(u:Un (frs X.stack) ch H H' s.heap s'.heap)(hok:HOk X.prog X.w H' s'.heap)(z:Oh s'.gens)(j:∀ b∈ch,(b∈X.ex∨X.s₀.heap.objs.size<=b)/\b≠X.env.locals/\(∀ x c,X.env.cells.lookup x=some c->c≠b) /\ ∀ p∈X.pn++pins,p.1≠b):Inv X pins σ H' s':=by
 obtain⟨h',g',d',t',o'⟩:=s';have e:o'=s.os:=ho;subst e;exact I.call (g':=g') (t':=t') (d':=d') u hok z j
end
noncomputable abbrev XK:=hW->Option Addr->Hp->Prop
noncomputable abbrev St:=List (Option V)
noncomputable abbrev VK:=V->Hp->Prop
noncomputable abbrev TE:=St->Hp->VK->Prop
noncomputable abbrev TT:=St->Hp->(Bool->Hp->Prop)->Prop
noncomputable abbrev TA:=St->Hp->(List V->Hp->Prop)->Prop
structure bD where
 nx:St->Hp->Prop
 rt:VK
 bk:St->Hp->Prop:=λ_ _=>False
 ct:St->Hp->Prop:=λ_ _=>False
noncomputable abbrev TS:=bD->St->Hp->Prop
def EP (X:Cx) (pins:List (Addr×Obj)) (σ:St) (Q:VK) (u:hW) (s':z0):Prop:=∃ v H',Inv X pins σ H' s'/\RelV v u/\Q v H'
def TP (X:Cx) (pins:List (Addr×Obj)) (σ:St) (Q:Bool->Hp->Prop) (b:Bool) (s':z0):Prop:=∃ H',Inv X pins σ H' s'/\Q b H'
def AP (X:Cx) (pins:List (Addr×Obj)) (σ:St) (Q:List V->Hp->Prop) (us:List hW) (s':z0):Prop:=∃ vs H',Inv X pins σ H' s'/\Vals vs us/\Q vs H'
def SP (X:Cx) (pins:List (Addr×Obj)) (D:bD) (f:Flow) (s':z0):Prop :=
 match f with
 |.next=>∃ σ' H',Inv X pins σ' H' s'/\D.nx σ' H'
 |.brk=>∃ σ' H',Inv X pins σ' H' s'/\D.bk σ' H'
 |.cont=>∃ σ' H',Inv X pins σ' H' s'/\D.ct σ' H'
 |.ret u=>∃ v σ' H',Inv X pins σ' H' s'/\RelV v u/\D.rt v H'
def PE (X:Cx) (e:Expr) (t:TE):Prop :=
 ∀ (pins:List (Addr×Obj)) (s:z0) (σ:St) (H:Hp) (Q:VK),Inv X pins σ H s->t σ H Q->Jm (model X.prog X.w) X.A (eval e X.env) (EP X pins σ Q) X.xe s
def PT (X:Cx) (e:Expr) (t:TT):Prop :=
 ∀ (pins:List (Addr×Obj)) (s:z0) (σ:St) (H:Hp) (Q:Bool->Hp->Prop),Inv X pins σ H s->t σ H Q->Jm (model X.prog X.w) X.A (isTrue e X.env (eval e X.env)) (TP X pins σ Q) X.xe s
def PW (X:Cx) (e:Expr) (t:TT):Prop :=
 ∀ (whole:Sem hW) (pins:List (Addr×Obj)) (s:z0) (σ:St) (H:Hp) (Q:Bool->Hp->Prop),Inv X pins σ H s->t σ H Q->Jm (model X.prog X.w) X.A (isTrue e X.env whole) (TP X pins σ Q) X.xe s
theorem PW.pt {X:Cx}{t:TT}(h:PW X e t):PT X e t:=h _
def PA (X:Cx) (es:List Expr) (t:TA):Prop :=
 ∀ (pos:Pos) (pins:List (Addr×Obj)) (s:z0) (σ:St) (H:Hp) (Q:List V->Hp->Prop),Inv X pins σ H s->t σ H Q->Jm (model X.prog X.w) X.A (spliced (KH pos (Jt es X.env))) (AP X pins σ Q) X.xe s
def PS (X:Cx) (st:Stmt) (t:TS):Prop :=
 ∀ (pins:List (Addr×Obj)) (s:z0) (σ:St) (H:Hp) (D:bD),Inv X pins σ H s->t D σ H->Jm (model X.prog X.w) X.A (exec st X.env) (SP X pins D) X.xe s
def PSs (X:Cx) (st:List Stmt) (t:TS):Prop :=
 ∀ (pins:List (Addr×Obj)) (s:z0) (σ:St) (H:Hp) (D:bD),Inv X pins σ H s->t D σ H->Jm (model X.prog X.w) X.A (execs st X.env) (SP X pins D) X.xe s
theorem thn {α:Type}{t:Sem α}{Q Q' : α -> z0->Prop}{E:hW->z0->Prop}(h:Jm M A t Q E s)(j:∀ a s,Q a s->Q' a s):Jm M A t Q' E s:=JS h j λ_ _ x=>x
end
variable {X:Cx}{pos:Pos}{pins:List (Addr×Obj)}{σ:St}{c:Expr}
section
section
variable {X:Cx}
noncomputable def rB (i:Nat):TE:=λσ H Q=>∃ v,σ[i]? = some (some v)/\Q v H
noncomputable def tC (v:V):TE:=λ_ H Q=>Q v H
theorem gu (J:X.N[i]? = some x)(L:Vis X.env.scope x)(hd:(x==("__debug__":Str))=false:=by decide)(z:(x==("__classdict__":Str))=false:=by decide):PE X (.Name x pos) (rB i):=by
 intro pins s σ H Q I h;obtain⟨v,e,h⟩:=h;obtain⟨m,O,U⟩:=I.loc;obtain⟨u,r,l⟩:=U i x v J e L;have fin:EP X pins σ Q u s:=⟨v,H,I,r,h⟩
 rcases l with⟨hk,hm⟩|⟨hk,c,F,j⟩
 ·exact SX (Q9 I.ok.kind hk O hm fin) hd
 ·rcases hk with hk|hk
  ·exact SX (QG I.ok.kind hk F j fin) hd
  ·exact SX (wpAny_loadName_free I.ok.kind hk F j fin z) hd
theorem Bf {i j pos}:PE X (.Constant (.int i) j pos) (tC (.int i)):=λ_ _ _ H _ I h=>R6 ⟨.int i,H,I.tok _,⟨_,rfl⟩,h⟩
theorem Dl {b j pos}:PE X (.Constant (.bool b) j pos) (tC (.bl b)):=λ_ _ _ H _ I h=>Constant_bool ⟨.bl b,H,I,rfl,h⟩
theorem jb {j pos}:PE X (.Constant .none j pos) (tC .non):=λ_ _ _ H _ I h=>Constant_none ⟨.non,H,I,rfl,h⟩
theorem jc {x j pos}:PE X (.Constant (.str x) j pos) (tC (.str x)):=λ_ _ _ H _ I h=>Calls.Constant_str ⟨.str x,H,I.tok _,⟨_,rfl⟩,h⟩
def Gl (X:Cx) (x:Str):Prop:=X.env.kindOf x=some .globalImplicit
theorem cE {E Q:hW->z0->Prop}(I:Inv X pins σ H s)(j:Gl X x)(hm:X.mg x=some u)(h:Q u s)(hd:(x==("__debug__":Str))=false:=by decide):Jm (model X.prog X.w) X.A (eval (.Name x pos) X.env) Q E s :=
 Ou I.ok.kind j (Calls.loadGlobal_global (by rw[I.ok.glob];exact I.mod.glob.keeps I.bk) hm h) hd
theorem eO {E Q:hW->z0->Prop}(I:Inv X pins σ H s)(j:Gl X x)(hm:X.mg x=none)(z:LW x=some u)(h:Q u s)(F:x ≠ "__name__":=by decide)(hd:(x==("__debug__":Str))=false:=by decide):Jm (model X.prog X.w) X.A (eval (.Name x pos) X.env) Q E s:=by
 obtain⟨mb,h1,h2⟩:=I.mod.blt;exact Ou I.ok.kind j (Calls.loadGlobal_builtin (by rw[I.ok.glob];exact I.mod.glob.keeps I.bk) hm (by rw[I.ok.blt];exact h1.keeps I.bk) ((h2 x F).trans z) h) hd
theorem zp (j:Gl X x)(hm:X.mg x=some u)(r:RelV v u)(hd:(x==("__debug__":Str))=false:=by decide):PE X (.Name x pos) (tC v) :=
 λ_ _ _ H _ I h=>cE I j hm ⟨v,H,I,r,h⟩ hd
theorem zq (j:Gl X x)(hm:X.mg x=none)(z:LW x=some u)(r:RelV v u)(F:x ≠ "__name__":=by decide)(hd:(x==("__debug__":Str))=false:=by decide):PE X (.Name x pos) (tC v) :=
 λ_ _ _ H _ I h=>eO I j hm z ⟨v,H,I,r,h⟩ F hd
variable {a b:Expr} {ta tb:TE} {pos:Pos}
noncomputable def tB (t:TE):TT:=λσ H Q=>t σ H λx H1=>∃ c,x = .bl c/\Q c H1
theorem Bg {t:TE}(h:PE X e t)(he:∀ whole,isTrue e X.env whole=(do let v <- whole;Np e.pos;holding [v] (truthy v)):=by intro _;rfl):PT X e (tB t):=by
 intro pins s σ H Q I hw;refine isTrue_plain (thn (h pins s σ H _ I hw) λv s1 g9=>?_) (he _);obtain⟨x,H1,j,z,F⟩:=g9;obtain⟨d,rfl,q⟩:=F
 cases z
 exact Kl ⟨H1,j,q⟩
variable {tA tB':TT} {rest:List Expr}
noncomputable def EH (t u:TT):TT:=λσ H Q=>t σ H λc H1=>if c=true then u σ H1 Q else Q false H1
noncomputable def tOr (t u:TT):TT:=λσ H Q=>t σ H λc H1=>if c=true then Q true H1 else u σ H1 Q
noncomputable def EI (t:TT):TT:=λσ H Q=>t σ H λc H1=>Q (!c) H1
theorem zr (j:PT X a tA):PW X (.BoolOp .And [a] pos) tA:=by
 intro wh pins s σ H Q I h;refine isTrue_and (thn (j pins s σ H Q I h) λc s1 e=>?_)
 cases c with
 |true=>exact isTrue_and_nil e
 |false=>exact e
theorem Bh (j:PT X a tA):PW X (.BoolOp .Or [a] pos) tA:=by
 intro wh pins s σ H Q I h;refine isTrue_or (thn (j pins s σ H Q I h) λc s1 e=>?_)
 cases c with
 |false=>exact isTrue_or_nil e
 |true=>exact e
theorem Bj (F:PT X a tA)(J:PW X (.BoolOp .And (b::rest) pos) tB'):PW X (.BoolOp .And (a::b::rest) pos) (EH tA tB'):=by
 intro wh pins s σ H Q I h;refine isTrue_and (thn (F pins s σ H _ I h) λc s1 L=>?_);obtain⟨H1,j,z⟩:=L
 cases c with
 |true=>exact J wh pins s1 σ H1 Q j z
 |false=>exact⟨H1,j,z⟩
theorem Dm (F:PT X a tA)(J:PW X (.BoolOp .Or (b::rest) pos) tB'):PW X (.BoolOp .Or (a::b::rest) pos) (tOr tA tB'):=by
 intro wh pins s σ H Q I h;refine isTrue_or (thn (F pins s σ H _ I h) λc s1 L=>?_);obtain⟨H1,j,z⟩:=L
 cases c with
 |true=>exact⟨H1,j,z⟩
 |false=>exact J wh pins s1 σ H1 Q j z
theorem Bl (j:PT X a tA):PT X (.UnaryOp .Not a pos) (EI tA):=by
 intro pins s σ H Q I h;exact isTrue_not (j pins s σ H (λc H1=>Q (!c) H1) I h)
noncomputable def Dn (ta tb:TE):TE:=λσ H Q=>ta σ H λx H1=>∃ c,x = .bl c/\if c=true then tb σ H1 Q else Q (.bl false) H1
noncomputable def EJ (ta tb:TE):TE:=λσ H Q=>ta σ H λx H1=>∃ c,x = .bl c/\if c=true then Q (.bl true) H1 else tb σ H1 Q
noncomputable def Do (ta:TE):TE:=λσ H Q=>ta σ H λx H1=>∃ c,x = .bl c/\Q (.bl (!c)) H1
theorem Bm {op}{t:TE}(h:PE X a t):PE X (.BoolOp op [a] pos) t:=λpins s σ H Q I hw=>BoolOp_one (h pins s σ H Q I hw)
theorem Bo (F:PE X a ta)(J:PE X (.BoolOp .And (b::rest) pos) tb):PE X (.BoolOp .And (a::b::rest) pos) (Dn ta tb):=by
 intro pins s σ H Q I h;refine BoolOp_and (thn (F pins s σ H _ I h) λv s1 L=>?_);obtain⟨x,H1,z,O,j⟩:=L;obtain⟨c,rfl,j⟩:=j
 cases O
 refine Kl ?_
 cases c with
 |true=>exact J pins s1 σ H1 Q z j
 |false=>exact⟨.bl false,H1,z,rfl,j⟩
theorem Dp (F:PE X a ta)(J:PE X (.BoolOp .Or (b::rest) pos) tb):PE X (.BoolOp .Or (a::b::rest) pos) (EJ ta tb):=by
 intro pins s σ H Q I h;refine BoolOp_or (thn (F pins s σ H _ I h) λv s1 L=>?_);obtain⟨x,H1,z,O,j⟩:=L;obtain⟨c,rfl,j⟩:=j
 cases O
 refine Kl ?_
 cases c with
 |false=>exact J pins s1 σ H1 Q z j
 |true=>exact⟨.bl true,H1,z,rfl,j⟩
theorem Bp (z:PE X a ta):PE X (.UnaryOp .Not a pos) (Do ta):=by
 intro pins s σ H Q I h;refine UnaryOp_ (thn (z pins s σ H _ I h) λv s1 F=>?_);obtain⟨x,H1,J,L,j⟩:=F;obtain⟨c,rfl,j⟩:=j
 cases L
 exact not_of (Kl ⟨.bl (!c),H1,J,rfl,j⟩)
noncomputable def tIf (t:TT) (ta tb:TE):TE:=λσ H Q=>t σ H λc H1=>if c=true then ta σ H1 Q else tb σ H1 Q
theorem nk (F:PT X c tA)(J:PE X a ta)(L:PE X b tb):PE X (.IfExp c a b pos) (tIf tA ta tb):=by
 intro pins s σ H Q I h;refine wpAny_IfExp (thn (F pins s σ H _ I h) λd s1 O=>?_);obtain⟨H1,j,z⟩:=O
 cases d with
 |true=>exact J pins s1 σ H1 Q j z
 |false=>exact L pins s1 σ H1 Q j z
end
end
variable {K:Frag}{tg:Expr}{te:TE}{body:List Stmt}
section
def SqL (K:Frag) (H:Hp) (a:Addr) (xs:List V):Prop :=
 Rd H a (.lst xs) ∨
  ∃ (o:Obj) (its:Array hW) (n:Nat),K.lookup a=some o/\o.cls = .type "list" /\ o.dict=none/\o.data = .seq its n/\its.size<=Je/\Vals xs its.toList
def SqT (K:Frag) (H:Hp) (a:Addr) (xs:List V):Prop :=
 Rd H a (.tup xs) ∨
  ∃ (o:Obj) (its:Array hW) (n:Nat),K.lookup a=some o/\o.cls = .type "tuple" /\ o.data = .seq its n/\its.size<=Je/\Vals xs its.toList
noncomputable def EK:hW->Option V
 |.none=>some .non
 |.bool b=>some (.bl b)
 |.int i _=>some (.int i)
 |.str x _=>some (.str x)
 |.bytes b _=>some (.byt b)
 |.float b _=>some (.flt b)
 |.ref a=>some (.ref a)
 |.type n=>some (.ty n)
 |_=>none
theorem RelV.abs {x:V}(r:RelV x u):EK u=some x:=by
 cases x with
 |non=>cases r;rfl
 |bl _=>cases r;rfl
 |int _=>obtain⟨t,rfl⟩:=r;rfl
 |str _=>obtain⟨t,rfl⟩:=r;rfl
 |byt _=>obtain⟨t,rfl⟩:=r;rfl
 |flt _=>obtain⟨t,rfl⟩:=r;rfl
 |ref _=>cases r;rfl
 |ty _=>cases r;rfl
theorem RelV.inj {x y:V}(r:RelV x u)(q:RelV y u):x=y:=Ki.inj (r.abs.symm.trans q.abs)
theorem Vals.inj:∀ {xs ys:List V} {us:List hW},Vals xs us->Vals ys us->xs=ys
 |_,_,_,.nil,.nil=>rfl
 |_,_,_,.cons r t,.cons r' t'=>by rw[r.inj r',Vals.inj t t']
section
variable {X:Cx} {pins:List (Addr×Obj)} {σ:St} {H:Hp} {s:z0} {a:Addr} {xs ys:List V}
theorem SqL.of (h:H a=some (.lst xs)):SqL K H a xs:=.inl (.inl h)
theorem SqT.of (h:H a=some (.tup xs)):SqT K H a xs:=.inl (.inl h)
theorem Inv.list (I:Inv X pins σ H s)(h:SqL X.K H a xs):∃ its:List hW,Vals xs its/\PlainL s.heap a its.toArray/\xs.length<=Je:=by
 rcases h with h|⟨o,its,n,hk,j,hd,F,J,r⟩
 ·obtain⟨z,its,n,r,e⟩:=h.ok I.hok;exact⟨its,r,⟨_,n,e,rfl,rfl,rfl⟩,z⟩
 ·refine⟨its.toList,r,⟨o,n,I.kIn a o hk,j,hd,by simpa using F⟩,?_⟩
  have e:=r.length;simp only[Oe]at e;lia
theorem Inv.tuple (I:Inv X pins σ H s)(h:SqT X.K H a xs):∃ its:List hW,Vals xs its/\IsTup s.heap a its.toArray/\xs.length<=Je:=by
 rcases h with h|⟨o,its,n,hk,j,F,J,r⟩
 ·obtain⟨z,its,r,p⟩:=h.ok I.hok;exact⟨its,r,p,z⟩
 ·refine⟨its.toList,r,⟨o,I.kIn a o hk,j,n,by simpa using F⟩,?_⟩
  have e:=r.length;simp only[Oe]at e;lia
theorem Inv.list_inj (I:Inv X pins σ H s)(h:SqL X.K H a xs)(h':SqL X.K H a ys):xs=ys:=by
 obtain⟨its,r,⟨o,n,e,_,_,d⟩,_⟩:=I.list h;obtain⟨its',r',⟨o',n',e',_,_,d'⟩,_⟩:=I.list h';rw[e]at e';cases e';rw[d]at d'
 injection d' with d1 _
 have:its=its':=by simpa using congrArg Array.toList d1
 subst this;exact r.inj r'
theorem Inv.tuple_inj (I:Inv X pins σ H s)(h:SqT X.K H a xs)(h':SqT X.K H a ys):xs=ys:=by
 obtain⟨its,r,⟨o,e,_,n,d⟩,_⟩:=I.tuple h;obtain⟨its',r',⟨o',e',_,n',d'⟩,_⟩:=I.tuple h';rw[e]at e';cases e';rw[d]at d'
 injection d' with d1 _
 have:its=its':=by simpa using congrArg Array.toList d1
 subst this;exact r.inj r'
end
noncomputable abbrev Cx.wish (X:Cx) (E:hW->z0->Prop):Cx:={ X with xe:=E }
noncomputable abbrev Cx.nox (X:Cx):Cx:=X.wish λ_ _=>False
theorem Cx.Ok.wish (ok:X.Ok)(E:hW->z0->Prop):(X.wish E).Ok :=
 ⟨ok.mod,ok.kind,ok.glob,ok.blt,ok.above,ok.inj,ok.has,ok.cab,ok.hd,ok.frames,ok.stk,ok.exf,ok.bs,ok.bsz,ok.noex,ok.exfs,ok.funs,ok.frf⟩
theorem Cx.Ok.unwish {E:hW->z0->Prop}(ok:(X.wish E).Ok):X.Ok :=
 ⟨ok.mod,ok.kind,ok.glob,ok.blt,ok.above,ok.inj,ok.has,ok.cab,ok.hd,ok.frames,ok.stk,ok.exf,ok.bs,ok.bsz,ok.noex,ok.exfs,ok.funs,ok.frf⟩
section
variable {X:Cx} {pins:List (Addr×Obj)} {σ:St} {H:Hp} {s:z0} {E:hW->z0->Prop}
theorem Inv.wish (I:Inv X pins σ H s)(E:hW->z0->Prop):Inv (X.wish E) pins σ H s:=⟨I.ok.wish E,I.os,I.bare,I.base,I.loc,I.cell,I.free,I.freeC,I.pin,I.hok,I.len⟩
theorem Inv.unwish (I:Inv (X.wish E) pins σ H s):Inv X pins σ H s:=⟨I.ok.unwish,I.os,I.bare,I.base,I.loc,I.cell,I.free,I.freeC,I.pin,I.hok,I.len⟩
theorem SP.unwish {D:bD}{f:Flow}{s':z0}(h:SP (X.wish E) pins D f s'):SP X pins D f s':=by
 cases f with
 |next=>obtain⟨σ',H',I,q⟩:=h;exact⟨σ',H',I.unwish,q⟩
 |brk=>obtain⟨σ',H',I,q⟩:=h;exact⟨σ',H',I.unwish,q⟩
 |cont=>obtain⟨σ',H',I,q⟩:=h;exact⟨σ',H',I.unwish,q⟩
 |ret u=>obtain⟨v,σ',H',I,r,q⟩:=h;exact⟨v,σ',H',I.unwish,r,q⟩
theorem PE.nox {t:TE}(h:PE X.nox e t):PE X e t:=λpins s σ H Q I hw =>
 JS (h pins s σ H Q (I.wish _) hw) (λ_ _ j=>(by obtain⟨v,H',I',r,q⟩:=j;exact⟨v,H',I'.unwish,r,q⟩)) λ_ _ z=>False.elim z
theorem PT.nox {t:TT}(h:PT X.nox e t):PT X e t:=λpins s σ H Q I hw =>
 JS (h pins s σ H Q (I.wish _) hw) (λ_ _ j=>(by obtain⟨H',I',q⟩:=j;exact⟨H',I'.unwish,q⟩)) λ_ _ z=>False.elim z
theorem PSs.nox {st:List Stmt}{t:TS}(h:PSs X.nox st t):PSs X st t:=λpins s σ H D I hw =>
 JS (h pins s σ H D (I.wish _) hw) (λ_ _ q=>q.unwish) λ_ _ z=>False.elim z
end
section
variable {X:Cx} {st:Stmt} {rest:List Stmt} {t u:TS} {e:Expr} {te:TE} {pos:Pos}
noncomputable def rC:TS:=λD σ H=>D.nx σ H
noncomputable def Bq (t u:TS):TS:=λD σ H=>t { D with nx:=u D } σ H
theorem kh:PSs X [] rC:=λ_ _ σ H _ I h=>Mc ⟨σ,H,I,h⟩
theorem cX (h1:PS X st t)(h2:PSs X rest u):PSs X (st::rest) (Bq t u):=by
 intro pins s σ H D I h;refine P9 (thn (h1 pins s σ H { D with nx:=u D } I h) λf s1 q=>?_)
 cases f with
 | next =>
   obtain⟨σ',H',I',q⟩:=q;exact h2 pins s1 σ' H' D I' q
 |ret v=>exact q
 |brk=>exact q
 |cont=>exact q
theorem eF (h1:PS X st t):PSs X [st] t:=by
 intro pins s σ H D I h;refine P9 (thn (h1 pins s σ H D I h) λf s1 q=>?_)
 cases f with
 |next=>exact Mc q
 |ret v=>exact q
 |brk=>exact q
 |cont=>exact q
noncomputable def tY:TS:=λD σ H=>D.bk σ H
noncomputable def yK:TS:=λD σ H=>D.ct σ H
theorem zt:PS X (.Pass pos) rC:=λ_ _ σ H _ I h=>wpAny_Pass ⟨σ,H,I,h⟩
theorem wj:PS X (.Break pos) tY:=λ_ _ σ H _ I h=>wpAny_Break ⟨σ,H,I,h⟩
theorem qf:PS X (.Continue pos) yK:=λ_ _ σ H _ I h=>wpAny_Continue ⟨σ,H,I,h⟩
theorem Inv.quiet (I:Inv X pins σ H s):interactive X.env=false:=by simp[interactive,I.ok.kind]
noncomputable def yL (te:TE):TS:=λD σ H=>te σ H λ_ H1=>D.nx σ H1
theorem zu (he:PE X e te)(j:L3 e none pos.line X.env=pure false:=by rfl):PS X (.Expr e pos) (yL te):=by
 intro pins s σ H D I h;exact Qa (thn (he pins s σ H _ I h) λv s1 z=>(by obtain⟨x,H1,F,L,J⟩:=z;exact⟨σ,H1,F,J⟩)) I.quiet j
noncomputable def Br (te:TE):TS:=λD σ H=>te σ H D.rt
theorem jd (he:PE X e te):PS X (.Return (some e) pos) (Br te):=by
 intro pins s σ H D I h;exact wpAny_Return_some (thn (he pins s σ H _ I h) λv s1 j=>(by obtain⟨x,H1,z,F,J⟩:=j;exact⟨x,σ,H1,z,F,J⟩))
noncomputable def Bs (c:TT) (t u:TS):TS:=λD σ H=>c σ H λb H1=>if b=true then t D σ H1 else u D σ H1
theorem rD {a b:List Stmt}{tc:TT}(F:PT X c tc)(J:PSs X a t)(L:PSs X b u):PS X (.If c a b pos) (Bs tc t u):=by
 intro pins s σ H D I h;refine wpAny_If (thn (F pins s σ H _ I h) λd s1 O=>?_);obtain⟨H1,j,z⟩:=O
 cases d with
 |true=>exact J pins s1 σ H1 D j z
 |false=>exact L pins s1 σ H1 D j z
end
noncomputable abbrev TG:=V->St->Hp->(St->Hp->Prop)->Prop
noncomputable abbrev TGs:=List V->St->Hp->(St->Hp->Prop)->Prop
def PG (X:Cx) (target:Expr) (t:TG):Prop :=
 ∀ (pins:List (Addr×Obj)) (s:z0) (σ:St) (H:Hp) (v:V) (u:hW) (Q:St->Hp->Prop),Inv X pins σ H s->RelV v u->t v σ H Q ->
  Jm (model X.prog X.w) X.A (assign target X.env u) (λ_ s'=>∃ σ' H',Inv X pins σ' H' s'/\Q σ' H') X.xe s
def PGs (X:Cx) (ts:List Expr) (t:TGs):Prop :=
 ∀ (pins:List (Addr×Obj)) (s:z0) (σ:St) (H:Hp) (vs:List V) (us:List hW) (Q:St->Hp->Prop),Inv X pins σ H s->Vals vs us->t vs σ H Q ->
  Jm (model X.prog X.w) X.A (QR ((L4 ts X.env).map (·.2)) us) (λ_ s'=>∃ σ' H',Inv X pins σ' H' s'/\Q σ' H') X.xe s
noncomputable abbrev rE:=V->V->V->Hp->(Hp->Prop)->Prop
def PSet (X:Cx) (t:rE):Prop :=
 ∀ (pins:List (Addr×Obj)) (s:z0) (σ:St) (H:Hp) (o i v:V) (ov iv u:hW) (Q:Hp->Prop),Inv X pins σ H s->RelV o ov->RelV i iv->RelV v u->t o i v H Q ->
  Jm (model X.prog X.w) X.A (setItem ov iv u) (λ_ s'=>∃ H',Inv X pins σ H' s'/\Q H') X.xe s
noncomputable abbrev TIp:=V->V->Hp->VK->Prop
def PIp (X:Cx) (op:Nq) (t:TIp):Prop :=
 ∀ (pins:List (Addr×Obj)) (s:z0) (σ:St) (H:Hp) (x y:V) (v u:hW) (Q:VK),Inv X pins σ H s->RelV x v->RelV y u->t x y H Q ->
  Jm (model X.prog X.w) X.A (Lv op v u) (EP X pins σ Q) X.xe s
section
variable {X:Cx} {pos:Pos}
noncomputable def i5 (i:Nat):TG:=λv σ H Q=>Q (σ.set i (some v)) H
theorem qz (j:X.N.Nodup)(hi:X.N[i]? = some x)(hx:Loc X.env.scope x)(hf:X.fn x=true∨X.env.scope.names.lookup x=some .local:=by first|exact .inl rfl|exact .inr rfl|assumption):PG X (.Name x pos) (i5 i):=by
 intro pins s σ H v u Q I r h;exact wpAny_assign_Name (cW I j hi hx r (λs' I'=>⟨_,H,I',h⟩) hf)
noncomputable def EL:TGs:=λvs σ H Q=>vs=[]/\Q σ H
noncomputable def Dq (t:TG) (u:TGs):TGs:=λvs σ H Q=>∃ v r,vs=v::r/\t v σ H λσ' H'=>u r σ' H' Q
theorem zw:PGs X [] EL:=by
 intro pins s σ H vs us Q I r h;obtain⟨e,h⟩:=h;subst e
 cases r
 exact Ru ⟨σ,H,I,h⟩
theorem wk {es:List Expr}{t:TG}{u:TGs}(h1:PG X e t)(h2:PGs X es u)(j:(L4 (e::es) X.env).map (·.2)=assign e X.env::(L4 es X.env).map (·.2):=by rfl):PGs X (e::es) (Dq t u):=by
 intro pins s σ H vs us Q I r h;obtain⟨v,vr,z,h⟩:=h;subst z
 cases r with
 | cons r rr =>
   rw[j];refine Ov (thn (h1 pins s σ H _ _ _ I r h) λ_ s1 F=>?_);obtain⟨σ1,H1,J,L⟩:=F;exact h2 pins s1 σ1 H1 _ _ Q J rr L
noncomputable def EM (K:Frag) (n:Nat) (t:TGs):TG:=λv σ H Q=>∃ a xs,v = .ref a/\SqT K H a xs/\xs.length=n/\t xs σ H Q
theorem Bt {es:List Expr}{k:Nat}{t:TGs}{n:Nat}(z:X.calm=true)(h:PGs X es t)(F:(L4 es X.env).length=n:=by rfl)(j:(L4 es X.env).findIdx? (·.1)=none:=by rfl):PG X (.Tuple es k pos) (EM X.K n t):=by
 intro pins s σ H v u Q I r hw;obtain⟨a,xs,J,L,O,hw⟩:=hw;subst J
 cases r
 obtain⟨its,rv,U,Z⟩:=I.tuple L;refine assign_Tuple_tuple (I.ok.hd z) U (by simp[F,<- O,rv.length]) j λh' hx=>?_
 have Y:Inv X pins σ H { s with heap:=h' }:=I.kept (t':=s.toks) λb o e=>hx b o (JU (Jn e)) e
 exact h pins _ σ H xs _ Q Y (by simpa using rv) hw
noncomputable def EN (to ti:TE) (t:rE):TG:=λv σ H Q=>to σ H λo H1=>ti σ H1 λi H2=>t o i v H2 λH3=>Q σ H3
theorem Bu {o i:Expr}{to ti:TE}{t:rE}(ho:PE X o to)(hi:PE X i ti)(z:PSet X t)(F:∀ v,assign (.Subscript o i pos) X.env v=(do
   let ov <- holding [v] (eval o X.env)
   let iv <- holding [v,ov] (eval i X.env)
   Np pos
   holding [v,ov,iv] (setItem ov iv v)
   release [v,ov,iv] []):=by intro _;rfl):PG X (.Subscript o i pos) (EN to ti t):=by
 intro pins s σ H v u Q I r h;rw[F];refine h8 (K2 (thn (ho pins s σ H _ I h) λov s1 j=>?_));obtain⟨x,H1,J,L,O⟩:=j;refine h8 (K2 (thn (hi pins s1 σ H1 _ J O) λiv s2 j=>?_));obtain⟨y,H2,U,Y,Z⟩:=j;refine h8 (Kd (h8 (K2 (thn (z pins s2 σ H2 x y v ov iv u _ U L Y r Z) λ_ s3 j=>?_))));obtain⟨H3,I3,q3⟩:=j;exact wpAny_release ⟨σ,H3,I3,q3⟩
noncomputable def nA (te:TE) (g:TG):TS:=λD σ H=>te σ H λx H1=>g x σ H1 D.nx
theorem tZ {g:TG}(he:PE X e te)(j:PG X tg g)(z:MM [tg] e pos.line X.env=pure false:=by rfl)(hw:LF [tg] e X.env=pure none:=by rfl)(h1:(L4 [tg] X.env).map (·.2)=[assign tg X.env]:=by rfl):PS X (.Assign [tg] e pos) (nA te g):=by
 intro pins s σ H D I h;refine wpAny_Assign_stores (thn (he pins s σ H _ I h) λv s1 g9=>?_) z hw;obtain⟨x,H1,F,J,L⟩:=g9;rw[h1];exact thn (j pins s1 σ H1 x v _ F J L) λ_ s2 q=>q
theorem u3 {pos':Pos}(j:X.N.Nodup)(hi:X.N[i]? = some x)(hx:Loc X.env.scope x)(he:PE X e te)(z:L3 e (some (.Name x pos')) pos.line X.env=pure false:=by rfl)(hf:X.fn x=true∨X.env.scope.names.lookup x=some .local:=by first|exact .inl rfl|exact .inr rfl|assumption) :
 PS X (.Assign [.Name x pos'] e pos) (nA te (i5 i)):=by
 intro pins s σ H D I h;refine wpAny_Assign_Name (thn (he pins s σ H _ I h) λv s1 g9=>?_) z;obtain⟨y,H1,F,J,L⟩:=g9;exact cW F j hi hx J (λs2 O=>⟨_,H1,O,L⟩) hf
noncomputable def Bv (i j:Nat) (ta:TA):TS:=λD σ H=>ta σ H λvs H1=>∃ v w,vs=[v,w]/\D.nx ((σ.set i (some v)).set j (some w)) H1
theorem Bw {y:Str}{a b:Expr}{ta:TA}{px py pt:Pos}{kt k2 z}(Z:X.calm=true)(O:X.N.Nodup)(hi:X.N[i]? = some x)(hj:X.N[j]? = some y)(F:i≠j)(hx:X.env.scope.names.lookup x=some .local)(U:X.env.scope.names.lookup y=some .local)(ha:PA X [a,b] ta)(hw:LF [.Tuple [.Name x px,.Name y py] kt pt] (.Tuple [a,b] k2 z) X.env=pure (some [x,y]))(hs:MM [.Tuple [.Name x px,.Name y py] kt pt] (.Tuple [a,b] k2 z) pos.line X.env=pure false:=by rfl) :
 PS X (.Assign [.Tuple [.Name x px,.Name y py] kt pt] (.Tuple [a,b] k2 z) pos) (Bv i j ta):=by
 intro pins s σ H D I h;rw[exec_Assign_arm];refine h8 (Kd ?_);rw[hs];refine h8 (Jd ?_);rw[if_neg (by decide)]
 refine h8 (Tuple_ (thn (ha _ pins s σ H _ I h) λus s1 g9=>?_));obtain⟨vs,H1,I1,r1,J⟩:=g9;obtain⟨v,w,e1,J⟩:=J;subst e1;obtain⟨u1,u2,rfl,rv,rw'⟩:∃ u1 u2,us=[u1,u2]/\RelV v u1/\RelV w u2:=by
  cases r1 with
  | cons p q =>
    cases q with
    | cons p' q' =>
      cases q'
      exact⟨_,_,rfl,p,p'⟩
 refine KJ ?_ (by show 2<=Je;decide)
 have I2:Inv X pins σ H1 { s1 with heap:=s1.heap.push { cls:=.type "tuple",data:=.seq [u1,u2].toArray } }:=I1.kept (t':=s1.toks) λb o e=>s9 _ e
 rw[hw];refine h8 (Jd ?_);show Jm (model X.prog X.w) X.A (do rule "assign.swapped-stores";let items <- unpackItems (.ref s1.heap.objs.size) 2 none;QR [λv=>Rx X.env y v,λv=>Rx X.env x v] items.reverse;pure Flow.next) _ _ _
 refine h8 (LX (h8 (unpackItems_tuple (items:=#[u1,u2]) (I.ok.hd Z) (ND s1.heap _) λh' L=>?_)));have I3:=I2.kept (h':=h') (t':=s1.toks) λb o e=>L b o (JU (Jn e)) e;show Jm _ _ (QR [λv=>Rx X.env y v,λv=>Rx X.env x v] [u2,u1] >>= λ_=>pure Flow.next) _ _ _;refine h8 (Ov (Qb (cW I3 O hj (.inl U) rw' (λs2 I4=>?_) (.inr U))));refine Ov (Qb (cW I4 O hi (.inl hx) rv (λs3 Y=>Ru (Jd ?_)) (.inr hx)));rw[List.set_comm _ _ (Ne.symm F)]at Y;exact⟨_,H1,Y,J⟩
noncomputable def EO (i:Nat) (te:TE) (ti:TIp):TS:=λD σ H=>∃ x,σ[i]? = some (some x)/\te σ H λy H1=>ti x y H1 λz H2=>D.nx (σ.set i (some z)) H2
theorem By {op:Nq}{ti:TIp}{pos':Pos}(J:X.N.Nodup)(hi:X.N[i]? = some x)(hx:Loc X.env.scope x)(he:PE X e te)(ho:PIp X op ti)(hf:X.fn x=true∨X.env.scope.names.lookup x=some .local:=by first|exact .inl rfl|exact .inr rfl|assumption) :
 PS X (.AugAssign (.Name x pos') op e pos) (EO i te ti):=by
 intro pins s σ H D I h;obtain⟨v,L,h⟩:=h;obtain⟨m,O,U⟩:=I.loc;have vis:Vis X.env.scope x:=by rcases hx with k|k;exact .inl k;exact .inr (.inl k)
 obtain⟨u,r,l⟩:=U i x v hi L vis;refine wpAny_AugAssign_Name ?_;have go:Jm (model X.prog X.w) X.A (eval e X.env) (λw s₂=>Jm (model X.prog X.w) X.A (Lv op u w) (λr s₃=>Jm (model X.prog X.w) X.A (storeName X.env x r) (λ_=>SP X pins D .next) X.xe s₃) X.xe s₂) X.xe s:=by
  refine thn (he pins s σ H _ I h) λw s1 F=>?_;obtain⟨y,H1,Y,Z,q1⟩:=F;refine thn (ho pins s1 σ H1 v y u w _ Y r Z q1) λz s2 F=>?_;obtain⟨zv,H2,I2,r2,q2⟩:=F;exact cW I2 J hi hx r2 (λs3 I3=>⟨_,H2,I3,q2⟩) hf
 rcases l with⟨hk,hm⟩|⟨hk,c,hc,j⟩
 ·exact Q9 I.ok.kind hk O hm go
 ·rcases hk with hk|hk
  ·exact QG I.ok.kind hk hc j go
  ·rcases hx with k|k
   ·have:X.env.scope.names.lookup x=some .free:=hk;rw[k]at this;cases this
   ·have:X.env.scope.names.lookup x=some .free:=hk;rw[k]at this;cases this
end
section
variable {X:Cx} {pos:Pos}
noncomputable def u4 (c:TT) (tb:TS):TS:=λD σ H=>∃ W:Nat->St->Hp->Prop,(∃ m,W m σ H) /\ ∀ m σ H,W m σ H ->
 c σ H λb H1=>if b=true then ∃ N:St->Hp->Prop,(∀ σ' H',N σ' H' -> ∃ m',m'<m/\W m' σ' H')/\tb { D with nx:=N,ct:=N,bk:=D.nx } σ H1 else D.nx σ H1
theorem wl {tc:TT}{tb:TS}(U:QA (model X.prog X.w) X.A X.env X.xe)(hc:PT X c tc)(hb:PSs X body tb):PS X (.While c body [] pos) (u4 tc tb):=by
 intro pins s σ H D I h;obtain⟨W,⟨m0,w0⟩,turn⟩:=h;refine wpAny_While (codeAny_whileLoop (λn s'=>∃ σ' H',Inv X pins σ' H' s'/\W n σ' H') ?_ m0 ⟨σ,H,I,w0⟩);rintro n s1 ⟨σ1,H1,I1,w1⟩;refine Lw U (thn (hc pins s1 σ1 H1 _ I1 (turn n σ1 H1 w1)) λb s2 g9=>?_);obtain⟨H2,Y,z⟩:=g9
 cases b with
 | true =>
   obtain⟨N,Z,z⟩:=z;rw[if_pos rfl];refine Lw U (thn (hb pins s2 σ1 H2 _ Y z) λf s3 F=>?_)
   cases f with
   | next =>
     obtain⟨σ3,j,J,L⟩:=F;obtain⟨m',hm,O⟩:=Z σ3 j L;exact⟨m',hm,σ3,j,J,O⟩
   | cont =>
     obtain⟨σ3,j,J,L⟩:=F;obtain⟨m',hm,O⟩:=Z σ3 j L;exact⟨m',hm,σ3,j,J,O⟩
   |brk=>exact F
   |ret v=>exact F
 | false =>
   rw[if_neg J9];exact Mc ⟨σ1,H2,Y,z⟩
end
structure It where
 go:Nat->Hp->Prop
 yld:Nat->Hp->V->Hp->Prop
 stop:Nat->Hp->Prop
def cu (X:Cx) (pins:List (Addr×Obj)) (H:Hp) (b:Addr):Prop :=
 H b=none/\b≠X.env.locals/\b∉X.fs/\(b∈X.ex∨X.s₀.heap.objs.size<=b)/\(∀ x c,X.env.cells.lookup x=some c->c≠b) /\ ∀ p∈X.pn++pins,p.1≠b
theorem Inv.fpOk {H':Hp}(I:Inv X pins σ H s)(j:s.heap.objs.size<=b)(F:H' b=none):cu X pins H' b:=by
 refine⟨F,Ly (Ju I.lt j),I.nofs j,.inr (K7 I.sz j),λx c e z=>?_,λp J z=>?_⟩
 ·obtain⟨v,q⟩:=I.cell x c e;exact absurd (Ju q.lt (by rw[z];exact j)) (L8 _)
 ·exact absurd (Ju (Jn (I.pin p J).1) (by rw[z];exact j)) (L8 _)
structure gv (P:Jy) (w:JQ) (K:Frag) (tg:Expr) (J:It) (fp:List Addr) (it:Addr) (tn:Nat->Heap->Prop):Prop where
 mem:it∈fp
 obj:∀ i h,tn i h -> ∀ b∈fp,∃ o,h.get? b=some o /\ ∀ v,o.data ≠ .cell v
 keep:∀ i h h',tn i h->(∀ b∈fp,∀ o,h.get? b=some o->h'.get? b=some o)->tn i h'
 item:∀ (X:Cx),X.prog=P->X.w=w->X.K=K->X.calm=true -> ∀ (i:Nat) (pins:List (Addr×Obj)) (s:z0) (σ:St) (H:Hp) (E:hW->z0->Prop),Inv X pins σ H s->(∀ b∈fp,cu X pins H b)->tn i s.heap->J.go i H ->
  Jm (model P w) X.A (Ow (.ref it)) (λr s1=>∃ u,r=some u /\
   Jm (model P w) X.A (NY tg (.ref it) u) (λ_ s2=>∃ x H',Inv X pins σ H' s2/\RelV x u/\J.yld i H x H'/\tn (i+1) s2.heap /\ ∀ b∈fp,H' b=none) E s1) E s
 done:∀ (X:Cx),X.prog=P->X.w=w->X.K=K->X.calm=true -> ∀ (i:Nat) (pins:List (Addr×Obj)) (s:z0) (σ:St) (H:Hp) (E:hW->z0->Prop),Inv X pins σ H s->(∀ b∈fp,cu X pins H b)->tn i s.heap->J.stop i H ->
  Jm (model P w) X.A (Ow (.ref it)) (λr s1=>r=none/\Inv X pins σ H s1) E s
 self:∀ (A:JI) (i:Nat) (s:z0) (Q:hW->z0->Prop) (E:hW->z0->Prop),tn i s.heap->Q (.ref it) s->Jm (model P w) A (R7 (.ref it)) Q E s
noncomputable abbrev TI:=St->Hp->(It->Hp->Prop)->Prop
def PIE (X:Cx) (pins:List (Addr×Obj)) (σ:St) (tg:Expr) (R:It->Hp->Prop) (itv:hW) (s2:z0):Prop :=
 ∃ (it:Addr) (fp:List Addr) (tn:Nat->Heap->Prop) (J:It) (H':Hp),itv = .ref it/\Inv X pins σ H' s2/\gv X.prog X.w X.K tg J fp it tn/\tn 0 s2.heap/\(∀ b∈fp,cu X pins H' b)/\R J H'
def PI (X:Cx) (tg iter:Expr) (wi:TI):Prop :=
 ∀ (pins:List (Addr×Obj)) (s:z0) (σ:St) (H:Hp) (R:It->Hp->Prop),Inv X pins σ H s->wi σ H R ->
  Jm (model X.prog X.w) X.A (eval iter X.env) (λv s1=>Jm (model X.prog X.w) X.A (R7 v) (PIE X pins σ tg R) X.xe s1) X.xe s
theorem mx {E:hW->z0->Prop}{it:Addr}{o:Obj}{n:String}{vs:Array hW}{Q:Unit->z0->Prop}(ho:s.heap.get? it=some o)(z:o.cls = .type n)(hd:o.data = .fields vs)(F : ["enumerate","zip","dict_itemiterator","dict_reverseitemiterator","odict_iterator","itertools.zip_longest","itertools.pairwise"].contains n=false)(j:Q () s):Jm M A (NY tg (.ref it) u) Q E s:=by
 unfold NY
 cases tg <;> first
  |exact Jd j
  | (cases u <;> first
      |exact Jd j
      | (refine h8 (wpAny_load ho ?_)
         rw[z,hd];show Jm M A (if (["enumerate","zip","dict_itemiterator","dict_reverseitemiterator","odict_iterator","itertools.zip_longest","itertools.pairwise"].contains n&&vs[0]? == some (Ls _))=true then _ else _) Q E s
         rw[if_neg (by intro h;rw[F,LN]at h;cases h)]
         exact Jd j))
noncomputable def Itl (K:Frag) (a:Addr):It :=
 ⟨λi H=>∃ xs x,SqL K H a xs/\xs[i]? = some x,λi H x H'=>H'=H /\ ∀ xs,SqL K H a xs->xs[i]? = some x,λi H=>∃ xs,SqL K H a xs/\xs.length<=i⟩
noncomputable def Itt (K:Frag) (a:Addr):It :=
 ⟨λi H=>∃ xs x,SqT K H a xs/\xs[i]? = some x,λi H x H'=>H'=H /\ ∀ xs,SqT K H a xs->xs[i]? = some x,λi H=>∃ xs,SqT K H a xs/\xs.length<=i⟩
noncomputable def Itr (lo:Int) (n:Nat):It:=⟨λi _=>i<n,λi H x H'=>H'=H/\x = .int (lo+i),λi _=>n<=i⟩
theorem u5 (a it:Addr):gv P w K tg (Itl K a) [it] it (λi h=>h.IsListIter it a i) where
 mem:=by simp
 obj:=λi h st b j=>by
  have e:b=it:=by simpa using j
  subst e;obtain⟨o,e,c,d⟩:=st;exact⟨o,e,λv z=>by rw[d]at z;cases z⟩
 keep:=λi h h' st k=>st.at λo e=>k it (by simp) o e
 item:=by
  intro X J hw L Y i pins s σ H E I hf st hg;subst J hw L;obtain⟨xs,x,F,hx⟩:=hg;obtain⟨its,rv,p,Z⟩:=I.list F;obtain⟨u,hu,ru⟩:=rv.get hx;obtain⟨f0,f1,f2,O,f4,U⟩:=hf it (by simp)
  refine wpAny_pyNext_list_item st p.isList (x:=u) (by simpa using hu) λh' st' sb=>?_
  have I1:Inv X pins σ H { s with heap:=h' }:=I.turned (t':=s.toks) (λb o j e=>(sb.2 b j).trans e) f0 f1 O f4 U
  obtain⟨o,e,c,d⟩:=id st';exact⟨u,rfl,mx (s:={ s with heap:=h' }) e c d (by decide) ⟨x,H,I1,ru,⟨rfl,λys hy=>by rw[I.list_inj hy F];exact hx⟩,st',λb j=>(hf b j).1⟩⟩
 done:=by
  intro X J hw L Y i pins s σ H E I hf st hg;subst J hw L;obtain⟨xs,F,hx⟩:=hg;obtain⟨its,rv,p,Z⟩:=I.list F;obtain⟨f0,f1,f2,O,f4,U⟩:=hf it (by simp)
  have hl:=rv.length;exact wpAny_pyNext_list_end (I.ok.hd Y) st p.isList (by simp;lia) λh' eb=>⟨rfl,I.turned (t':=s.toks) (λb o j e=>eb b o j e) f0 f1 O f4 U⟩
 self:=λ_ _ _ _ _ st h=>wpAny_pyIter_listiter st h
theorem rF (a it:Addr):gv P w K tg (Itt K a) [it] it (λi h=>h.IsTupleIter it a i) where
 mem:=by simp
 obj:=λi h st b j=>by
  have e:b=it:=by simpa using j
  subst e;obtain⟨o,e,c,d⟩:=st;exact⟨o,e,λv z=>by rw[d]at z;cases z⟩
 keep:=λi h h' st k=>st.at λo e=>k it (by simp) o e
 item:=by
  intro X J hw L Y i pins s σ H E I hf st hg;subst J hw L;obtain⟨xs,x,F,hx⟩:=hg;obtain⟨its,rv,p,Z⟩:=I.tuple F;obtain⟨u,hu,ru⟩:=rv.get hx;obtain⟨f0,f1,f2,O,f4,U⟩:=hf it (by simp)
  refine wpAny_pyNext_tuple_item st (show s.heap.IsTuple a its.toArray from p) (x:=u) (by simpa using hu) λh' st' sb=>?_
  have I1:Inv X pins σ H { s with heap:=h' }:=I.turned (t':=s.toks) (λb o j e=>(sb.2 b j).trans e) f0 f1 O f4 U
  obtain⟨o,e,c,d⟩:=id st';exact⟨u,rfl,mx (s:={ s with heap:=h' }) e c d (by decide) ⟨x,H,I1,ru,⟨rfl,λys hy=>by rw[I.tuple_inj hy F];exact hx⟩,st',λb j=>(hf b j).1⟩⟩
 done:=by
  intro X J hw L Y i pins s σ H E I hf st hg;subst J hw L;obtain⟨xs,F,hx⟩:=hg;obtain⟨its,rv,p,Z⟩:=I.tuple F;obtain⟨f0,f1,f2,O,f4,U⟩:=hf it (by simp)
  have hl:=rv.length;exact wpAny_pyNext_tuple_end (I.ok.hd Y) st (show s.heap.IsTuple a its.toArray from p) (by simp;lia) λh' eb=>⟨rfl,I.turned (t':=s.toks) (λb o j e=>eb b o j e) f0 f1 O f4 U⟩
 self:=λ_ _ _ _ _ st h=>wpAny_pyIter_tupleiter st h
theorem rG (it:Addr)(lo:Int)(n:Nat):gv P w K tg (Itr lo n) [it] it (λi h=>IsRangeIter h it (lo+(i:Nat)*1) ((n:Int) - (i:Nat)) 1) where
 mem:=by simp
 obj:=λi h st b j=>by
  have e:b=it:=by simpa using j
  subst e;exact⟨_,st,λv z=>by
   have z':Data.fields _=Data.cell v:=z
   cases z'⟩
 keep:=λi h h' st k=>k it (by simp) _ st
 item:=by
  intro X F hw J L i pins s σ H E I hf st hg;subst F hw J;obtain⟨f0,f1,f2,O,f4,U⟩:=hf it (by simp)
  have W:=Walks.range (prog:=X.prog) (w:=X.w) (I.ok.hd L) it lo 1 n;refine W.item i s _ _ hg st λv h' tk Y st' kk=>?_;obtain⟨t,rfl⟩:=Y;have Z:Inv X pins σ H { s with heap:=h',toks:=tk }:=I.turned (λb o j e=>kk b o (by simpa using j) e) f0 f1 O f4 U
  refine⟨_,rfl,mx (s:={ s with heap:=h',toks:=tk }) (n:="range_iterator") st' rfl rfl (by decide) ⟨.int (lo+i),H,Z,⟨t,?_⟩,⟨rfl,rfl⟩,st',λb j=>(hf b j).1⟩⟩
  rw[Int.mul_one]
 done:=by
  intro X F hw J L i pins s σ H E I hf st hg;subst F hw J;obtain⟨f0,f1,f2,O,f4,U⟩:=hf it (by simp)
  exact wpAny_pyNext_range_end (I.ok.hd L) st (by have:n<=i:=hg;lia) λh' eb=>⟨rfl,I.turned (t':=s.toks) (λb o j e=>eb b o j e) f0 f1 O f4 U⟩
 self:=λ_ _ _ _ _ st h=>wpAny_pyIter_rangeiter st h
end
variable {fp:List Addr}
section
section
variable {X:Cx} {tg:Expr}
theorem wm {R:It->Hp->Prop}{E:hW->z0->Prop}{lo hi:Int}{t u v:Tok}{tk:Nat}(I:Inv X pins σ H s)(h1 : -(2 ^ 62)<=lo)(h2:lo<2 ^ 62)(z : -(2 ^ 62)<=hi)(F:hi<2 ^ 62)(q:R (Itr lo (hi - lo).toNat) H):Jm (model X.prog X.w) X.A (R7 (.ref s.heap.objs.size)) (PIE X pins σ tg R) E { s with heap:=s.heap.push { cls:=.type "range",data:=.fields #[.int lo t,.int hi u,.int 1 v] },toks:=tk }:=by
 refine wpAny_pyIter_range (IsRange.new ..) (small_one h1 h2 z F) ?_;have j:Inv X pins σ H { s with heap:=s.heap.push { cls:=.type "range",data:=.fields #[.int lo t,.int hi u,.int 1 v] },toks:=tk }:=I.kept λb o e=>s9 _ e
 refine⟨(s.heap.push { cls:=.type "range",data:=.fields #[.int lo t,.int hi u,.int 1 v] }).objs.size,[(s.heap.push { cls:=.type "range",data:=.fields #[.int lo t,.int hi u,.int 1 v] }).objs.size],_,_,H,rfl,
  j.kept (t':=tk) λb o e=>s9 _ e,rG _ lo (hi - lo).toNat,?_,λb J=>?_,q⟩
 ·have L:lo+((0:Nat):Int)*1=lo:=by simp
  have O:(((hi - lo).toNat:Nat):Int) - ((0:Nat):Int)=Builtin.Range.rangeSize lo hi 1:=by rw[rangeSize_one];split <;> lia
  show IsRangeIter _ _ (lo+((0:Nat):Int)*1) ((((hi - lo).toNat:Nat):Int) - ((0:Nat):Int)) 1;rw[L,O];exact Jo _ rfl
 ·have e:b=(s.heap.push { cls:=.type "range",data:=.fields #[.int lo t,.int hi u,.int 1 v] }).objs.size:=by simpa using J
  subst e;exact j.fpOk (Jg _) (j.hok.fresh (Jg _))
noncomputable def Dr (ta:TA):TI:=λσ H R=>ta σ H λvs H1=>∃ j:Int,vs=[.int j] /\ -(2 ^ 62)<=j/\j<2 ^ 62/\R (Itr 0 j.toNat) H1
theorem u6 {a:Expr}{ta:TA}{p:Pos}(F:Gl X "range")(hm:X.mg "range" = none)(J:PA X [a] ta)(L:Jt [a] X.env=[(false,eval a X.env)]:=by rfl):PI X tg (.Call (.Name "range" p) [a] [] pos) (Dr ta):=by
 intro pins s σ H R I h;refine Call_ (eO I F hm boot_range (Lf (thn (J pos pins s σ H _ I h) λus s1 g9=>?_) L rfl));obtain⟨vs,H1,O,U,z⟩:=g9;obtain⟨j,e,z,Y,q⟩:=z;subst e
 cases U with
 | cons r rr =>
   cases rr
   obtain⟨t,rfl⟩:=r;exact call_range_1 (wm O (by lia) (by lia) z Y (by simpa using q))
noncomputable def wn (wi:TI) (g:TG) (tb:TS):TS:=λD σ H=>wi σ H λJ H1=>∃ W:Nat->Nat->St->Hp->Prop,(∃ m,W 0 m σ H1) /\ ∀ i m σ H,W i m σ H ->
 (J.stop i H/\D.nx σ H)∨(J.go i H /\ ∃ N:St->Hp->Prop,(∀ σ' H',N σ' H' -> ∃ m',m'<m/\W (i+1) m' σ' H') /\ ∀ x H',J.yld i H x H'->g x σ H' λσ2 H2=>tb { D with nx:=N,ct:=N,bk:=D.nx } σ2 H2)
noncomputable def je (fp:List Addr) (h:Heap):List (Addr×Obj):=fp.filterMap λb=>(h.get? b).map λo=>(b,o)
theorem dM {o:Obj}(j:b∈fp)(e:h.get? b=some o):(b,o)∈je fp h:=N0.mpr ⟨b,j,by rw[e];rfl⟩
theorem u7 {p:Addr×Obj}(j:p∈je fp h):p.1∈fp/\h.get? p.1=some p.2:=by
 obtain⟨b,z,e⟩:=N0.mp j
 cases q:h.get? b with
 |none=>rw[q]at e;cases e
 | some o =>
   rw[q]at e;have e':(b,o)=p:=Ki.inj e;subst e';exact⟨z,q⟩
theorem Inv.pinned (I:Inv X pins σ H s)(hf:∀ b∈fp,cu X pins H b)(ho:∀ b∈fp,∃ o,s.heap.get? b=some o /\ ∀ v,o.data ≠ .cell v):Inv X (pins++je fp s.heap) σ H s :=
 I.pins_of λp F=>(Jz.mp F).elim (λz=>I.pin p (JC _ z)) λz=>by
  obtain⟨j,e⟩:=u7 z;obtain⟨f0,f1,f2,_⟩:=hf p.1 j;obtain⟨o,e',d⟩:=ho p.1 j;rw[e]at e';cases e';exact⟨e,f0,f1,f2,d⟩
theorem Inv.unpinned {pl:List (Addr×Obj)}(I:Inv X (pins++pl) σ H s):Inv X pins σ H s:=I.pins_of λp j=>I.pin p (JC _ (NV _ j))
theorem u8 {iter:Expr}{wi:TI}{g:TG}{tb:TS}(Y:QA (model X.prog X.w) X.A X.env X.xe)(hc:X.calm=true)(hi:PI X tg iter wi)(hg:PG X tg g)(j:PSs X body tb)(hs:∀ x,KL iter X.env x=pure x:=by intro _;rfl):PS X (.For tg iter body [] pos) (wn wi g tb):=by
 intro pins s σ H D I h;refine wpAny_For (thn (hi pins s σ H _ I h) λv s1 h1=>thn h1 λitv s2 h2=>?_) hs;obtain⟨it,fp,tn,J,H2,e,I2,T,HJ,f2,W,⟨m0,w0⟩,turn⟩:=h2;subst e;have stat:∀ {H':Hp},(∀ b∈fp,H' b=none) -> ∀ b∈fp,cu X pins H' b:=λhn b j=>⟨hn b j,(f2 b j).2⟩;refine codeAny_forLoop_any (λn s'=>∃ i σ' H',Inv X pins σ' H' s'/\tn i s'.heap/\(∀ b∈fp,H' b=none)/\W i n σ' H') ?_ m0 ⟨0,σ,H2,I2,HJ,λb j=>(f2 b j).1,w0⟩;rintro n s3 ⟨i,σ3,H3,I3,Z,HI,w3⟩
 rcases turn i n σ3 H3 w3 with⟨stop,qn⟩|⟨go,N,hN,step⟩
 ·refine Lw Y (thn (T.done X rfl rfl rfl hc i pins s3 σ3 H3 X.xe I3 (stat HI) Z stop) λr s4 O=>?_);obtain⟨hr,I4⟩:=O;subst hr;exact Mc ⟨σ3,H3,I4,qn⟩
 ·refine Lw Y (thn (T.item X rfl rfl rfl hc i pins s3 σ3 H3 X.xe I3 (stat HI) Z go) fun r s4 O=>?_);obtain ⟨u,hr,h4⟩:=O;subst hr;refine Lw Y (thn h4 fun _ s5 O=>?_);obtain ⟨x,H5,I5,r5,y5,U,HK⟩:=O;have HL:=I5.pinned (stat HK) (T.obj _ _ U);refine Lw Y (thn (hg _ s5 σ3 H5 x u _ HL r5 (step x H5 y5)) fun _ s6 O=>?_);obtain ⟨σ6,H6,I6,q6⟩:=O;refine Lw Y (thn (j _ s6 σ6 H6 _ I6 q6) fun f s7 L=>?_);have again:∀ {σ7:St} {z:Hp},Inv X (pins++je fp s5.heap) σ7 z s7->N σ7 z -> ∃ m,m < n /\ ∃ i σ' H',Inv X pins σ' H' s7/\tn i s7.heap/\(∀ b∈fp,H' b=none)/\W i m σ' H':=fun {σ7 z} F n7=>by
   obtain⟨m',hm,w7⟩:=hN σ7 z n7;refine⟨m',hm,i+1,σ7,z,F.unpinned,T.keep _ _ _ U λb j o e=>(F.pin (b,o) (JC _ (JC _ (dM j e)))).1,λb j=>?_,w7⟩;obtain⟨o,e,d⟩:=T.obj _ _ U b j;exact(F.pin (b,o) (JC _ (JC _ (dM j e)))).2.1
  cases f with
  |next=>obtain⟨σ7,z,F,n7⟩:=L;exact again F n7
  |cont=>obtain⟨σ7,z,F,n7⟩:=L;exact again F n7
  |brk=>obtain⟨σ7,z,F,L⟩:=L;exact⟨σ7,z,F.unpinned,L⟩
  |ret v=>obtain⟨x7,σ7,z,F,r7,L⟩:=L;exact⟨x7,σ7,z,F.unpinned,r7,L⟩
end
end
variable {f:hW->hW->Sem hW}{op:Qc}{Q:VK}
section
noncomputable abbrev R2:=V->V->Hp->VK->Prop
def OpR (X:Cx) (f:hW->hW->Sem hW) (r:R2):Prop :=
 ∀ (pins:List (Addr×Obj)) (s:z0) (σ:St) (H:Hp) (x y:V) (v u:hW) (Q:VK),Inv X pins σ H s->RelV x v->RelV y u->r x y H Q ->
  Jm (model X.prog X.w) X.A (f v u) (EP X pins σ Q) X.xe s
def UnR (X:Cx) (f:hW->Sem hW) (r:V->Hp->VK->Prop):Prop :=
 ∀ (pins:List (Addr×Obj)) (s:z0) (σ:St) (H:Hp) (x:V) (v:hW) (Q:VK),Inv X pins σ H s->RelV x v->r x H Q ->
  Jm (model X.prog X.w) X.A (f v) (EP X pins σ Q) X.xe s
def CallR (X:Cx) (f:hW) (r:List V->Hp->VK->Prop):Prop :=
 ∀ (pins:List (Addr×Obj)) (s:z0) (σ:St) (H:Hp) (xs:List V) (us:List hW) (Q:VK),Inv X pins σ H s->Vals xs us->r xs H Q ->
  Jm (model X.prog X.w) X.A (call f us) (EP X pins σ Q) X.xe s
def EQ (X:Cx) (r:V->Hp->(Bool->Hp->Prop)->Prop):Prop :=
 ∀ (pins:List (Addr×Obj)) (s:z0) (σ:St) (H:Hp) (x:V) (v:hW) (Q:Bool->Hp->Prop),Inv X pins σ H s->RelV x v->r x H Q ->
  Jm (model X.prog X.w) X.A (truthy v) (TP X pins σ Q) X.xe s
noncomputable def tOp (r:R2) (ta tb:TE):TE:=λσ H Q=>ta σ H λx H1=>tb σ H1 λy H2=>r x y H2 Q
noncomputable def tUn (r:V->Hp->VK->Prop) (ta:TE):TE:=λσ H Q=>ta σ H λx H1=>r x H1 Q
noncomputable def rI (C:Int->Int->Prop) (g:Int->Int->V):R2:=λx y H Q=>∃ i j,x = .int i/\y = .int j/\C i j/\Q (g i j) H
noncomputable def rI0 (g:Int->Int->V):R2:=λx y H Q=>∃ i j,x = .int i/\y = .int j/\Q (g i j) H
noncomputable def rU (g:Int->V):V->Hp->VK->Prop:=λx H Q=>∃ i,x = .int i/\Q (g i) H
section
variable {X:Cx} {a b c:Expr} {ta tb tc:TE} {pos:Pos}
theorem wo (z:PE X a ta)(F:PE X b tb){R:V->V->Hp->Prop}(I:Inv X pins σ H s)(h:ta σ H λx H1=>tb σ H1 λy H2=>R x y H2){Q:hW->z0->Prop}(hf:∀ v u s2 x y H2,Inv X pins σ H2 s2->RelV x v->RelV y u->R x y H2->Jm (model X.prog X.w) X.A (f v u) Q X.xe s2) :
 Jm (model X.prog X.w) X.A (eval a X.env) (λv s₁=>Jm (model X.prog X.w) X.A (eval b X.env) (λu s₂=>Jm (model X.prog X.w) X.A (f v u) Q X.xe s₂) X.xe s₁) X.xe s:=by
 refine thn (z pins s σ H _ I h) λv s1 j=>?_;obtain⟨x,H1,J,L,O⟩:=j;refine thn (F pins s1 σ H1 _ J O) λu s2 j=>?_;obtain⟨y,H2,U,Y,Z⟩:=j;exact hf v u s2 x y H2 U L Y Z
theorem Ds {op:Nq}{r:R2}(ho:OpR X (Kx op) r)(j:PE X a ta)(z:PE X b tb):PE X (.BinOp a op b pos) (tOp r ta tb):=by
 intro pins s σ H Q I h;exact wpAny_BinOp (wo j z I h λv u s2 x y H2 F rx ry q=>ho pins s2 σ H2 x y v u Q F rx ry q)
theorem Dt {op:UnaryOp}{r:V->Hp->VK->Prop}(ho:UnR X (unaryOp op) r)(j:PE X a ta):PE X (.UnaryOp op a pos) (tUn r ta):=by
 intro pins s σ H Q I h;exact UnaryOp_ (thn (j pins s σ H _ I h) λv s1 z=>(by obtain⟨x,H1,F,J,L⟩:=z;exact ho pins s1 σ H1 x v Q F J L))
theorem opI {C:Int->Int->Prop}{g:Int->Int->Int}(rule:∀ (i j:Int) (t u:Tok) (s:z0) (Q:hW->z0->Prop) (E:hW->z0->Prop),C i j->Q (.int (g i j) s.toks) { s with toks:=s.toks+1 }->Jm (model X.prog X.w) X.A (f (.int i t) (.int j u)) Q E s) :
 OpR X f (rI C λi j=>.int (g i j)):=by
 intro pins s σ H x y v u Q I rx ry h;obtain⟨i,j,rfl,rfl,z,q⟩:=h;obtain⟨t,rfl⟩:=rx;obtain⟨t',rfl⟩:=ry;exact rule i j t t' s _ _ z ⟨.int (g i j),H,I.tok _,⟨_,rfl⟩,q⟩
theorem rH {g:Int->Int->Int}(rule:∀ (i j:Int) (t u:Tok) (s:z0) (Q:hW->z0->Prop) (E:hW->z0->Prop),Q (.int (g i j) s.toks) { s with toks:=s.toks+1 }->Jm (model X.prog X.w) X.A (f (.int i t) (.int j u)) Q E s) :
 OpR X f (rI0 λi j=>.int (g i j)):=by
 intro pins s σ H x y v u Q I rx ry h;obtain⟨i,j,rfl,rfl,q⟩:=h;obtain⟨t,rfl⟩:=rx;obtain⟨t',rfl⟩:=ry;exact rule i j t t' s _ _ ⟨.int (g i j),H,I.tok _,⟨_,rfl⟩,q⟩
theorem rJ {g:Int->Int->Bool}(rule:∀ (i j:Int) (t u:Tok) (s:z0) (Q:hW->z0->Prop) (E:hW->z0->Prop),Q (.bool (g i j)) s->Jm (model X.prog X.w) X.A (f (.int i t) (.int j u)) Q E s) :
 OpR X f (rI0 λi j=>.bl (g i j)):=by
 intro pins s σ H x y v u Q I rx ry h;obtain⟨i,j,rfl,rfl,q⟩:=h;obtain⟨t,rfl⟩:=rx;obtain⟨t',rfl⟩:=ry;exact rule i j t t' s _ _ ⟨.bl (g i j),H,I,rfl,q⟩
def ER (i j:Int):Prop:=0<=j/\j<=1000000/\i.natAbs<2 ^ 64
theorem op_add:OpR X (Kx .Add) (rI0 λi j=>.int (i+j)):=rH λ_ _ _ _ _ _ _ q=>add_int q
theorem Bz:OpR X (Kx .Sub) (rI0 λi j=>.int (i - j)):=rH λ_ _ _ _ _ _ _ q=>sub_int q
theorem BA:OpR X (Kx .Mod) (rI (λ_ j=>0<j) λi j=>.int (i % j)):=opI λi j _ _ _ _ _ z q=>by
 have h1:(0:Int)<j:=z;exact mod_int' (by lia) (by rw[Int.fmod_eq_emod_of_nonneg i (by lia)];exact q)
theorem BB:OpR X (Kx .Pow) (rI ER λi j=>.int (i ^ j.toNat)):=opI λ_ _ _ _ _ _ _ z q=>pow_int_small z.1 z.2.1 z.2.2 q
theorem zx:OpR X (Lv .Add) (rI0 λi j=>.int (i+j)):=rH λ_ _ _ _ _ _ _ q=>iadd_int q
theorem zy:OpR X (Lv .Sub) (rI0 λi j=>.int (i - j)):=rH λ_ _ _ _ _ _ _ q=>isub_int q
theorem unI {f:hW->Sem hW}{g:Int->Int}(rule:∀ (i:Int) (t:Tok) (s:z0) (Q:hW->z0->Prop) (E:hW->z0->Prop),Q (.int (g i) s.toks) { s with toks:=s.toks+1 }->Jm (model X.prog X.w) X.A (f (.int i t)) Q E s) :
 UnR X f (rU λi=>.int (g i)):=by
 intro pins s σ H x v Q I rx h;obtain⟨i,rfl,q⟩:=h;obtain⟨t,rfl⟩:=rx;exact rule i t s _ _ ⟨.int (g i),H,I.tok _,⟨_,rfl⟩,q⟩
theorem BC:UnR X (unaryOp .USub) (rU λi=>.int (-i)):=unI λ_ _ _ _ _ q=>neg_int q
end
section
variable {X:Cx} {a b c:Expr} {ta tb tc:TE} {pos:Pos}
theorem nB {k k':Bool}(I:Inv X pins σ H s)(q:Q (.bl k) H)(e:k=k'):EP X pins σ Q (.bool k') s:=by
 subst e;exact⟨.bl k,H,I,rfl,q⟩
theorem Du:OpR X (JM .Lt) (rI0 λi j=>.bl (decide (i<j))):=rJ λ_ _ _ _ _ _ _ q=>lt_int q
theorem Dv:OpR X (JM .LtE) (rI0 λi j=>.bl (decide (i<=j))):=rJ λ_ _ _ _ _ _ _ q=>le_int q
theorem Dw:OpR X (JM .Gt) (rI0 λi j=>.bl (decide (j<i))):=rJ λ_ _ _ _ _ _ _ q=>gt_int q
theorem Dx:OpR X (JM .GtE) (rI0 λi j=>.bl (decide (j<=i))):=rJ λ_ _ _ _ _ _ _ q=>ge_int q
theorem u9:OpR X (JM .In) (λx y H Q=>∃ i j,x = .str i/\y = .str j/\Q (.bl (!(Km j i 0 j.length 1).isEmpty)) H):=by
 intro pins s σ H x y v u Q I rx ry h;obtain⟨i,j,rfl,rfl,q⟩:=h;obtain⟨t,rfl⟩:=rx;obtain⟨t',rfl⟩:=ry;exact in_str (nB I q rfl)
theorem BD:OpR X (JM .Is) (λx y H Q=>y = .non/\Q (.bl (decide (x = .non))) H):=by
 intro pins s σ H x y v u Q I rx ry h;obtain⟨rfl,q⟩:=h
 cases ry
 refine is_none_gen (nB I q ?_)
 cases x <;> first
  |(cases rx;rfl)
  |(obtain⟨t,rfl⟩:=rx;rfl)
theorem OpR.or {r r':R2}(h:OpR X f r)(h':OpR X f r'):OpR X f (λx y H Q=>r x y H Q∨r' x y H Q):=by
 intro pins s σ H x y v u Q I rx ry q
 rcases q with q|q
 ·exact h pins s σ H x y v u Q I rx ry q
 ·exact h' pins s σ H x y v u Q I rx ry q
theorem BE (b:Expr)(h:op ≠ .In:=by decide)(h2:op ≠ .NotIn:=by decide):LG op b=false:=by
 have j:(op==CmpOp.In)=false:=by cases op <;> first|rfl|exact absurd rfl h
 have z:(op==CmpOp.NotIn)=false:=by cases op <;> first|rfl|exact absurd rfl h2
 cases b <;> simp[LG,j,z]
theorem zz {r:R2}(ho:OpR X (JM op) r)(j:PE X a ta)(z:PE X b tb)(hm:LG op b=false):PE X (.Compare a [op] [b] pos) (tOp r ta tb):=by
 intro pins s σ H Q I h;exact wpAny_Compare1 (wo j z I h λv u s2 x y H2 F rx ry q=>ho pins s2 σ H2 x y v u Q F rx ry q) hm
noncomputable def rK (t:TE):TT:=λσ H Q=>t σ H λx H'=>∃ k,x = .bl k/\Q k H'
theorem qA {r:R2}(ho:OpR X (JM op) r)(j:PE X a ta)(F:PE X b tb)(hm:LG op b=false):PT X (.Compare a [op] [b] pos) (rK (tOp r ta tb)):=by
 intro pins s σ H Q I h;refine wpAny_isTrue_Compare1 (thn (j pins s σ H _ I h) λv s1 ⟨x,H1,J,L,O⟩=>thn (F pins s1 σ H1 _ J O) λu s2 ⟨y,H2,U,Y,Z⟩ =>
  thn (ho pins s2 σ H2 x y v u _ U L Y Z) λc s3 ⟨z,H3,I3,r3,k,e,q3⟩=>?_) hm
 subst e
 cases r3
 exact Kl ⟨H3,I3,q3⟩
noncomputable def nC (r r':R2) (ta tb tc:TE):TE:=λσ H Q=>ta σ H λx H1=>tb σ H1 λy H2=>r x y H2 λz H3=>∃ k,z = .bl k /\
 (if k=true then tc σ H3 λw' H4=>r' y w' H4 Q else Q (.bl false) H3)
theorem wq {op':Qc}{r r':R2}(ho:OpR X (JM op) r)(j:OpR X (JM op') r')(U:PE X a ta)(Y:PE X b tb)(Z:PE X c tc)(hm:Pa [op,op'] [b,c]=false:=by with_unfolding_all rfl):PE X (.Compare a [op,op'] [b,c] pos) (nC r r' ta tb tc):=by
 intro pins s σ H Q I h;refine Compare_chain (thn (U pins s σ H _ I h) λv s1 ⟨x,H1,I1,r1,q1⟩=>chain_link (thn (Y pins s1 σ H1 _ I1 q1) λu s2 ⟨y,H2,I2,F,q2⟩ =>
  thn (ho pins s2 σ H2 x y v u _ I2 r1 F q2) λd s3 ⟨z,J,L,r3,k,e,O⟩=>?_)) hm
 subst e
 cases r3
 refine Kl ?_
 cases k with
 |false=>exact ite_ff ⟨.bl false,J,L,rfl,O⟩
 |true=>exact ite_tt (chain_last (thn (Z pins s3 σ J _ L O) λw' s4 g9=>(by obtain⟨z',H4,I4,r4,q4⟩:=g9;exact j pins s4 σ H4 y z' u w' Q I4 F r4 q4)))
theorem wt {op':Qc}{r r':R2}(ho:OpR X (JM op) r)(j:OpR X (JM op') r')(U:PE X a ta)(Y:PE X b tb)(Z:PE X c tc)(hm:Pa [op,op'] [b,c]=false:=by with_unfolding_all rfl):PT X (.Compare a [op,op'] [b,c] pos) (rK (nC r r' ta tb tc)):=by
 intro pins s σ H Q I h;refine isTrue_chain (thn (U pins s σ H _ I h) λv s1 ⟨x,H1,I1,r1,q1⟩=>test_link (thn (Y pins s1 σ H1 _ I1 q1) λu s2 ⟨y,H2,I2,F,q2⟩ =>
  thn (ho pins s2 σ H2 x y v u _ I2 r1 F q2) λd s3 ⟨z,J,L,r3,k,e,O⟩=>?_)) hm
 subst e
 cases r3
 refine Kl ?_
 cases k with
 | false =>
   obtain⟨k',e',q'⟩:=O
   cases e'
   exact ite_ff ⟨J,L,q'⟩
 | true =>
   refine ite_tt (test_last (thn (Z pins s3 σ J _ L O) λw' s4 ⟨z',H4,I4,r4,q4⟩=>thn (j pins s4 σ H4 y z' u w' _ I4 F r4 q4) λd' s5 g9=>?_));obtain⟨z2,H5,I5,r5,k2,e2,q5⟩:=g9;subst e2
   cases r5
   exact Kl ⟨H5,I5,q5⟩
def wu (K:Frag) (x:V) (H:Hp) (k:Bool):Prop :=
 match x with
 |.non=>k=false
 |.bl b=>k=b
 |.int i=>k=(i != 0)
 |.str y=>y.length<=Je/\k=((y.length:Int) != 0)
 |.byt y=>y.size<=Je/\k=((y.size:Int) != 0)
 |.ref p=>(∃ xs,SqL K H p xs/\k = !xs.isEmpty)∨(∃ xs,SqT K H p xs/\k = !xs.isEmpty)∨∃ kvs,H p=some (.dK kvs)/\k = !kvs.isEmpty
 |_=>False
theorem rL {κ:Type}{kvs:List (κ × V)}{vs:List (κ × hW)}(r:KV kvs vs):(!vs.isEmpty) = !kvs.isEmpty:=by
 cases r <;> rfl
theorem jf {xs:List V}{its:List hW}(r:Vals xs its):(!its.toArray.isEmpty) = !xs.isEmpty:=by
 cases r <;> simp
theorem fJ:(Je:Nat)<2 ^ 63:=by rw[td];decide
theorem ua:EQ X (λx H Q=>∃ k,wu X.K x H k/\Q k H):=by
 intro pins s σ H x v Q I rx h;obtain⟨k,e,q⟩:=h;have J:=fJ;have L:Je=16777216:=td
 cases x with
 | non =>
   cases rx
   have e':k=false:=e;subst e';exact truthy_none ⟨H,I,q⟩
 | bl b =>
   cases rx
   have e':k=b:=e;subst e';exact Kl ⟨H,I,q⟩
 | int i =>
   obtain⟨t,rfl⟩:=rx;have e':k=(i != 0):=e;subst e';exact PySem.P.truthy_int ⟨H,I,q⟩
 | str y =>
   obtain⟨t,rfl⟩:=rx;obtain⟨z,e'⟩:y.length<=Je/\k=((y.length:Int) != 0):=e;subst e';exact PySem.P.truthy_str (by lia) ⟨H,I.tok _,q⟩
 | byt y =>
   obtain⟨t,rfl⟩:=rx;obtain⟨z,e'⟩:y.size<=Je/\k=((y.size:Int) != 0):=e;subst e';exact PySem.W.truthy_bytes (by lia) ⟨H,I.tok _,q⟩
 | ref p =>
   cases rx
   have e':(∃ xs,SqL X.K H p xs/\k = !xs.isEmpty)∨(∃ xs,SqT X.K H p xs/\k = !xs.isEmpty)∨∃ kvs,H p=some (.dK kvs)/\k = !kvs.isEmpty:=e
   rcases e' with⟨xs,hx,e'⟩|⟨xs,hx,e'⟩|⟨kvs,hx,e'⟩
   ·subst e';obtain⟨its,r,pl,j⟩:=I.list hx;have hlen:=r.length;exact wpAny_truthy_list pl.isList (by simp only[Jk];lia) ⟨H,I.tok _,by rw[jf r];exact q⟩
   ·subst e';obtain⟨its,r,pl,j⟩:=I.tuple hx;have hlen:=r.length;exact truthy_tuple pl (by simp only[Jk];lia) ⟨H,I.tok _,by rw[jf r];exact q⟩
   ·subst e';obtain⟨j,F,vs,r,m⟩:kvs.length<=Je/\(p==LV)=false /\ ∃ vs,KV kvs vs/\s.heap.DictOf (bc X.prog X.w) p vs:=I.hok p _ hx;have hlen:kvs.length=vs.length:=ML r;exact wpAny_truthy_dict F m (by lia) ⟨H,I.tok _,by rw[rL r];exact q⟩
 |_=>exact(show False from e).elim
theorem wv (j:PE X a ta)(he:∀ whole,isTrue a X.env whole=(do let v <- whole;Np a.pos;holding [v] (truthy v))) :
 PT X a (λσ H Q=>ta σ H λx H'=>∃ k,wu X.K x H' k/\Q k H'):=by
 intro pins s σ H Q I h;exact isTrue_plain (thn (j pins s σ H _ I h) λv s1 z=>(by obtain⟨x,H1,F,J,L⟩:=z;exact ua pins s1 σ H1 x v Q F J L)) (he _)
theorem rM:OpR X (Kx .Add) (λx y H Q=>∃ i j,x = .str i/\y = .str j/\i.length+j.length<=Je/\Q (.str (i++j)) H):=by
 intro pins s σ H x y v u Q I rx ry h;obtain⟨i,j,rfl,rfl,z,q⟩:=h;obtain⟨t,rfl⟩:=rx;obtain⟨t',rfl⟩:=ry;exact add_str (λt' tk=>⟨.str (i++j),H,I.tok _,⟨_,rfl⟩,q⟩) z
theorem dN {x:V}(r:Vals [x] us):∃ u,us=[u]/\RelV x u:=by
 cases r with
 |cons j z=>cases z;exact⟨_,rfl,j⟩
theorem rN {x y:V}(r:Vals [x,y] us):∃ u w',us=[u,w']/\RelV x u/\RelV y w':=by
 cases r with
 | cons j z =>
   cases z with
   |cons F J=>cases J;exact⟨_,_,rfl,j,F⟩
theorem ww:CallR X (.builtin "abs") (λxs H Q=>∃ i,xs=[.int i]/\Q (.int (if i<0 then -i else i)) H):=by
 intro pins s σ H xs us Q I r h;obtain⟨i,rfl,q⟩:=h;obtain⟨u,rfl,t,rfl⟩:=dN r;exact call_abs_int λu tk=>⟨.int (if i<0 then -i else i),H,I.tok _,⟨_,rfl⟩,q⟩
theorem ub (F:X.calm=true):CallR X (.builtin "max") (λxs H Q=>∃ i j,xs=[.int i,.int j]/\Q (.int (if j > i then j else i)) H):=by
 intro pins s σ H xs us Q I r h;obtain⟨i,j,rfl,q⟩:=h;obtain⟨u,w',rfl,⟨t,rfl⟩,⟨t',rfl⟩⟩:=rN r;refine max_two_ints (I.ok.hd F) λh' tk k=>⟨_,H,I.kept k,?_,q⟩
 by_cases z:j > i
 ·rw[if_pos z,if_pos z];exact⟨_,rfl⟩
 ·rw[if_neg z,if_neg z];exact⟨_,rfl⟩
theorem uc (F:X.calm=true):CallR X (.builtin "min") (λxs H Q=>∃ i j,xs=[.int i,.int j]/\Q (.int (if j<i then j else i)) H):=by
 intro pins s σ H xs us Q I r h;obtain⟨i,j,rfl,q⟩:=h;obtain⟨u,w',rfl,⟨t,rfl⟩,⟨t',rfl⟩⟩:=rN r;refine min_two_ints (I.ok.hd F) λh' tk k=>⟨_,H,I.kept k,?_,q⟩
 by_cases z:j<i
 ·rw[if_pos z,if_pos z];exact⟨_,rfl⟩
 ·rw[if_neg z,if_neg z];exact⟨_,rfl⟩
theorem ud:CallR X (.type "int") (λxs H Q=>(∃ i,xs=[.int i]/\Q (.int i) H)∨∃ k,xs=[.bl k]/\Q (.int (if k then 1 else 0)) H):=by
 intro pins s σ H xs us Q I r h
 rcases h with⟨i,rfl,q⟩|⟨k,rfl,q⟩
 ·obtain⟨u,rfl,t,rfl⟩:=dN r;exact call_int_int ⟨.int i,H,I,⟨_,rfl⟩,q⟩
 ·obtain⟨u,rfl,j⟩:=dN r
  cases j
  exact call_int_bool ⟨.int (if k then 1 else 0),H,I.tok _,⟨_,rfl⟩,q⟩
theorem nD:CallR X (.type "str") (λxs H Q=>∃ i,xs=[.int i]/\i.natAbs.log2<1920/\Q (.str (Ko i)) H):=by
 intro pins s σ H xs us Q I r h;obtain⟨i,rfl,j,q⟩:=h;obtain⟨u,rfl,t,rfl⟩:=dN r;exact PySem.P.str_of_int j ⟨.str _,H,I.tok _,⟨_,rfl⟩,q⟩
def ES (K:Frag) (x:V) (H:Hp) (n:Nat):Prop :=
 match x with
 |.str y=>y.length<=Je/\n=y.length
 |.byt y=>y.size<=Je/\n=y.size
 |.ref p=>(∃ xs,SqL K H p xs/\n=xs.length)∨∃ xs,SqT K H p xs/\n=xs.length
 |_=>False
theorem nE:CallR X (.builtin "len") (λxs H Q=>∃ x n,xs=[x]/\ES X.K x H n/\Q (.int n) H):=by
 intro pins s σ H xs us Q I r h;obtain⟨x,n,rfl,e,q⟩:=h;obtain⟨u,rfl,rx⟩:=dN r;have F:=fJ;have J:Je=16777216:=td
 cases x with
 | str y =>
   obtain⟨t,rfl⟩:=rx;obtain⟨j,e'⟩:y.length<=Je/\n=y.length:=e;subst e';exact len_str (by lia) ⟨.int _,H,I.tok _,⟨_,rfl⟩,q⟩
 | byt y =>
   obtain⟨t,rfl⟩:=rx;obtain⟨j,e'⟩:y.size<=Je/\n=y.size:=e;subst e';exact PySem.W.len_bytes (by lia) ⟨.int _,H,I.tok _,⟨_,rfl⟩,q⟩
 | ref p =>
   cases rx
   have e':(∃ xs,SqL X.K H p xs/\n=xs.length)∨∃ xs,SqT X.K H p xs/\n=xs.length:=e
   rcases e' with⟨xs,hx,e'⟩|⟨xs,hx,e'⟩
   ·subst e';obtain⟨its,r',pl,z⟩:=I.list hx;have hlen:=r'.length;exact Calls.call_len_list pl.isList (by simp only[Jk];lia) ⟨.int xs.length,H,I.tok _,⟨_,by simp only[Jk];rw[hlen]⟩,q⟩
   ·subst e';obtain⟨its,r',pl,z⟩:=I.tuple hx;have hlen:=r'.length;exact len_tuple pl (by simp only[Jk];lia) ⟨.int xs.length,H,I.tok _,⟨_,by simp only[Jk];rw[hlen]⟩,q⟩
 |_=>exact(show False from e).elim
end
end
variable {C:Addr}
section
structure ObjM (h:Heap) (x dx C:Addr) (mA:Str->Option hW):Prop where
 obj:h.get? x=some (Q1 C dx)
 ns:h.Ns1 dx mA
 ne:dx≠x
theorem kR {dx:Addr}{mA:Str->Option hW}(n:h.Ns1 dx mA):∃ od,h.get? dx=some od /\ ∀ name,Qe name od=some (mA name):=by
 obtain⟨o,es,ep,ho,hd,hk,_,hm⟩:=n;refine⟨o,ho,λname=>?_⟩;have e:=hm name;unfold nsFind findBy at e;rw[<- R8]at e;unfold Qe;rw[hd];dsimp only
 split
 ·rename_i y q;rw[q]at e;exact congrArg some e
 ·rename_i q;rw [q] at e;have a:es.toList.any (·.refKey)=false:=by
   rw[List.any_eq_false];intro y F;obtain⟨z,t,j⟩:=hk y (Mm.mp F);simp[DictEntry.refKey,j]
  have a' : ¬ es.toList.any (·.refKey)=true:=by rw[a];exact J9
  rw[if_neg a'];exact congrArg some e
theorem ObjM.look {x dx:Addr}{mA:Str->Option hW}(I:ObjM h x dx C mA):∃ od,Lk h x (Q1 C dx) C (some od) /\ ∀ name,Qe name od=some (mA name) :=
 let ⟨od,ho,j⟩:=kR I.ns
 ⟨od,⟨I.obj,rfl,rfl,ho⟩,j⟩
theorem TH {o:Option hW}(r:RelO (some v) o):∃ u,o=some u/\RelV v u:=by
 cases o with
 |none=>exact(show False from r).elim
 |some u=>exact⟨u,rfl,r⟩
theorem ue (r:RelV v u):PySem.W.handedIn u=true:=by
 cases v with
 |non=>cases (show u=Ke from r);rfl
 |bl b=>cases (show u=R5 b from r);rfl
 |int i=>obtain⟨t,e⟩:=(show ∃ t,u=Mv i t from r);cases e;rfl
 |str x=>obtain⟨t,e⟩:=(show ∃ t,u=Qy x t from r);cases e;rfl
 |byt b=>obtain⟨t,e⟩:=(show ∃ t,u=Value.bytes b t from r);cases e;rfl
 |flt b=>obtain⟨t,e⟩:=(show ∃ t,u=Sy b t from r);cases e;rfl
 |ref a=>cases (show u=JL a from r);rfl
 |ty n=>cases (show u=Pz n from r);rfl
section
variable {P:Jy} {w:JQ} {H H':Hp} {h h':Heap} {a C dx:Addr} {fs fs':List (Str×V)}
theorem zA (hok:HOk P w H h)(e:H a=some (.ins C dx fs)):∃ mA,ObjM h a dx C mA/\(∀ f,RelO (fs.lookup f) (mA f))/\PySem.Within mA (fs.map (·.1))/\fs.length<=1000/\H dx=some (.own a):=by
 obtain⟨d,z,ne,ob,mA,n,r,q⟩:=(show ObjOk P w H h a (.ins C dx fs) from hok a _ e);exact⟨mA,⟨ob,n,ne⟩,r,q,z,d⟩
end
structure Cls (K:Frag) (C:Addr):Prop where
 pg:Sa K C Kb=true
 hd:PySem.W.hasDictIn K C=true
 po:PySem.W.plainOver K C=true
 sa:Kf K (.ref C) "__setattr__" = some (some (.builtin "object.__setattr__"))
theorem Cls.get (c:Cls K C)(f:Str):Sa K C f=true:=c.pg
section
variable {X:Cx} {pins:List (Addr×Obj)} {σ:St} {H:Hp} {s:z0} {a C dx:Addr} {fs:List (Str×V)} {f:Str} {v:V} {A:JI} {E:hW->z0->Prop}
theorem zB {prog:Jy}{env:Env}{f:Str}{Q:hW->z0->Prop}(j:NM e f env (eval e env)=eval e env)(h:Jm (model prog w) A (eval e env) (λo s₁=>Jm (model prog w) A (getAttr o f true) Q E s₁) E s):Jm (model prog w) A (eval (.Attribute e f pos) env) Q E s :=
 Attribute_any_ h (by rw[arm_eval_Attribute,j])
end
section
variable {X:Cx} {pins:List (Addr×Obj)} {σ:St} {H:Hp} {s:z0} {A:JI} {E:hW->z0->Prop} {Q:hW->z0->Prop} {c:hW} {b:Bool}
inductive cK (K:Frag) (H:Hp):V->hW->Prop where
 |non:cK K H .non (.type "NoneType")
 |bl (x:Bool):cK K H (.bl x) (.type "bool")
 |int (i:Int):cK K H (.int i) (.type "int")
 |str (x:Str):cK K H (.str x) (.type "str")
 |flt (x:UInt64):cK K H (.flt x) (.type "float")
 |lst {a:Addr} {xs:List V} (e:H a=some (.lst xs)):cK K H (.ref a) (.type "list")
 |frz {a:Addr} {o:Obj} {xs:List V} (e:H a=some (.frz o (.lst xs))):cK K H (.ref a) (.type "list")
 |tup {a:Addr} {xs:List V} (e:SqT K H a xs):cK K H (.ref a) (.type "tuple")
 |dK {a:Addr} {kvs:List (Key×V)} (e:H a=some (.dK kvs)):cK K H (.ref a) (.type "dict")
 |dT {a:Addr} {kvs:List (List Key×V)} (e:H a=some (.dT kvs)):cK K H (.ref a) (.type "dict")
 | ins {a C dx:Addr} {fs:List (Str×V)} (e:H a=some (.ins C dx fs)) (cl:Cls K C) (ha:Kf K (.ref C) "__class__" = some (some (.builtin "object.__class__")))
    (hn:OP K (.builtin "object.__class__") "__get__" = some (some (.builtin "getset_descriptor.__get__"))) (htk:SN K (.builtin "object.__class__")=some true)
    (hm:NN K C (.type "object")=some true):cK K H (.ref a) (.ref C)
theorem uf {x:V}{t:hW}(I:Inv X pins σ H s)(rx:RelV x u)(ty:cK X.K H x t)(e:Ox X.K t c=some b)(h:∀ tk,Q (.bool b) { s with toks:=tk }) :
 Jm (model X.prog X.w) A (call (.builtin "isinstance") [u,c]) Q E s:=by
 cases ty with
 |non=>cases (show u=Ke from rx);exact Kg PySem.W.kitx_none I.kIn Mn e (λz=>nomatch z) h
 |bl y=>cases (show u=R5 y from rx);exact Kg PySem.W.kitx_bool I.kIn Mn e (λz=>nomatch z) h
 |int i=>obtain⟨t,q⟩:=(show ∃ t,u=Mv i t from rx);cases q;exact Kg PySem.W.kitx_int I.kIn Mn e (λz=>nomatch z) h
 |str y=>obtain⟨t,q⟩:=(show ∃ t,u=Qy y t from rx);cases q;exact Kg PySem.W.kitx_str I.kIn Mn e (λz=>nomatch z) h
 |flt y=>obtain⟨t,q⟩:=(show ∃ t,u=Sy y t from rx);cases q;exact Kg PySem.W.kitx_float I.kIn Mn e (λz=>nomatch z) h
 |@lst a xs ea =>
  cases (show u=JL a from rx)
  obtain⟨_,_,n,_,h1⟩:=(show ObjOk X.prog X.w H s.heap a (.lst xs) from I.hok a _ ea);exact Kg Ry I.kIn ⟨_,h1,rfl⟩ e (λz=>nomatch z) h
 |@frz a ob xs ea =>
  cases (show u=JL a from rx)
  obtain⟨_,_,_,n,_,h1⟩:=(show ObjOk X.prog X.w H s.heap a (.frz ob (.lst xs)) from I.hok a _ ea);exact Kg Ry I.kIn ⟨_,h1,rfl⟩ e (λz=>nomatch z) h
 |@tup a xs ea =>
  cases (show u=JL a from rx)
  obtain⟨_,_,p,_⟩:=I.tuple ea;obtain⟨o,h1,h2,_⟩:=p;exact Kg PySem.W.kitx_tuple I.kIn ⟨o,h1,h2⟩ e (λz=>nomatch z) h
 |@dK a kvs ea =>
  cases (show u=JL a from rx)
  obtain⟨_,_,vs,_,p⟩:=(show ObjOk X.prog X.w H s.heap a (.dK kvs) from I.hok a _ ea);obtain⟨o,es,ep,h1,h2,_⟩:=p;exact Kg Rz I.kIn ⟨o,h1,h2.1⟩ e (λz=>nomatch z) h
 |@dT a kvs ea =>
  cases (show u=JL a from rx)
  obtain⟨_,_,xs,_,o,es,ep,h1,h2,_⟩:=(show ObjOk X.prog X.w H s.heap a (.dT kvs) from I.hok a _ ea);exact Kg Rz I.kIn ⟨o,h1,h2.1⟩ e (λz=>nomatch z) h
 |@ins a C dx fs ea cl ha hn htk hm =>
  cases (show u=JL a from rx)
  obtain⟨mA,O,_⟩:=zA I.hok ea;obtain⟨od,J,_⟩:=O.look;exact Kg (PySem.W.kitx_own (cl.get _) cl.hd ha hn htk hm) I.kIn J e (λz=>nomatch z) h
end
end
variable {mg:Str->Option hW}{base:Heap}{ps:List Str}
section
structure Room (k:Nat) (A:JI):Prop where
 hd:A.handled=none
 dp:A.depth+3*k+5<recursionLimit
 un:A.units+16*k+200<Qf
theorem Room.mono {k:Nat}(r:Room k A)(h:j<=k):Room j A:=⟨r.hd,by have:=r.dp;lia,by have:=r.un;lia⟩
theorem Room.deeper {k:Nat}(r:Room (k+1) A)(env:Env):Room k (A.deeper env) :=
 ⟨r.hd,by have:=r.dp;show A.depth+1+3*k+5<_;lia,by have:=r.un;show A.units+3+16*k+200<_;lia⟩
theorem rO {kw:List (Str×hW)}:(A.under (.builtin "type.__call__" ⟨.ref C::us,kw⟩)).depth=A.depth+1:=by
 first|rfl|simp[RA,Code.weight,Code.isCreation,Code.isGuard,Code.isCaller,Code.frames,RB,guardIds]
theorem rP {kw:List (Str×hW)}:(A.under (.builtin "type.__call__" ⟨.ref C::us,kw⟩)).units=A.units+1:=by
 first|rfl|simp[RA,Code.cUnits,Code.frames,RB]
theorem Room.make {k:Nat}(r:Room (k+1) A)(C:Addr)(us:List hW)(kw:List (Str×hW)):Room k (A.under (.builtin "type.__call__" ⟨.ref C::us,kw⟩)) :=
 ⟨r.hd,by have:=r.dp;rw[rO];lia,by have:=r.un;rw[rP];lia⟩
theorem Room.depth {k:Nat}(r:Room k A):A.depth<recursionLimit:=by have:=r.dp;lia
theorem Room.units {k:Nat}(r:Room k A):A.units+64<Qf:=by have:=r.un;lia
noncomputable def BG:TA:=λ_ H Q=>Q [] H
noncomputable def yM (ta:TE) (tr:TA):TA:=λσ H Q=>ta σ H λx H1=>tr σ H1 λxs H2=>Q (x::xs) H2
section
variable {X:Cx} {e:Expr} {es:List Expr} {te:TE} {t:TA} {pos:Pos}
theorem gw:PA X [] BG:=λ_ _ _ _ H Q I h=>Calls.spliced_nil ⟨[],H,I,.nil,h⟩
theorem cG (z:PE X e te)(hr:PA X es t)(F:Jt (e::es) X.env=(false,eval e X.env)::Jt es X.env:=by rfl):PA X (e::es) (yM te t):=by
 intro pos pins s σ H Q I h;rw[F];show Jm _ _ (spliced ((false,eval e X.env)::KH pos (Jt es X.env))) _ _ s;refine Calls.spliced_cons (thn (z pins s σ H _ I h) λu s1 j=>?_);obtain⟨x,H1,J,L,O⟩:=j;exact thn (hr pos pins s1 σ H1 _ J O) λus s2 j=>(by obtain⟨xs,H2,U,Y,Z⟩:=j;exact⟨x::xs,H2,U,.cons L Y,Z⟩)
noncomputable def ET (t:TA):TE:=λσ H Q=>t σ H λxs H1=>xs.length<=Je /\ ∀ p,H1 p=none->Q (.ref p) (upd H1 p (.tup xs))
noncomputable def EU (t:TA):TE:=λσ H Q=>t σ H λxs H1=>xs.length<=Je /\ ∀ p,H1 p=none->Q (.ref p) (upd H1 p (.lst xs))
theorem BH {F}(h:PA X es t):PE X (.Tuple es F pos) (ET t):=by
 intro pins s σ H Q I hq;refine wpAny_Tuple_spliced (thn (h pos pins s σ H _ I hq) λus s1 ⟨xs,H1,j,r,z,q⟩=>⟨by rw[<- r.length];exact z,?_⟩)
 have hf:H1 s1.heap.objs.size=none:=j.hok.fresh (Jg _);refine⟨.ref s1.heap.objs.size,upd H1 s1.heap.objs.size (.tup xs),j.laid (t':=s1.toks) (λb u e=>s9 _ e) (Jg _) ?_,rfl,q _ hf⟩;exact⟨z,us,r,⟨_,Jo _ rfl,rfl,_,rfl⟩⟩
theorem BJ (h:PA X es t):PE X (.List es pos) (EU t):=by
 intro pins s σ H Q I hq;refine wpAny_List_spliced (thn (h pos pins s σ H _ I hq) λus s1 ⟨xs,H1,j,r,z,q⟩=>⟨by rw[<- r.length];exact z,?_⟩)
 have hf:H1 s1.heap.objs.size=none:=j.hok.fresh (Jg _);refine⟨.ref s1.heap.objs.size,upd H1 s1.heap.objs.size (.lst xs),j.laid (t':=s1.toks) (λb u e=>s9 _ e) (Jg _) ?_,rfl,q _ hf⟩;exact⟨z,us,0,r,Jo _ rfl⟩
end
noncomputable abbrev Sp:=List V->Hp->VK->XK->Prop
noncomputable abbrev CXT:=List Env->Hp->z0->XK->hW->z0->Prop
structure Env0 (P:Jy) (w:JQ) (K:Frag) (mg:Str->Option hW) (base:Heap) (A:JI) (outer:List Env) (s:z0) (H:Hp):Prop where
 frames:A.frames=some outer
 mod:Mod K mg base
 bs:∀ b o,base.get? b=some o->s.heap.get? b=some o/\H b=none
 bsz:base.objs.size<=s.heap.objs.size
 funs:s.heap.FunFrames base outer
 frf:∀ b∈frs outer,H b=none
 hok:HOk P w H s.heap
 bare:Oh s.gens
def CE (outer:List Env) (P:Jy) (w:JQ) (H:Hp) (s:z0) (Q:VK) (u:hW) (s':z0):Prop :=
 ∃ v H',s'.os=s.os/\Oh s'.gens/\Un (frs outer) [] H H' s.heap s'.heap/\HOk P w H' s'.heap/\RelV v u/\Q v H'
def CR (CX:CXT) (outer:List Env) (P:Jy) (w:JQ) (H:Hp) (s:z0) (Q:VK) (E:XK) (r:Result) (s':z0):Prop :=
 match r with
 |.ok (.ret u)=>CE outer P w H s Q u s'
 |.ok _=>False
 |.error e=>CX outer H s E e s'
structure br (P:Jy) (w:JQ) (K:Frag) (mg:Str->Option hW) (base:Heap) (CX:CXT) (k:Nat) (f:Addr) (fd:KW) (ps:List Str) (sp:Sp):Prop where
 len:∀ vs H Q E,sp vs H Q E->vs.length=ps.length
 run:∀ (A:JI) (outer:List Env) (s:z0) (H:Hp) (args:Args) (us:List hW) (vs:List V) (Q:VK) (E:XK),Room k A->Env0 P w K mg base A outer s H->QB s fd args (ps.zip us)->Vals vs us->sp vs H Q E ->
  NO (model P w) A (.call (.ref f) args) (CR CX outer P w H s Q E) s
theorem Env0.make {outer:List Env}(e:Env0 P w K mg base A outer s H)(C:Addr)(us:List hW)(kw:List (Str×hW)) :
 Env0 P w K mg base (A.under (.builtin "type.__call__" ⟨.ref C::us,kw⟩)) outer s H:=⟨by first|exact e.frames|(simpa[RA,Code.envs,RB,pushEnvs]using e.frames),e.mod,e.bs,e.bsz,e.funs,e.frf,e.hok,e.bare⟩
section
variable {X:Cx} {pins:List (Addr×Obj)} {σ:St} {H:Hp} {s s':z0}
theorem Inv.env0 (I:Inv X pins σ H s):Env0 X.prog X.w X.K X.mg X.base X.A X.stack s H :=
 ⟨I.ok.frames,I.ok.mod,I.bs,K7 I.ok.bsz I.sz,I.stack,I.stkFree,I.hok,I.bare⟩
theorem Inv.after (I:Inv X pins σ H s)(h:CE X.stack X.prog X.w H s Q u s'):EP X pins σ Q u s':=by
 obtain⟨v,H',os,bare,un,hok,r,q⟩:=h;obtain⟨j,g,d,t,os'⟩:=s';obtain rfl:os'=s.os:=os;exact⟨v,H',I.call (h':=j) (g':=g) (d':=d) (t':=t) (ch:=[]) un hok bare (λb z=>absurd z (by simp)),r,q⟩
end
noncomputable def yN (sp:Sp) (dvs:List V) (E:XK) (t:TA):TE:=λσ H Q=>t σ H λvs H1=>sp (vs++dvs) H1 Q E
def Binds (K:Frag) (fd:KW) (ps:List Str) (ds:List hW):Prop :=
 ∀ (s:z0) (us:List hW),K.In s.heap->(us++ds).length=ps.length->QB s fd ⟨us,[]⟩ (ps.zip (us++ds))
theorem Binds.all {fd:KW}(h:∀ us:List hW,us.length=ps.length->bindArgs fd ⟨us,[]⟩=pure (ps.zip us)):Binds K fd ps []:=λs us _ j=>by
 rw[Kp]at j ⊢;exact .of_eq (h us j)
def jg (CX:CXT) (X:Cx) (E:XK):Prop:=∀ (pins:List (Addr×Obj)) (σ:St) (H:Hp) (s:z0) (e:hW) (s':z0),Inv X pins σ H s->CX X.stack H s E e s'->X.xe e s'
section
variable {X:Cx} {CX:CXT} {k:Nat} {f C:Addr} {fd:KW} {ps:List Str} {sp:Sp} {dvs:List V} {ds:List hW} {E:XK} {x m:Str} {p pos apos:Pos} {e o:Expr} {es:List Expr} {ta:TE} {t:TA}
theorem ug {vs:List V}(F:br X.prog X.w X.K X.mg X.base CX k f fd ps sp)(hr:Room k X.A)(J:Binds X.K fd ps ds)(hd:Vals dvs ds)(hx:jg CX X E)(I:Inv X pins σ H s)(r:Vals vs us)(h:sp (vs++dvs) H Q E):Jm (model X.prog X.w) X.A (call (.ref f) us) (EP X pins σ Q) X.xe s:=by
 have z:Vals (vs++dvs) (us++ds):=r.append hd;have L:(us++ds).length=ps.length:=by rw[<- z.length];exact F.len _ _ _ _ h
 refine NF (Lz (F.run X.A X.stack s H ⟨us,[]⟩ (us++ds) (vs++dvs) Q E hr I.env0 (J s us I.kIn L) z h) λr s' j=>?_)
 cases r with
 |error e=>exact hx pins σ H s e s' I j
 | ok fl =>
   cases fl with
   |ret u=>exact I.after j
   |next=>exact False.elim j
   |brk=>exact False.elim j
   |cont=>exact False.elim j
theorem zC (F:br X.prog X.w X.K X.mg X.base CX k f fd ps sp)(hr:Room k X.A)(L:Gl X x)(hm:X.mg x=some (.ref f))(hk:KN X.K (.ref f)=true)(O:Binds X.K fd ps ds)(hd:Vals dvs ds)(hx:jg CX X E)(U:PA X (e::es) t)(j:(x==("__debug__":Str))=false:=by decide)(he:Jt (e::es) X.env=(false,eval e X.env)::Jt es X.env:=by rfl)(z:(KH pos (Jt es X.env)).any (·.1)=false:=by rfl) :
 PE X (.Call (.Name x p) (e::es) [] pos) (yN sp dvs E t):=by
 intro pins s σ H Q I h;refine Ll (cE I L hm ?_ j);refine R9 (h₀:=X.base) I.ok.mod.kin hk (thn (U pos pins s σ H _ I h) λus s1 ⟨vs,H1,J,r,q⟩=>⟨J.kIn,?_⟩) he z;exact ug F hr O hd hx J r q
theorem wx (F:br X.prog X.w X.K X.mg X.base CX k f fd ps sp)(hr:Room k X.A)(z:Gl X x)(hm:X.mg x=some (.ref f))(hk:KN X.K (.ref f)=true)(J:Binds X.K fd ps ds)(hd:Vals dvs ds)(hx:jg CX X E)(j:(x==("__debug__":Str))=false:=by decide):PE X (.Call (.Name x p) [] [] pos) (yN sp dvs E BG):=by
 intro pins s σ H Q I h;refine Ll (cE I z hm ?_ j);exact PySem.W.callWith_K0 I.kIn hk (ug (us:=[]) F hr J hd hx I .nil h)
end
structure cY (N P:List Str) (sc:Scope):Prop where
 kind:sc.kind = .function
 co:sc.isCoroutine=false
 gen:sc.isGenerator=false
 nd:N.Nodup
 pre:N.take P.length=P
 par:∀ x∈P,sc.names.lookup x=some .local∨sc.names.lookup x=some .cell
 nofree:∀ y∈sc.names,y.2 ≠ .free
theorem kS {NG:Str->Option LO}{x:Str}:∀ {binds:List (Str×hW)} {m:Str->Option hW},(∀ v,(x,v)∉binds)->SY NG binds m x=m x
 |[],_,_=>rfl
 |(n,v)::r,m,h=>by
  unfold SY;rw[kS λw hw=>h w (Ji _ hw)]
  split
  ·have:x≠n:=by rintro rfl;exact h v K0
   simp[this]
  ·rfl
theorem kT {NG:Str->Option LO}{x:Str}:∀ {binds:List (Str×hW)} {m:Str->Option hW},(∀ v,(x,v)∉binds)->T1 NG binds m x=m x
 |[],_,_=>rfl
 |(n,v)::r,m,h=>by
  unfold T1;rw[kT λw hw=>h w (Ji _ hw)]
  split
  ·rfl
  ·have:x≠n:=by rintro rfl;exact h v K0
   simp[this]
theorem kU {NG:Str->Option LO}{x:Str}{v:hW}:∀ {P:List Str} {vs:List hW} {i:Nat} {m:Str->Option hW},P.Nodup->P[i]? = some x->vs[i]? = some v->NG x=some .local ->
 SY NG (P.zip vs) m x=some v
 |[],_,_,_,_,h,_,_=>by simp at h
 |_::_,[],_,_,_,_,h,_=>by simp at h
 | p::P,w::vs,0,m,nd,h1,h2,hk=>by
   simp at h1 h2;subst h1;subst h2;show SY NG ((p,w)::P.zip vs) m p=_;unfold SY;rw[kS λv j=>(MU.mp nd).1 (Q2 j).1,if_pos hk];simp
 | p::P,w::vs,i+1,m,nd,h1,h2,hk=>by
   show SY NG ((p,w)::P.zip vs) m x=_;unfold SY;exact kU (i:=i) (MU.mp nd).2 (by simpa using h1) (by simpa using h2) hk
theorem kW {NG:Str->Option LO}{x:Str}{v:hW}:∀ {P:List Str} {vs:List hW} {i:Nat} {m:Str->Option hW},P.Nodup->P[i]? = some x->vs[i]? = some v->NG x≠some .local ->
 T1 NG (P.zip vs) m x=some v
 |[],_,_,_,_,h,_,_=>by simp at h
 |_::_,[],_,_,_,_,h,_=>by simp at h
 | p::P,w::vs,0,m,nd,h1,h2,hk=>by
   simp at h1 h2;subst h1;subst h2;show T1 NG ((p,w)::P.zip vs) m p=_;unfold T1;rw[kT λv j=>(MU.mp nd).1 (Q2 j).1,if_neg hk];simp
 | p::P,w::vs,i+1,m,nd,h1,h2,hk=>by
   show T1 NG ((p,w)::P.zip vs) m x=_;unfold T1;exact kW (i:=i) (MU.mp nd).2 (by simpa using h1) (by simpa using h2) hk
noncomputable def start (N:List Str) (vs:List V):St:=vs.map some++Jj (N.length - vs.length) none
noncomputable def cv (CX:CXT) (P:Jy) (w:JQ) (K:Frag) (mg:Str->Option hW) (base:Heap) (N:List Str) (qual:Str) (scope:Scope) (f:Addr) (cd:hW) (A:JI) (outer:List Env) (s:z0) (H:Hp) (E:XK):Cx where
 prog:=P
 w:=w
 K:=K
 mg:=mg
 base:=base
 A:=A.deeper (Na qual scope s.heap.objs.size f cd)
 N:=N
 s₀:=s
 H₀:=H
 env:=Na qual scope s.heap.objs.size f cd
 outer:=outer
 stack:=Na qual scope s.heap.objs.size f cd::outer
 ex:=[]
 calm:=true
 fn:=λ_=>true
 pn:=[]
 xe:=λe s'=>Jm (model P w) (A.deeper (Na qual scope s.heap.objs.size f cd)) (leaving (Na qual scope s.heap.objs.size f cd) e) (λ_ s''=>CX outer H s E e s'') (λe' s''=>CX outer H s E e' s'') s'
theorem nF {sc:Scope}{n:Nat}(h:sc.names.lookup x=some .cell):∃ c,(Lc n sc.names []).lookup x=some c:=by
 have q:=Nr sc.names n [] (.inl h);exact K8.mp q
theorem uh {CX:CXT}{qual:Str}{scope:Scope}{f:Addr}{cd:hW}{outer:List Env}{s1:z0}{E:XK}{vs:List V}(S:cY N ps scope)(hd:A.handled=none)(j:Env0 P w K mg base A outer s H)(Y:vs.length=ps.length)(r:Vals vs us)(x:InCallC s s.heap.objs.size (SY (Na qual scope s.heap.objs.size f cd).kindOf (ps.zip us) λ_=>none) (Lc (s.heap.objs.size+1) scope.names []) (T1 (Na qual scope s.heap.objs.size f cd).kindOf (ps.zip us) λ_=>none) s1) :
 Inv (cv CX P w K mg base N qual scope f cd A outer s H E) [] (start N vs) H s1:=by
 have O:ps.length<=N.length:=by have:=congrArg Sz S.pre;rw[Jx]at this;lia
 obtain⟨h1,tk,rfl,hk⟩:=x.done;have noA:∀ b:Addr,b∉(cv CX P w K mg base N qual scope f cd A outer s H E).ex:=λb z=>absurd (show b∈([]:List Addr) from z) (by simp)
 refine⟨⟨j.mod,S.kind,rfl,rfl,Jg _,λy z c h1 h2=>?_,λy F=>?_,λy c _ h=>?_,λ_=>hd,Around.frames_deeper j.frames,.inr ⟨rfl,rfl⟩,λb z=>absurd z (noA b),j.bs,j.bsz,λb _ _=>noA b,λb z=>absurd z (noA b),j.funs,j.frf⟩,
  rfl,j.bare,Un.kept hk,⟨_,x.toInCall.ns,λi y v h1 h2 Z=>?_⟩,λy c h=>⟨_,x.cell y c h⟩,j.hok.fresh (Jg _),λy c h=>?_,λp J=>absurd (show p∈([]:List (Addr×Obj)) from J) (by simp),j.hok.kept hk,?_⟩
 ·exact name_of_addr x.apart (Ks h1) (Ks h2)
 ·have F:scope.names.lookup y=some .cell∨scope.names.lookup y=some .free:=F
  rcases F with F|F
  ·exact nF F
  ·exact absurd rfl (S.nofree _ (Ks F))
 ·exact Mw (x.above y c (Ks h))
 ·have hi:i < vs.length:=by
   unfold start at h2
   by_cases hi:i<vs.length
   ·exact hi
   ·rw[Mo (by simpa using hi)]at h2
    rw[Pb]at h2
    split at h2 <;> cases h2
  have U:vs[i]? = some v:=by
   unfold start at h2;rw[MD (by simpa using hi),JF]at h2
   cases e:vs[i]? with
   |none=>rw[e]at h2;cases h2
   |some a=>rw[e]at h2;cases h2;rfl
  obtain⟨u,L,rv⟩:=r.get U;have J:ps[i]? = some y:=by
   rw[<- S.pre,List.getElem?_take_of_lt (by lia)];exact h1
  have ndP:ps.Nodup:=by rw[<- S.pre];exact S.nd.sublist (List.take_sublist _ _)
  refine⟨u,rv,?_⟩
  rcases S.par y (KD J) with k|k
  ·exact .inl ⟨k,kU ndP J L k⟩
  ·obtain⟨c,e⟩:=nF (n:=s.heap.objs.size+1) k;refine .inr ⟨.inl k,c,e,?_⟩;have q:=x.cell y c e;rw[kW ndP J L (by show scope.names.lookup y≠_;rw[k];decide)]at q
   exact q
 ·exact j.hok.fresh (Mw (x.above y c (Ks h)))
 ·unfold start;show _=N.length;rw[Jq,Jc,Lr];lia
theorem yO {CX:CXT}{k:Nat}{f:Addr}{name qual:Str}{params:Arguments}{scope:Scope}{dV kV doc pm cdv ct oc:hW}{an od:Option Addr}{osl:Array (Option hW)}{sp:Sp}(lk:K.lookup f=some ⟨oc,od,.func (LA name qual params body scope dV kV doc pm an cdv ct),osl⟩)(U:Oy K cdv qual=true)(S:cY N ps scope)(len:∀ vs H Q E,sp vs H Q E->vs.length=ps.length)(j:∀ (A:JI) (outer:List Env) (s:z0) (H:Hp) (vs:List V) (Q:VK) (E:XK),Room k (A.deeper (Na qual scope s.heap.objs.size f cdv))->sp vs H Q E ->
   ∃ t,PSs (cv CX P w K mg base N qual scope f cdv A outer s H E) body t/\t { nx:=λ_ H'=>Q .non H',rt:=Q } (start N vs) H) :
 br P w K mg base CX (k+1) f (LA name qual params body scope dV kV doc pm an cdv ct) ps sp:=by
 refine⟨len,λA outer s H args us vs Q E hr L Y r O=>?_⟩;have Z:=len _ _ _ _ O;have KX:K.In s.heap:=L.mod.kin.keeps λb o e=>(L.bs b o e).1;have lim:s.heap.NoLimit:=L.mod.nolimit.keeps λb o e=>(L.bs b o e).1;have z:∀ y∈ps.zip us,scope.names.lookup y.1=some .local∨(scope.names.lookup y.1=some .cell/\((Lc (s.heap.objs.size+1) scope.names []).lookup y.1).isSome=true):=λ⟨n,v⟩ hy=>by
  rcases S.par n (Q2 hy).1 with q|q
  ·exact .inl q
  ·exact .inr ⟨q,Nr _ _ _ (.inl q)⟩
 refine codeAny_call_function hr.depth (KX _ _ lk) rfl S.co S.gen rfl (PySem.W.codeRec_of KX U) (Y _ _ _ _ ?_);refine wpAny_newFunctionEnv_cells S.kind z λenv he s1 x=>?_;subst he;refine⟨lim.keeps x.toInCall.keep,codeAny_func ?_⟩;obtain⟨t,ht,hq⟩:=j A outer s H vs Q E (hr.deeper _) O;have I:Inv (cv CX P w K mg base N qual scope f cdv A outer s H E) [] (start N vs) H s1:=uh S hr.hd L Z r x;refine JS (ht [] s1 (start N vs) H _ I hq) (λfl s' F=>?_) λe s' F=>F;have fin:∀ {σ':St} {H':Hp} {v:V} {u:hW},Inv (cv CX P w K mg base N qual scope f cdv A outer s H E) [] σ' H' s'->RelV v u->Q v H'->CE outer P w H s Q u s' :=
  λ{σ' H' v u} J rv q=>⟨v,H',J.os,J.bare,J.base,J.hok,rv,q⟩
 cases fl with
 | ret u =>
   obtain⟨v,σ',H',J,rv,q⟩:=F;exact fin J rv q
 | next =>
   obtain⟨σ',H',J,q⟩:=F;exact fin (v:=V.non) (u:=Ke) J rfl q
 | brk =>
   obtain⟨_,_,_,q⟩:=F;exact False.elim q
 | cont =>
   obtain⟨_,_,_,q⟩:=F;exact False.elim q
end
section
section
variable {X:Cx} {x:Str} {p pos:Pos} {e:Expr} {es:List Expr} {t:TA} {id T:String} {r:List V->Hp->VK->Prop}
noncomputable def tCB (r:List V->Hp->VK->Prop) (t:TA):TE:=λσ H Q=>t σ H λvs H1=>r vs H1 Q
theorem bM (F:CallR X (.builtin id) r)(J:Gl X x)(hm:X.mg x=none)(L:LW x=some (.builtin id))(O:PA X (e::es) t)(U:x ≠ "__name__":=by decide)(j:(x==("__debug__":Str))=false:=by decide)(he:Jt (e::es) X.env=(false,eval e X.env)::Jt es X.env:=by rfl)(z:(KH pos (Jt es X.env)).any (·.1)=false:=by rfl):PE X (.Call (.Name x p) (e::es) [] pos) (tCB r t):=by
 intro pins s σ H Q I h;refine Ll (eO I J hm L ?_ U j);exact NH (thn (O pos pins s σ H _ I h) λus s1 Y=>(by obtain⟨vs,H1,Z,r1,q1⟩:=Y;exact F pins s1 σ H1 vs us Q Z r1 q1)) he z
theorem fe (F:CallR X (.type T) r)(J:Gl X x)(hm:X.mg x=none)(L:LW x=some (.type T))(O:PA X (e::es) t)(U:x ≠ "__name__":=by decide)(j:(x==("__debug__":Str))=false:=by decide)(he:Jt (e::es) X.env=(false,eval e X.env)::Jt es X.env:=by rfl)(z:(KH pos (Jt es X.env)).any (·.1)=false:=by rfl):PE X (.Call (.Name x p) (e::es) [] pos) (tCB r t):=by
 intro pins s σ H Q I h;refine Ll (eO I J hm L ?_ U j);exact Lf (thn (O pos pins s σ H _ I h) λus s1 Y=>(by obtain⟨vs,H1,Z,r1,q1⟩:=Y;exact F pins s1 σ H1 vs us Q Z r1 q1)) he z
end
end
end L2
namespace HT
open PySem PyProof.Rows
section
variable {prog:Jy} {w:JQ} {A:JI} {E:hW->z0->Prop} {s:z0}
theorem cat_tup {t b:Addr}{vs ws:List hW}{Q:hW->z0->Prop}(ht:IsTup s.heap t vs.toArray)(hb:IsTup s.heap b ws.toArray)(O:vs≠[])(h1:ws=[]->Q (.ref t) s)(h2:ws≠[]->Q (.ref s.heap.objs.size) { s with heap:=s.heap.push { cls:=.type "tuple",data:=.seq (vs++ws).toArray } })(hsz:vs.length+ws.length<=Je):Jm (model prog w) A (Kx .Add (.ref t) (.ref b)) Q E s:=by
 obtain⟨⟨cls,dd,data,sl⟩,ho,U,n,hd⟩:=id ht;obtain⟨⟨Y,z,data2,J⟩,j,L,Z,hd2⟩:=id hb;simp only at U hd L hd2;subst U hd L hd2;have e:vs.toArray++ws.toArray=(vs++ws).toArray:=by simp
 by_cases hw:ws=[]
 ·exact RC ⟨_,ho,rfl⟩ ⟨_,j,rfl⟩ Pc QS Nt Nj (MN _ _)
   (tuple_addW1 t b vs.toArray ws.toArray n Z dd z sl J (by simpa using O) (by simp[hw])) ⟨ho,j,h1 hw⟩
 ·refine RC ⟨_,ho,rfl⟩ ⟨_,j,rfl⟩ Pc QS Nt Nj (MN _ _)
   (tuple_addW2 t b vs.toArray ws.toArray n Z dd z sl J (by simpa using O) (by simpa using hw) (by rw[Jk,Jk];exact hsz)) ⟨ho,j,?_⟩
  rw[e];exact h2 hw
noncomputable def sIx (n d:Nat):Option Int->Nat
 |none=>d
 |some v=>if v<0 then (v+(n:Int)).toNat else min v.toNat n
theorem sIx_none (n d:Nat):sIx n d none=d:=rfl
theorem sIx_nat (n d k:Nat):sIx n d (some (k:Int))=min k n:=by
 show (if (k:Int)<0 then ((k:Int)+(n:Int)).toNat else min (k:Int).toNat n)=min k n
 rw[if_neg (by lia),Mh]
theorem BK (n d:Nat)(hd:d<=n)(o:Option Int):sIx n d o<=n:=by
 cases o with
 |none=>exact hd
 | some v =>
   show (if v<0 then (v+(n:Int)).toNat else min v.toNat n)<=n
   by_cases hv:v<0
   ·rw[if_pos hv];lia
   ·rw[if_neg hv];exact Sb _ _
theorem qB (v:Int)(n d:Nat):(if v<0 then max (v+(n:Int)) 0 else min v (n:Int))=((sIx n d (some v):Nat):Int):=by
 show (if v<0 then max (v+(n:Int)) 0 else min v (n:Int))=(((if v<0 then (v+(n:Int)).toNat else min v.toNat n):Nat):Int)
 by_cases hv:v<0
 ·simp only[if_pos hv];lia
 ·simp only[if_neg hv];lia
theorem rQ (lo hi:Option Int)(n:Nat):MH lo hi 1 (n:Int)=(((sIx n 0 lo:Nat):Int),((sIx n n hi:Nat):Int)):=by
 have h1 : ¬ ((1:Int)<0):=by lia
 unfold MH;simp only[h1,if_false];refine Prod.ext ?_ ?_
 ·cases lo with
  |none=>rfl
  |some v=>exact qB v n 0
 ·cases hi with
  |none=>rfl
  |some v=>exact qB v n n
theorem rR (i j:Nat):Lu (i:Int) (j:Int) 1=j - i:=by
 unfold Lu;have h1:(1:Int) > 0:=by lia
 simp only[h1,if_true,Int.ediv_one]
 split <;> lia
theorem jh {v:hW}{o:Option Int}{Q:Option Int->z0->Prop}(p:PH v o)(h:Q o s):Jm (model prog w) A (Builtin.Slice.slicePartIndex v) Q E s:=by
 cases p with
 |none=>exact slicePart_none h
 |int i t=>exact slicePart_int h
theorem eP {sl:Addr}{vl vu:hW}{lo hi:Option Int}{n:Nat}{Q:Int×Int×Nat->z0->Prop}(F:s.heap.IsSliceOf sl vl vu .none)(pl:PH vl lo)(pu:PH vu hi)(h:Q (((sIx n 0 lo:Nat):Int),1,sIx n n hi - sIx n 0 lo) s):Jm (model prog w) A (Oz (.ref sl) (pure (n:Int))) Q E s:=by
 obtain⟨os,j,J,z⟩:=id F;unfold Oz Builtin.Slice.sliceFields;refine h8 (h8 (JR j z (x:=vl) rfl (h8 (JR j z (x:=vu) rfl (h8 (JR j z (x:=.none) rfl (Jd ?_)))))));refine h8 (slicePart_none ?_);show Jm _ _ (if ((1:Int)==0)=true then _ else _) _ _ s
 rw[if_neg (by decide)]
 refine h8 (jh pl (h8 (jh pu (h8 (Jd ?_)))));show Jm _ _ (match MH lo hi 1 (n:Int) with|(lo,hi)=>pure (lo,(1:Int),Lu lo hi 1)) _ _ s
 rw[rQ lo hi n];show Jm _ _ (pure (((sIx n 0 lo:Nat):Int),(1:Int),Lu ((sIx n 0 lo:Nat):Int) ((sIx n n hi:Nat):Int) 1)) _ _ s;rw[rR];exact Jd h
theorem wy (xs:Array hW)(i k:Nat):((KZ k).filterMap λ(m:Nat)=>xs[((i:Int)+(m:Int)*1).toNat]?).toArray=((xs.toList.drop i).take k).toArray:=by
 have e:(λ(m:Nat)=>xs[((i:Int)+(m:Int)*1).toNat]?)=λm=>xs[i+m]?:=by
  funext m
  have:((i:Int)+(m:Int)*1).toNat=i+m:=by lia
  rw[this]
 rw[e];have:=pick_run xs i k;rw[List.filterMap_map]at this;have j:((λx=>xs[x]?) ∘ λx=>i+x)=λm=>xs[i+m]?:=rfl;rw[j]at this;rw[this]
theorem getItem_tuple_cut {t sl:Addr}{items:Array hW}{vl vu:hW}{lo hi:Option Int}{Q:hW->z0->Prop}(z:IsTup s.heap t items)(U:s.heap.IsSliceOf sl vl vu .none)(pl:PH vl lo)(pu:PH vu hi)(hw : ¬ (sIx items.size 0 lo=0/\sIx items.size items.size hi=items.size))(h:Q (.ref s.heap.objs.size) { s with heap:=s.heap.push { cls:=.type "tuple",data:=.seq ((items.toList.drop (sIx items.size 0 lo)).take (sIx items.size items.size hi - sIx items.size 0 lo)).toArray } })(hsz:items.size<=Je):Jm (model prog w) A (PJ (.ref t) (.ref sl)) Q E s:=by
 have j:sizeOk (.seq ((items.toList.drop (sIx items.size 0 lo)).take (sIx items.size items.size hi - sIx items.size 0 lo)).toArray):=by
  show ((items.toList.drop (sIx items.size 0 lo)).take (sIx items.size items.size hi - sIx items.size 0 lo)).toArray.size<=Je;rw[Jk,Jx,JG,Oe];lia
 have Z:sIx items.size items.size hi<=items.size:=BK _ _ (Jg _) hi;obtain⟨os,F,J,Y⟩:=id U;have L:s.TypeIs (.ref sl) "slice":=⟨os,F,J⟩;unfold PJ
 try with_reducible refine K2 ?_
 first|refine h8 (Jd ?_)|skip
 refine h8 (RE z.typeIs (by decide) ?_)
 refine h8 (Kc (name:=gV "__getitem__") z.typeIs KU
  (L5 KU z.typeIs QH ?_ (Ra _ _)))
 show Jm _ _ (OA (.ref t) >>= _) _ _ s;refine h8 (tupleItemsOf_ z ?_);refine h8 (Oi L ?_);rw[if_pos (by decide)]
 refine h8 (eP U pl pu ?_);have O : ¬ ((((sIx items.size 0 lo:Nat):Int)==0&&(1:Int)==1&&(sIx items.size items.size hi - sIx items.size 0 lo)==items.size)=true):=by
  intro q;rw[hX,hX]at q;have q1:((sIx items.size 0 lo:Nat):Int)=0:=Oq q.1.1;have q2:sIx items.size items.size hi - sIx items.size 0 lo=items.size:=Oq q.2;exact hw ⟨by lia,by lia⟩
 show Jm _ _ (if (((sIx items.size 0 lo:Nat):Int)==0&&(1:Int)==1&&(sIx items.size items.size hi - sIx items.size 0 lo)==items.size)=true then _ else _) _ _ s
 rw[if_neg O,wy]
 first
  |exact h8 (m:=LH _) (KJ (Jd ⟨_,rfl,Jd h⟩) j)
  |exact h8 (m:=LH _) (KJ (h8 (Jd (Jd ⟨_,rfl,Jd h⟩))) j)
  |exact h8 (h8 (m:=LH _) (KJ (Jd (Jd ⟨_,rfl,Jd h⟩)) j))
  |exact h8 (h8 (m:=LH _) (KJ (Jd ⟨_,rfl,Jd h⟩) j))
end
end HT
namespace L2
open PySem PySem.Spec PyProof.Rows
variable {xs:List V}
section
noncomputable abbrev TO:=St->Hp->(Option Int->Hp->Prop)->Prop
def PO (X:Cx) (e:Option Expr) (t:TO):Prop :=
 ∀ (pins:List (Addr×Obj)) (s:z0) (σ:St) (H:Hp) (Q:Option Int->Hp->Prop),Inv X pins σ H s->t σ H Q ->
  Jm (model X.prog X.w) X.A (evalPart e X.env) (λu s'=>∃ o H',Inv X pins σ H' s'/\PH u o/\Q o H') X.xe s
noncomputable def zD:TO:=λ_ H Q=>Q none H
noncomputable def Dy (t:TE):TO:=λσ H Q=>t σ H λx H1=>∃ i,x = .int i/\Q (some i) H1
section
variable {X:Cx} {e:Expr} {te:TE} {lo hi:Option Expr} {tl th:TO} {pos p2:Pos}
theorem ki:PO X none zD:=by
 intro pins s σ H Q I h;rw[QT];exact Jd ⟨none,H,I,.none,h⟩
theorem zE (h:PE X e te):PO X (some e) (Dy te):=by
 intro pins s σ H Q I hw;rw[evalPart_some];refine thn (h pins s σ H _ I hw) λu s1 j=>?_;obtain⟨x,H1,z,F,J⟩:=j;obtain⟨i,rfl,q⟩:=J;obtain⟨t,rfl⟩:=F;exact⟨some i,H1,z,.int i t,q⟩
def SlR (X:Cx) (r:V->Option Int->Option Int->Hp->VK->Prop):Prop :=
 ∀ (pins:List (Addr×Obj)) (s:z0) (σ:St) (H:Hp) (x:V) (v vl vu:hW) (lo hi:Option Int) (sl:Addr) (Q:VK),Inv X pins σ H s->RelV x v->s.heap.IsSliceOf sl vl vu .none->PH vl lo->PH vu hi->r x lo hi H Q ->
  ∃ T id,PM (.type T) "__getitem__" = pure (some (.builtin id))/\s.TypeIs v T/\Jm (model X.prog X.w) X.A (PJ v (.ref sl)) (EP X pins σ Q) X.xe s
theorem SlR.or {r r':V->Option Int->Option Int->Hp->VK->Prop}(h:SlR X r)(h':SlR X r'):SlR X (λx lo hi H Q=>r x lo hi H Q∨r' x lo hi H Q):=by
 intro pins s σ H x v vl vu lo hi sl Q I rx hs pl pu q
 rcases q with q|q
 ·exact h pins s σ H x v vl vu lo hi sl Q I rx hs pl pu q
 ·exact h' pins s σ H x v vl vu lo hi sl Q I rx hs pl pu q
noncomputable def tSl (r:V->Option Int->Option Int->Hp->VK->Prop) (te:TE) (tl th:TO):TE:=λσ H Q=>te σ H λx H1=>tl σ H1 λl H2=>th σ H2 λu H3=>r x l u H3 Q
theorem iM {r:V->Option Int->Option Int->Hp->VK->Prop}(hr:SlR X r)(he:PE X e te)(F:PO X lo tl)(J:PO X hi th):PE X (.Subscript e (.Slice lo hi none p2) pos) (tSl r te tl th):=by
 intro pins s σ H Q I h;refine T3 (thn (he pins s σ H _ I h) λv s1 j=>?_);obtain⟨x,H1,L,O,U⟩:=j;refine wpAny_Slice (thn (F pins s1 σ H1 _ L U) λvl s2 ⟨l,H2,Y,pl,Z⟩=>thn (J pins s2 σ H2 _ Y Z) λvu s3 j=>?_);obtain⟨u,z,I3,pu,q3⟩:=j;rw[QT];refine Jd ?_;have I4:Inv X pins σ z { s3 with heap:=s3.heap.push { cls:=.type "slice",data:=.fields #[vl,vu,.none] } }:=I3.kept (t':=s3.toks) λb ob q=>s9 _ q
 obtain⟨T,id,hT,ht,hg⟩:=hr pins { s3 with heap:=s3.heap.push { cls:=.type "slice",data:=.fields #[vl,vu,.none] } } σ z x v vl vu l u s3.heap.objs.size Q I4 O (Rb ..) pl pu q3
 show Jm (model X.prog X.w) X.A (QU e (.Slice lo hi none p2) v (.ref s3.heap.objs.size)) (EP X pins σ Q) X.xe { s3 with heap:=s3.heap.push { cls:=.type "slice",data:=.fields #[vl,vu,.none] } }
 exact T5 (ops:=[.ref s3.heap.objs.size,v]) ht hT hg (by with_unfolding_all rfl)
noncomputable def gF (xs:List V) (lo hi:Option Int):List V:=(xs.drop (HT.sIx xs.length 0 lo)).take (HT.sIx xs.length xs.length hi - HT.sIx xs.length 0 lo)
theorem iA (xs:List V)(lo hi:Option Int):(gF xs lo hi).length<=xs.length:=by
 unfold gF;rw[Jx,JG];lia
noncomputable def wz (K:Frag):V->Option Int->Option Int->Hp->VK->Prop:=λx lo hi H Q=>∃ a xs,x = .ref a/\SqT K H a xs /\
 ¬ (HT.sIx xs.length 0 lo=0/\HT.sIx xs.length xs.length hi=xs.length) /\ ∀ p,H p=none->Q (.ref p) (upd H p (.tup (gF xs lo hi)))
theorem sl_tup:SlR X (wz X.K):=by
 intro pins s σ H x v vl vu lo hi sl Q I rx hs pl pu h;obtain⟨a,xs,rfl,hx,hw,q⟩:=h
 cases rx
 obtain⟨its,r,j,z⟩:=I.tuple hx;have hlen:its.toArray.size=xs.length:=by rw[Jk];exact r.length.symm
 refine⟨"tuple",_,PyProof.Rows.slot_tuple_getitem.lookup,j.typeIs,?_⟩;refine HT.getItem_tuple_cut j hs pl pu (by rw[hlen];exact hw) ?_ (by rw[hlen];exact z)
 rw[hlen];refine⟨.ref s.heap.objs.size,_,I.laid (t':=s.toks) (o:=.tup (gF xs lo hi)) (λb ob q=>s9 _ q) (Jg _) ?_,rfl,q _ (I.hok.fresh (Jg _))⟩;exact⟨K7 (iA xs lo hi) z,_,(r.drop (HT.sIx xs.length 0 lo)).take (HT.sIx xs.length xs.length hi - HT.sIx xs.length 0 lo),ND _ _⟩
noncomputable def yP (K:Frag):R2:=λx y H Q=>∃ a b xs ys,x = .ref a/\y = .ref b/\SqT K H a xs/\SqT K H b ys/\xs≠[]/\xs.length+ys.length<=Je /\
 (ys=[]->Q (.ref a) H)/\(ys≠[] -> ∀ p,H p=none->Q (.ref p) (upd H p (.tup (xs++ys))))
theorem Vals.nil_iff {us:List hW}(r:Vals xs us):us=[]↔xs=[]:=by
 cases r with
 |nil=>simp
 |cons _ _=>simp
theorem op_catT:OpR X (Kx .Add) (yP X.K):=by
 intro pins s σ H x y v u Q I rx ry h;obtain⟨a,b,xs,ys,rfl,rfl,O,U,hx,J,Y,Z⟩:=h
 cases rx
 cases ry
 obtain⟨its,F,p1,_⟩:=I.tuple O;obtain⟨L,j,p2,_⟩:=I.tuple U;refine HT.cat_tup p1 p2 (λz=>hx (F.nil_iff.mp z)) (λz=>⟨.ref a,H,I,rfl,Y (j.nil_iff.mp z)⟩) (λz=>?_) (by rw[<- F.length,<- j.length];exact J)
 refine⟨.ref s.heap.objs.size,_,I.laid (t':=s.toks) (o:=.tup (xs++ys)) (λb ob q=>s9 _ q) (Jg _) ?_,rfl,Z (λw=>z (j.nil_iff.mpr w)) _ (I.hok.fresh (Jg _))⟩;exact⟨by rw[Jq];exact J,_,F.append j,ND _ _⟩
end
end
variable {n:Nat}{its:List hW}
section
noncomputable def ixN (n:Nat) (i:Int):Option Nat:=if 0<=i then (if i<n then some i.toNat else none) else if -(n:Int)<=i then some (i+n).toNat else none
noncomputable def atI {α:Type} (xs:List α) (i:Int):Option α:=(ixN xs.length i).bind λj=>xs[j]?
theorem qC {i:Int}{j:Nat}(h:ixN n i=some j):seqIndex? i n=some j/\j<n /\ -(n:Int)<=i/\i<n:=by
 unfold ixN at h
 by_cases h0 : 0<=i
 ·rw[if_pos h0]at h
  by_cases h1:i<n
  ·rw[if_pos h1]at h;have e:i.toNat=j:=Ki.inj h;exact⟨by rw[SA h0 h1,e],by lia,by lia,h1⟩
  ·rw[if_neg h1]at h;cases h
 ·rw[if_neg h0]at h
  by_cases h1 : -(n:Int)<=i
  ·rw[if_pos h1]at h;have e:(i+n).toNat=j:=Ki.inj h;exact⟨by rw[RF (by lia) h1,e],by lia,h1,by lia⟩
  ·rw[if_neg h1]at h;cases h
theorem kj {α:Type}{xs:List α}{i:Int}{v : α}(h:atI xs i=some v):∃ j,seqIndex? i xs.length=some j/\xs[j]? = some v/\j<xs.length /\ -(xs.length:Int)<=i/\i<xs.length:=by
 unfold atI at h
 cases e:ixN xs.length i with
 |none=>rw[e]at h;cases h
 | some j =>
   rw[e]at h;obtain⟨h1,h2,z,F⟩:=qC e;exact⟨j,h1,h,h2,z,F⟩
def kl (b:Expr):Prop:=∀ o i,subscripted b false o i=operate [o,i] (PJ o i)
def IxR (X:Cx) (r:R2):Prop :=
 ∀ (value slice:Expr) (pins:List (Addr×Obj)) (s:z0) (σ:St) (H:Hp) (x y:V) (v u:hW) (Q:VK),Inv X pins σ H s->RelV x v->RelV y u->r x y H Q ->
  subscripted slice false v u=operate [v,u] (PJ v u)->Jm (model X.prog X.w) X.A (QU value slice v u) (EP X pins σ Q) X.xe s
def MtR (X:Cx) (id:String) (r:V->List V->Hp->VK->Prop):Prop :=
 ∀ (pins:List (Addr×Obj)) (s:z0) (σ:St) (H:Hp) (x:V) (xs:List V) (v:hW) (us:List hW) (Q:VK),Inv X pins σ H s->RelV x v->Vals xs us->r x xs H Q ->
  Jm (model X.prog X.w) X.A (call (.builtin id) (v::us)) (EP X pins σ Q) X.xe s
section
variable {X:Cx} {a b:Expr} {ta tb:TE} {pos:Pos}
theorem IxR.or {r r':R2}(h:IxR X r)(h':IxR X r'):IxR X (λx y H Q=>r x y H Q∨r' x y H Q):=by
 intro value slice pins s σ H x y v u Q I rx ry q hs
 rcases q with q|q
 ·exact h value slice pins s σ H x y v u Q I rx ry q hs
 ·exact h' value slice pins s σ H x y v u Q I rx ry q hs
theorem Dz {r:R2}(hr:IxR X r)(j:PE X a ta)(z:PE X b tb)(F:kl b):PE X (.Subscript a b pos) (tOp r ta tb):=by
 intro pins s σ H Q I h;exact T3 (wo j z I h λv u s2 x y H2 J rx ry q=>hr a b pins s2 σ H2 x y v u Q J rx ry q (F _ _))
noncomputable def EV (K:Frag):R2:=λx y H Q=>∃ p xs i v,x = .ref p/\y = .int i/\SqL K H p xs/\atI xs i=some v/\Q v H
noncomputable def EW (K:Frag):R2:=λx y H Q=>∃ p xs i v,x = .ref p/\y = .int i/\SqT K H p xs/\atI xs i=some v/\Q v H
noncomputable def EX:R2:=λx y H Q=>∃ z i c,x = .str z/\y = .int i/\z.length<=Je/\atI z.cps.toList i=some c/\Q (.str ⟨#[c]⟩) H
theorem ix_list:IxR X (EV X.K):=by
 intro value slice pins s σ H x y v u Q I rx ry h hs;obtain⟨p,xs,i,z,rfl,rfl,J,he,q⟩:=h
 cases rx
 obtain⟨t,rfl⟩:=ry;obtain⟨its,r,pl,Y⟩:=I.list J;obtain⟨j,h1,h2,Z,L,O⟩:=kj he;obtain⟨w,ew,rw'⟩:=r.get h2;have U:=r.length;have hn:=fJ;have fin:EP X pins σ Q w s:=⟨z,H,I,rw',q⟩
 by_cases h0 : 0<=i
 ·have F:i.toNat=j:=by
   rw[SA h0 O]at h1;exact Ki.inj h1
  exact item_listR pl.isList h0 (by lia) (by rw[F];simpa using ew) fin hs
 ·have F:(i+(its.toArray.size:Int)).toNat=j:=by
   rw[RF (by lia) L]at h1
   rw[Jk,<- U];exact Ki.inj h1
  exact PN (x:=w) pl.isList.typeIs slot_list_getitem.lookup
   (wpAny_getItem_list_neg (Q:=λr s'=>r=w/\EP X pins σ Q r s') pl.isList (by lia) (by rw[Jk] <;> lia) (by lia) (by rw[F];simpa using ew) ⟨rfl,fin⟩) hs
theorem ix_tup:IxR X (EW X.K):=by
 intro value slice pins s σ H x y v u Q I rx ry h hs;obtain⟨p,xs,i,z,rfl,rfl,F,he,q⟩:=h
 cases rx
 obtain⟨t,rfl⟩:=ry;obtain⟨its,r,pl,L⟩:=I.tuple F;obtain⟨j,h1,h2,O,U,Y⟩:=kj he;obtain⟨w,ew,rw'⟩:=r.get h2;have J:=r.length;have Z:=fJ;have fin:EP X pins σ Q w s:=⟨z,H,I,rw',q⟩;exact PN (x:=w) pl.typeIs slot_tuple_getitem.lookup
  (getItem_tuple (j:=j) (Q:=λr s'=>r=w/\EP X pins σ Q r s') pl (by lia) (by lia) (by rw[Jk,<- J];exact h1) (by simpa using ew) ⟨rfl,fin⟩) hs
theorem BL:IxR X EX:=by
 intro value slice pins s σ H x y v u Q I rx ry h hs;obtain⟨z,i,c,rfl,rfl,Y,he,q⟩:=h;obtain⟨t,rfl⟩:=rx;obtain⟨t',rfl⟩:=ry;obtain⟨j,h1,h2,Z,F,J⟩:=kj he;have L:z.cps.toList.length=z.length:=by simp[Rc]
 rw[L]at h1 F J;have hn:=fJ;exact T5 (Nb s z t) slot_str_getitem.lookup (getItem_str (c:=c) (by
  have O:decide (i < -(2 ^ 63:Int))=false:=decide_eq_false (by lia)
  have U:decide (i≥2 ^ 63)=false:=decide_eq_false (by lia)
  rw[O,U,Bool.or_false]) (by rw[h1];simpa using h2) ⟨.str ⟨#[c]⟩,H,I.tok _,⟨_,rfl⟩,q⟩) hs
theorem rS (its:List hW)(n j:Nat)(u:hW):PQ (·.setIfInBounds j u) { cls:=.type "list",data:=.seq its.toArray n } = { cls:=.type "list",data:=.seq (its.set j u).toArray n }:=by
 simp[PQ]
theorem Inv.lst {pins:List (Addr×Obj)}{σ:St}{H:Hp}{s:z0}{p:Addr}{xs:List V}(I:Inv X pins σ H s)(h:H p=some (.lst xs)) :
 ∃ (its:List hW) (n:Nat),Vals xs its/\s.heap.get? p=some { cls:=.type "list",data:=.seq its.toArray n }/\xs.length<=Je:=by
 obtain⟨z,its,n,r,e⟩:=I.hok p _ h;exact⟨its,n,r,e,z⟩
theorem Inv.lstUpd {pins:List (Addr×Obj)}{σ:St}{H:Hp}{s:z0}{p:Addr}{ys:List V}{its':List hW}{n':Nat}{f:Obj->Obj}(I:Inv X pins σ H s)(h:H p=some (.lst xs))(ho:s.heap.get? p=some { cls:=.type "list",data:=.seq its.toArray n })(hf:f { cls:=.type "list",data:=.seq its.toArray n } = { cls:=.type "list",data:=.seq its'.toArray n' })(r:Vals ys its')(j:ys.length<=Je)(t:Nat) :
 Inv X pins σ (upd H p (.lst ys)) { s with heap:=s.heap.update p f,toks:=t }:=by
 have e:(s.heap.update p f).get? p=some { cls:=.type "list",data:=.seq its'.toArray n' }:=by
  rw[JX f ho (by rw[hf] <;> rfl),hf]
 refine I.write (x:=p) (e:=p) (by rw[h];trivial) (.inl rfl) (λb u z q=>(JV _ _ (Ne.symm z)).trans q) ⟨_,e⟩ ?_
 exact⟨j,its',n',r,e⟩
noncomputable def yQ:V->V->V->Hp->(Hp->Prop)->Prop:=λo i v H Q=>∃ p xs k j,o = .ref p/\i = .int k/\H p=some (.lst xs)/\ixN xs.length k=some j/\Q (upd H p (.lst (xs.set j v)))
theorem wB:PSet X yQ:=by
 intro pins s σ H o i v ov iv u Q I ro ri rv h;obtain⟨p,xs,k,j,rfl,rfl,F,O,q⟩:=h
 cases ro
 obtain⟨t,rfl⟩:=ri;obtain⟨its,n,r,ho,U⟩:=I.lst F;obtain⟨h1,h2,J,L⟩:=qC O;have z:=r.length;have Y:=fJ;have I':Inv X pins σ (upd H p (.lst (xs.set j v))) { s with heap:=s.heap.update p (PQ (·.setIfInBounds j u)) } :=
  I.lstUpd F ho (rS its n j u) (r.set rv j) (by rw[NZ];exact U) s.toks
 by_cases h0 : 0<=k
 ·have hk:k.toNat=j:=by
   rw[SA h0 L]at h1;exact Ki.inj h1
  exact PySem.W.ki_setAt ho h0 (by lia) (by rw[Jk,<- z];exact L) (by rw[hk];exact⟨_,I',q⟩)
 ·have hk:(k+(its.toArray.size:Int)).toNat=j:=by
   rw[RF (by lia) J]at h1
   rw[Jk,<- z];exact Ki.inj h1
  exact PySem.W.ki_setBack ho (by lia) (by rw[Jk,<- z];exact J) (by lia) (by rw[hk];exact⟨_,I',q⟩)
theorem nG (lo hi:Option Int)(n:Nat):(Nk lo hi none n).1=((HT.sIx n 0 lo:Nat):Int)/\(Nk lo hi none n).2.1=((HT.sIx n n hi:Nat):Int)/\(Nk lo hi none n).2.2=1:=by
 refine⟨?_,?_,rfl⟩
 ·cases lo with
  |none=>simp[Nk,HT.sIx]
  | some i =>
    simp only[Nk,HT.sIx,Sd,show (1:Int) > 0 by decide,if_true]
    by_cases h:i<0
    ·simp only[h,if_true] <;> lia
    ·simp only[h,if_false] <;> lia
 ·cases hi with
  |none=>simp[Nk,HT.sIx]
  | some i =>
    simp only[Nk,HT.sIx,Sd,show (1:Int) > 0 by decide,if_true]
    by_cases h:i<0
    ·simp only[h,if_true] <;> lia
    ·simp only[h,if_false] <;> lia
theorem mn (its:List hW)(lo hi:Option Int):slicePick its.toArray lo hi none=((its.drop (HT.sIx its.length 0 lo)).take (HT.sIx its.length its.length hi - HT.sIx its.length 0 lo)).toArray:=by
 obtain⟨h1,h2,j⟩:=nG lo hi its.toArray.size;unfold slicePick;rw[h1,h2,j];simp only[sliceRange_one,pick_run,Jk] <;> rfl
noncomputable def EY (K:Frag):V->Option Int->Option Int->Hp->VK->Prop:=λx lo hi H Q=>∃ a xs,x = .ref a/\SqL K H a xs /\ ∀ p,H p=none->Q (.ref p) (upd H p (.lst (gF xs lo hi)))
theorem sl_list:SlR X (EY X.K):=by
 intro pins s σ H x v vl vu lo hi sl Q I rx hs pl pu h;obtain⟨a,xs,rfl,hx,q⟩:=h
 cases rx
 obtain⟨its,r,j,z⟩:=I.list hx;have hlen:=r.length;refine⟨"list",_,slot_list_getitem.lookup,j.isList.typeIs,?_⟩;refine OZ j.isList hs pl pu .none (by simp) ?_ (by rw[Jk] <;> lia)
 rw[mn,<- hlen];refine⟨.ref s.heap.objs.size,_,I.laid (t':=s.toks) (o:=.lst (gF xs lo hi)) (λb ob q=>s9 _ q) (Jg _) ?_,rfl,q _ (I.hok.fresh (Jg _))⟩;exact⟨K7 (iA xs lo hi) z,_,0,(r.drop (HT.sIx xs.length 0 lo)).take (HT.sIx xs.length xs.length hi - HT.sIx xs.length 0 lo),Jo _ rfl⟩
theorem mq:CallR X (.type "tuple") (λxs H Q=>∃ p ys,xs=[.ref p]/\((SqL X.K H p ys /\ ∀ l,H l=none->Q (.ref l) (upd H l (.tup ys)))∨(SqT X.K H p ys/\Q (.ref p) H))):=by
 intro pins s σ H xs us Q I r h;obtain⟨p,ys,rfl,h⟩:=h;obtain⟨u,rfl,rx⟩:=dN r
 cases rx
 rcases h with⟨j,q⟩|⟨j,q⟩
 ·obtain⟨its,r',pl,z⟩:=I.list j;have hlen:=r'.length;refine call_tuple_list pl.isList (λh' kp=>?_) (by simp only[Jk] <;> lia)
  have F:Inv X pins σ H { s with heap:=h' }:=I.kept (t':=s.toks) kp
  have J:Inv X pins σ (upd H h'.objs.size (.tup ys)) { s with heap:=h'.push { cls:=.type "tuple",data:=.seq its.toArray } } :=
   F.laid (t':=s.toks) (λb o e=>s9 _ e) (Jg _) (show ObjOk X.prog X.w _ _ _ (.tup ys) from⟨z,its,r',ND _ _⟩)
  exact⟨.ref h'.objs.size,_,J,rfl,q _ (F.hok.fresh (Jg _))⟩
 ·obtain⟨its,r',pl,z⟩:=I.tuple j;exact call_tuple_same pl ⟨.ref p,H,I,rfl,q⟩
def tyV (K:Frag) (T:String) (x:V) (H:Hp):Prop:=match x with
 |.str _=>T = "str"
 |.int _=>T = "int"
 |.ref p=>(T = "list" /\ ∃ xs,SqL K H p xs)∨(T = "tuple" /\ ∃ o,K.lookup p=some o/\o.cls = .type "tuple" /\ o.dict=none) ∨
  (T = "dict" /\ ((∃ kvs,H p=some (.dK kvs))∨∃ kvs,H p=some (.dT kvs)))∨(T = "set" /\ ∃ S n,H p=some (.set S n))
 |_=>False
theorem BM {pins:List (Addr×Obj)}{σ:St}{H:Hp}{s:z0}{T:String}{x:V}{v:hW}(I:Inv X pins σ H s)(r:RelV x v)(ty:tyV X.K T x H) :
 s.TypeIs v T /\ ∀ a,v = .ref a -> ∃ ob,s.heap.get? a=some ob/\ob.dict=none:=by
 cases x with
 | str z =>
   obtain⟨t,rfl⟩:=r
   cases (show T = "str" from ty)
   exact⟨Nb s z t,λ_ e=>nomatch e⟩
 | int i =>
   obtain⟨t,rfl⟩:=r
   cases (show T = "int" from ty)
   exact⟨PR s i t,λ_ e=>nomatch e⟩
 | ref p =>
   cases r
   rcases ty with⟨rfl,xs,F⟩|⟨rfl,o,hk,J,hd⟩|⟨rfl,hk⟩|⟨rfl,S,n,hk⟩
   ·obtain⟨its,_,pl,_⟩:=I.list F;refine⟨pl.isList.typeIs,λa e=>?_⟩
    cases e
    obtain⟨o,n,e,c,hd,_⟩:=pl;exact⟨o,e,hd⟩
   ·refine⟨⟨o,I.kIn p o hk,J⟩,λa e=>?_⟩
    cases e
    exact⟨o,I.kIn _ o hk,hd⟩
   ·have z:∃ o,s.heap.get? p=some o/\o.ExactDict:=by
     rcases hk with⟨kvs,hk⟩|⟨kvs,hk⟩
     ·obtain⟨_,_,_,_,o,_,_,e,ex,_⟩:=I.hok p _ hk;exact⟨o,e,ex⟩
     ·obtain⟨_,_,_,_,o,_,_,e,ex,_⟩:=I.hok p _ hk;exact⟨o,e,ex⟩
    obtain⟨o,e,ex⟩:=z;refine⟨⟨o,e,ex.1⟩,λa j=>?_⟩
    cases j
    exact⟨o,e,ex.2.1⟩
   ·obtain⟨o,_,_,_,e,ex,_⟩:=I.hok p _ hk;refine⟨⟨o,e,ex.1⟩,λa j=>?_⟩
    cases j
    exact⟨o,e,ex.2.1⟩
 |_=>exact False.elim ty
noncomputable def tBM (K:Frag) (T:String) (r:V->List V->Hp->VK->Prop) (to:TE) (t:TA):TE:=λσ H Q=>to σ H λx H1=>tyV K T x H1/\t σ H1 λxs H2=>r x xs H2 Q
variable {o e:Expr} {es:List Expr} {to:TE} {t:TA} {name:Str} {apos cpos:Pos} {T id:String} {r:V->List V->Hp->VK->Prop}
theorem fR (pa:PlainAttrs T)(slot:Slot T name id)(L:typeOf (.builtin id)=pure (.type "method_descriptor"))(hm:MtR X id r)(ho:PE X o to)(ha:PA X (e::es) t)(z:NM o name X.env (eval o X.env)=eval o X.env:=by rfl)(J:((KH cpos (Jt (e::es) X.env)).all (fun x=>!x.1)&&(MP cpos (Lh [] X.env)).all (fun x=>x.1.isSome)
   && decide ((e::es).length+([]:List NP).length+(if ([]:List NP).isEmpty then 0 else 1)<30))=true:=by rfl)(F:(apos.endLine==cpos.line)=true:=by rfl)(hs:Jt (e::es) X.env=(false,eval e X.env)::Jt es X.env:=by rfl)(j:(KH cpos (Jt es X.env)).any (·.1)=false:=by rfl) :
 PE X (.Call (.Attribute o name apos) (e::es) [] cpos) (tBM X.K T r to t):=by
 intro pins s σ H Q I h;refine wpAny_Call_method_late z J F rfl (thn (ho pins s σ H _ I h) λv s1 O=>?_);obtain⟨x,H1,U,Y,ty,q1⟩:=O;obtain⟨h1,h2⟩:=BM U Y ty;refine⟨T,id,pa,slot,L,h1,h2,?_⟩;have Z:=ha cpos pins s1 σ H1 _ U q1;rw[hs]at Z ⊢;refine Calls.callWith_builtin (by show (false || (KH cpos (Jt es X.env)).any (·.1))=false;rw[j] <;> rfl) (Qg ?_)
 exact thn Z λus s2 O=>(by obtain⟨vs,H2,I2,r2,q2⟩:=O;exact hm pins s2 σ H2 x vs v us Q I2 Y r2 q2)
end
end
section
def MtM (X:Cx) (id:String) (r:V->List V->Hp->VK->Prop):Prop :=
 ∀ (pins:List (Addr×Obj)) (s:z0) (σ:St) (H:Hp) (x:V) (xs:List V) (v:hW) (us:List hW) (Q:VK),Inv X pins σ H s->RelV x v->Vals xs us->r x xs H Q ->
  Jm (model X.prog X.w) X.A (call (.builtin id) (v::us)) (EP X pins σ Q) X.xe s
theorem Vals.one:∀ {x:V} {us:List hW},Vals [x] us -> ∃ u,us=[u]/\RelV x u
 |_,_,.cons r .nil=>⟨_,rfl,r⟩
theorem Vals.reverse {us:List hW}(h:Vals xs us):Vals xs.reverse us.reverse:=by
 induction h with
 |nil=>exact .nil
 |cons r t ih=>rw[Mj,Mj];exact Vals.append ih (.cons r .nil)
theorem Vals.rep {xs:List V}{us:List hW}(h:Vals xs us):∀ k:Nat,Vals (Jj k xs).flatten (Jj k us).flatten
 |0=>.nil
 | k+1=>by
   rw[Kj,Kj,Ld,Ld];exact Vals.append h (Vals.rep h k)
theorem gG (its:List hW):∀ (k:Nat) (acc:List hW),
 Rf (λj z=>j++z) acc.toArray (Jj k its.toArray)=(acc++(Jj k its).flatten).toArray
 |0,acc=>by simp
 | k+1,acc=>by
   have e:acc.toArray++its.toArray=(acc++its).toArray:=by simp
   have F:(acc++its)++(Jj k its).flatten=acc++(Jj (k+1) its).flatten:=by
    rw[Kj,Ld,Ku]
   rw[<- F,<- gG its k (acc++its),<- e,Kj,O0]
section
variable {X:Cx} {pins:List (Addr×Obj)} {σ:St} {H:Hp} {s:z0} {l b:Addr} {xs ys zs:List V}
theorem Inv.lset {its':List hW}{f:Array hW->Array hW}{t':Nat}(I:Inv X pins σ H s)(j:H l=some (.lst xs))(e:s.heap.get? l=some { cls:=.type "list",data:=.seq its.toArray n })(hf:f its.toArray=its'.toArray)(z:Vals ys its')(F:ys.length<=Je) :
 Inv X pins σ (upd H l (.lst ys)) { s with heap:=s.heap.update l (PQ f),toks:=t' }:=by
 have q:=PySem.IsL.update e f;rw[hf]at q;refine I.write (x:=l) (e:=l) (by rw[j];exact trivial) (.inl rfl) (λb' u J L=>(JV s.heap (PQ f) (Ne.symm J)).trans L) ⟨_,q⟩ ?_
 exact⟨F,its',_,z,q⟩
theorem Inv.lnew {t':Nat}(I:Inv X pins σ H s)(j:Vals ys its)(z:ys.length<=Je) :
 Inv X pins σ (upd H s.heap.objs.size (.lst ys)) { s with heap:=s.heap.push { cls:=.type "list",data:=.seq its.toArray },toks:=t' } :=
 I.laid (λ_ _ q=>s9 _ q) (Jg _) ⟨z,its,0,j,Jo _ rfl⟩
theorem Inv.fresh (I:Inv X pins σ H s):H s.heap.objs.size=none:=I.hok.fresh (Jg _)
theorem Inv.lstM (I:Inv X pins σ H s)(j:H l=some (.lst xs)):xs.length<=Je /\ ∃ (its:List hW) (n:Nat),Vals xs its/\xs.length=its.length/\s.heap.get? l=some { cls:=.type "list",data:=.seq its.toArray n }:=by
 obtain⟨z,its,n,r,e⟩:=I.hok l _ j;exact⟨z,its,n,r,r.length,e⟩
theorem nH (h:n<=Je):LJ n=false:=by
 unfold LJ;exact decide_eq_false (by lia)
end
section
variable {X:Cx}
noncomputable def qD:V->List V->Hp->VK->Prop:=λx vs H Q=>∃ l xs y,x = .ref l/\vs=[y]/\H l=some (.lst xs)/\xs.length<Je/\Q .non (upd H l (.lst (xs++[y])))
theorem kX:MtM X "list.append" qD:=by
 intro pins s σ H x vs v us Q I rx rv h;obtain⟨l,xs,y,rfl,rfl,j,J,q⟩:=h
 cases rx
 obtain⟨u,rfl,ru⟩:=rv.one;obtain⟨z,its,n,r,L,e⟩:=I.lstM j;refine Lm F.slot_list_append ⟨_,e,rfl⟩ F.entry_list_append (F.args_list_append_2 _ _) (PySem.list_append l its.toArray n u (by rw[Jk];lia)) ⟨e,?_⟩
 refine⟨.non,_,I.lset (its':=its++[u]) j e (by simp) (r.append (.cons ru .nil)) ?_,rfl,q⟩
 rw[Jq,JP];lia
noncomputable def EZ:R2:=λx y H Q=>∃ l b xs zs,x = .ref l/\y = .ref b/\H l=some (.lst xs)/\H b=some (.lst zs)/\xs.length+zs.length<=Je /\ ∀ p,H p=none->Q (.ref p) (upd H p (.lst (xs++zs)))
theorem op_cat:OpR X (Kx .Add) EZ:=by
 intro pins s σ H x y v u Q I rx ry h;obtain⟨l,b,xs,zs,rfl,rfl,F,J,Y,q⟩:=h
 cases rx
 cases ry
 obtain⟨z,its,n,r,Z,e⟩:=I.lstM F;obtain⟨z2,j,n2,L,O,U⟩:=I.lstM J;refine PySem.P.add_list e U ?_ (by rw[Jk,Jk];lia)
 have ea:its.toArray++j.toArray=(its++j).toArray:=by simp
 rw[ea];exact⟨.ref _,_,I.lnew (t':=s.toks) (r.append L) (by rw[Jq];lia),rfl,q _ I.fresh⟩
noncomputable def F0:R2:=λx y H Q=>∃ l k xs,x = .ref l/\y = .int k/\H l=some (.lst xs) /\ -(2 ^ 63)<=k/\k<2 ^ 63/\xs.length*k.toNat<=Je /\
 ∀ p,H p=none->Q (.ref p) (upd H p (.lst (Jj k.toNat xs).flatten))
theorem qE {α:Type}(xs:List α)(k:Nat):(Jj k xs).flatten.length=k*xs.length:=by
 induction k with
 |zero=>simp
 |succ k ih=>rw[Kj,Ld,Jq,ih,RG,Nat.add_comm]
theorem op_rep:OpR X (Kx .Mult) F0:=by
 intro pins s σ H x y v u Q I rx ry h;obtain⟨l,k,xs,rfl,rfl,hH,h1,h2,hz,q⟩:=h
 cases rx
 obtain⟨t,rfl⟩:=ry;obtain⟨z,its,n,r,hl,e⟩:=I.lstM hH;have hlen:its.toArray.size*k.toNat<=Je:=by rw[Jk,<- hl];exact hz
 have J : ¬ its.toArray.size*k.toNat > (2 ^ 63 - 1) / 8:=by
  have:(Je:Nat)<=(2 ^ 63 - 1) / 8:=by decide
  lia
 have L : ¬ (!Builtin.List.listFitsIndex k)=true:=by
  rw[fitsIndex_both h1 h2];exact J9
 have j : ¬ LJ (its.toArray.size*k.toNat)=true:=by
  rw[nH hlen];exact J9
 have O:Rf (λY Z=>Y++Z) #[] (Jj (if its.toArray.isEmpty=true then 0 else k.toNat) its.toArray)=(Jj k.toNat its).flatten.toArray:=by
  have f0:∀ m:Nat,Rf (λY Z=>Y++Z) #[] (Jj m its.toArray)=(Jj m its).flatten.toArray:=λm=>by
   have:=gG its m [];rw[Md]at this;exact this
  rw[f0]
  cases its with
  |nil=>simp
  |cons a r'=>rw[if_neg (by simp)]
 refine OK (T:="list") (U:="int") (by decide) ⟨_,e,rfl⟩ (λs'=>PR s' k t) noFill_list_mul SO O1 repeat_list F.slot_int_index.lookup
  (Lm O1 (PR s k t) Se (RH _ _) (int___rmul___int_list k t l its.toArray n)
    ⟨e,rfl,⟨_,e,rfl⟩,Lm F.slot_list_mul ⟨_,e,rfl⟩ F.entry_list_mul (F.args_list_mul_2 _ _) (AutoListH.list___mul___list_int_3 l its.toArray n k t L J j) ⟨e,?_⟩⟩)
 rw[O];exact⟨.ref _,_,I.lnew (t':=s.toks) (r.rep k.toNat) (by rw[qE,PU];exact hz),rfl,q _ I.fresh⟩
end
end
end L2
namespace Att
open PySem PySem.W PySem.Calls PyProof.Rows
theorem ji {P:Params}{h:Heap}:∀ (ns:List Int) (vs:List hW),WellAll P h vs (ns.map WData.int)->SV vs ns:=by
 intro ns
 induction ns with
 | nil =>
   intro vs w;rw[KO]at w
   cases w
   exact .nil
 | cons n ns ih =>
   intro vs w;rw[Jp]at w
   cases w with
   | cons a b =>
     cases a
     exact .cons _ _ (ih _ b)
theorem uj {l:OpenLaw}{n:Nat}(Y:l.most=some n){P:Params}{h:Heap}{args:List WData}{vals:List hW}(j:l.row.toRowW.claim.pre args=true)(L:WellAll P h vals args) :
 ∃ a vs ns,vals=[JL a]/\args=[WData.list (ns.map WData.int)]/\h.get? a=some { cls:=.type "list",data:=.seq vs.toArray }/\SV vs ns/\ns.length<=n:=by
 have O:WShape.hasAll [] args [.list .int]=true:=(pre_splitW j).1;have U:l.pre.holds [] { args:=args }=true:=(pre_splitW j).2;obtain⟨d,r,rfl,h1,h2⟩:=hasAllW_cons O;obtain rfl:=hasAllW_nil h2;obtain⟨xs,rfl,Z⟩:=hasW_list h1;obtain⟨ns,rfl⟩:=items_int Z;have hlen:ns.length<=n:=by
  unfold OpenLaw.pre at U;have F:(WTm.not (.lt (.lit (.int (n:Int))) (.len (.arg 0)))).holds [] { args:=[.list (ns.map .int)] }=true:=by
   have F:=(holds_andW U).1;rw[Y]at F;exact F
  have J:=condW_of F (w_not (w_lt w_lit (w_len_list (w_arg rfl))));rw[Jc]at J;refine Nat.le_of_not_lt λq=>?_;have q':(n:Int)<((ns.length:Nat):Int):=by lia
  first
   |(rw[decide_eq_true q']at J;exact absurd J (by decide))
   |(simp at J;lia)
 cases L with
 | cons w1 w2 =>
   cases w2
   cases w1 with
   |list ho z=>exact⟨_,_,ns,rfl,rfl,ho,ji ns _ z,hlen⟩
theorem uk (l:OpenLaw)(args:List WData):l.row.toRowW.claim.post args (.bool true) args=true :=
 postW_of (r:=l.row.toRowW) (X:=(true==true))
  (show WShape.has [] (.bool true) .bool=true by first|rfl|decide|simp[WShape.has,WShape.arms,WShape.armsAll])
  (show (WTm.eq .res (.lit (.bool true))).value [] { args:=args,res:=some (.bool true),after:=args }=some (.bool (true==true)) from w_eq_bool (w_res rfl) w_lit) rfl
theorem attach_call {l:OpenLaw}{n:Nat}{q:Jy}{loose:List Str}{XP:(Str->Option hW)->Heap->Prop}{YP:JQ->Heap->Prop}{d:DefRec}(hn:l.most=some n)(F:d.params.defaults=[])(call:∀ (w:JQ) (s₀ s₁:z0) (mg mb:Str->Option hW) (fa:Addr) (o:Obj) (pm cd doc:hW) (a:Addr) (vs:List hW) (ns:List Int),
   Ground q loose [] XP w s₀ mg mb s₁.heap->YP w s₁.heap ->
   s₁.heap.get? fa=some o->o.data = .func (docDef d.name d.params d.body d.scope pm cd doc)->s₁.heap.CodeRec cd d.name->mg d.name=some (.ref fa) ->
   s₁.heap.get? a=some { cls:=.type "list",data:=.seq vs.toArray }->SV vs ns->ns.length<=n->s₁.gens = #[] ->
   NO (model l.prog w) QC (.call (.ref fa) ⟨[.ref a],[]⟩) (λr s'=>r = .ok (.ret (.bool true))/\OldK s₁.heap s'.heap/\s'.os=s₁.os/\Oh s'.gens) s₁) :
 WalkO q loose XP YP l.row.toRowW d [] (λf vs=>T6 f vs):=by
 intro w s₀ s₁ mg mb G Y fa o pm cd doc dV kV ho hd J U L hg args vals as j Z HI O HJ;obtain rfl:dV = .none:=Dflts.none U F;obtain rfl:kV = .none:=Dflts.noKw U;obtain⟨a,vs,ns,rfl,rfl,z,hints,hlen⟩:=uj hn j O;refine enter_call (Lz (call w s₀ s₁ mg mb fa o pm cd doc a vs ns G Y ho (fd_plain hd) J L z hints hlen hg) λr s' hq=>?_);obtain⟨rfl,h2,h3,h4⟩:=hq;exact⟨.inl ⟨.bool true,.bool true,[],rfl,λ_=>rfl,.bool true,uk l _,λ_=>⟨RI,λ_ hm=>(nomatch hm)⟩⟩,h2,h3,h4⟩
end Att
namespace L2
open PySem PySem.Spec PyProof.Rows
variable {fd:KW}{x:Str}
section
theorem kY:∀ {vs:List hW} {ns:List Int},SV vs ns->Vals (ns.map V.int) vs
 |_,_,.nil=>.nil
 |_,_,.cons n t h=>.cons ⟨t,rfl⟩ (kY h)
def rT (H:Hp):Prop:=∀ b,H b=none∨∃ o xs,H b=some (.frz o (.lst xs))
theorem wF {P:Jy}{w:JQ}{K:Frag}{mg mb:Str->Option hW}{CX:CXT}{k:Nat}{fa a:Addr}{sp:Sp}{s₁:z0}{vs:List hW}{ns:List Int}(KX:K.In s₁.heap)(L:s₁.heap.Ns K6 mg)(j:s₁.heap.Ns PD mb)(HI:∀ x:Str,x ≠ "__name__" -> mb x=LW x)(O:s₁.heap.NoLimit)(hg:s₁.gens = #[])(Z:s₁.heap.get? a=some { cls:=.type "list",data:=.seq vs.toArray })(hi:SV vs ns)(hl:ns.length<=Je)(hr:Room k QC)(F:∀ base:Heap,K.In base->base.Ns K6 mg->br P w K mg base CX k fa fd [x] sp)(J:∀ (s:z0) (u:hW),QB s fd ⟨[u],[]⟩ [(x,u)])(HJ:∀ H:Hp,rT H->SqL K H a (ns.map V.int)->sp [.ref a] H (λv _=>v = .bl true) λ_ _ _=>False)(HK:∀ H e s',CX [] H s₁ (λ_ _ _=>False) e s'->False) :
 NO (model P w) QC (.call (.ref fa) ⟨[.ref a],[]⟩) (λr s'=>r = .ok (.ret (.bool true))/\OldK s₁.heap s'.heap/\s'.os=s₁.os/\Oh s'.gens) s₁:=by
 have rv:=kY hi;have lenV:=hi.length;have core:∀ H:Hp,rT H->SqL K H a (ns.map V.int)->HOk P w H s₁.heap->(∀ b,H b≠none->b=a)->(H a≠none->K.lookup a=none) ->
  NO (model P w) QC (.call (.ref fa) ⟨[.ref a],[]⟩) (λr s'=>r = .ok (.ret (.bool true))/\OldK s₁.heap s'.heap/\s'.os=s₁.os/\Oh s'.gens) s₁:=by
  intro H hO hS hok hA hK;have base_of:∀ {b:Addr} {o:Obj},s₁.heap.get? b=some o->H b=none->(fQ s₁.heap H).get? b=some o:=λe n=>wg e n;have noA:∀ {b:Addr} {o:Obj} {es:Array DictEntry} {ep:Nat},s₁.heap.get? b=some o->o.data = .dict es ep->H b=none:=λ{b o es ep} e d=>by
   cases q:H b with
   |none=>rfl
   | some u =>
     have e':b=a:=hA b (by rw[q];simp)
     subst e';rw[Z]at e;cases e;have d':Data.seq vs.toArray _=Data.dict es ep:=d
     cases d'
  have nsK:∀ {b:Addr} {m:Str->Option hW},s₁.heap.Ns b m->(fQ s₁.heap H).Ns b m:=λ{b m} g9=>(by obtain⟨o,es,ep,e,d,r⟩:=g9;exact⟨o,es,ep,base_of e (noA e d),d,r⟩)
  have U:K.In (fQ s₁.heap H):=λb o e=>base_of (KX b o e) (by
   cases q:H b with
   |none=>rfl
   | some u =>
     have e':b=a:=hA b (by rw[q];simp)
     subst e';rw[hK (by rw[q];simp)]at e;cases e)
  have hM:Mod K mg (fQ s₁.heap H):=⟨U,nsK L,⟨mb,nsK j,HI⟩,let ⟨mc,h1,h2⟩:=O; ⟨mc,nsK h1,h2⟩⟩;have e0:Env0 P w K mg (fQ s₁.heap H) QC [] s₁ H:=⟨rfl,hM,λb o e=>zo e,Nat.le_of_eq (tX _ _),trivial,λb j=>absurd (show b∈([]:List Addr) from j) (by simp),hok,.of_eq hg⟩
  refine Lz ((F _ U (nsK L)).run QC [] s₁ H ⟨[.ref a],[]⟩ [.ref a] [.ref a] _ _ hr e0 (J s₁ (.ref a)) (.cons rfl .nil) (HJ H hO hS)) λr s' h=>?_
  cases r with
  |error e=>exact(HK H e s' h).elim
  | ok fl =>
    cases fl with
    |next=>exact False.elim h
    |brk=>exact False.elim h
    |cont=>exact False.elim h
    | ret u =>
      obtain⟨v,H',os,bare,un,Y,r',q⟩:=h;have q':v = .bl true:=q;subst q';obtain rfl:u=R5 true:=r';refine⟨rfl,OldK.of_keep λb o e=>?_,os,bare⟩
      cases q:H b with
      |none=>exact un.keep b o e q (by intro z;exact absurd (show b∈([]:List Addr) from z) (by simp)) (by simp)
      | some u =>
        rcases hO b with z|⟨ob,xs,z⟩
        ·rw[q]at z;cases z
        ·have z2:=un.frzs b ob _ z;obtain⟨e1,_⟩:=hok b _ z;obtain⟨e2,_⟩:=Y b _ z2;rw[e]at e1;cases e1;exact e2
 cases hk:K.lookup a with
 | some o =>
   have e:=KX a o hk;rw[Z]at e
   cases e
   refine core (λ_=>none) (λ_=>.inl rfl) (.inr ⟨_,vs.toArray,_,hk,rfl,rfl,rfl,by rw[Jk,lenV];exact hl,by simpa using rv⟩) (λb u z=>by have z':(none:Option HO)=some u:=z;cases z') (λb z=>absurd rfl z) λz=>absurd rfl z
 | none =>
   refine core (λb=>if b=a then some (.frz { cls:=.type "list",data:=.seq vs.toArray } (.lst (ns.map V.int))) else none) (λb=>?_) (.inl (.inr ⟨{ cls:=.type "list",data:=.seq vs.toArray },if_pos rfl⟩)) (λb u z=>?_) (λb z=>?_) λ_=>hk
   ·by_cases j:b=a
    ·exact .inr ⟨_,_,if_pos j⟩
    ·exact .inl (if_neg j)
   ·by_cases j:b=a
    ·have z':=(if_pos j).symm.trans z
     cases z'
     subst j;exact⟨Z,by rw[Jc];exact hl,vs,_,rv,Z⟩
    ·have z':=(if_neg j).symm.trans z
     cases z'
   ·by_cases j:b=a
    ·exact j
    ·exact absurd (if_neg j) z
end
section
theorem walk_of {l:Q3}{n k:Nat}{q:Jy}{loose:List Str}{XP:(Str->Option hW)->Heap->Prop}{YP:JQ->Heap->Prop}{d:DefRec}{K:Params->Frag}{CX:JQ->CXT}{sp:JQ->Sp}(Z:l.most=some n)(z:n<=Je)(J:d.params.defaults=[])(hr:Room k QC)(hY:∀ (w:JQ) (h:Heap),YP w h->(K w.params).In h)(F:∀ (w:JQ) (mg:Str->Option hW) (fa:Addr) (h:Heap),(K w.params).In h->h.Ns K6 mg->mg d.name=some (.ref fa) ->
   ∃ fd:KW,(∀ (s:z0) (u:hW),QB s fd ⟨[u],[]⟩ [(x,u)]) /\
    ∀ base:Heap,(K w.params).In base->base.Ns K6 mg->br l.prog w (K w.params) mg base (CX w) k fa fd [x] (sp w))(L:∀ (w:JQ) (H:Hp) (a:Addr) (ns:List Int),ns.length<=n->rT H->SqL (K w.params) H a (ns.map V.int)->sp w [.ref a] H (λv _=>v = .bl true) λ_ _ _=>False)(O:∀ (w:JQ) (H:Hp) (s:z0) (e:hW) (s':z0),CX w [] H s (λ_ _ _=>False) e s'->False) :
 PySem.W.WalkO q loose XP YP l.row.toRowW d [] (λf vs=>T6 f vs):=by
 refine Att.attach_call Z J λw s₀ s₁ mg mb fa o pm cd doc a vs ns G Y ho hd HI U j hints hlen hg=>?_;have KX:=hY w _ Y;obtain⟨fd,hb,hF⟩:=F w mg fa _ KX G.T.g U;exact wF KX G.T.g G.T.b G.T.builtins G.T.nolimit hg j hints (K7 hlen z) hr hF hb (λH hO hS=>L w H a ns hlen hO hS) λH e s'=>O w H s₁ e s'
end
variable {qual:Str}{st:Stmt}{f:Addr}
section
noncomputable def cZ (s:Stmt):Arguments:=match s with
 |.FunctionDef _ a _ _ _ _ _ _ _ _=>a
 |_=>{ posonlyargs:=[],args:=[],vararg:=none,kwonlyargs:=[],kw_defaults:=[],kwarg:=none,defaults:=[] }
noncomputable def bq (s:Stmt):List Stmt:=match s with
 |.FunctionDef _ _ b _ _ _ _ _ _ _=>b
 |_=>[]
noncomputable def aj (s:Stmt):Scope:=match s with
 |.FunctionDef _ _ _ _ _ _ sc _ _ _=>sc
 |_=>{ kind:=.function,names:=[],isGenerator:=false,isCoroutine:=false }
noncomputable abbrev CX0:CXT:=λ_ _ _ _ _ _=>False
noncomputable abbrev E0:XK:=λ_ _ _=>False
theorem yR {X:Cx}:jg CX0 X E0:=λ_ _ _ _ _ _ _ h=>h.elim
structure Fun (K:Frag) (x qual:Str) (st:Stmt) (f:Addr) (fd:KW):Prop where
 ex:∃ (oc:hW) (od:Option Addr) (kV doc pm:hW) (an:Option Addr) (cdv ct:hW) (osl:Array (Option hW)),
  fd=LA x qual (cZ st) (bq st) (aj st) .none kV doc pm an cdv ct/\K.lookup f=some ⟨oc,od,.func fd,osl⟩/\Oy K cdv qual=true
 kp:KN K (.ref f)=true
section
variable {P:Jy} {w:JQ} {K:Frag} {mg:Str->Option hW} {base:Heap}
theorem Fun.ok {N ps:List Str}{k:Nat}{sp:Sp}(F:Fun K x qual st f fd)(S:cY N ps (aj st))(len:∀ vs H Q E,sp vs H Q E->vs.length=ps.length)(j:∀ (cdv:hW) (A:JI) (outer:List Env) (s:z0) (H:Hp) (vs:List V) (Q:VK) (E:XK),Room k (A.deeper (Na qual (aj st) s.heap.objs.size f cdv))->sp vs H Q E ->
   ∃ t,PSs (cv CX0 P w K mg base N qual (aj st) f cdv A outer s H E).nox (bq st) t/\t { nx:=λ_ H'=>Q .non H',rt:=Q } (start N vs) H):br P w K mg base CX0 (k+1) f fd ps sp:=by
 obtain⟨oc,od,kV,doc,pm,an,cdv,ct,osl,rfl,lk,z⟩:=F.ex;refine yO lk z S len λA outer s H vs Q E hr J=>?_;obtain⟨t,h,q⟩:=j cdv A outer s H vs Q E hr J;exact⟨t,h.nox,q⟩
theorem Fun.binds {ps:List Str}(F:Fun K x qual st f fd)(h:∀ (kV doc pm:hW) (an:Option Addr) (cdv ct:hW) (us:List hW),us.length=ps.length->bindArgs (LA x qual (cZ st) (bq st) (aj st) .none kV doc pm an cdv ct) ⟨us,[]⟩=pure (ps.zip us)):Binds K fd ps []:=by
 obtain⟨oc,od,kV,doc,pm,an,cdv,ct,osl,rfl,lk,j⟩:=F.ex;exact .all (h kV doc pm an cdv ct)
theorem ag {oc:hW}{od an:Option Addr}{osl:Array (Option hW)}{kV doc pm cdv ct:hW}(l:K.lookup f=some ⟨oc,od,.func (LA x qual (cZ st) (bq st) (aj st) .none kV doc pm an cdv ct),osl⟩)(c:Oy K cdv qual=true)(k:KN K (.ref f)=true):Fun K x qual st f (LA x qual (cZ st) (bq st) (aj st) .none kV doc pm an cdv ct):=⟨⟨oc,od,kV,doc,pm,an,cdv,ct,osl,rfl,l,c⟩,k⟩
end
end
end L2
namespace HT
open PySem PySem.Spec PyProof.Rows
section
variable {prog:Jy} {w:JQ} {A:JI} {E:hW->z0->Prop} {s:z0}
theorem getItem_tuple_whole {t sl:Addr}{items:Array hW}{vl vu:hW}{lo hi:Option Int}{Q:hW->z0->Prop}(j:IsTup s.heap t items)(O:s.heap.IsSliceOf sl vl vu .none)(pl:PH vl lo)(pu:PH vu hi)(hw:sIx items.size 0 lo=0/\sIx items.size items.size hi=items.size)(h:Q (.ref t) s):Jm (model prog w) A (PJ (.ref t) (.ref sl)) Q E s:=by
 obtain⟨os,z,F,U⟩:=id O;have J:s.TypeIs (.ref sl) "slice":=⟨os,z,F⟩;unfold PJ
 try with_reducible refine K2 ?_
 first|refine h8 (Jd ?_)|skip
 refine h8 (RE j.typeIs (by decide) ?_)
 refine h8 (Kc (name:=gV "__getitem__") j.typeIs KU
  (L5 KU j.typeIs QH ?_ (Ra _ _)))
 show Jm _ _ (OA (.ref t) >>= _) _ _ s;refine h8 (tupleItemsOf_ j ?_);refine h8 (Oi J ?_);rw[if_pos (by decide)]
 refine h8 (eP O pl pu ?_);have L:(((sIx items.size 0 lo:Nat):Int)==0&&(1:Int)==1&&(sIx items.size items.size hi - sIx items.size 0 lo)==items.size)=true:=by
  rw[hw.1,hw.2];simp
 show Jm _ _ (if (((sIx items.size 0 lo:Nat):Int)==0&&(1:Int)==1&&(sIx items.size items.size hi - sIx items.size 0 lo)==items.size)=true then _ else _) _ _ s
 rw[if_pos L];refine h8 (m:=OB (.ref t)) ?_;unfold OB;refine h8 (Oi j.typeIs (Jd ?_));show Jm _ _ (if true=true then _ else _) _ _ s
 rw[if_pos rfl];exact h8 (LX (Jd ⟨_,rfl,Jd h⟩))
end
end HT
namespace L2
open PySem PySem.Spec PyProof.Rows
section
section
variable {X:Cx}
noncomputable def F4 (K:Frag):V->Option Int->Option Int->Hp->VK->Prop:=λx lo hi H Q=>∃ a xs,x = .ref a/\SqT K H a xs/\(HT.sIx xs.length 0 lo=0/\HT.sIx xs.length xs.length hi=xs.length)/\Q x H
theorem wG:SlR X (F4 X.K):=by
 intro pins s σ H x v vl vu lo hi sl Q I rx hs pl pu h;obtain⟨a,xs,rfl,hx,hw,q⟩:=h
 cases rx
 obtain⟨its,r,j,z⟩:=I.tuple hx;have hlen:=r.length;refine⟨"tuple",_,slot_tuple_getitem.lookup,j.typeIs,?_⟩;refine HT.getItem_tuple_whole j hs pl pu (by rw[Jk,<- hlen];exact hw) ⟨.ref a,H,I,rfl,q⟩
end
end
variable {u:hW}{y:V}{P:Jy}{w:JQ}{H H':Hp}{kvs:List (List Key×V)}{xs:List (List Key×Addr×hW)}{b a:Addr}{h':Heap}{X:Cx}{pins:List (Addr×Obj)}{σ:St}{s:z0}
section
section
variable {κ:Type} [DecidableEq κ]
noncomputable def bV (kvs:List (κ × V)) (k : κ):Option V:=(kvs.find? λkv=>decide (kv.1=k)).map (·.2)
noncomputable def ce (kvs:List (κ × V)) (k : κ) (v:V):List (κ × V) :=
 if (kvs.any λkv=>decide (kv.1=k))=true then kvs.map (λkv=>if kv.1=k then (kv.1,v) else kv) else kvs++[(k,v)]
theorem fS {p : κ × V}{r:List (κ × V)}{k : κ}(e:p.1=k):bV (p::r) k=some p.2:=by simp[bV,KR,e]
theorem fT {p : κ × V}{r:List (κ × V)}{k : κ}(e : ¬ p.1=k):bV (p::r) k=bV r k:=by simp[bV,KR,e]
theorem nI (k : κ):∀ kvs:List (κ × V),(kvs.any λkv=>decide (kv.1=k))=(bV kvs k).isSome
 |[]=>rfl
 | p::r=>by
   rw[Li]
   by_cases e:p.1=k
   ·simp only[fS e,decide_eq_true e,Bool.true_or,Rg]
   ·rw[fT e,decide_eq_false e,P0];exact nI k r
theorem iB (kvs:List (κ × V))(k : κ)(v:V):(ce kvs k v).length<=kvs.length+1:=by
 unfold ce
 split
 ·rw[Jc];lia
 ·rw[Jq,Jr,Kq];lia
theorem RelO.isSome_eq {o:Option V}{u:Option hW}(r:RelO o u):o.isSome=u.isSome:=by
 cases o with
 | none=>cases u with
   |none=>rfl
   |some _=>exact(show False from r).elim
 | some _=>cases u with
   |none=>exact(show False from r).elim
   |some _=>rfl
theorem KV.val {kvs:List (κ × V)}{vs:List (κ × hW)}(r:KV kvs vs)(k : κ):RelO (bV kvs k) (QE vs k):=by
 unfold KV at r
 induction r with
 |nil=>exact Mn
 |@cons p q ps qs h t ih =>
  obtain⟨h1,h2⟩:=h
  by_cases e:p.1=k
  ·have e':q.1=k:=h1.symm.trans e;have b:QE (q::qs) k=some q.2:=by simp[QE,KR,e']
   rw[fS e,b];exact h2
  ·have e' : ¬ q.1=k:=λz=>e (h1.trans z);have b:QE (q::qs) k=QE qs k:=by simp[QE,KR,e']
   rw[fT e,b];exact ih
theorem KV.any {kvs:List (κ × V)}{vs:List (κ × hW)}(r:KV kvs vs)(k : κ):(kvs.any λkv=>decide (kv.1=k))=vs.any λkv=>decide (kv.1=k):=by
 unfold KV at r
 induction r with
 |nil=>rfl
 |cons h t ih=>rw[Li,Li,ih,h.1]
theorem KV.repl {kvs:List (κ × V)}{vs:List (κ × hW)}(r:KV kvs vs)(k : κ)(ry:RelV y u) :
 KV (kvs.map λkv=>if kv.1=k then (kv.1,y) else kv) (vs.map λkv=>if kv.1=k then (kv.1,u) else kv):=by
 unfold KV at r ⊢
 induction r with
 |nil=>exact .nil
 |@cons p q ps qs h t ih =>
  rw[Jp,Jp];refine .cons ?_ ih;obtain⟨h1,h2⟩:=h
  by_cases e:p.1=k
  ·rw[if_pos e,if_pos (h1.symm.trans e)];exact⟨h1,ry⟩
  ·rw[if_neg e,if_neg (λz=>e (h1.trans z))];exact⟨h1,h2⟩
theorem KV.put {kvs:List (κ × V)}{vs:List (κ × hW)}(r:KV kvs vs)(k : κ)(ry:RelV y u):KV (ce kvs k y) (stored vs k u):=by
 unfold ce stored;rw[r.any k]
 by_cases e:(vs.any λkv=>decide (kv.1=k))=true
 ·rw[if_pos e,if_pos e];exact r.repl k ry
 ·rw[if_neg e,if_neg e];exact Paired.snoc r ⟨rfl,ry⟩
theorem KV.length {kvs:List (κ × V)}{vs:List (κ × hW)}(r:KV kvs vs):kvs.length=vs.length:=ML r
end
theorem rV {k:Key}(r:RelV (kV k) u):(bc P w).is k u=true:=by
 cases k with
 |inl i=>obtain⟨t,e⟩:=(show ∃ t,u=Mv i t from r);subst e;exact pY P w i t
 |inr x=>obtain⟨t,e⟩:=(show ∃ t,u=Qy x t from r);subst e;exact pZ P w x t
theorem kZ {P:Jy}{w:JQ}:∀ {ks:List Key} {us:List hW},Vals (ks.map kV) us->ItemsAre (bc P w) ks us
 |[],_,r=>by rw[KO]at r;cases r;exact .nil
 | k::ks,_,r=>by
   rw[Jp]at r
   cases r with
   |cons h t=>exact .cons (rV h) (kZ t)
noncomputable abbrev KT (H:Hp):List (List Key×V)->List (List Key×Addr×hW)->Prop:=KI λp q=>p.1=q.1/\H q.2.1=some (.tup (p.1.map kV))/\RelV p.2 q.2.2
theorem KT.val (r:KT H kvs xs)(k:List Key):RelO (bV kvs k) ((SD xs k).map (·.2)):=by
 induction r with
 |nil=>exact Mn
 |@cons p q ps qs h t ih =>
  obtain⟨h1,_,h2⟩:=h
  by_cases e:p.1=k
  ·have e':q.1=k:=h1.symm.trans e;have b:SD (q::qs) k=some q.2:=by simp[SD,KR,e']
   rw[fS e,b];exact h2
  ·have e' : ¬ q.1=k:=λz=>e (h1.trans z);have b:SD (q::qs) k=SD qs k:=by simp[SD,KR,e']
   rw[fT e,b];exact ih
theorem KT.repl (r:KT H kvs xs)(k:List Key)(ry:RelV y u) :
 KT H (kvs.map λkv=>if kv.1=k then (kv.1,y) else kv) (xs.map (putAt k u)):=by
 induction r with
 |nil=>exact .nil
 |@cons p q ps qs h t ih =>
  rw[Jp,Jp];refine .cons ?_ ih;obtain⟨h1,h2,j⟩:=h;unfold putAt
  by_cases e:p.1=k
  ·rw[if_pos e,if_pos (h1.symm.trans e)];exact⟨h1,h2,ry⟩
  ·rw[if_neg e,if_neg (λz=>e (h1.trans z))];exact⟨h1,h2,j⟩
theorem KT.put (r:KT H kvs xs)(k:List Key)(j:H b=some (.tup (k.map kV)))(ry:RelV y u) :
 KT H (ce kvs k y) (storedH xs k b u):=by
 have e:(kvs.any λkv=>decide (kv.1=k))=(SD xs k).isSome:=by
  rw[nI,(r.val k).isSome_eq,Option.isSome_map]
 unfold ce storedH;rw[e]
 by_cases q:(SD xs k).isSome=true
 ·rw[if_pos q,if_pos q];exact r.repl k ry
 ·rw[if_neg q,if_neg q];exact Paired.snoc r ⟨rfl,j,ry⟩
theorem KT.keeps (r:KT H kvs xs)(j:∀ b ys,H b=some (.tup ys)->H' b=some (.tup ys)):KT H' kvs xs :=
 Tx r λ_ _ z=>⟨z.1,j _ _ z.2.1,z.2.2⟩
section
variable {P:Jy} {w:JQ} {H:Hp} {h:Heap} {a:Addr}
theorem yS {u:HO}(ok:HOk P w H h)(e:Rd H a u):ObjOk P w H h a u:=e.ok ok
theorem rW {kvs:List (Key×V)}(ok:HOk P w H h)(e:Rd H a (.dK kvs)):kvs.length<=Je/\(a==LV)=false /\ ∃ vs,KV kvs vs/\h.DictOf (bc P w) a vs :=
 show ObjOk P w H h a (.dK kvs) from yS ok e
theorem DA {kvs:List (Key×V)}(ok:HOk P w H h)(e:H a=some (.dK kvs)):kvs.length<=Je/\(a==LV)=false /\ ∃ vs,KV kvs vs/\h.DictOf (bc P w) a vs:=rW ok (.inl e)
theorem nJ {ks:List Key}(ok:HOk P w H h)(e:H a=some (.tup (ks.map kV))):(Qz (bc P w)).is h ks a:=by
 obtain⟨_,its,r,o,h1,h2,n,j⟩:=(show ObjOk P w H h a (.tup (ks.map kV)) from ok a _ e);exact⟨o,its.toArray,n,h1,h2,j,by simpa using kZ r⟩
theorem rX (ok:HOk P w H h)(e:Rd H a (.dT kvs)):kvs.length<=Je/\(a==LV)=false /\
 ∃ xs,KT H kvs xs/\h.DictOfH (Qz (bc P w)) a xs:=by
 obtain⟨z,y,xs,r,o,es,ep,h1,h2,j,F,J⟩:=(show ObjOk P w H h a (.dT kvs) from yS ok e);refine⟨z,y,xs,r,o,es,ep,h1,h2,j,F,λx hx=>?_,J⟩;have all:∀ {l:List (List Key×V)} {m:List (List Key×Addr×hW)},KT H l m -> ∀ x∈m,(Qz (bc P w)).is h x.1 x.2.1:=by
  intro l m q
  induction q with
  |nil=>intro x hx;exact nomatch hx
  |@cons p q ps qs hq t ih =>
   intro x hx
   rcases Jl.mp hx with e|hx
   ·subst e;exact nJ ok (by rw[<- hq.1];exact hq.2.1)
   ·exact ih x hx
 exact all r x hx
theorem DB (ok:HOk P w H h)(e:H a=some (.dT kvs)):kvs.length<=Je/\(a==LV)=false /\
 ∃ xs,KT H kvs xs/\h.DictOfH (Qz (bc P w)) a xs:=rX ok (.inl e)
end
def DGet (H:Hp) (a:Addr) (y:V) (r:Option V):Prop :=
 (∃ kvs k,Rd H a (.dK kvs)/\y=kV k/\r=bV kvs k)∨∃ kvs k b,Rd H a (.dT kvs)/\y = .ref b/\H b=some (.tup (k.map kV))/\r=bV kvs k
def DPut (H:Hp) (a:Addr) (y v:V) (H':Hp):Prop :=
 (∃ kvs k,H a=some (.dK kvs)/\y=kV k/\kvs.length<Je/\H'=upd H a (.dK (ce kvs k v))) ∨
 ∃ kvs k b,H a=some (.dT kvs)/\y = .ref b/\H b=some (.tup (k.map kV))/\kvs.length<Je/\H'=upd H a (.dT (ce kvs k v))
theorem DGet.k {kvs:List (Key×V)}{k:Key}(e:H a=some (.dK kvs)):DGet H a (kV k) (bV kvs k):=.inl ⟨kvs,k,.inl e,rfl,rfl⟩
theorem DPut.k {kvs:List (Key×V)}{k:Key}{v:V}(e:H a=some (.dK kvs))(j:kvs.length<Je):DPut H a (kV k) v (upd H a (.dK (ce kvs k v))):=.inl ⟨kvs,k,e,rfl,j,rfl⟩
theorem DPut.t {k:List Key}{v:V}(e:H a=some (.dT kvs))(eb:H b=some (.tup (k.map kV)))(j:kvs.length<Je) :
 DPut H a (.ref b) v (upd H a (.dT (ce kvs k v))):=.inr ⟨kvs,k,b,e,rfl,eb,j,rfl⟩
section
variable {X:Cx} {pins:List (Addr×Obj)} {σ:St} {H:Hp} {s:z0} {a:Addr} {y v:V} {u r:hW} {o:Option V} {A:JI} {E:hW->z0->Prop}
theorem ul {Q:hW->z0->Prop}(F:A.units+1<Qf)(I:Inv X pins σ H s)(g:DGet H a y (some v))(ry:RelV y u)(h:∀ w' s',Inv X pins σ H s'->RelV v w'->Q w' s') :
 Jm (model X.prog X.w) A (PJ (.ref a) u) Q E s:=by
 rcases g with⟨kvs,k,e,ey,l⟩|⟨kvs,k,b,e,ey,eb,l⟩
 ·subst ey;obtain⟨z,hd,vs,rel,dd⟩:=rW I.hok e;obtain⟨w',hw,rw'⟩:=TH (v:=v) (o:=QE vs k) (by rw[l];exact rel.val k)
  exact wpAny_getItem_of (rV ry) dd.mapOf hw (h w' _ (I.tok _) rw')
 ·subst ey
  cases (show u=JL b from ry)
  obtain⟨z,hd,xs,rel,dd⟩:=rX I.hok e;obtain⟨w',hw,rw'⟩:=TH (v:=v) (o:=(SD xs k).map (·.2)) (by rw[l];exact rel.val k)
  obtain⟨p,J,j⟩:=Option.map_eq_some_iff.mp hw;refine wpAny_getItem_heap (Rh F) (nJ I.hok eb) dd J ?_;rw[j];exact h w' _ (I.tok _) rw'
theorem qF {t':Nat}{ob:HO}(I:Inv X pins σ H s)(mu:Mut (H a))(j:Kr a s.heap h')(he:∃ q,h'.get? a=some q)(new:ObjOk X.prog X.w (upd H a ob) h' a ob) :
 Inv X pins σ (upd H a ob) { s with heap:=h',toks:=t' } :=
 I.write (x:=a) (e:=a) mu (.inl rfl) (λb q F z=>(j.2 b F).trans z) he new
theorem BN {kvs:List (Key×V)}{vs:List (Key×hW)}(z:kvs.length<=Je)(hd:(a==LV)=false)(rel:KV kvs vs)(dd:h'.DictOf (bc P w) a vs) :
 ObjOk P w H' h' a (.dK kvs):=⟨z,hd,vs,rel,dd⟩
theorem um {Q:Unit->z0->Prop}(O:A.units+1<Qf)(I:Inv X pins σ H s)(g:DPut H a y v H')(ry:RelV y u)(rv:RelV v r)(h:∀ s',Inv X pins σ H' s'->Q () s') :
 Jm (model X.prog X.w) A (setItem (.ref a) u r) Q E s:=by
 rcases g with⟨kvs,k,e,ey,l,eH⟩|⟨kvs,k,b,e,ey,eb,l,eH⟩
 ·subst ey eH;obtain⟨z,hd,vs,rel,dd⟩:=DA I.hok e;have F:vs.length<=Je:=by rw[<- rel.length];exact z
  have J:(ce kvs k v).length<=Je:=by have:=iB kvs k v;lia
  refine wpAny_setItem_pairs (hsz:=F) (rV ry) dd λh' dd' L=>h _ ?_;have he:∃ q,h'.get? a=some q:=let ⟨q,_,_,j,_⟩:=dd'; ⟨q,j⟩;exact qF I (by rw[e];exact Mn) L he (BN J hd (rel.put k rv) dd')
 ·subst ey eH
  cases (show u=JL b from ry)
  obtain⟨z,hd,xs,rel,dd⟩:=DB I.hok e;have F:xs.length<=Je:=by rw[<- ML rel];exact z
  have J:(ce kvs k v).length<=Je:=by have:=iB kvs k v;lia
  refine wpAny_setItem_heap (hsz:=F) (Rh O) (nJ I.hok eb) dd λh' dd' L=>h _ ?_;obtain⟨q,es,ep,j,h2,U,Y,_,Z⟩:=dd';refine qF I (by rw[e];exact Mn) L ⟨q,j⟩ ⟨J,hd,_,(rel.put k eb rv).keeps λc ys ec=>?_,q,es,ep,j,h2,U,Y,Z⟩
  rw[ai (Dj ec e (λz=>nomatch z))];exact ec
end
def IsD (H:Hp) (a:Addr):Prop:=(∃ kvs,Rd H a (.dK kvs))∨∃ kvs,Rd H a (.dT kvs)
theorem BO (I:Inv X pins σ H s)(d:IsD H a) :
 s.TypeIs (.ref a) "dict" /\ (∀ b,JL a = .ref b -> ∃ ob,s.heap.get? b=some ob/\ob.dict=none)/\(a==LV)=false:=by
 rcases d with⟨kvs,e⟩|⟨kvs,e⟩
 ·obtain⟨_,hd,vs,_,dd⟩:=rW I.hok e;refine⟨dd.typeIs,λb q=>?_,hd⟩
  cases q
  obtain⟨ob,_,_,h1,h2,_⟩:=dd;exact⟨ob,h1,h2.2.1⟩
 ·obtain⟨_,hd,xs,_,dd⟩:=rX I.hok e;refine⟨dd.typeIs,λb q=>?_,hd⟩
  cases q
  obtain⟨ob,_,_,h1,h2,_⟩:=dd;exact⟨ob,h1,h2.2.1⟩
end
variable {base:Heap}{env:Env}{outer:List Env}{L e:Addr}{cls:hW}
section
structure Exc (h:Heap) (e:Addr) (cls:hW) (hd:Option Addr) (dd:Option Addr:=none):Prop where
 obj:∃ oe vs,h.get? e=some oe/\oe.cls=cls/\oe.dict=dd/\oe.data = .fields vs/\vs[1]? = some (match hd with|none=>Ke|some T=>.ref T)
 way:∀ T,hd=some T->T≠e /\ ∃ oT ts,h.get? T=some oT/\oT.data = .fields ts/\ts[3]? = some .none
structure Lft (fs:List Addr) (e:Addr) (hd:Option Addr) (h h':Heap):Prop where
 keep:∀ b o,b≠e->some b≠hd->b∉fs->h.get? b=some o->h'.get? b=some o
 slot:∀ b o,b≠e->some b≠hd->h.get? b=some o -> ∃ sl,h'.get? b=some { o with slots:=sl }
 lt:h.objs.size<=h'.objs.size
theorem km (o:Obj)(f:Array hW->Array hW):(o.mapFields f).dict=o.dict:=by
 obtain⟨c,d,dt,sl⟩:=o
 cases dt <;> rfl
section
variable {M:Od} {A:JI} {E:hW->z0->Prop} {s:z0} {dd:Option Addr}
theorem nK {oe:Obj}{vs:Array hW}{head:hW}{b:Bool}{Q:Unit->z0->Prop}(z:A.frames=some (env::outer))(hl:s.heap.FunFrames base (env::outer))(hf:env.frame=some L)(he:s.heap.get? e=some oe)(hc:oe.cls=cls)(F:oe.dict=dd)(hd:oe.data = .fields vs)(J : 1<vs.size)(q:∀ h' T,Lft (frs (env::outer)) e none s.heap h'->Exc h' e cls (some T) dd->s.heap.get? T=none->Q () { s with heap:=h' }) :
 Jm M A (do let a <- frameOf env;let pl <- entryPlaceOf L b;let t <- QI head a .none (Ls L) .none pl;setField (.ref e) 1 t) (λ_ s'=>Jm M A (Pd (.ref e) none) Q E s') E s:=by
 have O:e∉frs (env::outer):=λhm=>by
  obtain⟨_,o,ho,U⟩:=hl.mem hm;rw[he]at ho;cases ho;exact U vs hd
 refine h8 (wpAny_frameOf_fun z hl hf λh1 g9=>?_);obtain⟨z1,z2,z3⟩:=g9;refine h8 (wpAny_entryPlaceOf λpl Y=>?_);unfold QI newFields;refine h8 (KJ ?_ (Y.sizeOk5 _ _ _ _ _));generalize hO:({ cls:=.type "traceback",dict:=none,data:=.fields ([head,.ref L,.none,Ls L,.none]++(if pl.isEmpty then Jj 6 Ke else pl)).toArray }:Obj)=oT
 have dT:∃ ts,oT.data = .fields ts/\3<ts.size:=⟨_,by rw[<- hO],by simp only[Jk,Jq,Jr];lia⟩
 clear hO;obtain⟨ts,dT,lT⟩:=dT;have e1:h1.get? e=some oe:=(z2 e O).trans he;have e2:(h1.push oT).get? e=some oe:=s9 _ e1;refine Mp e2 hd J ?_;have nT:h1.objs.size≠e:=Ly (Jn e1);have d3:=Ln hd (·.setIfInBounds 1 (JL h1.objs.size));have e3:=JX (LK (·.setIfInBounds 1 (JL h1.objs.size))) e2 (KY d3);have t3:((h1.push oT).update e (LK (·.setIfInBounds 1 (JL h1.objs.size)))).get? h1.objs.size=some oT:=by
  rw[JV _ _ (Ne.symm nT)];exact Jo h1 (KY dT)
 unfold Pd;refine h8 (JR e3 d3 (x:=.ref h1.objs.size) (by simp[J]) ?_)
 rw[if_pos (show (JL h1.objs.size != Ke)=true by simp)]
 refine Mp t3 dT lT ?_;have d4:=Ln dT (·.setIfInBounds 3 ((none:Option Addr).elim Ke λf=>Ls f));have t4:=JX (LK (·.setIfInBounds 3 ((none:Option Addr).elim Ke λf=>Ls f))) t3 (KY d4);have kp:∀ b o,b≠e->h1.get? b=some o->(((h1.push oT).update e (LK (·.setIfInBounds 1 (JL h1.objs.size)))).update h1.objs.size (LK (·.setIfInBounds 3 ((none:Option Addr).elim Ke λf=>Ls f)))).get? b=some o:=λb o j h=>by
  rw[JV _ _ (Ly (Jn h)),JV _ _ (Ne.symm j)];exact s9 _ h
 refine q _ h1.objs.size ⟨λb o j _ Z h=>kp b o j ((z2 b Z).trans h),λb o j _ h=>?_,?_⟩ ⟨⟨_,_,?_,?_,?_,d3,by simp[J]⟩,λT hT=>?_⟩ ?_
 ·obtain⟨sl,h2⟩:=z3 b o h;exact⟨sl,kp b _ j h2⟩
 ·rw[Mx,Mx,Kh,z1];exact OQ _
 ·rw[JV _ _ nT];exact e3
 ·rw[RJ];exact hc
 ·rw[km];exact F
 ·cases hT
  refine⟨nT,_,_,t4,d4,?_⟩;simp[lT]
 ·exact NU (by rw[z1];exact Jg _)
theorem qG {hd:Option Addr}{Q:Unit->z0->Prop}(O:A.frames=some (env::outer))(hl:s.heap.FunFrames base (env::outer))(hf:env.frame=some L)(x:Exc s.heap e cls hd dd)(q:∀ h' T,Lft (frs (env::outer)) e hd s.heap h'->Exc h' e cls (some T) dd->s.heap.get? T=none->Q () { s with heap:=h' }) :
 Jm M A (QF (.ref e) env) (λ_ s'=>Jm M A (Pd (.ref e) none) Q E s') E s:=by
 obtain⟨⟨oe,vs,he,hc,U,dv,h1⟩,way⟩:=x;have hz : 1<vs.size:=(Mq.mp h1).1;unfold QF;simp only[hf];refine h8 (JR he dv h1 ?_)
 cases hd with
 | none =>
   rw[if_neg (by decide)]
   exact nK O hl hf he hc U dv hz q
 | some T =>
   obtain⟨nT,oT,ts,Y,dT,h3⟩:=way T rfl;dsimp only;rw[if_pos (show (JL T != Ke)=true by simp)]
   refine h8 (JR Y dT h3 ?_);rw[if_neg (show ¬ ((Ke==Ls L)=true) by simp[Ls])]
   refine h8 (Mp Y dT (Mq.mp h3).1 ?_);have ot:∀ b,b≠T->(s.heap.update T (LK (·.setIfInBounds 3 Ke))).get? b=s.heap.get? b:=λb j=>JV _ _ (Ne.symm j);have nr:∀ b o,s.heap.get? b=some o->(∀ vs,o.data ≠ .fields vs)->b≠T:=λb o j F z=>by
    rw[z,Y]at j;cases j;exact F ts dT
   refine nK (s:={ s with heap:=s.heap.update T (LK (·.setIfInBounds 3 Ke)) }) O (hl.of_keeps λb o j F=>⟨o,(ot b (nr b o j F)).trans j,rfl⟩) hf ((ot e (Ne.symm nT)).trans he) hc U dv hz λh' Z l x J=>q h' Z ⟨λb o j F HI h=>?_,λb o j F h=>?_,?_⟩ x ?_
   ·exact l.keep b o j (by simp) HI ((ot b λz=>F (by rw[z])).trans h)
   ·exact l.slot b o j (by simp) ((ot b λz=>F (by rw[z])).trans h)
   ·have:=l.lt
    rwa[Mx]at this
   ·by_cases z:Z=T
    ·subst z;rw[JX _ Y (KY (Ln dT _))]at J;cases J
    ·rw[<- ot Z z];exact J
theorem wH {hd:Option Addr}{Q:Unit->z0->Prop}(j:A.frames=some (env::outer))(z:s.heap.FunFrames base (env::outer))(hf:env.frame=some L)(x:Exc s.heap e cls hd dd)(q:∀ h' T,Lft (frs (env::outer)) e hd s.heap h'->Exc h' e cls (some T) dd->s.heap.get? T=none->Q () { s with heap:=h' }):Jm M A (leaving env (.ref e)) Q E s:=by
 unfold leaving;exact h8 (qG j z hf x q)
theorem uo {T:Addr}{Q:Unit->z0->Prop}(x:Exc s.heap e cls (some T) dd)(q:∀ h',Kr T s.heap h'->Exc h' e cls (some T) dd->Q () { s with heap:=h' }):Jm M A (Pd (.ref e) none) Q E s:=by
 obtain⟨⟨oe,vs,he,L,j,dv,h1⟩,way⟩:=x;obtain⟨nT,oT,ts,F,dT,O⟩:=way T rfl;have J : 3<ts.size:=(Mq.mp O).1;unfold Pd;refine h8 (JR he dv h1 ?_);rw[if_pos (show (JL T != Ke)=true by simp)]
 refine Mp F dT J ?_;have d4:=Ln dT (·.setIfInBounds 3 ((none:Option Addr).elim Ke λf=>Ls f));have U:=JX (LK (·.setIfInBounds 3 ((none:Option Addr).elim Ke λf=>Ls f))) F (KY d4);refine q _ (.update ..) ⟨⟨oe,vs,(JV _ _ nT).trans he,L,j,dv,h1⟩,λT' z=>?_⟩
 cases z
 exact⟨nT,_,_,U,d4,by simp[J]⟩
end
end
variable {K:Frag}{h:Heap}{C:Addr}
section
noncomputable abbrev vbm:List hW:=[.type "ValueError",.type "Exception",.type "BaseException",.type "object"]
theorem zF {bmB:List hW}{newId:String}(X:K.In h)(q:P1 K C bmB newId=true):∃ bm N nm qn bs hd sn sub ab col dd k0 k1 k2 k3 k5 mN,
 h.get? C=some (LU nm qn C N bs bm hd sn sub ab col dd k0 k1 k2 k3 k5 newId)/\h.Ns N mN/\mN "__init__" = none/\RN h bmB bm:=by
 unfold P1 at q
 split at q
 ·next dd cd sl ho =>
  split at q
  ·next C' bm k0 k1 k2 k3 n k5 hm F =>
   simp only[hX,beq_iff_eq,JD]at q;obtain⟨⟨⟨⟨⟨rfl,rfl⟩,j⟩,J⟩,hok⟩,z⟩:=q
   cases cd
   cases sl
   dsimp only at hm j hok z F;subst hm j F;exact⟨bm,_,_,_,_,_,_,_,_,_,dd,k0,k1,k2,k3,k5,_,X _ _ ho,.of_isNs (OC X hok),PySem.W.nsMap_none_of_in X hok z,Ri X J⟩
  ·cases q
 ·cases q
end
section
theorem ObjOk.obj {o:HO}(x:ObjOk P w H h a o):∃ u,h.get? a=some u:=by
 cases o with
 |lst xs=>obtain⟨_,_,_,_,e⟩:=x;exact⟨_,e⟩
 |tup xs=>obtain⟨_,_,_,_,e,_⟩:=x;exact⟨_,e⟩
 |dK kvs=>obtain⟨_,_,_,_,o,_,_,e,_⟩:=x;exact⟨_,e⟩
 |dT kvs=>obtain⟨_,_,_,_,o,_,_,e,_⟩:=x;exact⟨_,e⟩
 |set S n=>obtain⟨o,_,_,_,e,_⟩:=x;exact⟨_,e⟩
 |ins C dx fs=>obtain⟨_,_,_,e,_⟩:=x;exact⟨_,e⟩
 |own y=>exact x
 |xd fs=>obtain⟨_,⟨_,_,_,e,_⟩,_⟩:=x;exact⟨_,e⟩
 |rng lo hi=>obtain⟨_,_,_,e⟩:=x;exact⟨_,e⟩
 |frz ob u=>obtain⟨e,_⟩:=x;exact⟨_,e⟩
 |tbl ps=>exact⟨_,x⟩
 |met f y=>exact⟨_,x⟩
 |ext φ=>obtain⟨_,e,_⟩:=x;exact e
theorem HOk.no (x:HOk P w H h)(n:h.get? a=none):H a=none:=by
 cases e:H a with
 |none=>rfl
 |some o=>obtain⟨u,j⟩:=(x a o e).obj;rw[n]at j;cases j
end
variable {i:Nat}{M:Od}{A:JI}{pos:Pos}
section
section
variable {X:Cx} {pins:List (Addr×Obj)} {σ:St} {H:Hp} {s:z0}
theorem uq {n:Str}{v0:Option hW}{m:Str->Option hW}{tk:Nat}(I:Inv X pins σ H s)(hN:X.N.Nodup)(hi:X.N[i]? = some n)(hk:X.env.scope.names.lookup n=some .local)(hn:s.heap.Ns X.env.locals m)(hm:∀ (j:Nat) (y:Str) (v:V),X.N[j]? = some y -> σ[j]? = some (some v)->Vis X.env.scope y -> ∃ u,RelV v u/\Be X.env s.heap m y u)(U:h'.Ns X.env.locals λx=>if x=n then v0 else m x)(F:Kr X.env.locals s.heap h'):Inv X pins (σ.set i none) H { s with heap:=h',toks:=tk }:=by
 have Y:i<σ.length:=by rw[I.len];exact(Jw.mp hi).1
 have cne:=I.cne;have ab:∀ b o,X.s₀.heap.get? b=some o->b≠X.env.locals:=λb o e=>JU (Ju (Jn e) I.ok.above);refine⟨I.ok,I.os,I.bare,⟨λb o e n Z hx=>(F.2 b (ab b o e)).trans (I.base.keep b o e n Z hx),λb o e n Z hx=>?_,I.base.free,λb o e hx=>?_,I.base.tups,I.base.frzs,I.base.tbls⟩,⟨_,U,λj y v J L e3=>?_⟩,λy c e=>?_,I.free,I.freeC,λp hp=>?_,λa o ha=>?_,by simpa using I.len⟩
 ·obtain⟨sl,J⟩:=I.base.slot b o e n Z hx;exact⟨sl,(F.2 b (ab b o e)).trans J⟩
 ·obtain⟨o',J⟩:=I.base.there b o e hx;exact⟨o',(F.2 b (ab b o e)).trans J⟩
 ·have hj:j≠i:=fun z=>by
   rw[z,JY Y]at L;cases L
  rw[La (Ne.symm hj)]at L;obtain⟨u,r,q⟩:=hm j y v J L e3;refine⟨u,r,?_⟩
  rcases q with⟨k,e⟩|⟨k,c,e,z⟩
  ·refine .inl ⟨k,?_⟩;have:y≠n:=λe=>hj (iL hN J (e ▸ hi));simp[this,e]
  ·exact .inr ⟨k,c,e,z.sameBut F (cne y c e)⟩
 ·obtain⟨w',z⟩:=I.cell y c e;exact⟨w',z.sameBut F (cne y c e)⟩
 ·obtain⟨e,n,ne,nf,d⟩:=I.pin p hp;exact⟨(F.2 p.1 ne).trans e,n,ne,nf,d⟩
 ·refine(I.hok a o ha).stay (λc w' O q=>(F.2 c ?_).trans q) (λ_ q=>q) λ_ _ q=>q;rintro rfl
  rcases O with rfl|O
  ·rw[I.free]at ha;cases ha
  ·rw[I.free]at O;cases O
theorem zG {E:hW->z0->Prop}{n:Str}{Q:Unit->z0->Prop}(I:Inv X pins σ H s)(Z:X.N.Nodup)(hi:X.N[i]? = some n)(hk:X.env.scope.names.lookup n=some .local)(h:∀ s',Inv X pins (σ.set i none) H s'->Q () s'):Jm M A (do Rx X.env n .none;Qh X.env n pos) Q E s:=by
 have j:(X.env.scope.kind == .class || (X.env.scope.kind == .module&&X.env.locals != X.env.globals))=false:=by rw[I.ok.kind];rfl
 refine h8 (Qb (cW (v:=.non) I Z hi (.inl hk) rfl (λs1 I1=>?_) (.inr hk)));unfold Qh;refine NQ ?_;unfold unbindName;refine h8 (Qi (h8 ?_));unfold deleteName;have F:X.env.kindOf n=some .local:=hk;simp only[F,j];rw[if_neg (by decide)]
 obtain⟨m,hn,hl⟩:=id I1.loc;have L:i<σ.length:=by rw[I.len];exact(Jw.mp hi).1
 have O:(m n).isSome=true:=by
  obtain⟨u,_,q⟩:=hl i n .non hi (by rw[JY L]) (.inl hk)
  rcases q with⟨_,e⟩|⟨z,_⟩
  ·rw[e];rfl
  ·rw[F]at z
   rcases z with z|z <;> cases z
 refine h8 (wpAny_nsDel_keeps hn λh2 v0 U Y=>?_);rw[O];simp only[if_true,Bool.not_true,LY,if_false];have J:=uq (tk:=s1.toks) I1 Z hi hk hn hl U Y;rw[List.set_set]at J;exact Jd (Qi (h _ J))
end
end
section
section
variable {prog:Jy} {w:JQ} {A:JI} {E:hW->z0->Prop} {h:Heap} {g:Array P7} {d:Drawn} {t:Nat} {os:SW} {a C:Addr} {o:Obj} {od:Option Obj} {K:Frag}
theorem ur {tk:Tok}{Q:Fin->z0->Prop}(X:K.In h)(I:Lk h a o C od)(hf:MV K C od "__class__" = some (.bind (.builtin "getset_descriptor.__get__") (.builtin "object.__class__")))(hm:NN K C (.type "object")=some true)(j:Q (.done (.ret (.ref C))) ⟨h,g,d,t,os⟩):Jm (model prog w) A (MW.«object.__getattribute__» ⟨[.ref a,.str "__class__" tk],[]⟩) Q E ⟨h,g,d,t,os⟩:=by
 have z:=I.type (M:=model prog w);have F:=Rj (M:=model prog w) X I hf;refine h8 (Jd (h8 (Jd (h8 (z.at (h8 (F.at ?_)))))));show Jm _ _ (OL (.builtin "getset_descriptor.__get__") (.builtin "object.__class__") (.ref a) (.ref C)) _ _ _;unfold OL;dsimp only;refine h8 (K2 (NF (PySem.W.class_get X I hm ?_)));exact Jd j
theorem nL (X:K.In h)(I:Lk h a o C od)(z:NR K (.ref C) (.type "BaseException")=some true)(M:Od)(A:JI)(E:hW->z0->Prop)(nameV:hW)(R:Unit->z0->Prop)(q:R () ⟨h,g,d,t,os⟩) :
 Jm M A (My "BaseException.__getattribute__" ⟨[.ref a,nameV],[]⟩) R E ⟨h,g,d,t,os⟩:=by
 have hk:builtinKind "BaseException.__getattribute__" = some .slot:=by decide +kernel
 have j:splitId "BaseException.__getattribute__" = some ("BaseException","__getattribute__"):=by decide +kernel
 have J:=F.args_bexc_ga (.ref a) nameV;have LI:PySem.W.Looks M h (Rk (.ref a) (.type "BaseException")) true:=I.type.andThen (QJ X z);simp only[My,hk,j];refine h8 (LI.at ?_)
 repeat (any_goals (first|assumption|wp_step))
theorem BP {tk:Tok}{fill expr:Bool}{Q:hW->z0->Prop}(X:K.In h)(I:Lk h a o C od)(j:Kf K (.ref C) "__getattribute__" = some (some (.builtin "BaseException.__getattribute__")))(z:Kf K (.ref C) "__getattr__" = some none)(hf:MV K C od "__class__" = some (.bind (.builtin "getset_descriptor.__get__") (.builtin "object.__class__")))(hm:NN K C (.type "object")=some true)(J:∀ (M:Od) (A:JI) (E:hW->z0->Prop) (nameV:hW) (R:Unit->z0->Prop),R () ⟨h,g,d,t,os⟩->Jm M A (My "BaseException.__getattribute__" ⟨[.ref a,nameV],[]⟩) R E ⟨h,g,d,t,os⟩)(Y:Q (.ref C) ⟨h,g,d,t,os⟩):Jm (model prog w) A (Sf (.ref a) (.str "__class__" tk) fill expr) Q E ⟨h,g,d,t,os⟩:=by
 have L:=I.type (M:=model prog w);have O:=Mr (M:=model prog w) X j;have L2:=Mr (M:=model prog w) X z;unfold Sf;refine K2 (h8 (L.at (h8 (O.at ?_))));show Jm _ _ (O6 _ _ _ _ _ _) _ _ _;unfold O6;have Z:=F.attrBase_ValueError.ga.bind (.ref a);have U:(expr&&onTheHeap (Value.builtin "BaseException.__getattribute__"))=false:=by cases expr <;> rfl
 repeat (any_goals (first|assumption|with_reducible refine L2.at ?_|wp_step))
 refine Lb F.attrBase_ValueError.ga.plain SQ (J _ _ _ _ _ (ur X I hf hm ?_))
 repeat (any_goals (first|assumption|wp_step))
structure nM (K:Frag) (C:Addr):Prop where
 ga:Kf K (.ref C) "__getattribute__" = some (some (.builtin "BaseException.__getattribute__"))
 gn:Kf K (.ref C) "__getattr__" = some none
 fo:∀ od,MV K C od "__class__" = some (.bind (.builtin "getset_descriptor.__get__") (.builtin "object.__class__"))
 mr:NN K C (.type "object")=some true
 sb:NR K (.ref C) (.type "BaseException")=some true
 cl:(QV K C).isSome=true
theorem wJ (Z:nM K C):PySem.W.KitX K (.ref a) (.ref C) (λh=>∃ o od,Lk h a o C od) where
 ty:=λ_ _ _ ⟨o,_,I⟩=>I.type
 it:=λ_ _ X _=>by
  have j:=Z.cl;unfold QV at j
  split at j
  ·next c' d' cd' sl' ho =>
   intro A' Q' E' s' k q;unfold isType loadHead;exact h8 (wpAny_loadPart (k _ _ (X _ _ ho)) (Jd q))
  ·cases j
 ne:=λh tp dd its n sl X F=>by
  have j:=Z.cl;refine Mk.mpr λq=>?_;have e:C=tp:=JL.inj (beq_iff_eq.mp q);subst e;unfold QV at j
  split at j
  ·next c' d' cd' sl' ho =>
   have z:=(X _ _ ho).symm.trans F
   cases z
  ·cases j
 ca:=λ{prog w A E Q s} X I k=>by
  obtain⟨J,g,d,t,os⟩:=s;obtain⟨o,od,I⟩:=I;unfold getAttr? getAttrBy?;refine h8 (wpAny_mkText (h8 (NS (BP X I Z.ga Z.gn (Z.fo od) Z.mr (nL X I Z.sb) ?_))));exact Jd k
end
end
section
noncomputable def Cx.hld (X:Cx) (a:Addr):Cx:={ X with A:=X.A.mark (some (.ref a)),calm:=false,xe:=λ_ _=>False }
section
variable {X:Cx} {pins:List (Addr×Obj)} {σ:St} {H:Hp} {s:z0} {a C:Addr}
theorem Inv.hld (I:Inv X pins σ H s)(a:Addr):Inv (X.hld a) pins σ H s :=
 ⟨⟨I.ok.mod,I.ok.kind,I.ok.glob,I.ok.blt,I.ok.above,I.ok.inj,I.ok.has,I.ok.cab,λz=>(by cases z),I.ok.frames,I.ok.stk,I.ok.exf,I.ok.bs,I.ok.bsz,I.ok.noex,I.ok.exfs,I.ok.funs,I.ok.frf⟩,I.os,I.bare,I.base,I.loc,I.cell,I.free,I.freeC,I.pin,I.hok,I.len⟩
theorem Inv.unhld (I:Inv (X.hld a) pins σ H s)(ok:X.Ok):Inv X pins σ H s:=⟨ok,I.os,I.bare,I.base,I.loc,I.cell,I.free,I.freeC,I.pin,I.hok,I.len⟩
noncomputable def cV:V->hW
 |.ref D=>.ref D
 |.ty T=>.type T
 |_=>.none
noncomputable def isC:V->Bool
 |.ref _=>true
 |.ty _=>true
 |_=>false
end
end
variable {es:List Expr}{x:Str}
section
section
variable {M:Od} {A:JI} {E:hW->z0->Prop} {h:Heap} {g:Array P7} {d:Drawn} {t:Nat} {os:SW}
theorem qg {nm' qn':Str}{D N':Addr}{bs' bm':List hW}{z:Bool}{sn':List Str}{sub':List hW}{ab':Bool}{col':Option Bool}{dd':Option Addr}{F J L O U:Option hW}{newId':String}{oe:Obj}{Q:Bool->z0->Prop}(LS:PySem.W.Looks M h (isSubtype (.ref C) (.ref D)) true)(Z:h.get? D=some (LU nm' qn' D N' bs' bm' z sn' sub' ab' col' dd' F J L O U newId'))(he:h.get? e=some oe)(j:oe.cls = .ref C)(hb:bm'.contains (.type "BaseException")=true)(hq:Q true ⟨h,g,d,t,os⟩):Jm M A (excMatches (.ref e) (.ref D)) Q E ⟨h,g,d,t,os⟩:=by
 have Y:(JL D::bm').contains (.type "BaseException")=true:=by rw[Nc,hb,PV]
 have f:=tc_notTuple;unfold excMatches
 repeat (first|(with_reducible refine Le he ?_;rw[j])|with_reducible refine Le Z ?_|(with_reducible refine Of Z ?_;rw[Y])|(with_reducible refine LS.at ?_)|wp_step)
 exact hq
end
section
variable {X:Cx}
theorem PA.nox {t:TA}(h:PA X.nox es t):PA X es t:=λpos pins s σ H Q I hw =>
 JS (h pos pins s σ H Q (I.wish _) hw) (λ_ _ ⟨vs,H',I',r,q⟩=>⟨vs,H',I'.unwish,r,q⟩) λ_ _ z=>False.elim z
theorem zH (j:Gl X x)(hm:X.mg x=some (.ref C))(hd:(x==("__debug__":Str))=false):PE X (.Name x pos) (tC (.ref C)) :=
 λpins s σ H Q I h=>cE I j hm ⟨.ref C,H,I,rfl,h⟩ hd
end
end
variable {ifs:List Expr}{elt target iter:Expr}{gens:List K3}{scope:Scope}{d:Nat}{te:TE}{acc:hW}{g:TG}{it:Addr}{wi:TI}{pos':Pos}
section
noncomputable def bf (elt:Expr) (gens:List K3) (scope:Scope) (pos:Pos) (d:Nat) (acc:hW) (env:Env) (k:Sem Fin):Sem Fin :=
 match gens[d+1]? with
 | some g'=>eval g'.iter env >>= fun x=>Np g'.iter.pos >>= fun _=>KL g'.iter env x >>= fun x=>holding [x] (R7 x) >>= fun it' =>
    runOwn (.compStart (.ListComp elt gens scope pos) (d+1) it' acc env) env >>= λ_=>k
 |none=>(eval elt env >>= λx=>call (.builtin "list.append") [acc,x] >>= λ_=>pure ()) >>= λ_=>k
noncomputable def bu (ifs:List Expr) (env:Env):Sem Bool :=
 forIn ifs true λc r=>if r=true then do let ok <- isTrue c env (eval c env);pure (Me ok) else pure (Me r)
theorem nN (elt target iter:Expr)(ifs:List Expr)(gens:List K3)(scope:Scope)(pos:Pos)(d:Nat)(it acc:hW)(env:Env)(hd:gens[d]? = some ⟨target,iter,ifs,0⟩)(j:∀ g',gens[d+1]? = some g'->g'.is_async=0) :
 compTurn (.ListComp elt gens scope pos) d it acc env=(Np iter.pos >>= λ_=>Ow it >>= λr=>match r with
  |none=>pure (.done .next)
  | some v=>NY target it v >>= fun _=>assign target env v >>= fun _=>bu ifs env >>= fun ok =>
    (if ok=true then bf elt gens scope pos d acc env (again (.compLoop (.ListComp elt gens scope pos) d it acc env)) else again (.compLoop (.ListComp elt gens scope pos) d it acc env))):=by
 unfold compTurn;simp only[hd];unfold bf bu
 cases hn:gens[d+1]? with
 |none=>rfl
 | some g' =>
   obtain⟨t',i',f',a'⟩:=g';have e:a'=0:=j _ hn;subst e;rfl
noncomputable abbrev TC:=St->Hp->(St->Hp->Prop)->Prop
def i6 (J:It) (g:TG) (tb:TC) (N:St->Hp->Prop) (σ:St) (H:Hp):Prop :=
 ∃ W:Nat->Nat->St->Hp->Prop,(∃ m,W 0 m σ H) /\ ∀ i m σ H,W i m σ H ->
  (J.stop i H/\N σ H)∨(J.go i H /\ ∃ N':St->Hp->Prop,(∀ σ' H',N' σ' H' -> ∃ m',m'<m/\W (i+1) m' σ' H') /\ ∀ x H',J.yld i H x H'->g x σ H' λσ2 H2=>tb σ2 H2 N')
def PB (X:Cx) (F:Sem Fin->Sem Fin) (t:TC):Prop :=
 ∀ (pins:List (Addr×Obj)) (s:z0) (σ:St) (H:Hp) (N:St->Hp->Prop) (k:Sem Fin) (Q:Fin->z0->Prop) (E:hW->z0->Prop),Inv X pins σ H s->t σ H N ->
  (∀ s' σ' H',Inv X pins σ' H' s'->N σ' H'->Jm (model X.prog X.w) X.A k Q E s')->Jm (model X.prog X.w) X.A (F k) Q E s
section
variable {X:Cx}
theorem nox {α:Type}{m:Sem α}{Q : α -> z0->Prop}{E:hW->z0->Prop}(hx:∀ e s,X.xe e s->False)(h:Jm (model X.prog X.w) X.A m Q X.xe s):Jm (model X.prog X.w) X.A m Q E s :=
 JS h (λ_ _ q=>q) λe s' q=>(hx e s' q).elim
noncomputable def jj (ts:List TT) (tb:TC):TC:=match ts with
 |[]=>tb
 |t::r=>λσ H N=>t σ H λb H1=>if b=true then jj r tb σ H1 N else N σ H1
theorem jk {env:Env}{M:Od}{A:JI}{Q:Bool->z0->Prop}{E:hW->z0->Prop}{s:z0}(h:Q false s):∀ ifs:List Expr,
 Jm M A (forIn ifs false λc r=>if r=true then do let ok <- isTrue c env (eval c env);pure (Me ok) else pure (Me r)) Q E s
 |[]=>Jd h
 | c::r=>by
   rw[MX];simp only[LY,if_false];exact h8 (Jd (jk h r))
theorem nO (hx:∀ e s,X.xe e s->False){tb:TC}{N:St->Hp->Prop}:∀ {ifs:List Expr} {ts:List TT},KI (λc t=>PT X c t) ifs ts ->
 ∀ (pins:List (Addr×Obj)) (s:z0) (σ:St) (H:Hp) (E:hW->z0->Prop),Inv X pins σ H s->jj ts tb σ H N ->
 Jm (model X.prog X.w) X.A (bu ifs X.env) (λok s'=>∃ H',Inv X pins σ H' s'/\if ok=true then tb σ H' N else N σ H') E s
 |_,_,.nil=>λpins s σ H E I h=>Jd ⟨H,I,by rw[if_pos rfl];exact h⟩
 | c::ifs,_,.cons (b:=t) F hr=>by
   intro pins s σ H E I h;have ih:=nO hx hr (tb:=tb) (N:=N) pins;unfold bu at ih ⊢;rw[MX];simp only[if_true];refine h8 (h8 (nox hx (thn (F pins s σ H _ I h) λb s1 J=>?_)));obtain⟨H1,z,j⟩:=J;refine Jd ?_
   cases b with
   | false =>
     rw[if_neg J9]at j;exact jk ⟨H1,z,by rw[if_neg J9];exact j⟩ ifs
   | true =>
     rw[if_pos rfl]at j;exact ih s1 σ H1 E z j
theorem wK (hx:∀ e s,X.xe e s->False){F:Sem Fin->Sem Fin}{tb:TC}(J:PB X F tb){ts:List TT}(L:KI (λc t=>PT X c t) ifs ts) :
 PB X (λk=>bu ifs X.env >>= λok=>if ok=true then F k else k) (jj ts tb):=by
 intro pins s σ H N k Q E I h hk;refine h8 (thn (nO hx L pins s σ H E I h) λok s1 O=>?_);obtain⟨H1,z,j⟩:=O
 cases ok with
 | false =>
   rw[if_neg J9]at j ⊢;exact hk s1 σ H1 z j
 | true =>
   rw[if_pos rfl]at j ⊢;exact J pins s1 σ H1 N k Q E z j hk
noncomputable def yT (p:Addr) (te:TE):TC:=λσ H N=>te σ H λx H1=>∃ xs,H1 p=some (.lst xs)/\xs.length<Je/\N σ (upd H1 p (.lst (xs++[x])))
theorem kn (hx:∀ e s,X.xe e s->False){p:Addr}(he:PE X elt te)(hd:gens[d+1]? = none) :
 PB X (bf elt gens scope pos d (.ref p) X.env) (yT p te):=by
 intro pins s σ H N k Q E I h hk;unfold bf;rw[hd];refine h8 (h8 (nox hx (thn (he pins s σ H _ I h) λu s1 j=>?_)));obtain⟨x,H1,z,F,xs,J,l1,L⟩:=j;refine h8 (nox hx (thn (kX (X:=X) pins s1 σ H1 (.ref p) [x] (.ref p) [u] (λ_ H2=>N σ H2) z rfl (.cons F .nil) ⟨p,xs,x,rfl,rfl,J,l1,L⟩) λv s2 j=>?_));obtain⟨_,H2,O,_,U⟩:=j;exact Jd (hk s2 σ H2 O U)
theorem ld (hx:∀ e s,X.xe e s->False)(hc:X.calm=true)(hd:gens[d]? = some ⟨target,iter,ifs,0⟩)(ha:∀ g',gens[d+1]? = some g'->g'.is_async=0)(hg:PG X target g){tb:TC}(j:PB X (λk=>bu ifs X.env >>= λok=>if ok=true then bf elt gens scope pos d acc X.env k else k) tb){N:St->Hp->Prop}{fp:List Addr}{tn:Nat->Heap->Prop}{J:It}(I:Inv X pins σ H s)(T:gv X.prog X.w X.K target J fp it tn)(t0:tn 0 s.heap)(f2:∀ b∈fp,cu X pins H b)(h:i6 J g tb N σ H) :
 NO (model X.prog X.w) X.A (.compLoop (.ListComp elt gens scope pos) d (.ref it) acc X.env) (λr s'=>match r with|.ok _=>∃ σ' H',Inv X pins σ' H' s'/\N σ' H'|.error _=>False) s:=by
 obtain⟨W,⟨m0,w0⟩,turn⟩:=h;have stat:∀ {H':Hp},(∀ b∈fp,H' b=none) -> ∀ b∈fp,cu X pins H' b:=λhn b j=>⟨hn b j,(f2 b j).2⟩;refine codeAny_loop rfl (λn s'=>∃ i σ' H',Inv X pins σ' H' s'/\tn i s'.heap/\(∀ b∈fp,H' b=none)/\W i n σ' H') ?_ m0 ⟨0,σ,H,I,t0,λb j=>(f2 b j).1,w0⟩;rintro n s3 ⟨i,σ3,U,I3,L,O,w3⟩;show Jm _ _ ((compTurn (.ListComp elt gens scope pos) d (.ref it) acc X.env).onRaise (λx=>do QF x X.env;theTreesLotGoes x)) _ _ s3
 refine wpAny_noted ?_;rw[nN elt target iter ifs gens scope pos d (.ref it) acc X.env hd ha];refine h8 (Kd (h8 ?_));show Jm (model X.prog X.w) X.A _ _ _ s3
 rcases turn i n σ3 U w3 with⟨stop,qn⟩|⟨go,N',hN,step⟩
 ·refine thn (T.done X rfl rfl rfl hc i pins s3 σ3 U _ I3 (stat O) L stop) λr s4 z=>?_;obtain⟨hr,I4⟩:=z;subst hr;exact Jd ⟨σ3,U,I4,qn⟩
 ·refine thn (T.item X rfl rfl rfl hc i pins s3 σ3 U _ I3 (stat O) L go) λr s4 z=>?_;obtain⟨u,hr,h4⟩:=z;subst hr;refine h8 (thn h4 λ_ s5 z=>?_);obtain⟨x,H5,I5,r5,y5,F,Y⟩:=z;have Z:=I5.pinned (stat Y) (T.obj _ _ F);refine h8 (nox hx (thn (hg _ s5 σ3 H5 x u _ Z r5 (step x H5 y5)) λ_ s6 z=>?_));obtain⟨σ6,H6,I6,q6⟩:=z;refine j _ s6 σ6 H6 N' (again (.compLoop (.ListComp elt gens scope pos) d (.ref it) acc X.env)) _ _ I6 q6 λs7 σ7 H7 I7 n7=>?_;obtain⟨m',hm,w7⟩:=hN σ7 H7 n7;refine Jd ⟨rfl,m',hm,i+1,σ7,H7,I7.unpinned,T.keep _ _ _ F λb j o e=>(I7.pin (b,o) (JC _ (JC _ (dM j e)))).1,λb j=>?_,w7⟩;obtain⟨o,e,dd⟩:=T.obj _ _ F b j;exact(I7.pin (b,o) (JC _ (JC _ (dM j e)))).2.1
theorem jm {it:hW}{prog:Jy}{R:Result->z0->Prop}(hd:gens[d]? = some ⟨target,iter,ifs,0⟩)(h0:NO (model prog w) A (.compLoop (.ListComp elt gens scope pos) d it acc env) R s)(h:Jm (model prog w) A (R7 it) (fun it' s'=>NO (model prog w) A (.compLoop (.ListComp elt gens scope pos) d it' acc env) R s')
   (notedBy (model prog w) A env λx s'=>R (.error x) s') s) :
 NO (model prog w) A (.compStart (.ListComp elt gens scope pos) d it acc env) R s:=by
 refine Q4 ?_;show Jm _ _ ((compStart (.ListComp elt gens scope pos) d it acc env).onRaise (λx=>do QF x env;Np theWindowsPlace)) _ _ s
 refine wpAny_notedAt ?_;unfold compStart;have j:(clausesOf (.ListComp elt gens scope pos))[d]? = some ⟨target,iter,ifs,0⟩:=hd;rw[j];show Jm _ _ (ask >>= _) _ _ s;refine h8 (wpAny_askSetting (wpAny_ite ?_))
 split
 ·first
   |exact h8 (Jd (Jd (Pe rfl h0)))
   |exact Jd (Pe rfl h0)
 ·first
   |exact h8 (LX (h8 (Kd (h8 (JS h (λit' s' h'=>Jd (Pe rfl h')) λ_ _ x=>x)))))
   |(refine h8 (LX ?_);show Jm _ _ (Np iter.pos >>= _) _ _ s;exact h8 (Kd (h8 (JS h (λit' s' h'=>Jd (Pe rfl h')) λ_ _ x=>x))))
theorem lf (hx:∀ e s,X.xe e s->False)(z:X.calm=true)(hd:gens[d+1]? = some ⟨target,iter,ifs,0⟩)(F:∀ g',gens[d+1+1]? = some g'->g'.is_async=0)(hi:PI X target iter wi)(L:PG X target g){tb:TC}(O:PB X (λk=>bu ifs X.env >>= λok=>if ok=true then bf elt gens scope pos (d+1) acc X.env k else k) tb)(U:∀ x,KL iter X.env x=pure x) :
 PB X (bf elt gens scope pos d acc X.env) (λσ H N=>wi σ H λJ H1=>i6 J g tb N σ H1):=by
 intro pins s σ H N k Q E I h hk;unfold bf;rw[hd];refine h8 (nox hx (thn (hi pins s σ H _ I h) λv s1 h1=>?_));refine h8 (Kd (h8 (OR (U v) ?_)));refine h8 (K2 (nox hx (thn h1 λitv s2 h2=>?_)));obtain⟨it,fp,tn,J,H2,e,Y,T,j,f2,hw⟩:=h2;subst e;have loop:=ld (acc:=acc) hx z hd F L O Y T j f2 hw;refine h8 (wpAny_runOwn (Lz (jm (R:=λr s'=>match r with|.ok _=>∃ σ' H',Inv X pins σ' H' s'/\N σ' H'|.error _=>False) hd loop (T.self _ 0 _ _ _ j loop)) λr s3 hr=>?_))
 cases r with
 |error e=>exact hr.elim
 | ok f =>
   obtain⟨σ3,Z,I3,n3⟩:=hr;exact hk s3 σ3 Z I3 n3
noncomputable def aW (cells:List (Str×Addr)):List (Str×LO)->List (Str×Addr)->List (Str×Addr)
 |[],acc=>acc
 |(n,k)::r,acc=>if k == .free then (match cells.lookup n with|some c=>aW cells r ((n,c)::acc)|none=>aW cells r acc) else aW cells r acc
theorem iD {env:Env}:∀ (names:List (Str×LO)) (acc:List (Str×Addr)),(∀ x∈names,x.2 = .free->(env.cells.lookup x.1).isSome=true) ->
 (forIn names acc λ(x:Str×LO) (r:List (Str×Addr))=>(match x with|(name,kind)=>if (kind==JJ)=true then do let c <- cellOf env name;pure (Me ((name,c)::r)) else pure (Me r):Sem (ForInStep (List (Str×Addr)))))=(pure (aW env.cells names acc):Sem (List (Str×Addr)))
 |[],acc,_=>rfl
 |(n,k)::r,acc,h=>by
  rw[MX];have ih:=λacc'=>iD r acc' λx hx=>h x (Ji _ hx);unfold aW
  by_cases hk:(k==JJ)=true
  ·obtain⟨c,z⟩:=K8.mp (h (n,k) K0 (beq_iff_eq.mp hk));have j:env.cells.lookup n=some c:=z;have F:cellOf env n=pure c:=by unfold cellOf;rw[j]
   simp only[hk,if_true,F,j,pure_bind];exact ih _
  ·simp only[hk,if_false,pure_bind];exact ih _
theorem jn (h:∀ x∈scope.names,x.2 = .free->(env.cells.lookup x.1).isSome=true):closureFor scope env=pure (aW env.cells scope.names []):=by
 unfold closureFor;have e:=iD (env:=env) scope.names [] h;simp only[bind_pure];exact e
theorem dQ {cells:List (Str×Addr)}{y:Str}{c:Addr}:∀ {names:List (Str×LO)} {acc:List (Str×Addr)},(y,c)∈aW cells names acc->(y,c)∈acc∨(cells.lookup y=some c/\(y,JJ)∈names)
 |[],acc,h=>.inl h
 |(n,k)::r,acc,h=>by
  unfold aW at h
  by_cases hk:(k==JJ)=true
  ·rw[if_pos hk]at h;have J:k = .free:=beq_iff_eq.mp hk;subst J
   cases L:cells.lookup n with
   | none =>
     rw[L]at h
     rcases dQ h with z|⟨j,F⟩
     ·exact .inl z
     ·exact .inr ⟨j,Ji _ F⟩
   | some c' =>
     rw[L]at h
     rcases dQ h with z|⟨j,F⟩
     ·rcases Jl.mp z with e|z
      ·cases e
       exact .inr ⟨L,K0⟩
      ·exact .inl z
     ·exact .inr ⟨j,Ji _ F⟩
  ·rw[if_neg hk]at h
   rcases dQ h with z|⟨j,F⟩
   ·exact .inl z
   ·exact .inr ⟨j,Ji _ F⟩
theorem dS {cells:List (Str×Addr)}{y:Str}{c:Addr}(j:cells.lookup y=some c):∀ {names:List (Str×LO)} {acc:List (Str×Addr)},((y,c)∈acc∨(y,JJ)∈names)->(y,c)∈aW cells names acc
 |[],acc,h=>by
  rcases h with h|h
  ·exact h
  ·simp at h
 |(n,k)::r,acc,h=>by
  unfold aW
  by_cases hk:(k==JJ)=true
  ·rw[if_pos hk];have z:k = .free:=beq_iff_eq.mp hk;subst z
   cases hl:cells.lookup n with
   | none =>
     refine dS j ?_
     rcases h with h|h
     ·exact .inl h
     ·rcases Jl.mp h with e|h
      ·cases e;rw[hl]at j;cases j
      ·exact .inr h
   | some c' =>
     refine dS j ?_
     rcases h with h|h
     ·exact .inl (Ji _ h)
     ·rcases Jl.mp h with e|h
      ·cases e;rw[hl]at j;cases j;exact .inl K0
      ·exact .inr h
  ·rw[if_neg hk];refine dS j ?_
   rcases h with h|h
   ·exact .inl h
   ·rcases Jl.mp h with e|h
    ·cases e;exact absurd rfl hk
    ·exact .inr h
theorem dE:∀ (names:List (Str×LO)) (n:Nat) (acc acc':List (Str×Addr)),Lc n names (acc++acc')=Lc n names acc++acc'
 |[],_,_,_=>rfl
 |(x,k)::r,n,acc,acc'=>by
  unfold Lc
  by_cases hk:(k==L9)=true
  ·rw[if_pos hk,if_pos hk];exact dE r (n+1) ((x,n)::acc) acc'
  ·rw[if_neg hk,if_neg hk];exact dE r n acc acc'
theorem dF:∀ {names:List (Str×LO)} {n:Nat} {acc:List (Str×Addr)} {y:Str} {c:Addr},(y,c)∈Lc n names acc->(y,c)∈acc∨(n<=c/\(y,L9)∈names)
 |[],_,_,_,_,h=>.inl h
 |(x,k)::r,n,acc,y,c,h=>by
  unfold Lc at h
  by_cases hk:(k==L9)=true
  ·rw[if_pos hk]at h;have j:k = .cell:=beq_iff_eq.mp hk;subst j
   rcases dF h with z|⟨F,J⟩
   ·rcases Jl.mp z with e|z
    ·cases e;exact .inr ⟨Jg _,K0⟩
    ·exact .inl z
   ·exact .inr ⟨Nat.le_of_succ_le F,Ji _ J⟩
  ·rw[if_neg hk]at h
   rcases dF h with z|⟨F,J⟩
   ·exact .inl z
   ·exact .inr ⟨F,Ji _ J⟩
structure bg (sc osc:Scope) (oN N':List Str) (fr:List (Option Nat)):Prop where
 kind:sc.kind = .function
 nd:(sc.names.map (·.1)).Nodup
 ndN:N'.Nodup
 free:∀ x∈sc.names,x.2 = .free->osc.names.lookup x.1=some .cell∨osc.names.lookup x.1=some .free
 len:fr.length=N'.length
 fr:∀ (i j:Nat) (x:Str),N'[i]? = some x->fr[i]? = some (some j)->oN[j]? = some x/\(x,JJ)∈sc.names
noncomputable def inh (fr:List (Option Nat)) (σ:St):St:=fr.map λo=>o.bind λj=>(σ[j]?).join
noncomputable def bh (X:Cx) (sc:Scope) (L:Addr):Env :=
 { scope:=relabel sc X.env,locals:=L,globals:=X.env.globals,cells:=Lc (L+1) sc.names (aW X.env.cells sc.names []),qual:=X.env.qual,func:=none,code:=X.env.code,frame:=X.env.frame,builtins:=X.env.builtins }
noncomputable def aK (X:Cx) (sc:Scope) (N':List Str) (s:z0) (H:Hp) (fp:List Addr):Cx :=
 { X with N:=N',s₀:=s,H₀:=H,env:=bh X sc s.heap.objs.size,outer:=X.stack,stack:=X.stack,ex:=fp,fn:=λx=>sc.names.lookup x==some .cell,pn:=[],xe:=λ_ _=>False }
theorem aV:∀ {l:List (Str×LO)} {x:Str} {k:LO},(l.map (·.1)).Nodup->(x,k)∈l->l.lookup x=some k
 |(y,k')::r,x,k,nd,h=>by
  have nd':(y::r.map (·.1)).Nodup:=nd;obtain⟨z,F⟩:=MU.mp nd';rw[KG]
  rcases Jl.mp h with e|hm
  ·cases e;simp
  ·have j:(x==y)=false:=by
    refine beq_eq_false_iff_ne.mpr λe=>?_;subst e;exact z (K1.mpr ⟨(x,k),hm,rfl⟩)
   rw[j];exact aV F hm
theorem cL {env:Env}:∀ {names:List (Str×LO)} {x:Str},
 (names.map fun (n,k)=>if (k==JJ&&env.scope.kind == .function&&env.kindOf n==some .cell) then (n,L9) else (n,k)).lookup x =
   (names.lookup x).map λk=>if (k==JJ&&env.scope.kind == .function&&env.kindOf x==some .cell) then L9 else k
 |[],_=>rfl
 |(n,k)::r,x=>by
  have ih:=cL (env:=env) (names:=r) (x:=x);show List.lookup x ((if (k==JJ&&env.scope.kind == .function&&env.kindOf n==some .cell)=true then (n,L9) else (n,k))::_)=_
  rw[KG (a:=x) (b:=k)]
  by_cases hx:x=n
  ·subst hx;simp only[beq_self_eq_true];show _=some (if (k==JJ&&env.scope.kind == .function&&env.kindOf x==some .cell)=true then L9 else k)
   by_cases j:(k==JJ&&env.scope.kind == .function&&env.kindOf x==some .cell)=true
   ·rw[if_pos j,if_pos j,KG];simp only[beq_self_eq_true]
   ·rw[if_neg j,if_neg j,KG];simp only[beq_self_eq_true]
  ·have z:(x==n)=false:=beq_eq_false_iff_ne.mpr hx;rw[z]
   by_cases j:(k==JJ&&env.scope.kind == .function&&env.kindOf n==some .cell)=true
   ·rw[if_pos j,KG,z];exact ih
   ·rw[if_neg j,KG,z];exact ih
section
variable {pins:List (Addr×Obj)} {σ:St} {H:Hp} {s:z0} {sc:Scope} {N':List Str} {fr:List (Option Nat)} {fp:List Addr}
theorem gH (I:Inv X pins σ H s)(B:bg sc X.env.scope X.N N' fr):∀ x∈sc.names,x.2 = .free->(X.env.cells.lookup x.1).isSome=true:=λx hx e=>by
 obtain⟨c,j⟩:=I.ok.has x.1 (B.free x hx e);rw[j];rfl
theorem ut (I:Inv X pins σ H s)(f2:∀ b∈fp,cu X pins H b)(HI:∀ b∈fp,b<s.heap.objs.size)(B:bg sc X.env.scope X.N N' fr) :
 Inv (aK X sc N' s H fp) [] (inh fr σ) H { s with heap:=Sg (s.heap.push { cls:=.type "dict",data:=.dict #[] }) sc.names }:=by
 have J:∀ b o,s.heap.get? b=some o->(Sg (s.heap.push { cls:=.type "dict",data:=.dict #[] }) sc.names).get? b=some o:=λb o e=>Q5 _ _ b o (s9 _ e);have ok:=cellsFrom_ok sc.names (s.heap.push { cls:=.type "dict",data:=.dict #[] }) (s.heap.objs.size+1) [] ⟨λ_ _ hm=>(nomatch hm),RI⟩ (by rw[Kh];exact Jg _)
 rw[Kh]at ok;have capp:Lc (s.heap.objs.size+1) sc.names (aW X.env.cells sc.names [])=Lc (s.heap.objs.size+1) sc.names []++aW X.env.cells sc.names []:=dE sc.names _ [] _;have cof:∀ x c,(bh X sc s.heap.objs.size).cells.lookup x=some c->((x,c)∈Lc (s.heap.objs.size+1) sc.names []/\s.heap.objs.size<c)∨(X.env.cells.lookup x=some c/\(x,JJ)∈sc.names):=λx c e=>by
  have m:=Ks e;have m':(x,c)∈Lc (s.heap.objs.size+1) sc.names (aW X.env.cells sc.names []):=m;rw[capp]at m'
  rcases Jz.mp m' with z|z
  ·exact .inl ⟨z,(ok.empty x c z).2⟩
  ·rcases dQ z with q|q
   ·simp at q
   ·exact .inr q
 have cOld:∀ x c,X.env.cells.lookup x=some c->c<s.heap.objs.size:=λx c e=>by
  obtain⟨v,q⟩:=I.cell x c e;exact q.lt
 have kindF:∀ x,(x,JJ)∈sc.names->(bh X sc s.heap.objs.size).kindOf x=some .cell∨(bh X sc s.heap.objs.size).kindOf x=some .free:=λx hx=>by
  have e1:sc.names.lookup x=some .free:=aV B.nd hx;have U:(bh X sc s.heap.objs.size).kindOf x=_:=cL (env:=X.env) (names:=sc.names) (x:=x);rw[e1]at U;rw[U]
  by_cases L:(JJ==JJ&&X.env.scope.kind == .function&&X.env.kindOf x==some .cell)=true
  ·exact .inl (by simp only[Lx,if_pos L])
  ·exact .inr (by simp only[Lx,if_neg L])
 have cellF:∀ x c,(x,JJ)∈sc.names->X.env.cells.lookup x=some c->(bh X sc s.heap.objs.size).cells.lookup x=some c:=λx c hx L=>by
  have m:=dS (acc:=[]) L (.inr hx);have m2:(x,c)∈(bh X sc s.heap.objs.size).cells:=by
   show (x,c)∈Lc (s.heap.objs.size+1) sc.names (aW X.env.cells sc.names []);rw[capp];exact JC _ m
  cases F:(bh X sc s.heap.objs.size).cells.lookup x with
  | none =>
    exfalso
    have:∀ {l:List (Str×Addr)},(x,c)∈l->l.lookup x=none->False:=by
     intro l
     induction l with
     |nil=>intro h;simp at h
     | cons a r ih =>
       intro h e;obtain⟨y,d⟩:=a;rw[KG]at e
       rcases Jl.mp h with z|z
       ·cases z;simp at e
       ·by_cases hxy:(x==y)=true
        ·rw[hxy]at e;cases e
        ·simp only[NI]at hxy;rw[hxy]at e;exact ih z e
    exact this m2 F
  | some c' =>
    rcases cof x c' F with⟨z,_⟩|⟨z,_⟩
    ·rcases dF z with q|⟨_,q⟩
     ·simp at q
     ·have a1:=aV B.nd hx;have a2:=aV B.nd q;rw[a1]at a2;cases a2
    ·rw[L]at z;rw[z]
 have kindC:∀ x,(bh X sc s.heap.objs.size).kindOf x=some .cell->(x,L9)∈sc.names∨(x,JJ)∈sc.names:=λx e=>by
  have U:(bh X sc s.heap.objs.size).kindOf x=_:=cL (env:=X.env) (names:=sc.names) (x:=x);rw[U]at e
  cases F:sc.names.lookup x with
  |none=>rw[F]at e;cases e
  | some k =>
    rw[F]at e;have m:=Ks F
    cases k with
    |cell=>exact .inl m
    |free=>exact .inr m
    |«local»=>simp at e
    |globalImplicit=>simp at e
    |globalExplicit=>simp at e
 have kindFr:∀ x,(bh X sc s.heap.objs.size).kindOf x=some .free->(x,JJ)∈sc.names:=λx e=>by
  have U:(bh X sc s.heap.objs.size).kindOf x=_:=cL (env:=X.env) (names:=sc.names) (x:=x);rw[U]at e
  cases F:sc.names.lookup x with
  |none=>rw[F]at e;cases e
  | some k =>
    rw[F]at e;have m:=Ks F
    cases k with
    |free=>exact m
    |cell=>simp at e
    |«local»=>simp at e
    |globalImplicit=>simp at e
    |globalExplicit=>simp at e
 refine⟨⟨I.ok.mod,B.kind,I.ok.glob,I.ok.blt,Jg _,λy z c h1 h2=>?_,λy hy=>?_,λy c hf h=>?_,I.ok.hd,I.ok.frames,.inl rfl,λb Y=>⟨?_,λx c e=>?_⟩,λb o e=>I.bs b o e,?_,λb o e Y=>?_,λb Y=>?_,I.stack,I.stkFree⟩,
  rfl,I.bare,Un.kept J,⟨_,(Heap.Ns.new s.heap (.type "dict")).keeps (Q5 _ _),λi x v h1 h2 h3=>?_⟩,λy c h=>?_,I.hok.fresh (Jg _),λy c h=>?_,λp hp=>absurd (show p∈([]:List (Addr×Obj)) from hp) (by simp),I.hok.kept J,?_⟩
 ·rcases cof y c h1 with⟨a1,a2⟩|⟨a1,a2⟩
  ·rcases cof z c h2 with⟨b1,b2⟩|⟨b1,b2⟩
   ·exact name_of_addr ok.apart a1 b1
   ·exact absurd (cOld z c b1) (T7.mpr (Mw a2))
  ·rcases cof z c h2 with⟨b1,b2⟩|⟨b1,b2⟩
   ·exact absurd (cOld y c a1) (T7.mpr (Mw b2))
   ·exact I.ok.inj y z c a1 b1
 ·have HL:(y,L9)∈sc.names∨(y,JJ)∈sc.names:=by
   rcases hy with hy|hy
   ·exact kindC y hy
   ·exact .inr (kindFr y hy)
  rcases HL with q|q
  ·exact K8.mp (Nr sc.names _ _ (.inl (aV B.nd q)))
  ·obtain⟨c,L⟩:=K8.mp (gH I B _ q rfl);exact⟨c,cellF y c q L⟩
 ·have HM:(sc.names.lookup y==some .cell)=true:=hf;have HJ:sc.names.lookup y=some .cell:=by simpa using HM
  rcases cof y c h with⟨_,a2⟩|⟨_,a2⟩
  ·exact Mw a2
  ·rw[aV B.nd a2]at HJ;cases HJ
 ·exact JU (HI b Y)
 ·rcases cof x c e with⟨_,a2⟩|⟨a1,_⟩
  ·exact Ly (PX (HI b Y) a2)
  ·exact(f2 b Y).2.2.2.2.1 x c a1
 ·exact K7 I.ok.bsz I.sz
 ·obtain⟨f0,f1,f3,f4,f5,f6⟩:=f2 b Y
  rcases f4 with z|z
  ·exact I.ok.noex b o e z
  ·exact absurd (Ju (Ju (Jn e) I.ok.bsz) z) (L8 _)
 ·obtain⟨f0,f1,f3,f4,f5,f6⟩:=f2 b Y;exact λz=>(Jl.mp (I.stkSub b z)).elim f1 f3
 ·have hi:∃ j,fr[i]? = some (some j) /\ σ[j]? = some (some v):=by
   unfold inh at h2;rw[JF]at h2
   cases e:fr[i]? with
   |none=>rw[e]at h2;cases h2
   | some o =>
     rw[e]at h2
     cases o with
     |none=>cases h2
     | some j =>
       refine⟨j,rfl,?_⟩;have O:some ((σ[j]?).join)=some (some v):=h2
       cases e' : σ[j]? with
       |none=>rw[e']at O;cases O
       |some w=>rw[e']at O;cases O;rfl
  obtain⟨j,e1,U⟩:=hi;obtain⟨n1,n2⟩:=B.fr i j x h1 e1;obtain⟨m,hn,F⟩:=I.loc;have hv:Vis X.env.scope x:=.inr (B.free (x,.free) n2 rfl);obtain⟨u,ru,lk⟩:=F j x v n1 U hv;refine⟨u,ru,.inr ⟨kindF x n2,?_⟩⟩
  rcases lk with⟨k1,_⟩|⟨_,c,L,Z⟩
  ·have HK:X.env.scope.names.lookup x=some .local:=k1
   rcases B.free (x,.free) n2 rfl with z|z
   ·rw[HK]at z;cases z
   ·rw[HK]at z;cases z
  ·exact⟨c,cellF x c n2 L,Z.keeps J⟩
 ·rcases cof y c h with⟨a1,a2⟩|⟨a1,a2⟩
  ·exact⟨_,(ok.empty y c a1).1⟩
  ·obtain⟨v,q⟩:=I.cell y c a1;exact⟨v,q.keeps J⟩
 ·rcases cof y c h with⟨a1,a2⟩|⟨a1,a2⟩
  ·exact I.hok.fresh (Mw a2)
  ·exact I.freeC y c a1
 ·show (inh fr σ).length=N'.length;unfold inh;rw[Jc];exact B.len
theorem lg {σ':St}{s':z0}(I:Inv X pins σ H s)(f2:∀ b∈fp,cu X pins H b)(J:Inv (aK X sc N' s H fp) [] σ' H' s')(F:Kr s.heap.objs.size s'.heap h') :
 Inv X pins σ H' { s' with heap:=h' }:=by
 have u:Un (frs X.stack) fp H H' s.heap s'.heap:=J.base;have ne:∀ b o,s.heap.get? b=some o->b≠s.heap.objs.size:=λb o e=>JU (Jn e);refine I.call' (s':={ s' with heap:=h' }) (ch:=fp) J.os ⟨λb o e n j hx=>?_,λb o e n j hx=>?_,u.free,λb o e hx=>?_,u.tups,u.frzs,u.tbls⟩ (λb v e=>?_) J.bare λb j=>?_
 ·exact(F.2 b (ne b o e)).trans (u.keep b o e n j hx)
 ·obtain⟨sl,q⟩:=u.slot b o e n j hx;exact⟨sl,(F.2 b (ne b o e)).trans q⟩
 ·obtain⟨o',q⟩:=u.there b o e hx;exact⟨o',(F.2 b (ne b o e)).trans q⟩
 ·refine(J.hok b v e).stay (λc w O q=>(F.2 c ?_).trans q) (λ_ q=>q) λ_ _ q=>q;have fr:H' s.heap.objs.size=none:=J.free
  rcases O with z|z
  ·rw[z];intro L;rw[L,fr]at e;cases e
  ·intro L;rw[L,fr]at z;cases z
 ·obtain⟨f0,f1,Z,f4,U,Y⟩:=f2 b j;exact⟨f4,f1,U,Y⟩
theorem mv {Q:Env->z0->Prop}{E:hW->z0->Prop}(h:Q { scope:=sc,locals:=s.heap.objs.size,globals:=X.env.globals,cells:=Lc (s.heap.objs.size+1) sc.names (aW X.env.cells sc.names []),qual:=X.env.qual,func:=none,code:=X.env.code,frame:=X.env.frame,builtins:=X.env.builtins }
   { s with heap:=Sg (s.heap.push { cls:=.type "dict",data:=.dict #[] }) sc.names }) :
 Jm M A (Qj sc X.env.globals (aW X.env.cells sc.names []) [] X.env.qual none .none (some X.env)) Q E s:=by
 simp only[Qj,Rg,if_true];refine h8 (wpAny_alloc ?_);refine h8 (wpAny_layCells _ (λname kind cells=>by cases hkc:kind==L9 <;> simp[hkc]) _ _ _ _ ?_)
 rw[show ({ s with heap:=s.heap.push { cls:=.type "dict",data:=.dict #[] } }:z0).heap.objs.size=s.heap.objs.size+1 from Kh ..]
 exact h8 (Jd (Jd h))
theorem nP (hc:X.calm=true){rest:List K3}{E:hW->z0->Prop}(hx:∀ e s,X.xe e s->False)(B:bg sc X.env.scope X.N N' fr)(ha:∀ g',rest[0]? = some g'->g'.is_async=0)(hi:PI X target iter wi){tb:Addr->TC}(hg:∀ s H fp,PG (aK X sc N' s H fp) target g)(j:∀ s H fp p,PB (aK X sc N' s H fp) (λk=>bu ifs (aK X sc N' s H fp).env >>= λok=>if ok=true then bf elt (⟨target,iter,ifs,0⟩::rest) sc pos 0 (.ref p) (aK X sc N' s H fp).env k else k) (tb p)){Nn:Addr->St->Hp->Prop}{RR:hW->Addr->Result->z0->Prop}(I:Inv X pins σ H s)(h:wi σ H λJ H1=>∀ p,H1 p=none->i6 J g (tb p) (Nn p) (inh fr σ) (upd H1 p (.lst [])))(hR:∀ p fp s3 U s' σ' H' f,Inv X pins σ U s3->(∀ b∈fp,cu X pins U b)->Inv (aK X sc N' s3 U fp) [] σ' H' s'->Nn p σ' H'->RR (.ref p) s3.heap.objs.size (.ok f) s') :
 Jm (model X.prog X.w) X.A (eval iter X.env) (λx s₁=>Jm (model X.prog X.w) X.A (R7 x) (λit s₂=>Jm (model X.prog X.w) X.A (newList []) (λacc s₃ =>
  Jm (model X.prog X.w) X.A (Qj sc X.env.globals (aW X.env.cells sc.names []) [] X.env.qual none .none (some X.env)) (λcenv s₄ =>
   NO (model X.prog X.w) X.A (.compStart (.ListComp elt (⟨target,iter,ifs,0⟩::rest) sc pos) 0 it acc { cenv with scope:=relabel sc X.env }) (RR acc cenv.locals) s₄) E s₃) E s₂) E s₁) E s:=by
 refine nox hx (thn (hi pins s σ H _ I h) λv s1 h1=>nox hx (thn h1 λitv s2 h2=>?_));obtain⟨it,fp,tn,J,H2,e,I2,T,F,f2,hw⟩:=h2;subst e;have hf:H2 s2.heap.objs.size=none:=I2.hok.fresh (Jg _);refine wpAny_newList ?_;have I3:Inv X pins σ (upd H2 s2.heap.objs.size (.lst [])) { s2 with heap:=s2.heap.push { cls:=.type "list",dict:=none,data:=.seq ([]:List hW).toArray } } :=
  I2.laid (t':=s2.toks) (λb u e=>s9 _ e) (Jg _) ⟨Kk _,[],0,.nil,Jo _ rfl⟩
 have fneq:∀ b∈fp,b≠s2.heap.objs.size:=λb j z=>by
  obtain⟨o,e,_⟩:=T.obj _ _ F b j;exact absurd (Jn e) (by rw[z];exact L8 _)
 have Y:∀ b∈fp,cu X pins (upd H2 s2.heap.objs.size (.lst [])) b:=λb j=>⟨by rw[ai (fneq b j)];exact(f2 b j).1,(f2 b j).2⟩
 have Z:∀ b∈fp,b<(s2.heap.push { cls:=.type "list",dict:=none,data:=.seq ([]:List hW).toArray }).objs.size:=λb j=>by
  obtain⟨o,e,_⟩:=T.obj _ _ F b j;rw[Kh];exact Nat.lt_succ_of_lt (Jn e)
 have HI:tn 0 (s2.heap.push { cls:=.type "list",dict:=none,data:=.seq ([]:List hW).toArray }):=T.keep _ _ _ F λb _ o e=>s9 _ e;refine mv ?_;have O:=ut (N':=N') I3 Y Z B;have L:=T.keep _ (h':=Sg (({ s2 with heap:=s2.heap.push { cls:=.type "list",dict:=none,data:=.seq ([]:List hW).toArray } }:z0).heap.push { cls:=.type "dict",data:=.dict #[] }) sc.names) _ HI λb _ o e=>Q5 _ _ b o (s9 _ e)
 have f4:∀ b∈fp,cu (aK X sc N' { s2 with heap:=s2.heap.push { cls:=.type "list",dict:=none,data:=.seq ([]:List hW).toArray } } (upd H2 s2.heap.objs.size (.lst [])) fp) [] (upd H2 s2.heap.objs.size (.lst [])) b:=λb j =>
  ⟨(Y b j).1,(O.ok.exf b j).1,O.ok.exfs b j,.inl j,(O.ok.exf b j).2,λp hp=>absurd (show p∈([]:List (Addr×Obj)) from hp) (by simp)⟩
 have loop:=ld (X:=aK X sc N' { s2 with heap:=s2.heap.push { cls:=.type "list",dict:=none,data:=.seq ([]:List hW).toArray } } (upd H2 s2.heap.objs.size (.lst [])) fp) (λ_ _ z=>z) hc
  (elt:=elt) (pos:=pos) (scope:=sc) (gens:=⟨target,iter,ifs,0⟩::rest) (d:=0) (acc:=.ref s2.heap.objs.size) rfl (λg' e=>ha g' (by simpa using e)) (hg _ _ _) (j _ _ _ _) O T L f4 (hw _ hf)
 refine Lz (jm (R:=λr s'=>match r with|.ok _=>∃ σ' H',Inv (aK X sc N' { s2 with heap:=s2.heap.push { cls:=.type "list",dict:=none,data:=.seq ([]:List hW).toArray } } (upd H2 s2.heap.objs.size (.lst [])) fp) [] σ' H' s'/\Nn s2.heap.objs.size σ' H'|.error _=>False)
  (gens:=⟨target,iter,ifs,0⟩::rest) (d:=0) rfl loop (T.self _ 0 _ _ _ L loop)) λr s5 hr=>?_
 cases r with
 |error e=>exact hr.elim
 | ok f =>
   obtain⟨σ5,H5,I5,n5⟩:=hr;exact hR _ fp _ _ s5 σ5 H5 f I3 Y I5 n5
noncomputable def rY (wi:TI) (g:TG) (tb:Addr->TC) (fr:List (Option Nat)):TE:=λσ H Q=>wi σ H λJ H1=>∀ p,H1 p=none->i6 J g (tb p) (λ_ H2=>Q (.ref p) H2) (inh fr σ) (upd H1 p (.lst []))
theorem lh (B:bg sc X.env.scope X.N N' fr):∀ x∈sc.names,x.2 = .local->sc.names.lookup x.1=some .local:=λx hx e=>by
 obtain⟨n,k⟩:=x;have e':k = .local:=e;subst e';exact aV B.nd hx
theorem iE (z:X.calm=true){rest:List K3}(hx:∀ e s,X.xe e s->False)(B:bg sc X.env.scope X.N N' fr)(F:∀ g',rest[0]? = some g'->g'.is_async=0)(hi:PI X target iter wi){tb:Addr->TC}(L:∀ s H fp,PG (aK X sc N' s H fp) target g)(O:∀ s H fp p,PB (aK X sc N' s H fp) (λk=>bu ifs (aK X sc N' s H fp).env >>= λok=>if ok=true then bf elt (⟨target,iter,ifs,0⟩::rest) sc pos 0 (.ref p) (aK X sc N' s H fp).env k else k) (tb p))(U:∀ x,KL iter X.env x=pure x) :
 PE X (.ListComp elt (⟨target,iter,ifs,0⟩::rest) sc pos) (rY wi g tb fr):=by
 intro pins s σ H Q I h;rw[eval_ListComp];refine P2 (use:=none) rfl U (jn (gH I B)) B.kind (lh B) (nP (Nn:=λp _ H2=>Q (.ref p) H2) (RR:=λacc C=>compPost (model X.prog X.w) X.A X.xe none (EP X pins σ Q) acc C) z hx B F hi L O I h ?_);intro p fp s3 H3 s' σ' H' f Y Z J q;obtain⟨m,hn,_⟩:=J.loc;exact⟨m,hn,λh' j=>⟨.ref p,H',lg Y Z J j,rfl,q⟩⟩
theorem jo (hc:X.calm=true){rest:List K3}{spos:Pos}(hx:∀ e s,X.xe e s->False)(B:bg sc X.env.scope X.N N' fr)(ha:∀ g',rest[0]? = some g'->g'.is_async=0)(hi:PI X target iter wi){tb:Addr->TC}(hg:∀ s H fp,PG (aK X sc N' s H fp) target g)(F:∀ s H fp p,PB (aK X sc N' s H fp) (λk=>bu ifs (aK X sc N' s H fp).env >>= λok=>if ok=true then bf elt (⟨target,iter,ifs,0⟩::rest) sc pos 0 (.ref p) (aK X sc N' s H fp).env k else k) (tb p))(hs:∀ x,KL iter X.env x=pure x)(L:PG X (.Name x pos') (i5 i))(O:L3 (.ListComp elt (⟨target,iter,ifs,0⟩::rest) sc pos) (some (.Name x pos')) spos.line X.env=pure true) :
 PS X (.Assign [.Name x pos'] (.ListComp elt (⟨target,iter,ifs,0⟩::rest) sc pos) spos) (nA (rY wi g tb fr) (i5 i)):=by
 intro pins s σ H D I h;rw[exec_Assign_Name_used _ _ _ _ O];refine h8 (Kd (h8 ?_));show Jm _ X.A (do let _ <- comprehension (.ListComp elt (⟨target,iter,ifs,0⟩::rest) sc pos) sc X.env _ (newList []) false (eval iter X.env) (some (assign (.Name x pos') X.env))) _ _ s
 refine h8 (JS (P2 (use:=some (assign (.Name x pos') X.env)) (Q:=λ_ s'=>SP X pins D .next s') rfl hs (jn (gH I B)) B.kind (lh B)
  (nP (Nn:=λp _ H2=>D.nx (σ.set i (some (.ref p))) H2) (RR:=λacc C=>compPost (model X.prog X.w) X.A X.xe (some (assign (.Name x pos') X.env)) (λ_ s'=>SP X pins D .next s') acc C) hc hx B ha hi hg F I h ?_)) (λ_ s' hq=>Jd (Jd hq)) λ_ _ e=>e)
 intro p fp s3 H3 s' σ' H' f j f3 J q;obtain⟨m,⟨o,es,ep,ho,hd,hk,hm⟩,_⟩:=J.loc;have I4:Inv X pins σ H' s':=lg (h':=s'.heap) j f3 J ⟨rfl,λ_ _=>rfl⟩;have hL:(aK X sc N' s3 H3 fp).env.locals=s3.heap.objs.size:=rfl;rw[hL]at ho;have U:H' s3.heap.objs.size=none:=J.free;have neL:s3.heap.objs.size≠X.env.locals:=Ly j.lt;have nfs:s3.heap.objs.size∉X.fs:=j.nofs (Jg _);have I5:Inv X (pins++[(s3.heap.objs.size,o)]) σ H' s':=I4.pins_of λpr Y=>by
  rcases Jz.mp Y with z|z
  ·exact I4.pin pr (JC _ z)
  ·have e:pr=(s3.heap.objs.size,o):=by simpa using z
   subst e;exact⟨ho,U,neL,nfs,λv z=>by rw[hd]at z;cases z⟩
 show Jm _ X.A (assign (.Name x pos') X.env (.ref p)) _ _ _;refine thn (L _ s' σ H' (.ref p) (.ref p) D.nx I5 rfl q) λ_ s6 g9=>?_;obtain⟨σ6,H6,I6,q6⟩:=g9;obtain⟨Z,HI,_⟩:=I6.pin (s3.heap.objs.size,o) (JC _ (JC _ (by simp)))
 refine⟨m,⟨o,es,ep,Z,hd,hk,hm⟩,λh' HJ=>⟨σ6,H6,?_,q6⟩⟩;refine(I6.unpinned).turned (t':=s6.toks) (it:=s3.heap.objs.size) (λb o F e=>(HJ.2 b F).trans e) HI neL (.inr j.sz) (λy c e z=>?_) λpr Y z=>?_
 ·obtain⟨v,q⟩:=j.cell y c e;exact absurd q.lt (by rw[z];exact L8 _)
 ·exact absurd (Jn (j.pin pr Y).1) (by rw[z];exact L8 _)
end
end
end
section
open PySem.W (CodeHd tabObj kla_fn kla_obj)
noncomputable def fzO (a:Addr) (o:Obj):HO:=.frz o (.ext λh=>h.get? a=some o)
def F5 (H:Hp) (P:Addr) (pos:Pos) (q:Str):Prop:=∃ ps,H P=some (.tbl ps)/\(ps = #[]∨∃ c' oc vs t,ps = #[Ls pos.line,Ls pos.col,.ref c']/\H c'=some (fzO c' oc)/\oc.data = .fields vs/\vs[1]? = some (.str q t))
def F6 (mg:Str->Option hW) (base:Heap):Prop:=∃ bm ob,mg "__builtins__" = some (.ref bm)/\bm≠PD/\base.get? bm=some ob/\ob.cls = .type "module" /\ ob.dict=some PD/\ob.data = .plain
open PySem.W (envX)
structure DC (P:Jy) (w:JQ) (K:Frag) (mg:Str->Option hW) (base:Heap) (k:Nat) (fs:List Addr) (a:Addr) (sp:Sp) (H:Hp) (h:Heap):Prop where
 fn:∃ o fd,H a=some (fzO a o)/\o.data = .func fd
 run:∀ (A:JI) (outer:List Env) (s1:z0) (H1:Hp) (u1 u2:hW) (v1 v2:V) (Q:VK),Un fs [] H H1 h s1.heap->Room k A->Env0 P w K mg base A outer s1 H1->RelV v1 u1->RelV v2 u2->sp [v1,v2] H1 Q E0 ->
  NO (model P w) A (.call (.ref a) ⟨[u1,u2],[]⟩) (CR CX0 outer P w H1 s1 Q E0) s1
structure DE (P:Jy) (w:JQ) (K:Frag) (mg:Str->Option hW) (base:Heap) (k:Nat) (f:Addr) (fd:KW) (ps:List Str) (sp:List Env->z0->Sp):Prop where
 len:∀ o s vs H Q E,sp o s vs H Q E->vs.length=ps.length
 run:∀ (A:JI) (outer:List Env) (s:z0) (H:Hp) (args:Args) (us:List hW) (vs:List V) (Q:VK) (E:XK),Room k A->Env0 P w K mg base A outer s H->QB s fd args (ps.zip us)->Vals vs us->sp outer s vs H Q E ->
  NO (model P w) A (.call (.ref f) args) (CR CX0 outer P w H s Q E) s
end
namespace Zp
def At (t:Bool) (h:Heap) (i l:Addr) (k:Nat):Prop:=match t with|true=>h.IsTupleIter i l k|false=>h.IsListIter i l k
def Sq (t:Bool) (h:Heap) (l:Addr) (xs:Array hW):Prop:=match t with|true=>h.IsTuple l xs|false=>h.IsList l xs
variable {h:Heap}{i l:Addr}
theorem At.up {t:Bool}{h':Heap}{k:Nat}(x:At t h i l k)(e:∀ o,h.get? i=some o->h'.get? i=some o):At t h' i l k:=by
 cases t <;> (obtain⟨o,ho,r⟩:=x;exact⟨o,e o ho,r⟩)
variable {xs:Array hW}
theorem Sq.up {t:Bool}{h':Heap}(x:Sq t h l xs)(e:∀ o,h.get? l=some o->h'.get? l=some o):Sq t h' l xs:=by
 cases t <;> (obtain⟨o,ho,r⟩:=x;exact⟨o,e o ho,r⟩)
theorem At.lt {t:Bool}{k:Nat}(x:At t h i l k):∃ o,h.get? i=some o /\ ∀ v,o.data ≠ .cell v:=by
 cases t <;> (obtain⟨o,ho,j,hd⟩:=x;exact⟨o,ho,λv z=>by rw[hd]at z;cases z⟩)
variable {x p r:hW}{z T j a b:Addr}{u:Bool}{ys:Array hW}
section
variable {prog:Jy} {w:JQ} {A:JI} {E:hW->z0->Prop} {s:z0}
open Builtin.SmallTypes in
theorem wL {k:Nat}{Q:hW->z0->Prop}(hi:s.heap.IsTupleIter i l k)(U:s.heap.IsTuple l xs)(hx:xs[k]? = some x)(q:∀ h',h'.IsTupleIter i l (k+1)->Kr i s.heap h'->Q x { s with heap:=h' }):Jm (model prog w) A (nextOf (.ref i)) Q E s:=by
 obtain⟨ob,z,J,j⟩:=id hi;obtain⟨oq,L,_,nq,O⟩:=U;unfold nextOf;refine h8 (Kc (name:=gV "__next__") hi.typeIs Lo (L5 Lo hi.typeIs Oj ?_ (O7 _)));refine h8 (m:=field (.ref i) 0) (JR z j (x:=.ref l) rfl ?_);refine(if_neg (c:=(JL l==Ke)=true) J9) ▸ ?_;refine h8 (m:=field (.ref i) 1) (JR z j (x:=.int k 0) rfl ?_);refine h8 (m:=seqItems? (.ref l)) (Lp L O ?_);simp only[Mh,hx];refine h8 (Mp z j (by simp) (Jd ⟨x,rfl,Jd (q _ ⟨_,JX _ z (KY (Ln j _)),(RJ ..).trans J,?_⟩ (QK ..))⟩))
 rw[Ln j];simp[Ls]
open Builtin.SmallTypes in
theorem zI {k:Nat}{Q:hW->z0->Prop}(O:A.handled=none)(hi:s.heap.IsTupleIter i l k)(U:s.heap.IsTuple l xs)(hx:xs[k]? = none)(q:∀ h' e,SE i s.heap h'->(∃ o,h'.get? e=some o/\o.cls = .type "StopIteration")->E (.ref e) { s with heap:=h' }):Jm (model prog w) A (nextOf (.ref i)) Q E s:=by
 obtain⟨ob,j,Y,z⟩:=id hi;obtain⟨oq,J,_,nq,L⟩:=U;unfold nextOf;refine h8 (Kc (name:=gV "__next__") hi.typeIs Lo (L5 Lo hi.typeIs Oj ?_ (O7 _)));refine h8 (m:=field (.ref i) 0) (JR j z (x:=.ref l) rfl ?_);refine(if_neg (c:=(JL l==Ke)=true) J9) ▸ ?_;refine h8 (m:=field (.ref i) 1) (JR j z (x:=.int k 0) rfl ?_);refine h8 (m:=seqItems? (.ref l)) (Lp J L ?_);simp only[Mh,hx];refine h8 (LX (h8 (Mp j z (by simp) ?_)))
 refine h8 (m:=newExc (.type "StopIteration") []) ?_;simp only[newExc,newTuple];refine h8 (KJ ?_ (by size_fits))
 refine h8 (m:=firstArgMember _ _) (OR (a:=Ke) (by first|rfl|(simp only[firstArgMember];rfl)) (KJ ?_ (by size_fits)))
 simp only[raiseNew];refine h8 (wpAny_handled ?_)
 first|rw[show A.in1.handled=none from O]|rw[O]
 exact h8 (Jd (wpAny_throw (q _ _ (((QK ..).extBut.push _).push _) ⟨_,Jo _ rfl,rfl⟩)))
open Builtin.SmallTypes in
theorem i7 {t:Bool}{k:Nat}{Q:hW->z0->Prop}(hi:At t s.heap i l k)(j:Sq t s.heap l xs)(hx:xs[k]? = some x)(q:∀ h',At t h' i l (k+1)->Kr i s.heap h'->Q x { s with heap:=h' }):Jm (model prog w) A (nextOf (.ref i)) Q E s:=by
 cases t with
 |true=>exact wL hi j hx q
 |false=>exact wpAny_nextOf_list_item hi j hx q
open Builtin.SmallTypes in
theorem nx_end {t:Bool}{k:Nat}{Q:hW->z0->Prop}(j:A.handled=none)(hi:At t s.heap i l k)(z:Sq t s.heap l xs)(hx:xs[k]? = none)(q:∀ h' e,SE i s.heap h'->(∃ o,h'.get? e=some o/\o.cls = .type "StopIteration")->E (.ref e) { s with heap:=h' }):Jm (model prog w) A (nextOf (.ref i)) Q E s:=by
 cases t with
 |true=>exact zI j hi z hx q
 |false=>exact wpAny_nextOf_list_end j hi z hx q
open Builtin.SmallTypes in
theorem BQ {O:Addr}{t:Bool}{k:Nat}{y:hW}{Q:hW->z0->Prop}(D:Qk z T O i j a b)(J:OS s.heap z T O .none)(hT:LL s.heap T (.ref i) (.ref j))(hO:LL s.heap O p r)(hi:At t s.heap i a k)(hj:At u s.heap j b k)(ha:Sq t s.heap a xs)(hb:Sq u s.heap b ys)(hx:xs[k]? = some x)(hy:ys[k]? = some y)(q:∀ h',OS h' z T O (Ls s.heap.objs.size)->LL h' O x y->At t h' i a (k+1)->At u h' j b (k+1)->LL h' s.heap.objs.size x y ->
   (∀ c o,c≠z->c≠O->c≠i->c≠j->s.heap.get? c=some o->h'.get? c=some o)->Q (.ref s.heap.objs.size) { s with heap:=h' }) :
 Jm (model prog w) A (MW.«zip.__next__» ⟨[.ref z],[]⟩) (λfin s'=>∃ v,fin = .done (.ret v)/\Q v s') E s:=by
 refine h8 (m:=field (.ref z) 2) (JR J rfl (x:=.bool false) rfl ?_);refine h8 (m:=field (.ref z) 3) (JR J rfl (x:=.ref T) rfl ?_);refine h8 (Lp hT rfl ?_);refine h8 (m:=ownedTupleIsFree (.ref z)) ?_;unfold ownedTupleIsFree;refine h8 (JR J rfl (x:=.none) rfl (Jd ?_));simp only[if_true];refine h8 (LX (h8 (JR J rfl (x:=.ref O) rfl (h8 (K9 J (by simp) λg1 z1 s1=>?_)))))
 have Z1:OS g1 z T O .ellipsis:=z1;clear z1;refine h8 ?_;simp only[Mz,SR,MX,List.forIn_nil];refine h8 (h8 (NQ (h8 (m:=nextOf (.ref i)) ?_)));refine i7 (hi.up λo e=>s1.extBut _ o D.i1z e) (ha.up λo e=>s1.extBut _ o D.l1z e) hx λg2 Y s2=>Jd ?_;have O2:LL g2 O p r:=s2.extBut _ _ D.TOi1 (s1.extBut _ _ D.TOz hO);refine h8 (Lp O2 rfl (h8 (NW O2 λg3 o3 s3=>?_)));have O3:LL g3 O x r:=o3;clear o3;refine h8 (Ql (Jd (h8 (h8 (NQ (h8 (m:=nextOf (.ref j)) ?_))))));refine i7 (hj.up λo e=>s3.extBut _ o D.TOi2.symm (s2.extBut _ o D.i12.symm (s1.extBut _ o D.i2z e))) (hb.up λo e=>s3.extBut _ o D.l2TO (s2.extBut _ o D.l2i1 (s1.extBut _ o D.l2z e))) hy λg4 Z s4=>Jd ?_;have O4:LL g4 O x r:=s4.extBut _ _ D.TOi2 O3;refine h8 (Lp O4 rfl (h8 (NW O4 λg5 o5 s5=>?_)));have O5:LL g5 O x y:=o5;clear o5;refine h8 (Ql (Jd (Jd (h8 (Lp O5 rfl (h8 (wpAny_newTuple ?_)))))));have sz:g5.objs.size=s.heap.objs.size:=by rw[s5.1,s4.1,s3.1,s2.1,s1.1]
 have k5:∀ c o,c≠z->c≠O->c≠i->c≠j->s.heap.get? c=some o->g5.get? c=some o:=λc o F L c3 c4 e =>
  s5.extBut _ _ L (s4.extBut _ _ c4 (s3.extBut _ _ L (s2.extBut _ _ c3 (s1.extBut _ _ F e))))
 have Z5:OS g5 z T O .ellipsis:=s5.extBut _ _ D.TOz.symm (s4.extBut _ _ D.i2z.symm (s3.extBut _ _ D.TOz.symm (s2.extBut _ _ D.i1z.symm Z1)));have I5:At t g5 i a (k+1):=Y.up λo e=>s5.extBut _ o D.TOi1.symm (s4.extBut _ o D.i12 (s3.extBut _ o D.TOi1.symm e));have J5:At u g5 j b (k+1):=Z.up λo e=>s5.extBut _ o D.TOi2.symm e;have zl:z<g5.objs.size:=Jn Z5;refine h8 (m:=ownedTupleHandOut (.ref z) (.ref g5.objs.size)) ?_;unfold ownedTupleHandOut;refine h8 (K9 (s9 _ Z5) (by simp) λg7 z7 s7=>?_)
 have Z7:OS g7 z T O (Ls g5.objs.size):=z7;clear z7;refine K9 Z7 (by simp) λU z8 s8=>?_
 have Z8:OS U z T O (Ls g5.objs.size):=z8;clear z8;have up:∀ c o,c≠z->g5.get? c=some o->U.get? c=some o:=λc o F e=>s8.extBut _ _ F (s7.extBut _ _ F (s9 _ e));have P8:LL U g5.objs.size x y:=s8.extBut _ _ (Ly zl) (s7.extBut _ _ (Ly zl) (Jo _ rfl));rw[sz]at Z8 P8;refine Jd ⟨_,rfl,?_⟩;show Q (.ref g5.objs.size) _;rw[sz];exact q U Z8 (up _ _ D.TOz O5) (I5.up λo e=>up _ o D.i1z e) (J5.up λo e=>up _ o D.i2z e) P8 λc o F L c3 c4 e=>up c o F (k5 c o F L c3 c4 e)
open Builtin.SmallTypes in
theorem DF {O:Addr}{t:Bool}{k:Nat}{Q:Fin->z0->Prop}(hn:A.handled=none)(D:Qk z T O i j a b)(L:OS s.heap z T O .none)(hT:LL s.heap T (.ref i) (.ref j))(hO:LL s.heap O p r)(hi:At t s.heap i a k)(hj:At u s.heap j b k)(ha:Sq t s.heap a xs)(hb:Sq u s.heap b ys)(U:xs[k]? = none∨ys[k]? = none)(q:∀ h' e,(∀ c o,c≠z->c≠O->c≠i->c≠j->s.heap.get? c=some o->h'.get? c=some o)->(∃ o,h'.get? e=some o/\o.cls = .type "StopIteration")->E (.ref e) { s with heap:=h' }) :
 Jm (model prog w) A (MW.«zip.__next__» ⟨[.ref z],[]⟩) Q E s:=by
 refine h8 (m:=field (.ref z) 2) (JR L rfl (x:=.bool false) rfl ?_);refine h8 (m:=field (.ref z) 3) (JR L rfl (x:=.ref T) rfl ?_);refine h8 (Lp hT rfl ?_);refine h8 (m:=ownedTupleIsFree (.ref z)) ?_;unfold ownedTupleIsFree;refine h8 (JR L rfl (x:=.none) rfl (Jd ?_));simp only[if_true];refine h8 (LX (h8 (JR L rfl (x:=.ref O) rfl (h8 (K9 L (by simp) λg1 z1 s1=>?_)))))
 have Z1:OS g1 z T O .ellipsis:=z1;clear z1;refine h8 ?_;simp only[Mz,SR,MX,List.forIn_nil];refine h8 (h8 (NQ (h8 (m:=nextOf (.ref i)) ?_)));have Y:At t g1 i a k:=hi.up λo e=>s1.extBut _ o D.i1z e;have Z:Sq t g1 a xs:=ha.up λo e=>s1.extBut _ o D.l1z e
 cases hx:xs[k]? with
 | none =>
   refine nx_end hn Y Z hx λg2 e s2 he=>?_;obtain⟨oe,F,J⟩:=he;have Z2:OS g2 z T O .ellipsis:=s2 _ _ D.i1z.symm Z1;have ez:e≠z:=λx=>by subst x;rw[Z2]at F;cases F;simp at J
   exact K9 Z2 (by simp) λg3 _ s3=>q g3 e (λc o c1 _ c3 _ x=>s3.extBut _ _ c1 (s2 _ _ c3 (s1.extBut _ _ c1 x))) ⟨oe,s3.extBut _ _ ez F,J⟩
 | some x =>
   have hy:ys[k]? = none:=U.elim (λz=>by rw[hx]at z;cases z) id
   refine i7 Y Z hx λg2 HI s2=>Jd ?_;have O2:LL g2 O p r:=s2.extBut _ _ D.TOi1 (s1.extBut _ _ D.TOz hO);refine h8 (Lp O2 rfl (h8 (NW O2 λg3 o3 s3=>?_)));refine h8 (Ql (Jd (h8 (h8 (NQ (h8 (m:=nextOf (.ref j)) ?_))))));refine nx_end hn (hj.up λo e=>s3.extBut _ o D.TOi2.symm (s2.extBut _ o D.i12.symm (s1.extBut _ o D.i2z e))) (hb.up λo e=>s3.extBut _ o D.l2TO (s2.extBut _ o D.l2i1 (s1.extBut _ o D.l2z e))) hy λg4 e s4 he=>?_;obtain⟨oe,F,J⟩:=he;have Z4:OS g4 z T O .ellipsis:=s4 _ _ D.i2z.symm (s3.extBut _ _ D.TOz.symm (s2.extBut _ _ D.i1z.symm Z1));have ez:e≠z:=λx=>by subst x;rw[Z4]at F;cases F;simp at J
   exact K9 Z4 (by simp) λg5 _ s5=>q g5 e (λc o c1 c2 c3 c4 x=>s5.extBut _ _ c1 (s4 _ _ c4 (s3.extBut _ _ c2 (s2.extBut _ _ c3 (s1.extBut _ _ c1 x))))) ⟨oe,s5.extBut _ _ ez F,J⟩
theorem nxt_item {O:Addr}{t:Bool}{k:Nat}{y:hW}{Q:Option hW->z0->Prop}(D:Qk z T O i j a b)(J:OS s.heap z T O .none)(L:LL s.heap T (.ref i) (.ref j))(U:LL s.heap O p r)(hi:At t s.heap i a k)(Y:At u s.heap j b k)(Z:Sq t s.heap a xs)(hb:Sq u s.heap b ys)(hx:xs[k]? = some x)(hy:ys[k]? = some y)(q:∀ h',OS h' z T O (Ls s.heap.objs.size)->LL h' O x y->At t h' i a (k+1)->At u h' j b (k+1)->LL h' s.heap.objs.size x y ->
   (∀ c o,c≠z->c≠O->c≠i->c≠j->s.heap.get? c=some o->h'.get? c=some o)->Q (some (.ref s.heap.objs.size)) { s with heap:=h' }) :
 Jm (model prog w) A (Ow (.ref z)) Q E s:=by
 have ty:s.TypeIs (.ref z) "zip":=⟨_,J,rfl⟩;unfold Ow;exact h8 (NS (Kc (name:=gV "__next__") ty O8 (L5 O8 ty Sh
  (BQ D J L U hi Y Z hb hx hy λh' a1 a2 a3 a4 a5 a6=>Jd (q h' a1 a2 a3 a4 a5 a6)) (RP _))))
theorem nxt_end {O:Addr}{t:Bool}{k:Nat}{Q:Option hW->z0->Prop}(U:A.handled=none)(D:Qk z T O i j a b)(L:OS s.heap z T O .none)(Y:LL s.heap T (.ref i) (.ref j))(Z:LL s.heap O p r)(hi:At t s.heap i a k)(hj:At u s.heap j b k)(ha:Sq t s.heap a xs)(hb:Sq u s.heap b ys)(J:xs[k]? = none∨ys[k]? = none)(q:∀ h',(∀ c o,c≠z->c≠O->c≠i->c≠j->s.heap.get? c=some o->h'.get? c=some o)->Q none { s with heap:=h' }):Jm (model prog w) A (Ow (.ref z)) Q E s:=by
 have ty:s.TypeIs (.ref z) "zip":=⟨_,L,rfl⟩;unfold Ow;refine h8 (NS (Kc (name:=gV "__next__") ty O8 (L5 O8 ty Sh
  (DF U D L Y Z hi hj ha hb J λh' e hk he=>?_) (RP _))))
 obtain⟨o,ho,hc⟩:=he;exact h8 (Sj (T:="StopIteration") (b:=true) ⟨o,ho,hc⟩ isSubtype_stop (Jd (q _ hk)))
noncomputable def itO (t:Bool) (l:Addr):Obj:=match t with|true=>{ cls:=.type "tuple_iterator",data:=.fields #[.ref l,.int 0 0] }|false=>{ cls:=.type "list_iterator",data:=.fields #[.ref l,.int 0 0] }
noncomputable def zH1 (h:Heap) (t:Bool) (a:Addr):Heap:=h.push (itO t a)
noncomputable def zH2 (h:Heap) (t u:Bool) (a b:Addr):Heap:=(zH1 h t a).push (itO u b)
noncomputable def zH3 (h:Heap) (t u:Bool) (a b:Addr):Heap:=(zH2 h t u a b).push { cls:=.type "tuple",data:=.seq #[.ref h.objs.size,.ref (zH1 h t a).objs.size] }
noncomputable def zH4 (h:Heap) (t u:Bool) (a b:Addr):Heap:=(zH3 h t u a b).push { cls:=.type "tuple",data:=.seq #[.none,.none] }
noncomputable def zH5 (h:Heap) (t u:Bool) (a b:Addr):Heap:=(zH4 h t u a b).push { cls:=.type "zip",data:=.fields #[.none,.bool false,.bool false,.ref (zH2 h t u a b).objs.size,.ref (zH3 h t u a b).objs.size] }
theorem uu (t u:Bool)(a b:Addr)(xs ys:Array hW) :
 T8 (MW.«zip.__new__» ⟨[.type "zip",.ref a,.ref b],[]⟩) (λ_ R s=>Sq t s.heap a xs/\Sq u s.heap b ys/\R (.ok (.ret (.ref (zH4 s.heap t u a b).objs.size))) { s with heap:=zH5 s.heap t u a b }) :=
 .of_wp λprog w A R s h=>by
  obtain⟨j,g,d,tk,os⟩:=s;obtain⟨J,L,h⟩:=h;have O:=sub_zip
  cases t <;> cases u
  ·have z:OT (LB ⟨j,g,d,tk,os⟩) a xs:=J;have F:OT (LB ⟨j.push { cls:=.type "list_iterator",data:=.fields #[.ref a,.int 0 0] },g,d,tk,os⟩) b ys:=Sk L _
   wp_walk using KP z,KP F
   exact⟨_,rfl,h⟩
  ·have z:OT (LB ⟨j,g,d,tk,os⟩) a xs:=J;have F:Ol (LB ⟨j.push { cls:=.type "list_iterator",data:=.fields #[.ref a,.int 0 0] },g,d,tk,os⟩) b ys:=RQ L _
   wp_walk using KP z,Kz F
   exact⟨_,rfl,h⟩
  ·have z:Ol (LB ⟨j,g,d,tk,os⟩) a xs:=J;have F:OT (LB ⟨j.push { cls:=.type "tuple_iterator",data:=.fields #[.ref a,.int 0 0] },g,d,tk,os⟩) b ys:=Sk L _
   wp_walk using Kz z,KP F
   exact⟨_,rfl,h⟩
  ·have z:Ol (LB ⟨j,g,d,tk,os⟩) a xs:=J;have F:Ol (LB ⟨j.push { cls:=.type "tuple_iterator",data:=.fields #[.ref a,.int 0 0] },g,d,tk,os⟩) b ys:=RQ L _
   wp_walk using Kz z,Kz F
   exact⟨_,rfl,h⟩
theorem at_new {t:Bool}(e:h.get? i=some (itO t l)):At t h i l 0:=by
 cases t <;> exact⟨_,e,rfl,rfl⟩
theorem call_zip {t:Bool}{Q:hW->z0->Prop}(Y:Sq t s.heap a xs)(Z:Sq u s.heap b ys)(q:∀ h',OS h' (s.heap.objs.size+4) (s.heap.objs.size+2) (s.heap.objs.size+3) .none->LL h' (s.heap.objs.size+2) (.ref s.heap.objs.size) (.ref (s.heap.objs.size+1)) ->
   LL h' (s.heap.objs.size+3) .none .none->At t h' s.heap.objs.size a 0->At u h' (s.heap.objs.size+1) b 0->h'.objs.size=s.heap.objs.size+5 ->
   (∀ c o,s.heap.get? c=some o->h'.get? c=some o)->Q (.ref (s.heap.objs.size+4)) { s with heap:=h' }) :
 Jm (model prog w) A (call (.type "zip") [.ref a,.ref b]) Q E s:=by
 refine callType_new F.called_zip (by decide) (F.typeCall_zip_2 _ _) (F.newCall_zip_2 _ _) (λobj=>F.args_object_init_3 obj _ _) F.entry_zip_new (uu t u a b xs ys) ⟨Y,Z,?_⟩
 have z:(zH1 s.heap t a).objs.size=s.heap.objs.size+1:=Kh ..;have J:(zH2 s.heap t u a b).objs.size=s.heap.objs.size+2:=by unfold zH2;rw[Kh,z]
 have L:(zH3 s.heap t u a b).objs.size=s.heap.objs.size+3:=by unfold zH3;rw[Kh,J]
 have O:(zH4 s.heap t u a b).objs.size=s.heap.objs.size+4:=by unfold zH4;rw[Kh,L]
 have z5:(zH5 s.heap t u a b).objs.size=s.heap.objs.size+5:=by unfold zH5;rw[Kh,O]
 have k5:∀ {c o},(zH4 s.heap t u a b).get? c=some o->(zH5 s.heap t u a b).get? c=some o:=λe=>s9 _ e;have j:∀ {c o},(zH3 s.heap t u a b).get? c=some o->(zH4 s.heap t u a b).get? c=some o:=λe=>s9 _ e;have k3:∀ {c o},(zH2 s.heap t u a b).get? c=some o->(zH3 s.heap t u a b).get? c=some o:=λe=>s9 _ e;have k2:∀ {c o},(zH1 s.heap t a).get? c=some o->(zH2 s.heap t u a b).get? c=some o:=λe=>s9 _ e;have k1:∀ {c o},s.heap.get? c=some o->(zH1 s.heap t a).get? c=some o:=λe=>s9 _ e;have f:∀ t l,(itO t l).isFreed=false:=λt l=>by cases t <;> rfl
 have g5:(zH5 s.heap t u a b).get? (zH4 s.heap t u a b).objs.size=some _:=Jo _ rfl;have U:(zH5 s.heap t u a b).get? (zH3 s.heap t u a b).objs.size=some _:=k5 (Jo _ rfl);have g3:(zH5 s.heap t u a b).get? (zH2 s.heap t u a b).objs.size=some _:=k5 (j (Jo _ rfl));have g2:(zH5 s.heap t u a b).get? (zH1 s.heap t a).objs.size=some _:=k5 (j (k3 (Jo _ (f u b))));have g1:(zH5 s.heap t u a b).get? s.heap.objs.size=some _:=k5 (j (k3 (k2 (Jo _ (f t a)))));show _/\_;rw[J,L,O]at g5;rw[z,J]at g3;rw[L]at U;rw[z]at g2;rw[O];exact⟨⟨_,g5,rfl⟩,q _ g5 g3 U (at_new g1) (at_new g2) z5 λc o x=>k5 (j (k3 (k2 (k1 x))))⟩
end
end Zp
variable {p:Pos}{elts:List Expr}{ta:TA}
section
section
variable {X:Cx} {pins:List (Addr×Obj)} {σ:St} {H:Hp} {s:z0} {h':Heap}
theorem Inv.turnedL {t':Nat}{fp:List Addr}(I:Inv X pins σ H s)(hf:∀ b∈fp,cu X pins H b)(k:∀ b o,b∉fp->s.heap.get? b=some o->h'.get? b=some o):Inv X pins σ H { s with heap:=h',toks:=t' }:=by
 have nit:∀ b u,H b=some u->b∉fp:=λb u e z=>by rw[(hf b z).1]at e;cases e
 refine I.step (g':=s.gens) (d':=s.drawn) (ch:=fp) (λb F=>?_) (λb o _ _ j e _=>k b o j e) (λb o _ _ j e _=>⟨o.slots,k b o j e⟩) (λ_ _ _ _ n=>n)
  (λb o j e=>⟨o,k b o j e⟩) (λ_ _ e=>e) (λ_ _ _ e=>e) (λb ps e=>⟨#[],by rw[e];simp⟩) (λm hm=>?_) (λb u e=>?_) I.bare
 ·obtain⟨_,f1,_,J,f4,L⟩:=hf b F;exact⟨J,f1,f4,L⟩
 ·obtain⟨o,es,ep,ho,r⟩:=hm;exact⟨o,es,ep,k _ o (λz=>(hf _ z).2.1 rfl) ho,r⟩
 ·refine(I.hok b u e).stay (λc v j q=>k c v ?_ q) (λ_ q=>q) λ_ _ q=>q
  rcases j with z|z
  ·rw[z];exact nit b u e
  ·exact nit c _ z
end
def SqV (K:Frag) (t:Bool) (H:Hp) (a:Addr) (xs:List V):Prop:=match t with|true=>SqT K H a xs|false=>SqL K H a xs
theorem Inv.sqv {t:Bool}{xs:List V}(I:Inv X pins σ H s)(h:SqV X.K t H a xs):∃ its:List hW,Vals xs its/\Zp.Sq t s.heap a its.toArray:=by
 cases t with
 |true=>obtain⟨its,r,p,_⟩:=I.tuple h;exact⟨its,r,p⟩
 |false=>obtain⟨its,r,p,_⟩:=I.list h;exact⟨its,r,p.isList⟩
theorem Inv.sqv_inj {t:Bool}{xs ys:List V}(I:Inv X pins σ H s)(h:SqV X.K t H a xs)(h':SqV X.K t H a ys):xs=ys:=by
 cases t with
 |true=>exact I.tuple_inj h h'
 |false=>exact I.list_inj h h'
noncomputable def Itz (K:Frag) (t u:Bool) (a b:Addr):It :=
 ⟨λi H=>∃ xs ys x y,SqV K t H a xs/\SqV K u H b ys/\xs[i]? = some x/\ys[i]? = some y,
  λi H v H'=>∃ p x y,H p=none/\v = .ref p/\H'=upd H p (.tup [x,y]) /\ ∀ xs ys,SqV K t H a xs->SqV K u H b ys->xs[i]? = some x/\ys[i]? = some y,
  λi H=>∃ xs ys,SqV K t H a xs/\SqV K u H b ys/\(xs.length<=i∨ys.length<=i)⟩
theorem wN {cx}{t u:Bool}{z T O i j:Addr}(D:Qk z T O i j a b) :
 gv P w K (.Tuple elts cx pos) (Itz K t u a b) [z,T,O,i,j] z (λk h=>OS h z T O .none/\LL h T (.ref i) (.ref j)/\(∃ p r,LL h O p r)/\Zp.At t h i a k/\Zp.At u h j b k) where
 mem:=by simp
 obj:=λk h ⟨J,L,⟨p,r,U⟩,hi,Y⟩ c F=>by
  simp only[Jl,JB,or_false]at F
  rcases F with rfl|rfl|rfl|rfl|rfl
  ·exact⟨_,J,λv e=>by cases e⟩
  ·exact⟨_,L,λv e=>by cases e⟩
  ·exact⟨_,U,λv e=>by cases e⟩
  ·exact hi.lt
  ·exact Y.lt
 keep:=λk h h' g9 kk=>(by obtain⟨J,L,⟨p,r,U⟩,hi,Y⟩:=g9;exact⟨kk z (by simp) _ J,kk T (by simp) _ L,⟨p,r,kk O (by simp) _ U⟩,hi.up λo e=>kk i (by simp) o e,Y.up λo e=>kk j (by simp) o e⟩)
 item:=by
  intro X hP hw hK F k pins s σ H E I hf st hg;subst hP hw hK;obtain⟨J,L,⟨p,r,U⟩,hi,Y⟩:=st;obtain⟨xs,ys,x,y,qx,qy,ex,ey⟩:=hg;obtain⟨is,rx,px⟩:=I.sqv qx;obtain⟨js,ry,py⟩:=I.sqv qy;obtain⟨ux,HI,rux⟩:=rx.get ex;obtain⟨uy,HJ,ruy⟩:=ry.get ey;refine Zp.nxt_item D J L U hi Y px py (by simpa using HI) (by simpa using HJ) λh1 z1 o1 i1 j1 p1 k1=>⟨_,rfl,?_⟩
  refine wpAny_letOwnedTupleGo_zip (s:={ s with heap:=h1 }) z1 λh2 z2 s2=>?_
  have lt:∀ {c o},s.heap.get? c=some o->c≠s.heap.objs.size:=λe=>JU (Jn e);have nz:s.heap.objs.size≠z:=(lt J).symm;have HK:∃ o,s.heap.get? i=some o:=hi.lt.imp λ_ h=>h.1;have HL:∃ o,s.heap.get? j=some o:=Y.lt.imp λ_ h=>h.1;have up:∀ c o,c≠z->h1.get? c=some o->h2.get? c=some o:=λc o n e=>s2.extBut _ _ n e;have IL:Inv X pins σ (upd H s.heap.objs.size (.tup [x,y])) { s with heap:=s.heap.push { cls:=.type "tuple",data:=.seq #[ux,uy] },toks:=s.toks } :=
   I.laid (λb o e=>s9 _ e) (Jg _) ⟨by rw[td];simp,[ux,uy],.cons rux (.cons ruy .nil),ND _ _⟩
  have fr:∀ c∈[z,T,O,i,j],c≠s.heap.objs.size:=λc F=>by
   simp only[Jl,JB,or_false]at F
   rcases F with rfl|rfl|rfl|rfl|rfl
   ·exact lt J
   ·exact lt L
   ·exact lt U
   ·obtain⟨o,e⟩:=HK;exact lt e
   ·obtain⟨o,e⟩:=HL;exact lt e
  have un:∀ c∈[z,T,O,i,j],upd H s.heap.objs.size (.tup [x,y]) c=none:=λc F=>by
   rw[ai (fr c F)];exact(hf c F).1
  have kk:∀ c o,c∉[z,T,O,i,j]->(s.heap.push { cls:=.type "tuple",data:=.seq #[ux,uy] }).get? c=some o->h2.get? c=some o:=λc o F e=>by
   simp only[Jl,JB,or_false,not_or]at F
   rcases Qm e with⟨rfl,rfl⟩|e
   ·exact up _ _ nz p1
   ·exact up _ _ F.1 (k1 c o F.1 F.2.2.1 F.2.2.2.1 F.2.2.2.2 e)
  have I2:Inv X pins σ (upd H s.heap.objs.size (.tup [x,y])) { s with heap:=h2,toks:=s.toks } :=
   (Inv.turnedL (s:={ s with heap:=s.heap.push { cls:=.type "tuple",data:=.seq #[ux,uy] },toks:=s.toks }) (h':=h2) (t':=s.toks) (fp:=[z,T,O,i,j]) IL (λc F=>⟨un c F,(hf c F).2⟩) kk)
  refine⟨.ref s.heap.objs.size,_,I2,rfl,⟨_,x,y,I.hok.fresh (Jg _),rfl,rfl,λxs' ys' q1 q2=>?_⟩,⟨z2,up _ _ D.TIz (k1 _ _ D.TIz D.TITO D.TIi1 D.TIi2 L),⟨_,_,up _ _ D.TOz o1⟩,i1.up λo e=>up _ o D.i1z e,j1.up λo e=>up _ o D.i2z e⟩,un⟩;rw[I.sqv_inj q1 qx,I.sqv_inj q2 qy];exact⟨ex,ey⟩
 done:=by
  intro X hP hw hK F k pins s σ H E I hf st hg;subst hP hw hK;obtain⟨J,L,⟨p,r,U⟩,hi,Y⟩:=st;obtain⟨xs,ys,qx,qy,Z⟩:=hg;obtain⟨is,rx,px⟩:=I.sqv qx;obtain⟨js,ry,py⟩:=I.sqv qy;have lx:=rx.length;have ly:=ry.length;refine Zp.nxt_end (I.ok.hd F) D J L U hi Y px py (Z.imp (λe=>by simp;lia) (λe=>by simp;lia)) λh1 k1=>⟨rfl,I.turnedL (t':=s.toks) hf λc o F e=>?_⟩
  simp only[Jl,JB,or_false,not_or]at F;exact k1 c o F.1 F.2.2.1 F.2.2.2.1 F.2.2.2.2 e
 self:=λA k s Q E st h=>Sl st.1 h
section
variable {X:Cx}
noncomputable def F7 (K:Frag) (ta:TA):TI:=λσ H R=>ta σ H λvs H1=>∃ a b t u xs ys,vs=[.ref a,.ref b]/\SqV K t H1 a xs/\SqV K u H1 b ys/\R (Itz K t u a b) H1
theorem BR {cx}{a b:Expr}(L:Gl X "zip")(hm:X.mg "zip" = none)(O:PA X [a,b] ta)(U:Jt [a,b] X.env=[(false,eval a X.env),(false,eval b X.env)])(j:Jt [b] X.env=[(false,eval b X.env)]) :
 PI X (.Tuple elts cx pos) (.Call (.Name "zip" p) [a,b] [] pos') (F7 X.K ta):=by
 intro pins s σ H R I h;refine Call_ (eO I L hm (u:=.type "zip") (by decide +kernel) (Lf (thn (O pos' pins s σ H _ I h) λus s1 g9=>?_) (by rw[U,j]) (by rw[j];rfl)));obtain⟨vs,H1,z,Y,Z⟩:=g9
 obtain⟨a',b',t,u,xs,ys,rfl,qx,qy,q⟩:=Z
 cases Y with
 | cons r rr =>
   cases rr with
   | cons r' rr =>
     cases rr
     cases r
     cases r'
     obtain⟨is,rx,px⟩:=z.sqv qx;obtain⟨js,ry,py⟩:=z.sqv qy;refine Zp.call_zip px py λh1 F t1 o1 i1 j1 sz k1=>?_;refine Sl F ?_;have la:a'<s1.heap.objs.size:=by cases t <;> (obtain⟨o,e,_⟩:=px;exact Jn e)
     have lb:b'<s1.heap.objs.size:=by cases u <;> (obtain⟨o,e,_⟩:=py;exact Jn e)
     have D:Qk (s1.heap.objs.size+4) (s1.heap.objs.size+2) (s1.heap.objs.size+3) s1.heap.objs.size (s1.heap.objs.size+1) a' b':=by constructor <;> (intro e;subst_vars;first|lia|(simp only[Addr]at *;lia))
     refine⟨_,_,_,_,H1,rfl,z.kept (t':=s1.toks) k1,wN (t:=t) (u:=u) D,⟨F,t1,⟨_,_,o1⟩,i1,j1⟩,λc J=>?_,q⟩;have hle:s1.heap.objs.size<=c:=by
      simp only[Jl,JB,or_false]at J
      rcases J with rfl|rfl|rfl|rfl|rfl <;> lia
     exact z.fpOk hle (z.hok.fresh hle)
end
end
namespace Zp
end Zp
namespace En
variable {z i a:Addr}{oo:Int}{xs:Array hW}{old:hW}
section
variable {prog:Jy} {w:JQ} {A:JI} {E:hW->z0->Prop} {s:z0}
open Builtin.SmallTypes Zp in
theorem BS {t:Bool}{k:Nat}{x:hW}{Q:hW->z0->Prop}(Y:P4 s.heap z i ((k:Int)+oo) old)(hi:At t s.heap i a k)(ha:Sq t s.heap a xs)(hx:xs[k]? = some x)(j:z≠i)(q:∀ h',Sn h' z i ((k:Int)+oo+1) x s.heap.objs.size->At t h' i a (k+1)->h'.get? s.heap.objs.size=some { cls:=.type "tuple",data:=.seq #[.int ((k:Int)+oo) s.toks,x] } ->
   (∀ b o,b≠z->b≠i->s.heap.get? b=some o->h'.get? b=some o)->Q (.ref s.heap.objs.size) { s with heap:=h',toks:=s.toks+1 }) :
 Jm (model prog w) A (MW.«enumerate.__next__» ⟨[.ref z],[]⟩) (λfin s'=>∃ v,fin = .done (.ret v)/\Q v s') E s:=by
 obtain⟨F,g,d,tk,os⟩:=s;refine h8 (m:=field (.ref z) 2) (JR Y rfl (x:=.ref i) rfl (h8 (i7 hi ha hx λg1 i1 s1=>?_)));have Z:Kr i F g1:=s1;clear s1;have Z1:P4 g1 z i ((k:Int)+oo) old:=(Z.2 z j).trans Y;refine h8 (m:=field (.ref z) 3) (JR (s:=⟨g1,g,d,tk,os⟩) Z1 rfl (x:=Ls ((k:Int)+oo)) rfl ?_);refine h8 (m:=field (.ref z) 4) (JR (s:=⟨g1,g,d,tk,os⟩) Z1 rfl (x:=.none) rfl ?_);refine h8 (m:=mkInt ((k:Int)+oo)) (wpAny_mkInt ?_);refine h8 (m:=setField (.ref z) 3 (Ls ((k:Int)+oo+1))) (K9 (s:=⟨g1,g,d,tk+1,os⟩) Z1 (by simp) λg2 z2 s2=>?_)
 have S2:Kr z g1 g2:=s2;have Z2:P4 g2 z i ((k:Int)+oo+1) old:=z2;clear s2 z2;refine h8 (m:=setField (.ref z) 4 .none) (K9 (s:=⟨g2,g,d,tk+1,os⟩) Z2 (by simp) λg3 z3 s3=>?_)
 have S3:Kr z g2 g3:=s3;have Z3:P4 g3 z i ((k:Int)+oo+1) old:=z3;clear s3 z3;refine h8 (m:=newTuple [.int ((k:Int)+oo) tk,x]) (wpAny_newTuple ?_);have L:P4 (g3.push { cls:=.type "tuple",data:=.seq #[.int ((k:Int)+oo) tk,x] }) z i ((k:Int)+oo+1) old:=s9 _ Z3;have sz:g3.objs.size=F.objs.size:=by rw[S3.1,S2.1,Z.1]
 have zl:z<F.objs.size:=Jn Y;have T4:(g3.push { cls:=.type "tuple",data:=.seq #[.int ((k:Int)+oo) tk,x] }).get? F.objs.size=some { cls:=.type "tuple",data:=.seq #[.int ((k:Int)+oo) tk,x] }:=by rw[<- sz];exact Jo _ rfl
 have K4:∀ b o,b≠z->b≠i->F.get? b=some o->(g3.push { cls:=.type "tuple",data:=.seq #[.int ((k:Int)+oo) tk,x] }).get? b=some o:=λb o bz bi e =>
  s9 _ (S3.extBut b o bz (S2.extBut b o bz (Z.extBut b o bi e)))
 have I4:At t (g3.push { cls:=.type "tuple",data:=.seq #[.int ((k:Int)+oo) tk,x] }) i a (k+1):=i1.up λo e=>s9 _ (S3.extBut i o j.symm (S2.extBut i o j.symm e));rw[sz];generalize g3.push { cls:=.type "tuple",data:=.seq #[.int ((k:Int)+oo) tk,x] }=J at L T4 K4 I4;refine h8 (m:=ownedTupleIsFree (.ref z)) ?_;unfold ownedTupleIsFree;refine h8 (JR (s:=⟨J,g,d,tk+1,os⟩) L rfl (x:=.none) rfl (Jd ?_));simp only[if_true];refine h8 (LX (h8 (JR (s:=⟨J,g,d,tk+1,os⟩) L rfl (x:=old) rfl (h8 (K9 (s:=⟨J,g,d,tk+1,os⟩) L (by simp) λg5 z5 s5=>?_)))))
 have S5:Kr z J g5:=s5;have Z5:P4 g5 z i ((k:Int)+oo+1) x:=z5;clear s5 z5;refine h8 (m:=ownedTupleHandOut (.ref z) (.ref F.objs.size)) ?_;unfold ownedTupleHandOut;refine h8 (K9 (s:=⟨g5,g,d,tk+1,os⟩) Z5 (by simp) λO z6 s6=>?_)
 have S6:Kr z g5 O:=s6;have Z6:Sn O z i ((k:Int)+oo+1) x F.objs.size:=z6;clear s6 z6;refine K9 (s:=⟨O,g,d,tk+1,os⟩) Z6 (by simp) λU z7 s7=>?_
 have S7:Kr z O U:=s7;have Z7:Sn U z i ((k:Int)+oo+1) x F.objs.size:=z7;clear s7 z7;have up:∀ b o,b≠z->J.get? b=some o->U.get? b=some o:=λb o bz e=>S7.extBut b o bz (S6.extBut b o bz (S5.extBut b o bz e));exact h8 (Ql (Jd ⟨_,rfl,q U Z7 (I4.up λo e=>up i o j.symm e) (up _ _ (Ly zl) T4) λb o bz bi e=>up b o bz (K4 b o bz bi e)⟩))
theorem nxt_item {t:Bool}{k:Nat}{x:hW}{Q:Option hW->z0->Prop}(J:P4 s.heap z i ((k:Int)+oo) old)(hi:Zp.At t s.heap i a k)(L:Zp.Sq t s.heap a xs)(hx:xs[k]? = some x)(j:z≠i)(q:∀ h',Sn h' z i ((k:Int)+oo+1) x s.heap.objs.size->Zp.At t h' i a (k+1)->h'.get? s.heap.objs.size=some { cls:=.type "tuple",data:=.seq #[.int ((k:Int)+oo) s.toks,x] } ->
   (∀ b o,b≠z->b≠i->s.heap.get? b=some o->h'.get? b=some o)->Q (some (.ref s.heap.objs.size)) { s with heap:=h',toks:=s.toks+1 }) :
 Jm (model prog w) A (Ow (.ref z)) Q E s:=by
 have ty:s.TypeIs (.ref z) "enumerate":=⟨_,J,rfl⟩;unfold Ow;exact h8 (NS (Kc (name:=gV "__next__") ty Mg (L5 Mg ty PY
  (BS J hi L hx j λh' a1 a2 O U=>Jd (q h' a1 a2 O U)) (Pf _))))
theorem nxt_end {t:Bool}{k:Nat}{Q:Option hW->z0->Prop}(J:A.handled=none)(j:P4 s.heap z i ((k:Int)+oo) old)(hi:Zp.At t s.heap i a k)(L:Zp.Sq t s.heap a xs)(hx:xs[k]? = none)(q:∀ h',SE i s.heap h'->Q none { s with heap:=h' }):Jm (model prog w) A (Ow (.ref z)) Q E s:=by
 have ty:s.TypeIs (.ref z) "enumerate":=⟨_,j,rfl⟩;unfold Ow;refine h8 (NS (Kc (name:=gV "__next__") ty Mg (L5 Mg ty PY ?_ (Pf _))));refine h8 (m:=field (.ref z) 2) (JR j rfl (x:=.ref i) rfl (h8 (Zp.nx_end J hi L hx λh' x he O=>?_)));obtain⟨o,ho,U⟩:=O;exact h8 (Sj (T:="StopIteration") (b:=true) ⟨o,ho,U⟩ isSubtype_stop (Jd (q _ he)))
open AutoSeq1 (wpAny_loadPart') in
theorem zJ (l:Addr)(items:Array hW)(n:Nat)(dct:Option Addr)(sl:Array (Option hW)) :
 T8 (MW.«enumerate.__new__» ⟨[.type "enumerate",.ref l],[]⟩) (λ_ R s=>s.heap.get? l=some { cls:=.type "tuple",dict:=dct,data:=.seq items n,slots:=sl } /\
  R (.ok (.ret (.ref (s.heap.push (Zp.itO true l)).objs.size))) { s with heap:=(s.heap.push (Zp.itO true l)).push { cls:=.type "enumerate",data:=.fields #[.none,.bool false,.ref s.heap.objs.size,Ls 0,.none,.none] } }) :=
 .of_wp λprog w A R s h=>by
  obtain⟨J,g,d,tk,os⟩:=s;obtain⟨j,h⟩:=h;have z:=sub_enumerate;have F:Ol (LB ⟨J,g,d,tk,os⟩) l items:=⟨_,j,rfl,n,rfl⟩
  wp_walk using KS j
  refine wpAny_stack_any λst=>Jd ?_
  split
  ·rename_i c _ _ _ _ _
   cases (c==Pz "enumerate") <;> (wp_walk using KS j,Kz F;exact⟨_,rfl,h⟩)
  ·wp_walk using KS j,Kz F
   exact⟨_,rfl,h⟩
theorem call_enum {t:Bool}{l:Addr}{items:Array hW}{Q:hW->z0->Prop}(J:Zp.Sq t s.heap l items)(q:∀ h',P4 h' (s.heap.objs.size+1) s.heap.objs.size 0 .none->Zp.At t h' s.heap.objs.size l 0->(∀ b o,s.heap.get? b=some o->h'.get? b=some o)->Q (.ref (s.heap.objs.size+1)) { s with heap:=h' }) :
 Jm (model prog w) A (call (.type "enumerate") [.ref l]) Q E s:=by
 cases t with
 |false=>exact call_enumerate_list J λh' a b _ k=>q h' a b k
 | true =>
   obtain⟨⟨c,dct,dt,sl⟩,O,U,n,hd⟩:=J;have j:c = .type "tuple":=U;have z:dt = .seq items n:=hd;subst j z;refine callType_new Rl (by decide) (F.typeCall_enumerate_1 _) (F.newCall_enumerate_1 _) (λobj=>F.args_object_init_2 obj _) Q7 (zJ l items n dct sl) ⟨O,?_⟩
   have L:(s.heap.push (Zp.itO true l)).objs.size=s.heap.objs.size+1:=Kh ..;have e:((s.heap.push (Zp.itO true l)).push { cls:=.type "enumerate",data:=.fields #[.none,.bool false,.ref s.heap.objs.size,Ls 0,.none,.none] }).get? (s.heap.push (Zp.itO true l)).objs.size=some _:=Jo _ rfl;rw[L]at e;show _/\_;rw[L];exact⟨⟨_,e,rfl⟩,q _ e (Zp.at_new (s9 _ (Jo _ rfl))) λb o x=>s9 _ (s9 _ x)⟩
end
end En
noncomputable def Ite (K:Frag) (t:Bool) (a:Addr) (oo:Int:=0):It :=
 ⟨λi H=>∃ xs x,SqV K t H a xs/\xs[i]? = some x,
  λi H v H'=>∃ p x,H p=none/\v = .ref p/\H'=upd H p (.tup [.int ((i:Nat)+oo),x]) /\ ∀ xs,SqV K t H a xs->xs[i]? = some x,
  λi H=>∃ xs,SqV K t H a xs/\xs.length<=i⟩
theorem lj {cx}{t:Bool}{z i:Addr}{oo:Int}(J:z≠i) :
 gv P w K (.Tuple elts cx pos) (Ite K t a oo) [z,i] z (λk h=>(∃ old,P4 h z i ((k:Int)+oo) old)/\Zp.At t h i a k) where
 mem:=by simp
 obj:=λk h ⟨⟨old,F⟩,hi⟩ c j=>by
  simp only[Jl,JB,or_false]at j
  rcases j with rfl|rfl
  ·exact⟨_,F,λv e=>by cases e⟩
  ·exact hi.lt
 keep:=λk h h' L kk=>(by obtain⟨⟨old,F⟩,hi⟩:=L;exact⟨⟨old,kk z (by simp) _ F⟩,hi.up λo e=>kk i (by simp) o e⟩)
 item:=by
  intro X O hw U j k pins s σ H E I hf st hg;subst O hw U;obtain⟨⟨old,F⟩,hi⟩:=st;obtain⟨xs,x,qx,ex⟩:=hg;obtain⟨is,rx,px⟩:=I.sqv qx;obtain⟨ux,Y,rux⟩:=rx.get ex;refine En.nxt_item F hi px (by simpa using Y) J λh1 z1 i1 p1 k1=>⟨_,rfl,?_⟩
  refine wpAny_letOwnedTupleGo_enum (s:={ s with heap:=h1,toks:=s.toks+1 }) z1 λh2 z2 s2=>?_
  have lt:∀ {c o},s.heap.get? c=some o->c≠s.heap.objs.size:=λe=>JU (Jn e);have nz:s.heap.objs.size≠z:=(lt F).symm;have Z:∃ o,s.heap.get? i=some o:=hi.lt.imp λ_ h=>h.1;have up:∀ c o,c≠z->h1.get? c=some o->h2.get? c=some o:=λc o n e=>s2.extBut _ _ n e;have IL:Inv X pins σ (upd H s.heap.objs.size (.tup [.int ((k:Nat)+oo),x])) { s with heap:=s.heap.push { cls:=.type "tuple",data:=.seq #[.int ((k:Int)+oo) s.toks,ux] },toks:=s.toks+1 } :=
   I.laid (λb o e=>s9 _ e) (Jg _) ⟨by rw[td];simp,[.int ((k:Int)+oo) s.toks,ux],.cons ⟨_,rfl⟩ (.cons rux .nil),ND _ _⟩
  have fr:∀ c∈[z,i],c≠s.heap.objs.size:=λc j=>by
   simp only[Jl,JB,or_false]at j
   rcases j with rfl|rfl
   ·exact lt F
   ·obtain⟨o,e⟩:=Z;exact lt e
  have un:∀ c∈[z,i],upd H s.heap.objs.size (.tup [.int ((k:Nat)+oo),x]) c=none:=λc j=>by
   rw[ai (fr c j)];exact(hf c j).1
  have kk:∀ c o,c∉[z,i]->(s.heap.push { cls:=.type "tuple",data:=.seq #[.int ((k:Int)+oo) s.toks,ux] }).get? c=some o->h2.get? c=some o:=λc o j e=>by
   simp only[Jl,JB,or_false,not_or]at j
   rcases Qm e with⟨rfl,rfl⟩|e
   ·exact up _ _ nz p1
   ·exact up _ _ j.1 (k1 c o j.1 j.2 e)
  have I2:Inv X pins σ (upd H s.heap.objs.size (.tup [.int ((k:Nat)+oo),x])) { s with heap:=h2,toks:=s.toks+1 } :=
   Inv.turnedL (s:={ s with heap:=s.heap.push { cls:=.type "tuple",data:=.seq #[.int ((k:Int)+oo) s.toks,ux] },toks:=s.toks+1 }) (h':=h2) (t':=s.toks+1) (fp:=[z,i]) IL (λc j=>⟨un c j,(hf c j).2⟩) kk
  refine⟨.ref s.heap.objs.size,_,I2,rfl,⟨_,x,I.hok.fresh (Jg _),rfl,rfl,λxs' q1=>?_⟩,⟨⟨ux,by have e9:(((k+1:Nat):Int)+oo)=(k:Int)+oo+1:=(by lia);rw[e9];exact z2⟩,i1.up λo e=>up _ o J.symm e⟩,un⟩
  rw[I.sqv_inj q1 qx];exact ex
 done:=by
  intro X O hw U j k pins s σ H E I hf st hg;subst O hw U;obtain⟨⟨old,F⟩,hi⟩:=st;obtain⟨xs,qx,HI⟩:=hg;obtain⟨is,rx,px⟩:=I.sqv qx;have lx:=rx.length;refine En.nxt_end (I.ok.hd j) F hi px (by simp;lia) λh1 k1=>⟨rfl,I.turnedL (t':=s.toks) hf λc o j e=>?_⟩
  simp only[Jl,JB,or_false,not_or]at j;exact k1 c o j.2 e
 self:=λA k s Q E L h=>(by obtain⟨⟨old,F⟩,_⟩:=L;exact OU F h)
section
variable {X:Cx}
noncomputable def DG (K:Frag) (ta:TA):TI:=λσ H R=>ta σ H λvs H1=>∃ a t xs,vs=[.ref a]/\SqV K t H1 a xs/\R (Ite K t a) H1
theorem zK {cx}{a:Expr}(J:Gl X "enumerate")(hm:X.mg "enumerate" = none)(L:PA X [a] ta)(O:Jt [a] X.env=[(false,eval a X.env)]) :
 PI X (.Tuple elts cx pos) (.Call (.Name "enumerate" p) [a] [] pos') (DG X.K ta):=by
 intro pins s σ H R I h;refine Call_ (eO I J hm (u:=.type "enumerate") boot_enumerate (Lf (thn (L pos' pins s σ H _ I h) λus s1 g9=>?_) O rfl));obtain⟨vs,H1,j,U,Y⟩:=g9;obtain⟨a',t,xs,rfl,qx,q⟩:=Y
 cases U with
 | cons r rr =>
   cases rr
   cases r
   obtain⟨is,rx,px⟩:=j.sqv qx;refine En.call_enum px λh1 z Z k1=>?_;refine OU z ?_;refine⟨_,_,_,_,H1,rfl,j.kept (t':=s1.toks) k1,lj (t:=t) (a:=a') (oo:=0) (by simp),⟨⟨_,z⟩,Z⟩,λc F=>?_,q⟩
   have hle:s1.heap.objs.size<=c:=by
    simp only[Jl,JB,or_false]at F
    rcases F with rfl|rfl <;> lia
   exact j.fpOk hle (j.hok.fresh hle)
end
namespace Rv
end Rv
section
noncomputable abbrev NK:=List (Int ⊕ List Int)
noncomputable def DH (ks:List Int):Int:=reduceHash (OM (ks.map hashInt))
noncomputable def DI:Int ⊕ List Int->Int
 |.inl i=>hashInt i
 |.inr ks=>DH ks
noncomputable def DJ (ks:NK):Int:=reduceHash (OM (ks.map DI))
noncomputable def yU (a:Addr) (xs:List (NK×Addr×hW)):Heap->Prop:=λh=>xs.length<=Je/\(a==LV)=false /\
 ∃ o es ep,h.get? a=some o/\o.ExactDict/\o.data = .dict es ep/\es.toList=xs.map (λx=>(⟨DJ x.1,.ref x.2.1,x.2.2⟩:DictEntry))/\(xs.map (·.1)).Nodup
noncomputable def Kt1 (H:Hp):Int ⊕ List Int->V->Prop
 |.inl i,v=>v = .int i
 |.inr ks,v=>∃ b,v = .ref b/\H b=some (.tup (ks.map V.int))
def Kt (H:Hp) (k:NK) (b:Addr):Prop:=∃ vs,H b=some (.tup vs)/\KI (Kt1 H) k vs
theorem Kt.keeps {k:NK}(x:Kt H k b)(j:∀ b ys,H b=some (.tup ys)->H' b=some (.tup ys)):Kt H' k b:=by
 obtain⟨vs,e,p⟩:=x;refine⟨vs,j _ _ e,Tx p λq v z=>?_⟩
 cases q with
 |inl i=>exact z
 |inr ks=>obtain⟨c,e,q⟩:=z;exact⟨c,e,j _ _ q⟩
end
namespace Mi
variable {a p:Addr}{K:Frag}{H H':Hp}{xs vs:List V}{i:Nat}{v:V}{x:Str}{σ:St}{ho:HO}{X:Cx}{e:Expr}
section
inductive D where
 |non|bl (b:Bool)|int (i:Int)|str (x:Str)|tup (ds:List D)|con (ds:List D)|ref (a:Addr)|fn (x:Str)
inductive O where
 |lst (ds:List D)
 |dct (t:Bool) (kvs:List (D×D))
 |fdc (kvs:List (D×D))
 |dcn (kvs:List (NK×D))
 |fdn (kvs:List (NK×D))
 |tab (pos:Pos) (q:Str)
noncomputable abbrev Mem:=Addr->Option O
noncomputable def fz:Option O->Bool
 |some (.lst _)=>false
 |some (.dct _ _)=>false
 |some (.dcn _)=>false
 |some (.tab _ _)=>false
 |_=>true
noncomputable abbrev am:=List (Option D)
noncomputable def af (M:Mem) (a:Addr) (o:O):Mem:=λb=>if b=a then some o else M b
theorem aa {M:Mem}{o:O}:af M a o a=some o:=by unfold af;rw[if_pos rfl]
theorem ax {M:Mem}{b:Addr}{o:O}(h:b≠a):af M a o b=M b:=by unfold af;rw[if_neg h]
def SqF (K:Frag) (H:Hp) (a:Addr) (xs:List V):Prop :=
 (∃ o,H a=some (.frz o (.lst xs))) ∨
  ∃ (o:Obj) (its:Array hW) (n:Nat),K.lookup a=some o/\o.cls = .type "list" /\ o.dict=none/\o.data = .seq its n/\its.size<=Je/\Vals xs its.toList
theorem SqF.sq (h:SqF K H a xs):SqL K H a xs:=by
 rcases h with⟨o,h⟩|h
 ·exact .inl (.inr ⟨o,h⟩)
 ·exact .inr h
noncomputable def fk2:Bool:=true
noncomputable def fk3:Bool:=true
noncomputable def fk:List D->Bool
 |[.int _,.int _,.int _]=>true
 |[.tup _,_]=>true
 |[.int _,_]=>fk2
 |[]=>false
 |_=>fk3
def TupR (K:Frag) (H:Hp) (ds:List D) (a:Addr) (vs:List V):Prop:=H a=some (.tup vs)∨(fk ds=false/\SqT K H a vs)
theorem TupR.sq {ds:List D}(h:TupR K H ds a vs):SqT K H a vs:=h.elim SqT.of (·.2)
mutual
noncomputable def RD (K:Frag) (H:Hp):D->V->Prop
 |.non,v=>v = .non
 |.bl b,v=>v = .bl b
 |.int i,v=>v = .int i
 |.str x,v=>v = .str x
 |.tup ds,v=>∃ a vs,v = .ref a/\TupR K H ds a vs/\RDs K H ds vs
 |.con ds,v=>∃ a vs,v = .ref a/\SqF K H a vs/\RDs K H ds vs
 |.ref a,v=>v = .ref a
 |.fn x,v=>∃ f,v = .ref f/\Lg K K6 x=some (some (.ref f))
noncomputable def RDs (K:Frag) (H:Hp):List D->List V->Prop
 |[],vs=>vs=[]
 |d::ds,vs=>∃ v r,vs=v::r/\RD K H d v/\RDs K H ds r
end
structure Stab (H H':Hp):Prop where
 tup:∀ a xs,H a=some (.tup xs)->H' a=some (.tup xs)
 frz:∀ a o u,H a=some (.frz o u)->H' a=some (.frz o u)
theorem Stab.sqT (st:Stab H H')(h:SqT K H a xs):SqT K H' a xs:=by
 rcases h with(h|⟨o,h⟩)|h
 ·exact .inl (.inl (st.tup _ _ h))
 ·exact .inl (.inr ⟨o,st.frz _ _ _ h⟩)
 ·exact .inr h
theorem Stab.sqF (st:Stab H H')(h:SqF K H a xs):SqF K H' a xs:=by
 rcases h with⟨o,h⟩|h
 ·exact .inl ⟨o,st.frz _ _ _ h⟩
 ·exact .inr h
mutual
theorem RD.mono {K:Frag}{H H':Hp}(st:Stab H H'):∀ {d:D} {v:V},RD K H d v->RD K H' d v
 |.non,_,h=>h
 |.bl _,_,h=>h
 |.int _,_,h=>h
 |.str _,_,h=>h
 |.tup ds,v,h=>by
  unfold RD at h ⊢;obtain⟨a,vs,e,q,r⟩:=h;exact⟨a,vs,e,q.imp (st.tup _ _) (λz=>⟨z.1,st.sqT z.2⟩),RDs.mono st r⟩
 |.con ds,v,h=>by
  unfold RD at h ⊢;obtain⟨a,vs,e,q,r⟩:=h;exact⟨a,vs,e,st.sqF q,RDs.mono st r⟩
 |.ref _,_,h=>h
 |.fn _,_,h=>by unfold RD at h ⊢;exact h
theorem RDs.mono {K:Frag}{H H':Hp}(st:Stab H H'):∀ {ds:List D} {vs:List V},RDs K H ds vs->RDs K H' ds vs
 |[],_,h=>h
 | d::ds,vs,h=>by
   unfold RDs at h ⊢;obtain⟨v,r,e,h1,h2⟩:=h;exact⟨v,r,e,RD.mono st h1,RDs.mono st h2⟩
end
section
variable {K:Frag} {H H':Hp}
theorem Tq {i:Int}:RD K H (.int i) v↔v = .int i:=by unfold RD;exact RT
theorem Tt {b:Bool}:RD K H (.bl b) v↔v = .bl b:=by unfold RD;exact RT
theorem Tv:RD K H .non v↔v = .non:=by unfold RD;exact RT
theorem Tr:RD K H (.str x) v↔v = .str x:=by unfold RD;exact RT
theorem Ts:RD K H (.ref a) v↔v = .ref a:=by unfold RD;exact RT
theorem TQ:RD K H (.fn x) v ↔ ∃ f,v = .ref f/\Lg K K6 x=some (some (.ref f)):=by rw[RD]
theorem TF {ds:List D}:RD K H (.tup ds) v ↔ ∃ a vs,v = .ref a/\TupR K H ds a vs/\RDs K H ds vs:=by rw[RD]
theorem TJ {ds:List D}(h:∃ a vs,v = .ref a/\H a=some (.tup vs)/\RDs K H ds vs):RD K H (.tup ds) v:=TF.mpr (let ⟨a,vs,e,h,r⟩:=h; ⟨a,vs,e,.inl h,r⟩)
theorem Tw {ds:List D}(h:RD K H (.tup ds) v):∃ a vs,v = .ref a/\SqT K H a vs/\RDs K H ds vs:=let ⟨a,vs,e,h,r⟩:=TF.mp h; ⟨a,vs,e,h.sq,r⟩
theorem TU {ds:List D}(f:fk ds=true)(h:RD K H (.tup ds) v):∃ a vs,v = .ref a/\H a=some (.tup vs)/\RDs K H ds vs:=let ⟨a,vs,e,h,r⟩:=TF.mp h; ⟨a,vs,e,h.elim id λz=>(by rw[f]at z;cases z.1),r⟩
theorem Tz {ds:List D}:RD K H (.con ds) v ↔ ∃ a vs,v = .ref a/\SqF K H a vs/\RDs K H ds vs:=by rw[RD]
theorem RDs.nil_iff:RDs K H [] vs↔vs=[]:=by rw[RDs]
theorem Tu {d:D}{ds:List D}:RDs K H (d::ds) vs ↔ ∃ v r,vs=v::r/\RD K H d v/\RDs K H ds r:=by rw[RDs]
theorem RDs.nil:RDs K H [] []:=RDs.nil_iff.mpr rfl
theorem RDs.cons {d:D}{ds:List D}{v:V}{vs:List V}(h:RD K H d v)(r:RDs K H ds vs):RDs K H (d::ds) (v::vs):=Tu.mpr ⟨v,vs,rfl,h,r⟩
theorem RDs.length:∀ {ds:List D} {vs:List V},RDs K H ds vs->vs.length=ds.length
 |[],_,h=>by rw[RDs.nil_iff.mp h];rfl
 | d::ds,_,h=>by
   obtain⟨v,r,rfl,_,h2⟩:=Tu.mp h;simp[RDs.length h2]
theorem RDs.get:∀ {ds:List D} {vs:List V} {i:Nat} {d:D},RDs K H ds vs->ds[i]? = some d -> ∃ v,vs[i]? = some v/\RD K H d v
 |[],_,_,_,_,e=>by simp at e
 | d::ds,_,0,d',h,e=>by
   obtain⟨v,r,rfl,h1,h2⟩:=Tu.mp h;simp at e;subst e;exact⟨v,rfl,h1⟩
 | d::ds,_,i+1,d',h,e=>by
   obtain⟨v,r,rfl,h1,h2⟩:=Tu.mp h;obtain⟨u,j,z⟩:=RDs.get (i:=i) (d:=d') h2 (by simpa using e)
   exact⟨u,by simpa using j,z⟩
theorem RDs.getV {ds:List D}(h:RDs K H ds vs)(e:vs[i]? = some v):∃ d,ds[i]? = some d/\RD K H d v:=by
 have F:=h.length;have hi:i<vs.length:=(Jw.mp e).1;obtain⟨d,hd⟩:∃ d,ds[i]? = some d:=⟨ds[i]'(by lia),Jh (by lia)⟩
 obtain⟨u,j,z⟩:=h.get hd;rw[e]at j;cases j;exact⟨d,hd,z⟩
theorem RDs.append:∀ {ds es:List D} {vs us:List V},RDs K H ds vs->RDs K H es us->RDs K H (ds++es) (vs++us)
 |[],_,_,_,h,q=>by rw[RDs.nil_iff.mp h];exact q
 | d::ds,_,_,_,h,q=>by
   obtain⟨v,r,rfl,h1,h2⟩:=Tu.mp h;exact RDs.cons h1 (RDs.append h2 q)
theorem RDs.take:∀ {ds:List D} {vs:List V} (n:Nat),RDs K H ds vs->RDs K H (ds.take n) (vs.take n)
 |[],_,n,h=>by rw[RDs.nil_iff.mp h];simp;exact RDs.nil
 |_::_,_,0,h=>by simp;exact RDs.nil
 | d::ds,_,n+1,h=>by
   obtain⟨v,r,rfl,h1,h2⟩:=Tu.mp h;exact RDs.cons h1 (RDs.take n h2)
theorem RDs.drop:∀ {ds:List D} {vs:List V} (n:Nat),RDs K H ds vs->RDs K H (ds.drop n) (vs.drop n)
 |[],_,n,h=>by rw[RDs.nil_iff.mp h];simp;exact RDs.nil
 |d::ds,_,0,h=>h
 | d::ds,_,n+1,h=>by
   obtain⟨v,r,rfl,h1,h2⟩:=Tu.mp h;exact RDs.drop n h2
theorem RDs.set:∀ {ds:List D} {vs:List V} (n:Nat) {d:D} {v:V},RD K H d v->RDs K H ds vs->RDs K H (ds.set n d) (vs.set n v)
 |[],_,n,_,_,_,h=>by rw[RDs.nil_iff.mp h];exact RDs.nil
 | d::ds,_,0,_,_,q,h=>by
   obtain⟨v,r,rfl,h1,h2⟩:=Tu.mp h;exact RDs.cons q h2
 | d::ds,_,n+1,_,_,q,h=>by
   obtain⟨v,r,rfl,h1,h2⟩:=Tu.mp h;exact RDs.cons h1 (RDs.set n q h2)
theorem RDs.reverse {ds:List D}(h:RDs K H ds vs):RDs K H ds.reverse vs.reverse:=by
 induction ds generalizing vs with
 |nil=>rw[RDs.nil_iff.mp h];exact RDs.nil
 | cons d ds ih =>
   obtain⟨v,r,rfl,h1,h2⟩:=Tu.mp h;rw[Mj,Mj];exact(ih h2).append (RDs.cons h1 RDs.nil)
theorem RDs.rep {ds:List D}(h:RDs K H ds vs):∀ k:Nat,RDs K H (Jj k ds).flatten (Jj k vs).flatten
 |0=>RDs.nil
 | k+1=>by
   rw[Kj,Kj,Ld,Ld];exact h.append (h.rep k)
theorem RDs.ints:∀ (ns:List Int),RDs K H (ns.map D.int) (ns.map V.int)
 |[]=>RDs.nil
 |n::ns=>RDs.cons (Tq.mpr rfl) (RDs.ints ns)
end
mutual
noncomputable def D.eqb:D->D->Bool
 |.non,.non=>true
 |.bl a,.bl b=>a==b
 |.int a,.int b=>decide (a=b)
 |.str a,.str b=>decide (a=b)
 |.tup a,.tup b=>D.eqbs a b
 |.con a,.con b=>D.eqbs a b
 |.ref a,.ref b=>decide (a=b)
 |.fn a,.fn b=>decide (a=b)
 |_,_=>false
noncomputable def D.eqbs:List D->List D->Bool
 |[],[]=>true
 |a::r,b::s=>D.eqb a b&&D.eqbs r s
 |_,_=>false
end
mutual
theorem TR:∀ (a b:D),D.eqb a b=true->a=b
 |.non,b,h=>by cases b <;> first|rfl|cases h
 |.bl a,b,h=>by cases b <;> first|exact congrArg D.bl (Oq h)|cases h
 |.int a,b,h=>by cases b <;> first|exact congrArg D.int (of_decide_eq_true h)|cases h
 |.str a,b,h=>by cases b <;> first|exact congrArg D.str (of_decide_eq_true h)|cases h
 |.tup a,b,h=>by cases b <;> first|exact congrArg D.tup (TL a _ h)|cases h
 |.con a,b,h=>by cases b <;> first|exact congrArg D.con (TL a _ h)|cases h
 |.ref a,b,h=>by cases b <;> first|exact congrArg D.ref (of_decide_eq_true h)|cases h
 |.fn a,b,h=>by cases b <;> first|exact congrArg D.fn (of_decide_eq_true h)|cases h
theorem TL:∀ (a b:List D),D.eqbs a b=true->a=b
 |[],b,h=>by cases b <;> first|rfl|cases h
 | a::r,b,h=>by
   cases b with
   |nil=>cases h
   | cons b s =>
     have h:=(hX _ _).mp h;rw[TR a b h.1,TL r s h.2]
end
mutual
theorem TN:∀ (a:D),D.eqb a a=true
 |.non=>rfl
 |.bl a=>beq_self_eq_true a
 |.int _=>decide_eq_true rfl
 |.str _=>decide_eq_true rfl
 |.tup a=>TK a
 |.con a=>TK a
 |.ref _=>decide_eq_true rfl
 |.fn _=>decide_eq_true rfl
theorem TK:∀ (a:List D),D.eqbs a a=true
 |[]=>rfl
 |a::r=>(hX _ _).mpr ⟨TN a,TK r⟩
end
noncomputable instance:DecidableEq D:=λa b=>if h:D.eqb a b=true then isTrue (TR a b h) else isFalse λe=>h (by rw[e];exact TN b)
noncomputable def RKey:D->Key->Prop
 |.int i,k=>k = .inl i
 |.str x,k=>k = .inr x
 |_,_=>False
noncomputable def RKeys:D->List Key->Prop
 |.tup ds,ks=>KI RKey ds ks
 |_,_=>False
noncomputable def cM (kvs:List (D×D)) (k:D):Option D:=(kvs.find? λp=>decide (p.1=k)).map (·.2)
noncomputable def nQ (kvs:List (D×D)) (k v:D):List (D×D):=if (kvs.any λp=>decide (p.1=k))=true then kvs.map (λp=>if p.1=k then (p.1,v) else p) else kvs++[(k,v)]
noncomputable def fU:D->Bool
 |.int _=>true
 |.str _=>true
 |_=>false
noncomputable def eQ:D->Bool
 |.tup ds=>ds.all fU&&fk ds
 |_=>false
noncomputable def rZ (t:Bool) (k:D):Bool:=if t then eQ k else fU k
theorem nR {k:D}(h:fU k=true):∃ q,RKey k q:=by
 cases k <;> first|(simp[fU]at h;done)|exact⟨_,rfl⟩
theorem qH:∀ {ds:List D},ds.all fU=true -> ∃ ks,KI RKey ds ks
 |[],_=>⟨[],.nil⟩
 | d::ds,h=>by
   simp only[MQ,hX]at h;obtain⟨k,hk⟩:=nR h.1;obtain⟨ks,j⟩:=qH h.2;exact⟨k::ks,.cons hk j⟩
theorem qI {k:D}(h:eQ k=true):∃ q,RKeys k q:=by
 cases k <;> first|(simp[eQ]at h;done)|exact qH (Qn.mp h).1
theorem qJ {ds:List D}(h:eQ (.tup ds)=true):fk ds=true:=(Qn.mp h).2
noncomputable def RO (K:Frag) (H:Hp) (a:Addr):O->Prop
 |.lst ds=>∃ vs,H a=some (.lst vs)/\RDs K H ds vs
 |.dct false kvs=>∃ ps,H a=some (.dK ps)/\KI (λ(p:D×D) (q:Key×V)=>RKey p.1 q.1/\RD K H p.2 q.2) kvs ps
 |.dct true kvs=>∃ ps,H a=some (.dT ps)/\KI (λ(p:D×D) (q:List Key×V)=>RKeys p.1 q.1/\RD K H p.2 q.2) kvs ps
 |.fdc kvs=>∃ o ps,H a=some (.frz o (.dT ps))/\KI (λ(p:D×D) (q:List Key×V)=>RKeys p.1 q.1/\RD K H p.2 q.2) kvs ps
 |.dcn kvs=>∃ xs,H a=some (.ext (yU a xs))/\KI (λ(p:NK×D) (q:NK×Addr×hW)=>p.1=q.1/\Kt H q.1 q.2.1 /\ ∃ v,RelV v q.2.2/\RD K H p.2 v) kvs xs
 |.fdn kvs=>∃ o xs,H a=some (.frz o (.ext (yU a xs)))/\KI (λ(p:NK×D) (q:NK×Addr×hW)=>p.1=q.1/\Kt H q.1 q.2.1 /\ ∃ v,RelV v q.2.2/\RD K H p.2 v) kvs xs
 |.tab pos q=>F5 H a pos q
def RM (K:Frag) (M:Mem) (H:Hp):Prop:=∀ a o,M a=some o->RO K H a o
def RS (K:Frag) (H:Hp) (σ:St) (ρ:am):Prop:=σ.length = ρ.length /\ ∀ (i:Nat) (d:D),ρ[i]? = some (some d) -> ∃ v,σ[i]? = some (some v)/\RD K H d v
structure Ext (M:Mem) (H:Hp) (M':Mem) (H':Hp):Prop where
 kp:∀ a o,fz (M a)=true->H a=some o->H' a=some o
 nw:∀ a o,fz (M a)=true->H a=some o->M' a=M a
section
variable {K:Frag} {M M' M'':Mem} {H H' H'':Hp}
theorem Ext.keep (x:Ext M H M' H')(a:Addr)(o:HO)(n:M a=none)(e:H a=some o):H' a=some o:=x.kp a o (by rw[n];rfl) e
theorem Ext.new (x:Ext M H M' H')(a:Addr)(o:HO)(n:M a=none)(e:H a=some o):M' a=none:=(x.nw a o (by rw[n];rfl) e).trans n
theorem Ext.refl:Ext M H M H:=⟨λ_ _ _ h=>h,λ_ _ _ _=>rfl⟩
theorem Ext.trans (a:Ext M H M' H')(b:Ext M' H' M'' H''):Ext M H M'' H'' :=
 ⟨λc o n h=>b.kp c o (by rw[a.nw c o n h];exact n) (a.kp c o n h),λc o n h=>(b.nw c o (by rw[a.nw c o n h];exact n) (a.kp c o n h)).trans (a.nw c o n h)⟩
theorem RM.mut (r:RM K M H){o:O}(h:M a=some o):∃ ho,H a=some ho/\(∀ xs,ho ≠ .tup xs)/\(fz (some o)=false -> ∀ ob u,ho ≠ .frz ob u):=by
 have q:=r a o h
 cases o with
 | lst ds =>
   obtain⟨vs,e,_⟩:=q;exact⟨_,e,λ_ z=>(by cases z),λ_ _ _ z=>(by cases z)⟩
 | dct t kvs =>
   cases t with
   |false=>obtain⟨ps,e,_⟩:=q;exact⟨_,e,λ_ z=>(by cases z),λ_ _ _ z=>(by cases z)⟩
   |true=>obtain⟨ps,e,_⟩:=q;exact⟨_,e,λ_ z=>(by cases z),λ_ _ _ z=>(by cases z)⟩
 |fdc kvs=>obtain⟨ob,ps,e,_⟩:=q;exact⟨_,e,λ_ z=>(by cases z),λz=>(by cases z)⟩
 |fdn kvs=>obtain⟨ob,ps,e,_⟩:=q;exact⟨_,e,λ_ z=>(by cases z),λz=>(by cases z)⟩
 |dcn kvs=>obtain⟨xs,e,_⟩:=q;exact⟨_,e,λ_ z=>(by cases z),λ_ _ _ z=>(by cases z)⟩
 |tab pos u=>obtain⟨ps,e,_⟩:=q;exact⟨_,e,λ_ z=>(by cases z),λ_ _ _ z=>(by cases z)⟩
theorem RM.fzT (r:RM K M H)(e:H a=some (.tup xs)):M a=none:=by
 cases q:M a with
 |none=>rfl
 | some o =>
   obtain⟨ho,j,z,_⟩:=r.mut q;rw[e]at j;cases j;exact absurd rfl (z xs)
theorem RM.fzF (r:RM K M H){ob:Obj}{u:HO}(e:H a=some (.frz ob u)):fz (M a)=true:=by
 cases q:M a with
 |none=>rfl
 | some o =>
   obtain⟨ho,j,_,F⟩:=r.mut q;rw[e]at j;cases j
   cases z:fz (some o) with
   |true=>rfl
   |false=>exact absurd rfl (F z ob u)
theorem RM.out (r:RM K M H)(h:H a=none):M a=none:=by
 cases e:M a with
 |none=>rfl
 | some o =>
   obtain⟨ho,q,_⟩:=r.mut e;rw[h]at q;cases q
theorem Ext.stab (r:RM K M H)(x:Ext M H M' H'):Stab H H' where
 tup:=λa xs e=>x.keep a _ (r.fzT e) e
 frz:=λa o u e=>x.kp a _ (r.fzF e) e
theorem RS.mono (st:Stab H H'){ρ:am}(h:RS K H σ ρ):RS K H' σ ρ :=
 ⟨h.1,λi d e=>let ⟨v,q,r⟩:=h.2 i d e; ⟨v,q,r.mono st⟩⟩
theorem RS.set {ρ:am}(h:RS K H σ ρ)(i:Nat){d:D}(r:RD K H d v):RS K H (σ.set i (some v)) (ρ.set i (some d)):=by
 refine⟨by simp[h.1],λj e q=>?_⟩
 by_cases hij:i=j
 ·subst hij;have hi:i < ρ.length:=by
   have:=(Jw.mp q).1;simpa using this
  rw[JY hi]at q
  cases q
  exact⟨v,by rw[JY (by rw[h.1];exact hi)],r⟩
 ·rw[La hij]at q ⊢;exact h.2 j e q
noncomputable def sd (fr:List (Option Nat)) (ρ:am):am:=fr.map λo=>o.bind λj=>(ρ[j]?).join
theorem RS.inh {ρ:am}(h:RS K H σ ρ)(fr:List (Option Nat)):RS K H (inh fr σ) (sd fr ρ):=by
 refine⟨by simp[L2.inh,sd],λi d e=>?_⟩
 unfold sd at e;unfold L2.inh;rw[JF]at e ⊢
 cases q:fr[i]? with
 |none=>rw[q]at e;cases e
 | some o =>
   rw[q]at e
   cases o with
   |none=>cases e
   | some j =>
     have e':some ((ρ[j]?).join)=some (some d):=e
     cases q' : ρ[j]? with
     |none=>rw[q']at e';cases e'
     | some w =>
       rw[q']at e'
       cases e'
       obtain⟨v,v1,v2⟩:=h.2 j d q';exact⟨v,by simp[v1],v2⟩
theorem RO.mono (st:Stab H H'){o:O}(h:RO K H a o)(e:∀ ho,H a=some ho->H' a=some ho):RO K H' a o:=by
 cases o with
 |lst ds=>obtain⟨vs,q,r⟩:=h;exact⟨vs,e _ q,r.mono st⟩
 | dct t kvs =>
   cases t with
   |false=>obtain⟨ps,q,r⟩:=h;exact⟨ps,e _ q,Tx r λ_ _ z=>⟨z.1,z.2.mono st⟩⟩
   |true=>obtain⟨ps,q,r⟩:=h;exact⟨ps,e _ q,Tx r λ_ _ z=>⟨z.1,z.2.mono st⟩⟩
 |fdc kvs=>obtain⟨ob,ps,q,r⟩:=h;exact⟨ob,ps,e _ q,Tx r λ_ _ z=>⟨z.1,z.2.mono st⟩⟩
 |fdn kvs=>obtain⟨ob,xs,q,r⟩:=h;exact⟨ob,xs,e _ q,Tx r λ_ _ j=>(by obtain⟨F,J,v,L,U⟩:=j;exact⟨F,J.keeps st.tup,v,L,U.mono st⟩)⟩
 |dcn kvs=>obtain⟨xs,q,r⟩:=h;exact⟨xs,e _ q,Tx r λ_ _ j=>(by obtain⟨F,J,v,L,U⟩:=j;exact⟨F,J.keeps st.tup,v,L,U.mono st⟩)⟩
 |tab pos u=>obtain⟨ps,Y,Z⟩:=h;exact⟨ps,e _ Y,Z.imp_right λj=>(by obtain⟨c',oc,vs,t,F,J,L⟩:=j;exact⟨c',oc,vs,t,F,st.frz _ _ _ J,L⟩)⟩
theorem RM.new (r:RM K M H)(n:H p=none):RM K M (upd H p ho):=λa o e=>by
 have ne:a≠p:=λz=>by subst z;obtain⟨_,q,_⟩:=r.mut e;rw[n]at q;cases q
 refine(r a o e).mono ⟨λb xs q=>?_,λb o u q=>?_⟩ λj q=>by rw[ai ne];exact q
 ·rw[ai (aZ q n)];exact q
 ·rw[ai (aZ q n)];exact q
theorem TB (n:H p=none):Ext M H M (upd H p ho):=⟨λa o _ e=>by rw[ai (aZ e n)];exact e,λ_ _ _ _=>rfl⟩
theorem RM.lay {o:O}(r:RM K M H)(n:H p=none)(h:RO K (upd H p ho) p o):RM K (af M p o) (upd H p ho):=λa o' e=>by
 by_cases z:a=p
 ·subst z;rw[aa]at e;cases e;exact h
 ·rw[ax z]at e;exact r.new n a o' e
theorem Ext.lay {o:O}(n:H p=none):Ext M H (af M p o) (upd H p ho) :=
 ⟨λa u _ e=>by rw[ai (aZ e n)];exact e,λa u m e=>by rw[ax (aZ e n)]⟩
theorem RM.put {o o0:O}(r:RM K M H)(m:M p=some o0)(h:RO K (upd H p ho) p o)(w:fz (some o0)=false:=by rfl):RM K (af M p o) (upd H p ho):=λa o' e=>by
 by_cases z:a=p
 ·subst z;rw[aa]at e;cases e;exact h
 ·rw[ax z]at e;obtain⟨U,j,F,J⟩:=r.mut m;refine(r a o' e).mono ⟨λb xs q=>?_,λb o u q=>?_⟩ λL q=>by rw[ai z];exact q
  ·rw[ai (λz=>by subst z;rw[j]at q;cases q;exact F xs rfl)];exact q
  ·rw[ai (λz=>by subst z;rw[j]at q;cases q;exact J w o u rfl)];exact q
theorem Ext.put {o o0:O}(m:M p=some o0)(w:fz (some o0)=false:=by rfl):Ext M H (af M p o) (upd H p ho) :=
 ⟨λa u n e=>by rw[ai (λz=>by subst z;rw[m,w]at n;cases n)];exact e,λa u n e=>ax (λz=>by subst z;rw[m,w]at n;cases n)⟩
theorem RM.stabPut {o0:O}(r:RM K M H)(m:M p=some o0)(w:fz (some o0)=false:=by rfl):Stab H (upd H p ho):=(Ext.put (o:=o0) (ho:=ho) m w).stab r
end
noncomputable abbrev QD:=D->Mem->Prop
noncomputable abbrev TEd:=am->Mem->QD->Prop
noncomputable abbrev TTd:=am->Mem->(Bool->Mem->Prop)->Prop
noncomputable abbrev TAd:=am->Mem->(List D->Mem->Prop)->Prop
structure bd where
 nx:am->Mem->Prop
 rt:QD
 bk:am->Mem->Prop:=λ_ _=>False
 ct:am->Mem->Prop:=λ_ _=>False
noncomputable abbrev TSd:=bd->am->Mem->Prop
def ae (T:TEd):Prop:=∀ ρ M Q Q',(∀ d M',Q d M'->Q' d M')->T ρ M Q->T ρ M Q'
def aI (T:TTd):Prop:=∀ ρ M Q Q',(∀ d M',Q d M'->Q' d M')->T ρ M Q->T ρ M Q'
def bw (T:TAd):Prop:=∀ ρ M Q Q',(∀ d M',Q d M'->Q' d M')->T ρ M Q->T ρ M Q'
structure LeD (a b:bd):Prop where
 nx:∀ ρ M,a.nx ρ M->b.nx ρ M
 rt:∀ d M,a.rt d M->b.rt d M
 bk:∀ ρ M,a.bk ρ M->b.bk ρ M
 ct:∀ ρ M,a.ct ρ M->b.ct ρ M
def aJ (T:TSd):Prop:=∀ a b ρ M,LeD a b->T a ρ M->T b ρ M
noncomputable def KE' (K:Frag) (M:Mem) (H:Hp) (Q:VK):QD:=λd M'=>∀ v H',Ext M H M' H'->RM K M' H'->RD K H' d v->Q v H'
noncomputable def KT' (K:Frag) (M:Mem) (H:Hp) (Q:Bool->Hp->Prop):Bool->Mem->Prop:=λb M'=>∀ H',Ext M H M' H'->RM K M' H'->Q b H'
noncomputable def KA' (K:Frag) (M:Mem) (H:Hp) (Q:List V->Hp->Prop):List D->Mem->Prop:=λds M'=>∀ vs H',Ext M H M' H'->RM K M' H'->RDs K H' ds vs->Q vs H'
noncomputable def lE (K:Frag) (T:TEd):TE:=λσ H Q=>∃ ρ M,RS K H σ ρ /\ RM K M H/\T ρ M (KE' K M H Q)
noncomputable def lT (K:Frag) (T:TTd):TT:=λσ H Q=>∃ ρ M,RS K H σ ρ /\ RM K M H/\T ρ M (KT' K M H Q)
noncomputable def lA (K:Frag) (T:TAd):TA:=λσ H Q=>∃ ρ M,RS K H σ ρ /\ RM K M H/\T ρ M (KA' K M H Q)
structure Link (K:Frag) (M:Mem) (H:Hp) (a:bd) (b:bD):Prop where
 nx:∀ ρ M' σ H',Ext M H M' H'->RS K H' σ ρ -> RM K M' H'->a.nx ρ M'->b.nx σ H'
 rt:∀ d M' v H',Ext M H M' H'->RM K M' H'->RD K H' d v->a.rt d M'->b.rt v H'
 bk:∀ ρ M' σ H',Ext M H M' H'->RS K H' σ ρ -> RM K M' H'->a.bk ρ M'->b.bk σ H'
 ct:∀ ρ M' σ H',Ext M H M' H'->RS K H' σ ρ -> RM K M' H'->a.ct ρ M'->b.ct σ H'
noncomputable def lS (K:Frag) (T:TSd):TS:=λD σ H=>∃ ρ M A,RS K H σ ρ /\ RM K M H/\Link K M H A D/\T A ρ M
theorem Link.ext {M M':Mem}{a:bd}{b:bD}(l:Link K M H a b)(x:Ext M H M' H'):Link K M' H' a b :=
 ⟨λρ j σ H2 y=>l.nx ρ j σ H2 (x.trans y),λd j v H2 y=>l.rt d j v H2 (x.trans y),λρ j σ H2 y=>l.bk ρ j σ H2 (x.trans y),λρ j σ H2 y=>l.ct ρ j σ H2 (x.trans y)⟩
theorem PE.imp {t t':TE}(h:PE X e t)(i:∀ σ H Q,t' σ H Q->t σ H Q):PE X e t':=λpins s σ H Q I q=>h pins s σ H Q I (i _ _ _ q)
theorem PT.imp {t t':TT}(h:PT X e t)(i:∀ σ H Q,t' σ H Q->t σ H Q):PT X e t':=λpins s σ H Q I q=>h pins s σ H Q I (i _ _ _ q)
theorem PW.imp {t t':TT}(h:PW X e t)(i:∀ σ H Q,t' σ H Q->t σ H Q):PW X e t':=λwh pins s σ H Q I q=>h wh pins s σ H Q I (i _ _ _ q)
theorem PA.imp {e:List Expr}{t t':TA}(h:PA X e t)(i:∀ σ H Q,t' σ H Q->t σ H Q):PA X e t':=λp pins s σ H Q I q=>h p pins s σ H Q I (i _ _ _ q)
theorem PS.imp {e:Stmt}{t t':TS}(h:PS X e t)(i:∀ D σ H,t' D σ H->t D σ H):PS X e t':=λpins s σ H D I q=>h pins s σ H D I (i _ _ _ q)
theorem PSs.imp {e:List Stmt}{t t':TS}(h:PSs X e t)(i:∀ D σ H,t' D σ H->t D σ H):PSs X e t':=λpins s σ H D I q=>h pins s σ H D I (i _ _ _ q)
end
variable {M M':Mem}{ds:List D}{d:D}{j:Nat}{Q:VK}{ta:TEd}{tr:TAd}{es:List Expr}
section
theorem KE'.ext {j:Mem}{H2:Hp}(x:Ext M H j H2)(h:KE' K M H Q d M'):KE' K j H2 Q d M':=λv H' y=>h v H' (x.trans y)
theorem KT'.ext {j:Mem}{H2:Hp}{Q:Bool->Hp->Prop}{d:Bool}(x:Ext M H j H2)(h:KT' K M H Q d M'):KT' K j H2 Q d M':=λH' y=>h H' (x.trans y)
noncomputable abbrev R2d:=D->D->Mem->QD->Prop
noncomputable abbrev R1d:=D->Mem->QD->Prop
noncomputable abbrev RAd:=List D->Mem->QD->Prop
def ar (r:R2d):Prop:=∀ x y M Q Q',(∀ d M',Q d M'->Q' d M')->r x y M Q->r x y M Q'
def my (r:R1d):Prop:=∀ x M Q Q',(∀ d M',Q d M'->Q' d M')->r x M Q->r x M Q'
def aS (r:RAd):Prop:=∀ x M Q Q',(∀ d M',Q d M'->Q' d M')->r x M Q->r x M Q'
noncomputable def l2 (K:Frag) (rd:R2d):R2:=λv u H Q=>∃ x y M,RM K M H/\RD K H x v/\RD K H y u/\rd x y M (KE' K M H Q)
noncomputable def l1 (K:Frag) (rd:R1d):V->Hp->VK->Prop:=λv H Q=>∃ x M,RM K M H/\RD K H x v/\rd x M (KE' K M H Q)
noncomputable def lR (K:Frag) (rd:RAd):List V->Hp->VK->Prop:=λvs H Q=>∃ ds M,RM K M H/\RDs K H ds vs/\rd ds M (KE' K M H Q)
noncomputable def lMt (K:Frag) (rd:D->List D->Mem->QD->Prop):V->List V->Hp->VK->Prop:=λv vs H Q=>∃ x ds M,RM K M H/\RD K H x v/\RDs K H ds vs/\rd x ds M (KE' K M H Q)
noncomputable def iN (i:Nat):TEd:=λρ M Q=>∃ d,ρ[i]? = some (some d)/\Q d M
noncomputable def wC (d:D):TEd:=λ_ M Q=>Q d M
noncomputable def wOp (rd:R2d) (ta tb:TEd):TEd:=λρ M Q=>ta ρ M λx M1=>tb ρ M1 λy M2=>rd x y M2 Q
noncomputable def wUn (rd:R1d) (ta:TEd):TEd:=λρ M Q=>ta ρ M λx M1=>rd x M1 Q
noncomputable def bA:TAd:=λ_ M Q=>Q [] M
noncomputable def aN (ta:TEd) (tr:TAd):TAd:=λρ M Q=>ta ρ M λx M1=>tr ρ M1 λxs M2=>Q (x::xs) M2
noncomputable def wAr (rd:RAd) (t:TAd):TEd:=λρ M Q=>t ρ M λds M1=>rd ds M1 Q
theorem wP:ae (iN i):=λ_ _ _ _ h j=>(by obtain⟨d,e,q⟩:=j;exact⟨d,e,h _ _ q⟩)
theorem gJ:ae (wC d):=λ_ _ _ _ h q=>h _ _ q
theorem eG {rd:R2d}{tb:TEd}(hr:ar rd)(j:ae ta)(z:ae tb):ae (wOp rd ta tb):=λρ M Q Q' h q =>
 j _ _ _ _ (λx L F=>z _ _ _ _ (λy O J=>hr _ _ _ _ _ h J) F) q
theorem zL {rd:R1d}(hr:my rd)(j:ae ta):ae (wUn rd ta):=λρ M Q Q' h q=>j _ _ _ _ (λx F z=>hr _ _ _ _ h z) q
theorem aB:bw bA:=λ_ _ _ _ h q=>h _ _ q
theorem aG (j:ae ta)(hr:bw tr):bw (aN ta tr):=λρ M Q Q' h q =>
 j _ _ _ _ (λx J z=>hr _ _ _ _ (λxs L F=>h _ _ F) z) q
theorem i8 {rd:RAd}{t:TAd}(hr:aS rd)(j:bw t):ae (wAr rd t):=λρ M Q Q' h q=>j _ _ _ _ (λds F z=>hr _ _ _ _ h z) q
section
variable {X:Cx} {a b:Expr} {ta tb:TEd} {pos:Pos}
theorem BU (F:X.N[i]? = some x)(j:Vis X.env.scope x)(hd:(x==("__debug__":Str))=false)(z:(x==("__classdict__":Str))=false):PE X (.Name x pos) (lE X.K (iN i)):=by
 refine PE.imp (gu F j hd z) λσ H Q h=>?_;obtain⟨ρ,M,rs,rm,d,e,q⟩:=h;obtain⟨v,j,rd⟩:=rs.2 i d e;exact⟨v,j,q v H Ext.refl rm rd⟩
theorem le_int {i:Int}:PE X (.Constant (.int i) j pos) (lE X.K (wC (.int i))) :=
 PE.imp Bf λσ H Q g9=>(by obtain⟨ρ,M,rs,rm,q⟩:=g9;exact q _ H Ext.refl rm (Tq.mpr rfl))
theorem DK {i:Bool}:PE X (.Constant (.bool i) j pos) (lE X.K (wC (.bl i))) :=
 PE.imp Dl λσ H Q g9=>(by obtain⟨ρ,M,rs,rm,q⟩:=g9;exact q _ H Ext.refl rm (Tt.mpr rfl))
theorem BV:PE X (.Constant .none j pos) (lE X.K (wC .non)) :=
 PE.imp jb λσ H Q g9=>(by obtain⟨ρ,M,rs,rm,q⟩:=g9;exact q _ H Ext.refl rm (Tv.mpr rfl))
theorem BW:PE X (.Constant (.str x) j pos) (lE X.K (wC (.str x))) :=
 PE.imp jc λσ H Q g9=>(by obtain⟨ρ,M,rs,rm,q⟩:=g9;exact q _ H Ext.refl rm (Tr.mpr rfl))
theorem i9 {rd:R2d}(hr:ar rd)(ma:ae ta)(mb:ae tb)(σ:St)(H:Hp)(Q:VK)(h:lE K (wOp rd ta tb) σ H Q):tOp (l2 K rd) (lE K ta) (lE K tb) σ H Q:=by
 obtain⟨ρ,M,rs,rm,q⟩:=h;refine⟨ρ,M,rs,rm,ma _ _ _ _ (λx U Y v H1 L j z=>?_) q⟩;refine⟨ρ,U,rs.mono (L.stab rm),j,mb _ _ _ _ (λy Z q2 u H2 O F J=>?_) Y⟩;exact⟨x,y,Z,F,z.mono (O.stab j),J,hr _ _ _ _ _ (λd M' k=>k.ext (L.trans O)) q2⟩
theorem DL {op:Nq}{rd:R2d}(ho:OpR X (Kx op) (l2 X.K rd))(hr:ar rd)(ma:ae ta)(mb:ae tb)(j:PE X a (lE X.K ta))(z:PE X b (lE X.K tb)):PE X (.BinOp a op b pos) (lE X.K (wOp rd ta tb)) :=
 PE.imp (Ds ho j z) (i9 hr ma mb)
theorem BX {op:Qc}{rd:R2d}(ho:OpR X (JM op) (l2 X.K rd))(hr:ar rd)(ma:ae ta)(mb:ae tb)(j:PE X a (lE X.K ta))(z:PE X b (lE X.K tb))(hm:LG op b=false) :
 PE X (.Compare a [op] [b] pos) (lE X.K (wOp rd ta tb)):=PE.imp (zz ho j z hm) (i9 hr ma mb)
noncomputable def dG (t:TEd):TTd:=λρ M Q=>t ρ M λx M1=>∃ k,x = .bl k/\Q k M1
theorem nS {t:TEd}(h:ae t):aI (dG t):=λρ M Q Q' i q=>h _ _ _ _ (λx F j=>(by obtain⟨k,e,z⟩:=j;exact⟨k,e,i _ _ z⟩)) q
theorem nU {t:TEd}(m:ae t)(σ:St)(H:Hp)(Q:Bool->Hp->Prop)(h:lT K (dG t) σ H Q):rK (lE K t) σ H Q:=by
 obtain⟨ρ,M,rs,rm,q⟩:=h;refine⟨ρ,M,rs,rm,m _ _ _ _ (λx L g9 v H1 J j z=>?_) q⟩;obtain⟨k,e,F⟩:=g9;subst e;exact⟨k,Tt.mp z,F H1 J j⟩
theorem BY {op:Qc}{rd:R2d}(ho:OpR X (JM op) (l2 X.K rd))(hr:ar rd)(ma:ae ta)(mb:ae tb)(j:PE X a (lE X.K ta))(z:PE X b (lE X.K tb))(hm:LG op b=false) :
 PT X (.Compare a [op] [b] pos) (lT X.K (dG (wOp rd ta tb))) :=
 PT.imp (qA ho j z hm) λσ H Q h=>by
  have h1:=nU (eG hr ma mb) σ H Q h;exact i9 hr ma mb σ H _ h1
theorem DM {op:UnaryOp}{rd:R1d}(ho:UnR X (unaryOp op) (l1 X.K rd))(hr:my rd)(ma:ae ta)(F:PE X a (lE X.K ta)):PE X (.UnaryOp op a pos) (lE X.K (wUn rd ta)) :=
 PE.imp (Dt ho F) λσ H Q g9=>(by obtain⟨ρ,M,rs,rm,q⟩:=g9;exact⟨ρ,M,rs,rm,ma _ _ _ _ (λx J L v H1 O j z=>⟨x,J,j,z,hr _ _ _ _ (λd M' k=>k.ext O) L⟩) q⟩)
theorem yV {rd:R2d}(ho:IxR X (l2 X.K rd))(hr:ar rd)(ma:ae ta)(mb:ae tb)(j:PE X a (lE X.K ta))(z:PE X b (lE X.K tb))(F:kl b):PE X (.Subscript a b pos) (lE X.K (wOp rd ta tb)) :=
 PE.imp (Dz ho j z F) (i9 hr ma mb)
theorem cN:PA X [] (lA X.K bA):=PA.imp gw λσ H Q g9=>(by obtain⟨ρ,M,rs,rm,q⟩:=g9;exact q _ H Ext.refl rm RDs.nil)
theorem uv (ma:ae ta)(mr:bw tr)(σ:St)(H:Hp)(Q:List V->Hp->Prop)(h:lA K (aN ta tr) σ H Q):yM (lE K ta) (lA K tr) σ H Q:=by
 obtain⟨ρ,M,rs,rm,q⟩:=h;refine⟨ρ,M,rs,rm,ma _ _ _ _ (λx U Y v H1 L j z=>?_) q⟩;refine⟨ρ,U,rs.mono (L.stab rm),j,mr _ _ _ _ (λxs M2 Z vs H2 O F J=>?_) Y⟩;exact Z (v::vs) H2 (L.trans O) F (RDs.cons (z.mono (O.stab j)) J)
theorem bJ (ma:ae ta)(mr:bw tr)(j:PE X e (lE X.K ta))(hr:PA X es (lA X.K tr))(z:Jt (e::es) X.env=(false,eval e X.env)::Jt es X.env) :
 PA X (e::es) (lA X.K (aN ta tr)):=PA.imp (cG j hr z) (uv ma mr)
theorem bB {rd:RAd}{t:TAd}(hr:aS rd)(mt:bw t)(σ:St)(H:Hp)(Q:VK)(h:lE K (wAr rd t) σ H Q):tCB (lR K rd) (lA K t) σ H Q:=by
 obtain⟨ρ,M,rs,rm,q⟩:=h;exact⟨ρ,M,rs,rm,mt _ _ _ _ (λds F J vs H1 L j z=>⟨ds,F,j,z,hr _ _ _ _ (λd M' k=>k.ext L) J⟩) q⟩
noncomputable def se:RAd:=λds M Q=>ds.length<=Je/\Q (.tup ds) M
noncomputable def sf:RAd:=λds M Q=>ds.length<=Je /\ ∀ p,M p=none->Q (.ref p) (af M p (.lst ds))
theorem uw:aS se:=λ_ _ _ _ h j=>(by obtain⟨z,q⟩:=j;exact⟨z,h _ _ q⟩)
theorem uz:aS sf:=λ_ _ _ _ h j=>(by obtain⟨z,q⟩:=j;exact⟨z,λp n=>h _ _ (q p n)⟩)
theorem da (rm:RM K M H)(rd:RDs K H ds vs)(q:KE' K M H Q (.tup ds) M)(n:H p=none):Q (.ref p) (upd H p (.tup vs)):=by
 have x:Ext M H M (upd H p (.tup vs)):=TB n;exact q (.ref p) _ x (rm.new n) (TJ ⟨p,vs,rfl,au,rd.mono (x.stab rm)⟩)
theorem db (rm:RM K M H)(rd:RDs K H ds vs)(q:∀ p,M p=none->KE' K M H Q (.ref p) (af M p (.lst ds)))(n:H p=none):Q (.ref p) (upd H p (.lst vs)):=by
 have x:Ext M H (af M p (.lst ds)) (upd H p (.lst vs)):=Ext.lay n;have x0:Ext M H M (upd H p (.lst vs)):=TB n;exact q p (rm.out n) (.ref p) _ x (rm.lay n ⟨vs,au,rd.mono (x0.stab rm)⟩) (Ts.mpr rfl)
theorem BZ {t:TAd}{k:Nat}(mt:bw t)(h:PA X es (lA X.K t)):PE X (.Tuple es k pos) (lE X.K (wAr se t)) :=
 PE.imp (BH h) λσ H Q F=>(by obtain⟨ρ,M,rs,rm,q⟩:=F;exact⟨ρ,M,rs,rm,mt _ _ _ _ (λds U F vs H1 L J j=>(by obtain⟨z,O⟩:=F;exact⟨by rw[j.length];exact z,λp n=>da J j (O.ext L) n⟩)) q⟩)
theorem C0 {t:TAd}(mt:bw t)(h:PA X es (lA X.K t)):PE X (.List es pos) (lE X.K (wAr sf t)) :=
 PE.imp (BJ h) λσ H Q F=>(by obtain⟨ρ,M,rs,rm,q⟩:=F;exact⟨ρ,M,rs,rm,mt _ _ _ _ (λds U F vs H1 L J j=>(by obtain⟨z,O⟩:=F;exact⟨by rw[j.length];exact z,λp n=>db J j (λp' n'=>(O p' n').ext L) n⟩)) q⟩)
end
end
end Mi
namespace Mi
end Mi
section
theorem iO:fillsNumberSlot (.type "tuple") "mul" = pure false :=
 PyProof.Rows.fillsNumberSlot_seq (id:="tuple.__mul__") (r:=some (.builtin "tuple.__rmul__")) F.slot_tuple_mul.lookup (by decide +kernel) F.slot_tuple_rmul.lookup (by decide +kernel)
theorem nV:seqRepeat? (.type "tuple")=pure (some (.builtin "tuple.__mul__")):=by
 unfold seqRepeat?;rw[Pg (T:="tuple") (name:="__mul__") (id:="tuple.__mul__") F.slot_tuple_mul.lookup (by decide +kernel),Pg (T:="tuple") (name:="__rmul__") (id:="tuple.__rmul__") F.slot_tuple_rmul.lookup (by decide +kernel)]
 rfl
theorem ko (a:Int)(t:Tok)(l:Addr)(items:Array hW)(n:Nat)(d:Option Addr)(sl:Array (Option hW)) :
 T8 (MW.«int.__rmul__» ⟨[.int a t,.ref l],[]⟩) (λ_ R s=>s.heap.get? l=some { cls:=.type "tuple",dict:=d,data:=.seq items n,slots:=sl }/\R (.ok (.ret Value.notImplemented)) s) :=
 .of_wp λprog w A R s h=>by obtain⟨j,g,d,tk,os⟩:=s;obtain⟨z,h⟩:=h;wp_walk;exact⟨_,rfl,h⟩
open AutoSeq1 (wpAny_loadPart') in
theorem uA (l:Addr)(items:Array hW)(n:Nat)(dd:Option Addr)(sl:Array (Option hW))(x:Int)(u:Tok)(h1 : -(2 ^ 63)<=x)(h2:x<2 ^ 63)(J:items.size*x.toNat<=Je) :
 T8 (MW.«tuple.__mul__» ⟨[.ref l,.int x u],[]⟩) (λ_ R s=>s.heap.get? l=some { cls:=.type "tuple",dict:=dd,data:=.seq items n,slots:=sl } /\
  (if items.isEmpty || x==1 then R (.ok (.ret (.ref l))) s else R (.ok (.ret (.ref s.heap.objs.size))) { s with heap:=s.heap.push { cls:=.type "tuple",data:=.seq ((Jj x.toNat items).foldl (· ++ ·) #[]) } })) :=
 .of_wp λprog w A R s h=>by
  obtain⟨hp,g,d,tk,os⟩:=s;obtain⟨z,h⟩:=h;have f1:=AutoSeq1.idx_int;have L:(decide (x < -(2 ^ 63)) || decide (x≥2 ^ 63))=false:=by
   rw[decide_eq_false (by lia),decide_eq_false (by lia)];rfl
  wp_walk using KS z
  refine wpAny_ite_false (decide_eq_false (by rw[L];decide)) ?_
  dsimp only
  by_cases j:(items.isEmpty || x==1)=true
  ·rw[if_pos j]at h
   wp_walk using KS z
   exact⟨_,rfl,h⟩
  ·rw[if_neg j]at h
   wp_walk using KS z
   simp only[MY,not_or]at j
   by_cases e2:x<=0
   ·have F:(decide (x<=0) || items.isEmpty)=true:=by rw[decide_eq_true e2];rfl
    rw[if_pos F];have O:x.toNat=0:=by lia
    rw[O]at h
    wp_walk
    exact⟨_,rfl,h⟩
   ·have F : ¬ (decide (x<=0) || items.isEmpty)=true:=by simp;exact⟨by lia,by simpa using j.1⟩
    rw[if_neg F];have hx:((items.size:Nat):Int)*x=((items.size*x.toNat:Nat):Int):=by
     rw[Int.natCast_mul,QL (by lia)]
    have hs:Je=16777216:=td;have U : ¬ ((items.size:Nat):Int)*x > (2 ^ 63 - 1) / 8:=by rw[hx];lia
    rw[if_neg U];have Y : ¬ OD (((items.size:Nat):Int)*x)=true:=by
     rw[hx];unfold OD;intro Z;have h7:=of_decide_eq_true Z;lia
    rw[if_neg Y]
    wp_walk
    have hsz:((Jj x.toNat items).foldl (· ++ ·) #[]).size<=Je:=by
     have:∀ (k:Nat) (a:Array hW),((Jj k items).foldl (· ++ ·) a).size=a.size+items.size*k:=by
      intro k;induction k with
      |zero=>intro a;simp
      |succ k ih=>intro a;rw[Kj,O0,ih,Array.size_append,Nat.mul_succ];lia
     rw[this];simpa using J
    refine wpAny_ite_false (decide_eq_false (T7.mpr hsz)) ?_
    wp_walk
    exact⟨_,rfl,h⟩
end
section
section
variable {X:Cx}
noncomputable def yW (K:Frag):R2:=λx y H Q=>∃ l k xs,x = .ref l/\y = .int k/\SqT K H l xs /\ -(2 ^ 63)<=k/\k<2 ^ 63/\xs.length*k.toNat<=Je /\
 ((xs=[]∨k=1)->Q (.ref l) H)/\(¬ (xs=[]∨k=1) -> ∀ p,H p=none->Q (.ref p) (upd H p (.tup (Jj k.toNat xs).flatten)))
theorem zM:OpR X (Kx .Mult) (yW X.K):=by
 intro pins s σ H x y v u Q I rx ry h;obtain⟨l,k,xs,rfl,rfl,L,h1,h2,j,O,Y⟩:=h
 cases rx
 obtain⟨t,rfl⟩:=ry;obtain⟨its,r,Z,_⟩:=I.tuple L;have hl:=r.length;obtain⟨⟨cls,dd,dat,sl⟩,e,J,n,hd⟩:=Z;dsimp only at J hd;subst J hd;have hlen:its.toArray.size*k.toNat<=Je:=by rw[Jk,<- hl];exact j
 have f0:∀ m:Nat,Rf (λx1 x2=>x1++x2) #[] (Jj m its.toArray)=(Jj m its).flatten.toArray:=λm=>by
  have:=gG its m [];rw[Md]at this;exact this
 refine OK (T:="tuple") (U:="int") (by decide) ⟨_,e,rfl⟩ (λs'=>PR s' k t) iO SO O1 nV F.slot_int_index.lookup
  (Lm O1 (PR s k t) Se (RH _ _) (ko k t l its.toArray n dd sl)
    ⟨e,rfl,⟨_,e,rfl⟩,Lm F.slot_tuple_mul ⟨_,e,rfl⟩ F.entry_tuple_mul (F.args_tuple_mul_2 _ _) (uA l its.toArray n dd sl k t h1 h2 hlen) ⟨e,?_⟩⟩)
 have hi:(its.toArray.isEmpty || k==1)=true↔(xs=[]∨k=1):=by
  rw[<- r.nil_iff];simp
 split
 ·next c=>exact⟨.ref l,H,I,rfl,O (hi.mp c)⟩
 ·next c =>
  rw[f0];refine⟨.ref s.heap.objs.size,_,I.laid (t':=s.toks) (o:=.tup (Jj k.toNat xs).flatten) (λb ob q=>s9 _ q) (Jg _) ?_,rfl,Y (λz=>c (hi.mpr z)) _ (I.hok.fresh (Jg _))⟩;exact⟨by rw[qE,PU];exact j,_,r.rep k.toNat,ND _ _⟩
end
end
section
section
variable {X:Cx}
theorem zN:OpR X (Kx .Add) (λx y H Q=>∃ a b ys,x = .ref a/\y = .ref b/\SqT X.K H a []/\SqT X.K H b ys/\Q (.ref b) H):=by
 intro pins s σ H x y v u Q I rx ry h;obtain⟨a,b,ys,rfl,rfl,Z,hb,q⟩:=h
 cases rx
 cases ry
 obtain⟨its,r1,p1,_⟩:=I.tuple Z;obtain⟨j,r2,p2,_⟩:=I.tuple hb;have e0:its=[]:=r1.nil_iff.mpr rfl;obtain⟨⟨cls,dd,data,sl⟩,ho,U,n,hd⟩:=id p1;obtain⟨⟨Y,L,data2,O⟩,z,J,n2,hd2⟩:=id p2;simp only at U hd J hd2;subst U hd J hd2;exact RC ⟨_,ho,rfl⟩ ⟨_,z,rfl⟩ Pc QS Nt Nj (MN _ _)
  (tuple_addW0 a b its.toArray j.toArray n n2 dd L sl O (by simp[e0])) ⟨ho,z,⟨.ref b,H,I,rfl,q⟩⟩
end
end
namespace Mi
variable {K:Frag}{M:Mem}{H:Hp}{Q:VK}{v:V}
section
def MulOk (i j:Int):Prop:=(-(2 ^ 64)<i/\i<2 ^ 64)∨(-(2 ^ 64)<j/\j<2 ^ 64)∨(QM i<=2 ^ 20/\QM j<=2 ^ 20)
theorem MulOk.ok {i j:Int}(h:MulOk i j):IntMulOk i j:=by
 rcases h with h|h|h
 ·exact IntMulOk.of_left (intBits_le_64 h.1 h.2)
 ·exact IntMulOk.of_right (intBits_le_64 h.1 h.2)
 ·exact IntMulOk.of_bits h.1 h.2
noncomputable def dH:R2d
 |.int i,.int j,M,Q=>Q (.int (i+j)) M
 |.tup a,.tup b,M,Q=>(a≠[]∨True)/\a.length+b.length<=Je/\Q (.tup (a++b)) M
 |.ref a,.ref b,M,Q=>∃ xs ys,M a=some (.lst xs)/\M b=some (.lst ys)/\xs.length+ys.length<=Je /\ ∀ p,M p=none->Q (.ref p) (af M p (.lst (xs++ys)))
 |.str x,.str y,M,Q=>x.length+y.length<=Je/\Q (.str (x++y)) M
 |_,_,_,_=>False
noncomputable def nW:R2d
 |.int i,.int j,M,Q=>Q (.int (i - j)) M
 |_,_,_,_=>False
noncomputable def gK:R2d
 |.int i,.int j,M,Q=>MulOk i j/\Q (.int (i*j)) M
 |.ref a,.int k,M,Q=>∃ xs,M a=some (.lst xs) /\ -(2 ^ 63)<=k/\k<2 ^ 63/\xs.length*k.toNat<=Je /\ ∀ p,M p=none->Q (.ref p) (af M p (.lst (Jj k.toNat xs).flatten))
 |.tup ds,.int k,M,Q=>-(2 ^ 63)<=k/\k<2 ^ 63/\ds.length*k.toNat<=Je/\Q (.tup (Jj k.toNat ds).flatten) M
 |_,_,_,_=>False
noncomputable def jp:R2d
 |.int i,.int j,M,Q=>0<j/\j<2 ^ 256/\Q (.int (i / j)) M
 |_,_,_,_=>False
noncomputable def nX:R2d
 |.int i,.int j,M,Q=>0<j/\Q (.int (i % j)) M
 |_,_,_,_=>False
noncomputable def nY:R2d
 |.int i,.int j,M,Q=>0<=j/\j<=1000000/\i.natAbs<2 ^ 64/\Q (.int (i ^ j.toNat)) M
 |_,_,_,_=>False
theorem nZ:ar dH:=by
 intro x y M Q Q' h q
 cases x <;> cases y <;> first
  |exact q.elim
  |exact h _ _ q
  |exact⟨q.1,h _ _ q.2⟩
  |exact⟨q.1,q.2.1,h _ _ q.2.2⟩
  |(obtain⟨xs,ys,j,F,z,q⟩:=q;exact⟨xs,ys,j,F,z,λp n=>h _ _ (q p n)⟩)
theorem wQ:ar nW:=by
 intro x y M Q Q' h q
 cases x <;> cases y <;> first|exact q.elim|exact h _ _ q
theorem wR:ar gK:=by
 intro x y M Q Q' h q
 cases x <;> cases y <;> first
  |exact q.elim
  |exact⟨q.1,h _ _ q.2⟩
  |exact⟨q.1,q.2.1,q.2.2.1,h _ _ q.2.2.2⟩
  |(obtain⟨xs,j,z,F,J,q⟩:=q;exact⟨xs,j,z,F,J,λp n=>h _ _ (q p n)⟩)
theorem uB:ar jp:=by
 intro x y M Q Q' h q
 cases x <;> cases y <;> first|exact q.elim|exact⟨q.1,q.2.1,h _ _ q.2.2⟩
theorem wU:ar nX:=by
 intro x y M Q Q' h q
 cases x <;> cases y <;> first|exact q.elim|exact⟨q.1,h _ _ q.2⟩
theorem wV:ar nY:=by
 intro x y M Q Q' h q
 cases x <;> cases y <;> first|exact q.elim|exact⟨q.1,q.2.1,q.2.2.1,h _ _ q.2.2.2⟩
section
variable {X:Cx}
theorem OpR.of {f:hW->hW->Sem hW}{r r':R2}(h:OpR X f r)(i:∀ v u H Q,r' v u H Q->r v u H Q):OpR X f r':=λpins s σ H x y v u Q I rx ry q=>h pins s σ H x y v u Q I rx ry (i _ _ _ _ q)
theorem IxR.of {r r':R2}(h:IxR X r)(i:∀ v u H Q,r' v u H Q->r v u H Q):IxR X r':=λa b pins s σ H x y v u Q I rx ry q=>h a b pins s σ H x y v u Q I rx ry (i _ _ _ _ q)
theorem CallR.of {f:hW}{r r':List V->Hp->VK->Prop}(h:CallR X f r)(i:∀ vs H Q,r' vs H Q->r vs H Q):CallR X f r':=λpins s σ H xs us Q I rx q=>h pins s σ H xs us Q I rx (i _ _ _ q)
theorem DN {a b:List D}{u:V}(rm:RM K M H)(rx:RD K H (.tup a) v)(ry:RD K H (.tup b) u)(q:dH (.tup a) (.tup b) M (KE' K M H Q)):yP K v u H Q∨∃ a b ys,v = .ref a/\u = .ref b/\SqT K H a []/\SqT K H b ys/\Q (.ref b) H:=by
 obtain⟨a',vs,rfl,z,j⟩:=Tw rx;obtain⟨b',us,rfl,F,J⟩:=Tw ry;obtain⟨_,O,q⟩:=q;have l1:=j.length;have l2:=J.length
 by_cases L:a=[]
 ·subst L;have:vs=[]:=RDs.nil_iff.mp j;subst this;exact .inr ⟨a',b',us,rfl,rfl,z,F,q _ H Ext.refl rm ry⟩
 refine .inl ⟨a',b',vs,us,rfl,rfl,z,F,λe=>L (Kn.mp (by rw[<- l1,e];rfl)),by lia,λe=>?_,λ_ p n=>da rm (j.append J) q n⟩
 have eb:b=[]:=Kn.mp (by rw[<- l2,e];rfl)
 subst eb;rw[Kp]at q;exact q _ H Ext.refl rm rx
theorem oa:OpR X (Kx .Add) (l2 X.K dH):=by
 refine OpR.of (op_add.or ((op_catT.or zN).or (op_cat.or rM))) λv u H Q h=>?_;obtain⟨x,y,M,rm,rx,ry,q⟩:=h
 cases x <;> cases y <;> first
  |exact q.elim
  |(cases Tq.mp rx;cases Tq.mp ry;exact .inl ⟨_,_,rfl,rfl,q _ H Ext.refl rm (Tq.mpr rfl)⟩)
  |exact .inr (.inl (DN rm rx ry q))
  | (cases Ts.mp rx;cases Ts.mp ry
     obtain⟨xs,ys,J,L,z,q⟩:=q;obtain⟨vs,h1,j⟩:=rm _ _ J;obtain⟨us,h2,F⟩:=rm _ _ L;have l1:=j.length;have l2:=F.length;refine .inr (.inr (.inl ⟨_,_,vs,us,rfl,rfl,h1,h2,by lia,λp n=>db rm (j.append F) q n⟩)))
  |(cases Tr.mp rx;cases Tr.mp ry;exact .inr (.inr (.inr ⟨_,_,rfl,rfl,q.1,q.2 _ H Ext.refl rm (Tr.mpr rfl)⟩)))
theorem wW:OpR X (Kx .Sub) (l2 X.K nW):=by
 refine OpR.of Bz λv u H Q h=>?_;obtain⟨x,y,M,rm,rx,ry,q⟩:=h
 cases x <;> cases y <;> first
  |exact q.elim
  |(cases Tq.mp rx;cases Tq.mp ry;exact⟨_,_,rfl,rfl,q _ H Ext.refl rm (Tq.mpr rfl)⟩)
theorem op_mul_i:OpR X (Kx .Mult) (rI MulOk λi j=>.int (i*j)):=opI λ_ _ _ _ _ _ _ z q=>mul_int q z.ok
theorem DO {a:List D}{k:Int}{u:V}(rm:RM K M H)(rx:RD K H (.tup a) v)(ry:RD K H (.int k) u)(q:gK (.tup a) (.int k) M (KE' K M H Q)):yW K v u H Q:=by
 obtain⟨a',vs,rfl,z,j⟩:=Tw rx
 cases Tq.mp ry
 obtain⟨F,J,L,q⟩:=q;have l1:=j.length;refine⟨a',k,vs,rfl,rfl,z,F,J,by rw[l1];exact L,λe=>?_,λ_ p n=>da rm (j.rep _) q n⟩
 have ea:(Jj k.toNat a).flatten=a:=by
  rcases e with e|e
  ·have:a=[]:=Kn.mp (by rw[<- l1,e];rfl)
   subst this;simp
  ·subst e;simp
 rw[ea]at q;exact q _ H Ext.refl rm rx
theorem wX:OpR X (Kx .Mult) (l2 X.K gK):=by
 refine OpR.of (op_mul_i.or (op_rep.or zM)) λv u H Q h=>?_;obtain⟨x,y,M,rm,rx,ry,q⟩:=h
 cases x <;> cases y <;> first
  |exact q.elim
  |(cases Tq.mp rx;cases Tq.mp ry;exact .inl ⟨_,_,rfl,rfl,q.1,q.2 _ H Ext.refl rm (Tq.mpr rfl)⟩)
  | (cases Ts.mp rx;cases Tq.mp ry
     obtain⟨xs,z,F,J,L,q⟩:=q;obtain⟨vs,h1,j⟩:=rm _ _ z;have l1:=j.length;exact .inr (.inl ⟨_,_,vs,rfl,rfl,h1,F,J,by rw[l1];exact L,λp n=>db rm (j.rep _) q n⟩))
  |exact .inr (.inr (DO rm rx ry q))
theorem wY:OpR X (Kx .FloorDiv) (rI (λ_ j=>0<j/\j<2 ^ 256) λi j=>.int (i / j)):=L2.opI λi j _ _ _ _ _ z q=>by
 have h1:(0:Int)<j:=z.1;have h2:j<2 ^ 256:=z.2;have F:j.natAbs.log2<256:=(Qo (by lia)).mpr (by lia)
 exact floordiv_int (by lia) (by rw[Int.fdiv_eq_ediv_of_nonneg i (by lia)];exact q) (.inl (PyProof.noPylong_of_log2 (by lia)))
theorem uE:OpR X (Kx .FloorDiv) (l2 X.K jp):=by
 refine OpR.of wY λv u H Q h=>?_;obtain⟨x,y,M,rm,rx,ry,q⟩:=h
 cases x <;> cases y <;> first
  |exact q.elim
  |(cases Tq.mp rx;cases Tq.mp ry;exact⟨_,_,rfl,rfl,⟨q.1,q.2.1⟩,q.2.2 _ H Ext.refl rm (Tq.mpr rfl)⟩)
theorem wZ:OpR X (Kx .Mod) (l2 X.K nX):=by
 refine OpR.of BA λv u H Q h=>?_;obtain⟨x,y,M,rm,rx,ry,q⟩:=h
 cases x <;> cases y <;> first
  |exact q.elim
  |(cases Tq.mp rx;cases Tq.mp ry;exact⟨_,_,rfl,rfl,q.1,q.2 _ H Ext.refl rm (Tq.mpr rfl)⟩)
theorem xa:OpR X (Kx .Pow) (l2 X.K nY):=by
 refine OpR.of BB λv u H Q h=>?_;obtain⟨x,y,M,rm,rx,ry,q⟩:=h
 cases x <;> cases y <;> first
  |exact q.elim
  |(cases Tq.mp rx;cases Tq.mp ry;exact⟨_,_,rfl,rfl,⟨q.1,q.2.1,q.2.2.1⟩,q.2.2.2 _ H Ext.refl rm (Tq.mpr rfl)⟩)
noncomputable def og:R1d
 |.int i,M,Q=>Q (.int (-i)) M
 |_,_,_=>False
theorem oh:my og:=by
 intro x M Q Q' h q
 cases x <;> first|exact q.elim|exact h _ _ q
theorem UnR.of {f:hW->Sem hW}{r r':V->Hp->VK->Prop}(h:UnR X f r)(i:∀ v H Q,r' v H Q->r v H Q):UnR X f r':=λpins s σ H x v Q I rx q=>h pins s σ H x v Q I rx (i _ _ _ q)
theorem xb:UnR X (unaryOp .USub) (l1 X.K og):=by
 refine UnR.of BC λv H Q h=>?_;obtain⟨x,M,rm,rx,q⟩:=h
 cases x <;> first
  |exact q.elim
  |(cases Tq.mp rx;exact⟨_,rfl,q _ H Ext.refl rm (Tq.mpr rfl)⟩)
noncomputable def aH {α β:Type} (f : α -> Option β):List α -> Option (List β)
 |[]=>some []
 |x::xs=>(f x).bind λy=>(aH f xs).map (y :: ·)
noncomputable def rb:Nat->Mem->D->Option T9
 |_,_,.non=>some .none
 |_,_,.bl b=>some (.bool b)
 |_,_,.int i=>some (.int i)
 |_,_,.str x=>if JW x=true then some (.str x) else none
 |n+1,M,.tup ds=>(aH (rb n M) ds).map PyData.tuple
 |n+1,M,.con ds=>(aH (rb n M) ds).map SG
 | n+1,M,.ref a=>match M a with
   |some (.lst ds)=>(aH (rb n M) ds).map SG
   |_=>none
 |0,_,.tup _=>none
 |0,_,.con _=>none
 |0,_,.ref _=>none
 |_,_,.fn _=>none
theorem dU {n:Nat}{M:Mem}(ih:∀ d p,rb n M d=some p->p.depth<=n/\p.canLay0=true):∀ {ds:List D} {ps:List T9},aH (rb n M) ds=some ps->SS ps<=n/\RU ps=true
 |[],ps,h=>by
  simp[aH]at h;subst h;exact⟨Kk _,rfl⟩
 | d::ds,ps,h=>by
   simp only[aH]at h
   cases e1:rb n M d with
   |none=>rw[e1]at h;cases h
   | some p =>
     rw[e1]at h
     cases e2:aH (rb n M) ds with
     |none=>simp[e2]at h
     | some qs =>
       simp[e2]at h;subst h;obtain⟨a1,a2⟩:=ih d p e1;obtain⟨b1,b2⟩:=dU ih e2;refine⟨?_,?_⟩
       ·show max p.depth (SS qs)<=n;lia
       ·show (p.canLay0&&RU qs)=true;rw[a2,b2];rfl
theorem cw {M:Mem}:∀ (n:Nat) (d:D) (p:T9),rb n M d=some p->p.depth<=n/\p.canLay0=true
 |n,.non,p,h=>by simp[rb]at h;subst h;exact⟨Kk _,rfl⟩
 |n,.bl b,p,h=>by simp[rb]at h;subst h;exact⟨Kk _,rfl⟩
 |n,.int b,p,h=>by simp[rb]at h;subst h;exact⟨Kk _,rfl⟩
 | n,.str x,p,h=>by
   simp[rb]at h;obtain⟨h1,h2⟩:=h;subst h2;exact⟨Kk _,h1⟩
 |0,.tup _,p,h=>by simp[rb]at h
 |0,.con _,p,h=>by simp[rb]at h
 |0,.ref _,p,h=>by simp[rb]at h
 |n,.fn _,p,h=>by simp[rb]at h
 | n+1,.tup ds,p,h=>by
   simp only[rb]at h
   cases e:aH (rb n M) ds with
   |none=>rw[e]at h;cases h
   | some ps =>
     rw[e]at h;cases h;obtain⟨a,b⟩:=dU (cw n) e;exact⟨Ph a,b⟩
 | n+1,.con ds,p,h=>by
   simp only[rb]at h
   cases e:aH (rb n M) ds with
   |none=>rw[e]at h;cases h
   | some ps =>
     rw[e]at h;cases h;obtain⟨a,b⟩:=dU (cw n) e;exact⟨Ph a,b⟩
 | n+1,.ref a,p,h=>by
   simp only[rb]at h
   cases e0:M a with
   |none=>rw[e0]at h;cases h
   | some o =>
     rw[e0]at h
     cases o with
     |dct _ _=>cases h
     |fdc _=>cases h
     |dcn _=>cases h
     |tab _ _=>cases h
     |fdn _=>cases h
     | lst ds =>
       simp only at h
       cases e:aH (rb n M) ds with
       |none=>rw[e]at h;cases h
       | some ps =>
         rw[e]at h;cases h;obtain⟨a,b⟩:=dU (cw n) e;exact⟨Ph a,b⟩
theorem dW {K:Frag}{H:Hp}{n:Nat}{M:Mem}{h:Heap}(ih:∀ d p v u,rb n M d=some p->RD K H d v->RelV v u -> ∃ as,Reads h u p as) :
 ∀ {ds:List D} {ps:List T9} {vs:List V} {us:List hW},aH (rb n M) ds=some ps->RDs K H ds vs->Vals vs us -> ∃ as,ReadsAll h us ps as
 |[],ps,vs,us,hm,r,rv=>by
  simp[aH]at hm;subst hm;rw[RDs.nil_iff.mp r]at rv
  cases rv
  exact⟨_,.nil⟩
 | d::ds,ps,vs,us,hm,r,rv=>by
   obtain⟨v,vr,rfl,j,z⟩:=Tu.mp r
   cases rv with
   | cons F J =>
     simp only[aH]at hm
     cases e1:rb n M d with
     |none=>rw[e1]at hm;cases hm
     | some p =>
       rw[e1]at hm
       cases e2:aH (rb n M) ds with
       |none=>simp[e2]at hm
       | some qs =>
         simp[e2]at hm;subst hm;obtain⟨as,ra⟩:=ih d p v _ e1 j F;obtain⟨bs,rbs⟩:=dW ih e2 z J;exact⟨_,.cons ra rbs⟩
theorem cy {pins:List (Addr×Obj)}{σ:St}{H:Hp}{s:z0}{M:Mem}(I:Inv X pins σ H s)(rm:RM X.K M H):∀ (n:Nat) (d:D) (p:T9) (v:V) (u:hW),rb n M d=some p->RD X.K H d v->RelV v u -> ∃ as,Reads s.heap u p as
 |n,.non,p,v,u,h,r,q=>by simp[rb]at h;subst h;cases Tv.mp r;cases q;exact⟨_,.none⟩
 |n,.bl b,p,v,u,h,r,q=>by simp[rb]at h;subst h;cases Tt.mp r;cases q;exact⟨_,.bool b⟩
 |n,.int b,p,v,u,h,r,q=>by simp[rb]at h;subst h;cases Tq.mp r;obtain⟨t,rfl⟩:=q;exact⟨_,.int b t⟩
 | n,.str x,p,v,u,h,r,q=>by
   simp[rb]at h;obtain⟨_,h2⟩:=h;subst h2;cases Tr.mp r;obtain⟨t,rfl⟩:=q;exact⟨_,.str x t⟩
 |0,.tup _,p,_,_,h,_,_=>by simp[rb]at h
 |0,.con _,p,_,_,h,_,_=>by simp[rb]at h
 |0,.ref _,p,_,_,h,_,_=>by simp[rb]at h
 |n,.fn _,p,_,_,h,_,_=>by simp[rb]at h
 | n+1,.tup ds,p,v,u,h,r,q=>by
   simp only[rb]at h
   cases e:aH (rb n M) ds with
   |none=>rw[e]at h;cases h
   | some ps =>
     rw[e]at h;cases h;obtain⟨a,vs,rfl,j,rs⟩:=Tw r
     cases q
     obtain⟨its,rv,⟨o,ho,z,k,hd⟩,_⟩:=I.tuple j;obtain⟨as,ra⟩:=dW (cy I rm n) e rs rv;exact⟨_,.tuple ho z hd (by simpa using ra)⟩
 | n+1,.con ds,p,v,u,h,r,q=>by
   simp only[rb]at h
   cases e:aH (rb n M) ds with
   |none=>rw[e]at h;cases h
   | some ps =>
     rw[e]at h;cases h;obtain⟨a,vs,rfl,j,rs⟩:=Tz.mp r
     cases q
     obtain⟨its,rv,⟨o,k,ho,z,_,hd⟩,_⟩:=I.list j.sq;obtain⟨as,ra⟩:=dW (cy I rm n) e rs rv;exact⟨_,.list ho z hd (by simpa using ra)⟩
 | n+1,.ref a,p,v,u,h,r,q=>by
   simp only[rb]at h
   cases e0:M a with
   |none=>rw[e0]at h;cases h
   | some o =>
     rw[e0]at h
     cases o with
     |dct _ _=>cases h
     |fdc _=>cases h
     |dcn _=>cases h
     |tab _ _=>cases h
     |fdn _=>cases h
     | lst ds =>
       simp only at h
       cases e:aH (rb n M) ds with
       |none=>rw[e]at h;cases h
       | some ps =>
         rw[e]at h;cases h
         cases Ts.mp r
         cases q
         obtain⟨vs,j,rs⟩:=rm _ _ e0;obtain⟨its,rv,⟨o,k,ho,z,_,hd⟩,_⟩:=I.list (SqL.of j);obtain⟨as,ra⟩:=dW (cy I rm n) e rs rv;exact⟨_,.list ho z hd (by simpa using ra)⟩
noncomputable def wEq:R2d:=λx y M Q=>∃ p q,rb 16 M x=some p/\rb 16 M y=some q/\Q (.bl (KQ p q)) M
noncomputable def wNe:R2d:=λx y M Q=>∃ p q,rb 16 M x=some p/\rb 16 M y=some q/\Q (.bl (!PyData.eqv p q)) M
theorem zO:ar wEq:=λ_ _ _ _ _ h j=>(by obtain⟨p,q,a,b,c⟩:=j;exact⟨p,q,a,b,h _ _ c⟩)
theorem zP:ar wNe:=λ_ _ _ _ _ h j=>(by obtain⟨p,q,a,b,c⟩:=j;exact⟨p,q,a,b,h _ _ c⟩)
theorem zQ (J:X.A.units+16<Qf):OpR X (JM .Eq) (l2 X.K wEq):=by
 intro pins s σ H x y v u Q I rx ry h;obtain⟨d,e,M,rm,rd,re,p,q,j,z,k⟩:=h;obtain⟨as,ra⟩:=cy I rm _ _ _ _ _ j rd rx;obtain⟨bs,rb'⟩:=cy I rm _ _ _ _ _ z re ry;obtain⟨L,p2⟩:=cw _ _ _ j;obtain⟨O,F⟩:=cw _ _ _ z;exact SeqAt.compareEq_reads ra rb' p2 F (by lia) ⟨.bl _,H,I,rfl,k _ H Ext.refl rm (Tt.mpr rfl)⟩
theorem zR (J:X.A.units+16<Qf):OpR X (JM .NotEq) (l2 X.K wNe):=by
 intro pins s σ H x y v u Q I rx ry h;obtain⟨d,e,M,rm,rd,re,p,q,j,z,k⟩:=h;obtain⟨as,ra⟩:=cy I rm _ _ _ _ _ j rd rx;obtain⟨bs,rb'⟩:=cy I rm _ _ _ _ _ z re ry;obtain⟨L,p2⟩:=cw _ _ _ j;obtain⟨O,F⟩:=cw _ _ _ z;exact SeqAt.compareNe_reads ra rb' p2 F (by lia) ⟨.bl _,H,I,rfl,k _ H Ext.refl rm (Tt.mpr rfl)⟩
noncomputable def wLt:R2d
 |.int i,.int j,M,Q=>Q (.bl (decide (i<j))) M
 |_,_,_,_=>False
noncomputable def wLe:R2d
 |.int i,.int j,M,Q=>Q (.bl (decide (i<=j))) M
 |_,_,_,_=>False
noncomputable def wGt:R2d
 |.int i,.int j,M,Q=>Q (.bl (decide (j<i))) M
 |_,_,_,_=>False
noncomputable def wGe:R2d
 |.int i,.int j,M,Q=>Q (.bl (decide (j<=i))) M
 |_,_,_,_=>False
theorem zS:ar wLt:=by
 intro x y M Q Q' h q
 cases x <;> cases y <;> first|exact q.elim|exact h _ _ q
theorem zT:ar wLe:=by
 intro x y M Q Q' h q
 cases x <;> cases y <;> first|exact q.elim|exact h _ _ q
theorem zU:ar wGt:=by
 intro x y M Q Q' h q
 cases x <;> cases y <;> first|exact q.elim|exact h _ _ q
theorem zV:ar wGe:=by
 intro x y M Q Q' h q
 cases x <;> cases y <;> first|exact q.elim|exact h _ _ q
theorem zW:OpR X (JM .Lt) (l2 X.K wLt):=by
 refine OpR.of Du λv u H Q h=>?_;obtain⟨x,y,M,rm,rx,ry,q⟩:=h
 cases x <;> cases y <;> first
  |exact q.elim
  |(cases Tq.mp rx;cases Tq.mp ry;exact⟨_,_,rfl,rfl,q _ H Ext.refl rm (Tt.mpr rfl)⟩)
theorem zX:OpR X (JM .LtE) (l2 X.K wLe):=by
 refine OpR.of Dv λv u H Q h=>?_;obtain⟨x,y,M,rm,rx,ry,q⟩:=h
 cases x <;> cases y <;> first
  |exact q.elim
  |(cases Tq.mp rx;cases Tq.mp ry;exact⟨_,_,rfl,rfl,q _ H Ext.refl rm (Tt.mpr rfl)⟩)
theorem zY:OpR X (JM .Gt) (l2 X.K wGt):=by
 refine OpR.of Dw λv u H Q h=>?_;obtain⟨x,y,M,rm,rx,ry,q⟩:=h
 cases x <;> cases y <;> first
  |exact q.elim
  |(cases Tq.mp rx;cases Tq.mp ry;exact⟨_,_,rfl,rfl,q _ H Ext.refl rm (Tt.mpr rfl)⟩)
theorem zZ:OpR X (JM .GtE) (l2 X.K wGe):=by
 refine OpR.of Dx λv u H Q h=>?_;obtain⟨x,y,M,rm,rx,ry,q⟩:=h
 cases x <;> cases y <;> first
  |exact q.elim
  |(cases Tq.mp rx;cases Tq.mp ry;exact⟨_,_,rfl,rfl,q _ H Ext.refl rm (Tt.mpr rfl)⟩)
end
end
variable {a:Addr}{ds:List D}{vs:List V}{d x:D}
section
noncomputable def wIx:R2d:=λx y M Q=>match x with
 |.tup ds=>∃ i d,y = .int i/\atI ds i=some d/\Q d M
 |.con ds=>∃ i d,y = .int i/\atI ds i=some d/\Q d M
 |.ref a=>(∃ ds i d,M a=some (.lst ds)/\y = .int i/\atI ds i=some d/\Q d M)∨(∃ t kvs d,M a=some (.dct t kvs)/\rZ t y=true/\cM kvs y=some d/\Q d M)∨∃ kvs d,M a=some (.fdc kvs)/\eQ y=true/\cM kvs y=some d/\Q d M
 |_=>False
theorem qK:ar wIx:=by
 intro x y M Q Q' h q
 cases x with
 |tup ds=>obtain⟨i,d,e,j,q⟩:=q;exact⟨i,d,e,j,h _ _ q⟩
 |con ds=>obtain⟨i,d,e,j,q⟩:=q;exact⟨i,d,e,j,h _ _ q⟩
 | ref a =>
   rcases q with⟨ds,i,d,z,j,F,q⟩|⟨t,kvs,d,z,j,F,q⟩|⟨kvs,d,z,j,F,q⟩
   ·exact .inl ⟨ds,i,d,z,j,F,h _ _ q⟩
   ·exact .inr (.inl ⟨t,kvs,d,z,j,F,h _ _ q⟩)
   ·exact .inr (.inr ⟨kvs,d,z,j,F,h _ _ q⟩)
 |_=>exact q.elim
theorem oi {i:Int}(r:RDs K H ds vs)(e:atI ds i=some d):∃ v,atI vs i=some v/\RD K H d v:=by
 unfold atI at e ⊢;rw[r.length]
 cases q:ixN ds.length i with
 |none=>rw[q]at e;cases e
 | some j =>
   rw[q]at e;exact r.get e
theorem kr {k:D}{q:Key}(r:RKey k q)(h:RD K H k v):v=kV q:=by
 cases k <;> first
  |exact r.elim
  |(cases (show q=_ from r);first|exact Tq.mp h|exact Tr.mp h)
theorem iP {K:Frag}{H:Hp}:∀ {ds:List D} {ks:List Key} {vs:List V},KI RKey ds ks->RDs K H ds vs->vs=ks.map kV
 |_,_,vs,.nil,h=>by rw[RDs.nil_iff.mp h];rfl
 | _,_,vs,.cons r t,h=>by
   obtain⟨v,vr,rfl,h1,h2⟩:=Tu.mp h;rw[kr r h1,iP t h2];rfl
theorem RKey.inj {e:D}{k:Key}(a:RKey d k)(b:RKey e k):d=e:=by
 cases d <;> first
  |exact a.elim
  |(cases e <;> first|exact b.elim|(cases (show k=_ from a);injection (show _=_ from b) with z;rw[z])|(cases (show k=_ from a);cases (show _=_ from b)))
theorem RKeysP.inj:∀ {d e:List D} {k:List Key},KI RKey d k->KI RKey e k->d=e
 |_,_,_,.nil,.nil=>rfl
 |_,_,_,.cons r t,.cons r' t'=>by rw[r.inj r',RKeysP.inj t t']
theorem RKeys.inj {e:D}{k:List Key}(a:RKeys d k)(b:RKeys e k):d=e:=by
 cases d <;> first
  |exact a.elim
  |(cases e <;> first|exact b.elim|exact congrArg D.tup (RKeysP.inj a b))
theorem RKey.fun {k k':Key}(a:RKey d k)(b:RKey d k'):k=k':=by
 cases d <;> first
  |exact a.elim
  |(cases (show k=_ from a);cases (show k'=_ from b);rfl)
theorem RKeysP.fun:∀ {d:List D} {k k':List Key},KI RKey d k->KI RKey d k'->k=k'
 |_,_,_,.nil,.nil=>rfl
 |_,_,_,.cons r t,.cons r' t'=>by rw[r.fun r',RKeysP.fun t t']
theorem RKeys.fun {k k':List Key}(a:RKeys d k)(b:RKeys d k'):k=k':=by
 cases d <;> first
  |exact a.elim
  |exact RKeysP.fun a b
section
variable {κ:Type} [DecidableEq κ] {K:Frag} {H:Hp} {RK:D -> κ -> Prop} (inj:∀ {d e:D} {k : κ},RK d k->RK e k->d=e) (fn:∀ {d:D} {k k' : κ},RK d k->RK d k'->k=k')
include inj fn
theorem iQ {k:D}{q : κ}(hk:RK k q):∀ {kvs:List (D×D)} {ps:List (κ × V)},KI (λp r=>RK p.1 r.1/\RD K H p.2 r.2) kvs ps ->
 (∀ d,cM kvs k=some d -> ∃ v,bV ps q=some v/\RD K H d v)/\(cM kvs k=none->bV ps q=none)
 |_,_,.nil=>⟨λd e=>by simp[cM]at e,λ_=>rfl⟩
 | _,_,.cons (a:=p) (b:=r) (l₂:=ps) hr t=>by
   obtain⟨j,F⟩:=iQ hk t
   by_cases e:p.1=k
   ·have e':r.1=q:=by
     have h1:=hr.1;rw[e]at h1;exact fn h1 hk
    refine⟨λd he=>?_,λhe=>?_⟩
    ·simp[cM,KR,e]at he;subst he;exact⟨r.2,fS e',hr.2⟩
    ·simp[cM,KR,e]at he
   ·have e' : ¬ r.1=q:=fun z=>e (by
     have h1:=hr.1;rw[z]at h1;exact inj h1 hk)
    have eq1:∀ l:List (D×D),cM (p::l) k=cM l k:=λl=>by simp[cM,KR,e]
    have eq2:bV (r::ps) q=bV ps q:=fT e';refine⟨λd he=>?_,λhe=>?_⟩
    ·rw[eq1]at he;rw[eq2];exact j d he
    ·rw[eq1]at he;rw[eq2];exact F he
end
section
variable {X:Cx}
theorem uF {ps:List (List Key×V)}{kvs:List (D×D)}{k:D}(F:Rd H a (.dT ps))(pr:KI (λ(p:D×D) (q:List Key×V)=>RKeys p.1 q.1/\RD K H p.2 q.2) kvs ps)(ok:eQ k=true)(rk:RD K H k v) :
 ∃ o,DGet H a v o/\(∀ d,cM kvs k=some d -> ∃ w,o=some w/\RD K H d w)/\(cM kvs k=none->o=none):=by
 obtain⟨q,j⟩:=qI ok;obtain⟨g1,g2⟩:=iQ (RK:=RKeys) RKeys.inj RKeys.fun j pr;refine⟨bV ps q,?_,g1,g2⟩
 cases k <;> first
  |exact j.elim
  | (obtain ⟨b,us,rfl,z,ru⟩:=TU (qJ ok) rk
     rw[iP j ru]at z;exact .inr ⟨ps,q,b,F,rfl,z,rfl⟩)
theorem A3 {t:Bool}{kvs:List (D×D)}{k:D}(rm:RM K M H)(e:M a=some (.dct t kvs))(ok:rZ t k=true)(rk:RD K H k v) :
 ∃ o,DGet H a v o/\(∀ d,cM kvs k=some d -> ∃ w,o=some w/\RD K H d w)/\(cM kvs k=none->o=none):=by
 have ro:=rm a _ e
 cases t with
 | false =>
   obtain⟨ps,j,pr⟩:=ro;obtain⟨q,z⟩:=nR (show fU k=true from ok);obtain⟨g1,g2⟩:=iQ (RK:=RKey) RKey.inj RKey.fun z pr;refine⟨bV ps q,?_,g1,g2⟩;rw[kr z rk];exact DGet.k j
 | true =>
   obtain⟨ps,j,pr⟩:=ro;exact uF (.inl j) pr ok rk
theorem A4 (j:X.A.units+1<Qf):IxR X (λx y H Q=>∃ a v,x = .ref a/\DGet H a y (some v)/\Q v H):=by
 intro value slice pins s σ H x y v u Q I rx ry h hs;obtain⟨a,w,rfl,g,q⟩:=h
 cases rx
 have hd:IsD H a:=by
  rcases g with⟨kvs,k,e,_⟩|⟨kvs,k,b,e,_⟩
  ·exact .inl ⟨kvs,e⟩
  ·exact .inr ⟨kvs,e⟩
 obtain⟨z,_⟩:=BO I hd;exact T5 z PySem.F.slot_dict_getitem.lookup (ul j I g ry λw' s' I' r'=>⟨w,H,I',r',q⟩) hs
theorem F8 (L:X.A.units+1<Qf):IxR X (l2 X.K wIx):=by
 refine IxR.of (ix_list.or (ix_tup.or (A4 L))) λv u H Q h=>?_;obtain⟨x,y,M,rm,rx,ry,q⟩:=h
 cases x with
 | tup ds =>
   obtain⟨i,d,rfl,e,q⟩:=q;obtain⟨a,vs,rfl,j,rs⟩:=Tw rx
   cases Tq.mp ry
   obtain⟨w,hw,rw'⟩:=oi rs e;exact .inr (.inl ⟨a,vs,i,w,rfl,rfl,j,hw,q w H Ext.refl rm rw'⟩)
 | con ds =>
   obtain⟨i,d,rfl,e,q⟩:=q;obtain⟨a,vs,rfl,j,rs⟩:=Tz.mp rx
   cases Tq.mp ry
   obtain⟨w,hw,rw'⟩:=oi rs e;exact .inl ⟨a,vs,i,w,rfl,rfl,j.sq,hw,q w H Ext.refl rm rw'⟩
 | ref a =>
   cases Ts.mp rx
   rcases q with⟨ds,i,d,z,rfl,F,q⟩|⟨t,kvs,d,z,J,F,q⟩|⟨kvs,d,z,J,F,q⟩
   ·cases Tq.mp ry
    obtain⟨vs,j,rs⟩:=rm _ _ z;obtain⟨w,hw,rw'⟩:=oi rs F;exact .inl ⟨a,vs,i,w,rfl,rfl,SqL.of j,hw,q w H Ext.refl rm rw'⟩
   ·obtain⟨o,g,g1,_⟩:=A3 rm z J ry;obtain⟨w,rfl,rw'⟩:=g1 d F;exact .inr (.inr ⟨a,w,rfl,g,q w H Ext.refl rm rw'⟩)
   ·obtain⟨ob,ps,O,pr⟩:=rm _ _ z;obtain⟨o,g,g1,_⟩:=uF (.inr ⟨ob,O⟩) pr J ry;obtain⟨w,rfl,rw'⟩:=g1 d F;exact .inr (.inr ⟨a,w,rfl,g,q w H Ext.refl rm rw'⟩)
 |_=>exact q.elim
noncomputable def oj (M:Mem):D->Option Nat
 |.tup ds=>some ds.length
 |.con ds=>some ds.length
 |.ref a=>match M a with
  |some (.lst ds)=>some ds.length
  |_=>none
 |_=>none
noncomputable def fV:RAd:=λxs M Q=>∃ x n,xs=[x]/\oj M x=some n/\Q (.int n) M
theorem ol:aS fV:=λ_ _ _ _ h j=>(by obtain⟨x,n,e,l,q⟩:=j;exact⟨x,n,e,l,h _ _ q⟩)
theorem RDs.one (h:RDs K H [d] vs):∃ v,vs=[v]/\RD K H d v:=by
 obtain⟨v,r,rfl,h1,h2⟩:=Tu.mp h;rw[RDs.nil_iff.mp h2];exact⟨v,rfl,h1⟩
theorem RDs.two {e:D}(h:RDs K H [d,e] vs):∃ v u,vs=[v,u]/\RD K H d v/\RD K H e u:=by
 obtain⟨v,r,rfl,h1,h2⟩:=Tu.mp h;obtain⟨u,rfl,j⟩:=RDs.one h2;exact⟨v,u,rfl,h1,j⟩
theorem sg:CallR X (.builtin "len") (lR X.K fV):=by
 refine CallR.of nE λvs H Q h=>?_;obtain⟨ds,M,rm,rs,x,n,rfl,l,q⟩:=h;obtain⟨v,rfl,r⟩:=rs.one;refine⟨v,n,rfl,?_,q _ H Ext.refl rm (Tq.mpr rfl)⟩
 cases x with
 | tup ds =>
   cases l
   obtain⟨a,us,rfl,j,ru⟩:=Tw r;exact .inr ⟨us,j,ru.length.symm⟩
 | con ds =>
   cases l
   obtain⟨a,us,rfl,j,ru⟩:=Tz.mp r;exact .inl ⟨us,j.sq,ru.length.symm⟩
 | ref a =>
   cases Ts.mp r
   simp only[oj]at l
   cases e:M a with
   |none=>rw[e]at l;cases l
   | some o =>
     rw[e]at l
     cases o with
     |dct _ _=>cases l
     |fdc _=>cases l
     |dcn _=>cases l
     |tab _ _=>cases l
     |fdn _=>cases l
     | lst ds =>
       cases l
       obtain⟨us,j,ru⟩:=rm _ _ e;exact .inl ⟨us,SqL.of j,ru.length.symm⟩
 |_=>cases l
noncomputable def ku:RAd:=λxs M Q=>∃ i,xs=[.int i]/\Q (.int (if i<0 then -i else i)) M
noncomputable def jq:RAd:=λxs M Q=>∃ i j,xs=[.int i,.int j]/\Q (.int (if j > i then j else i)) M
noncomputable def jr:RAd:=λxs M Q=>∃ i j,xs=[.int i,.int j]/\Q (.int (if j<i then j else i)) M
noncomputable def kx:RAd:=λxs M Q=>(∃ i,xs=[.int i]/\Q (.int i) M)∨∃ k,xs=[.bl k]/\Q (.int (if k then 1 else 0)) M
theorem om:aS ku:=λ_ _ _ _ h j=>(by obtain⟨i,e,q⟩:=j;exact⟨i,e,h _ _ q⟩)
theorem ll:aS jq:=λ_ _ _ _ h z=>(by obtain⟨i,j,e,q⟩:=z;exact⟨i,j,e,h _ _ q⟩)
theorem lq:aS jr:=λ_ _ _ _ h z=>(by obtain⟨i,j,e,q⟩:=z;exact⟨i,j,e,h _ _ q⟩)
theorem ou:aS kx:=λ_ _ _ _ h q=>q.elim (λj=>(by obtain⟨i,e,q⟩:=j;exact .inl ⟨i,e,h _ _ q⟩)) λj=>(by obtain⟨i,e,q⟩:=j;exact .inr ⟨i,e,h _ _ q⟩)
theorem sh:CallR X (.builtin "abs") (lR X.K ku):=by
 refine CallR.of ww λvs H Q h=>?_;obtain⟨ds,M,rm,rs,i,rfl,q⟩:=h;obtain⟨v,rfl,r⟩:=rs.one
 cases Tq.mp r
 exact⟨i,rfl,q _ H Ext.refl rm (Tq.mpr rfl)⟩
theorem qh (z:X.calm=true):CallR X (.builtin "max") (lR X.K jq):=by
 refine CallR.of (ub z) λvs H Q h=>?_;obtain⟨ds,M,rm,rs,i,j,rfl,q⟩:=h;obtain⟨v,u,rfl,F,J⟩:=rs.two
 cases Tq.mp F
 cases Tq.mp J
 exact⟨i,j,rfl,q _ H Ext.refl rm (Tq.mpr rfl)⟩
theorem qi (z:X.calm=true):CallR X (.builtin "min") (lR X.K jr):=by
 refine CallR.of (uc z) λvs H Q h=>?_;obtain⟨ds,M,rm,rs,i,j,rfl,q⟩:=h;obtain⟨v,u,rfl,F,J⟩:=rs.two
 cases Tq.mp F
 cases Tq.mp J
 exact⟨i,j,rfl,q _ H Ext.refl rm (Tq.mpr rfl)⟩
theorem si:CallR X (.type "int") (lR X.K kx):=by
 refine CallR.of ud λvs H Q h=>?_;obtain⟨ds,M,rm,rs,⟨i,rfl,q⟩|⟨i,rfl,q⟩⟩:=h
 ·obtain⟨v,rfl,r⟩:=rs.one
  cases Tq.mp r
  exact .inl ⟨i,rfl,q _ H Ext.refl rm (Tq.mpr rfl)⟩
 ·obtain⟨v,rfl,r⟩:=rs.one
  cases Tt.mp r
  exact .inr ⟨i,rfl,q _ H Ext.refl rm (Tq.mpr rfl)⟩
noncomputable def aO (M:Mem):D->Option (List D)
 |.tup ds=>some ds
 |.con ds=>some ds
 |.ref a=>match M a with
  |some (.lst ds)=>some ds
  |_=>none
 |_=>none
theorem C1 (rm:RM K M H)(r:RD K H x v)(e:aO M x=some ds):∃ p vs,v = .ref p/\(SqL K H p vs∨SqT K H p vs)/\RDs K H ds vs:=by
 cases x with
 | tup es =>
   cases e
   obtain⟨a,us,rfl,j,ru⟩:=Tw r;exact⟨a,us,rfl,.inr j,ru⟩
 | con es =>
   cases e
   obtain⟨a,us,rfl,j,ru⟩:=Tz.mp r;exact⟨a,us,rfl,.inl j.sq,ru⟩
 | ref a =>
   cases Ts.mp r
   simp only[aO]at e
   cases e0:M a with
   |none=>rw[e0]at e;cases e
   | some o =>
     rw[e0]at e
     cases o with
     |dct _ _=>cases e
     |fdc _=>cases e
     |dcn _=>cases e
     |tab _ _=>cases e
     |fdn _=>cases e
     | lst es =>
       cases e
       obtain⟨us,j,ru⟩:=rm _ _ e0;exact⟨a,us,rfl,.inl (SqL.of j),ru⟩
 |_=>cases e
noncomputable def jt:RAd:=λxs M Q=>∃ x ds,xs=[x]/\aO M x=some ds/\Q (.tup ds) M
theorem ju:aS jt:=λ_ _ _ _ h j=>(by obtain⟨x,ds,e,l,q⟩:=j;exact⟨x,ds,e,l,h _ _ q⟩)
theorem ow:CallR X (.type "tuple") (lR X.K jt):=by
 refine CallR.of mq λvs H Q h=>?_;obtain⟨ds,M,rm,rs,x,es,rfl,l,q⟩:=h;obtain⟨v,rfl,r⟩:=rs.one
 cases x with
 | tup ds' =>
   cases l
   obtain⟨a,us,rfl,j,ru⟩:=Tw r;exact⟨a,us,rfl,.inr ⟨j,q _ H Ext.refl rm r⟩⟩
 | con ds' =>
   cases l
   obtain⟨a,us,rfl,j,ru⟩:=Tz.mp r;exact⟨a,us,rfl,.inl ⟨j.sq,λl' n=>da rm ru q n⟩⟩
 | ref a =>
   cases Ts.mp r
   simp only[aO]at l
   cases e0:M a with
   |none=>rw[e0]at l;cases l
   | some o =>
     rw[e0]at l
     cases o with
     |dct _ _=>cases l
     |fdc _=>cases l
     |dcn _=>cases l
     |tab _ _=>cases l
     |fdn _=>cases l
     | lst es' =>
       cases l
       obtain⟨us,j,ru⟩:=rm _ _ e0;exact⟨a,us,rfl,.inl ⟨SqL.of j,λl' n=>da rm ru q n⟩⟩
 |_=>cases l
end
end
variable {e:Expr}{tA:TTd}
section
section
variable {X:Cx}
noncomputable def xc (M:Mem):D->Option Bool
 |.non=>some false
 |.bl b=>some b
 |.int i=>some (i != 0)
 |.tup ds=>some (!ds.isEmpty)
 |.con ds=>some (!ds.isEmpty)
 |.ref a=>match M a with
  |some (.lst ds)=>some (!ds.isEmpty)
  |_=>none
 |_=>none
noncomputable def sj (t:TEd):TTd:=λρ M Q=>t ρ M λx M1=>∃ b,xc M1 x=some b/\Q b M1
theorem xf {t:TEd}(h:ae t):aI (sj t):=λρ M Q Q' i q=>h _ _ _ _ (λx F j=>(by obtain⟨k,e,z⟩:=j;exact⟨k,e,i _ _ z⟩)) q
theorem C3 {b:Bool}(rm:RM K M H)(r:RD K H x v)(e:xc M x=some b):wu K v H b:=by
 have emp:∀ {ds:List D} {vs:List V},RDs K H ds vs->(!ds.isEmpty) = !vs.isEmpty:=λ{ds vs} h=>by
  have l:=h.length
  cases ds <;> cases vs <;> first|rfl|(simp at l)
 cases x with
 |non=>cases e;cases Tv.mp r;rfl
 |bl k=>cases e;cases Tt.mp r;rfl
 |int i=>cases e;cases Tq.mp r;rfl
 | tup ds =>
   cases e
   obtain⟨a,vs,rfl,j,rs⟩:=Tw r;exact .inr (.inl ⟨vs,j,emp rs⟩)
 | con ds =>
   cases e
   obtain⟨a,vs,rfl,j,rs⟩:=Tz.mp r;exact .inl ⟨vs,j.sq,emp rs⟩
 | ref a =>
   cases Ts.mp r
   simp only[xc]at e
   cases e0:M a with
   |none=>rw[e0]at e;cases e
   | some o =>
     rw[e0]at e
     cases o with
     |dct _ _=>cases e
     |fdc _=>cases e
     |dcn _=>cases e
     |tab _ _=>cases e
     |fdn _=>cases e
     | lst ds =>
       cases e
       obtain⟨vs,j,rs⟩:=rm _ _ e0;exact .inl ⟨vs,SqL.of j,emp rs⟩
 |str _=>cases e
 |fn _=>cases e
variable {a b:Expr} {ta tb:TEd} {pos:Pos}
theorem C4 (m:ae ta)(F:PE X a (lE X.K ta))(he:∀ whole,isTrue a X.env whole=(do let v <- whole;Np a.pos;holding [v] (truthy v))):PT X a (lT X.K (sj ta)):=by
 refine PT.imp (wv F he) λσ H Q h=>?_;obtain⟨ρ,M,rs,rm,q⟩:=h;exact⟨ρ,M,rs,rm,m _ _ _ _ (λx U J v H1 L j z=>(by obtain⟨k,e,O⟩:=J;exact⟨k,C3 j z e,O H1 L j⟩)) q⟩
noncomputable def mz (t:TTd):TTd:=λρ M Q=>t ρ M λc M1=>Q (!c) M1
theorem uG {t:TTd}(h:aI t):aI (mz t):=λρ M Q Q' i q=>h _ _ _ _ (λc z j=>i _ _ j) q
theorem C5 (m:aI tA)(j:PT X a (lT X.K tA)):PT X (.UnaryOp .Not a pos) (lT X.K (mz tA)):=by
 refine PT.imp (Bl j) λσ H Q h=>?_;obtain⟨ρ,M,rs,rm,q⟩:=h;exact⟨ρ,M,rs,rm,m _ _ _ _ (λc F z=>z) q⟩
noncomputable def mC (t u:TTd):TTd:=λρ M Q=>t ρ M λc M1=>if c=true then u ρ M1 Q else Q false M1
noncomputable def sk (t u:TTd):TTd:=λρ M Q=>t ρ M λc M1=>if c=true then Q true M1 else u ρ M1 Q
theorem uH {t u:TTd}(h:aI t)(k:aI u):aI (mC t u):=λρ M Q Q' i q=>h _ _ _ _ (λc z j=>by
 cases c with
 |true=>rw[if_pos rfl]at j ⊢;exact k _ _ _ _ i j
 |false=>rw[if_neg J9]at j ⊢;exact i _ _ j) q
theorem xg {t u:TTd}(h:aI t)(k:aI u):aI (sk t u):=λρ M Q Q' i q=>h _ _ _ _ (λc z j=>by
 cases c with
 |true=>rw[if_pos rfl]at j ⊢;exact i _ _ j
 |false=>rw[if_neg J9]at j ⊢;exact k _ _ _ _ i j) q
theorem A5 (j:PT X a (lT X.K tA)):PW X (.BoolOp .And [a] pos) (lT X.K tA):=zr j
theorem C6 (j:PT X a (lT X.K tA)):PW X (.BoolOp .Or [a] pos) (lT X.K tA):=Bh j
theorem C7 {tB:TTd}{rest:List Expr}(mA:aI tA)(mB:aI tB)(J:PT X a (lT X.K tA))(L:PW X (.BoolOp .And (b::rest) pos) (lT X.K tB)):PW X (.BoolOp .And (a::b::rest) pos) (lT X.K (mC tA tB)):=by
 refine PW.imp (Bj J L) λσ H Q h=>?_;obtain⟨ρ,M,rs,rm,q⟩:=h;refine⟨ρ,M,rs,rm,mA _ _ _ _ (λc O z H1 F j=>?_) q⟩
 cases c with
 |true=>rw[if_pos rfl]at z ⊢;exact⟨ρ,O,rs.mono (F.stab rm),j,mB _ _ _ _ (λd U k=>k.ext F) z⟩
 |false=>rw[if_neg J9]at z ⊢;exact z H1 F j
theorem DP {tB:TTd}{rest:List Expr}(mA:aI tA)(mB:aI tB)(J:PT X a (lT X.K tA))(L:PW X (.BoolOp .Or (b::rest) pos) (lT X.K tB)):PW X (.BoolOp .Or (a::b::rest) pos) (lT X.K (sk tA tB)):=by
 refine PW.imp (Dm J L) λσ H Q h=>?_;obtain⟨ρ,M,rs,rm,q⟩:=h;refine⟨ρ,M,rs,rm,mA _ _ _ _ (λc O z H1 F j=>?_) q⟩
 cases c with
 |true=>rw[if_pos rfl]at z ⊢;exact z H1 F j
 |false=>rw[if_neg J9]at z ⊢;exact⟨ρ,O,rs.mono (F.stab rm),j,mB _ _ _ _ (λd U k=>k.ext F) z⟩
noncomputable def mD (ta tb:TEd):TEd:=λρ M Q=>ta ρ M λx M1=>∃ c,x = .bl c/\if c=true then tb ρ M1 Q else Q (.bl false) M1
noncomputable def sm (ta tb:TEd):TEd:=λρ M Q=>ta ρ M λx M1=>∃ c,x = .bl c/\if c=true then Q (.bl true) M1 else tb ρ M1 Q
noncomputable def mF (ta:TEd):TEd:=λρ M Q=>ta ρ M λx M1=>∃ c,x = .bl c/\Q (.bl (!c)) M1
theorem uI (h:ae ta)(k:ae tb):ae (mD ta tb):=λρ M Q Q' i q=>h _ _ _ _ (λx z ⟨c,e,j⟩=>⟨c,e,by
 cases c with
 |true=>rw[if_pos rfl]at j ⊢;exact k _ _ _ _ i j
 |false=>rw[if_neg J9]at j ⊢;exact i _ _ j⟩) q
theorem xh (h:ae ta)(k:ae tb):ae (sm ta tb):=λρ M Q Q' i q=>h _ _ _ _ (λx z ⟨c,e,j⟩=>⟨c,e,by
 cases c with
 |true=>rw[if_pos rfl]at j ⊢;exact i _ _ j
 |false=>rw[if_neg J9]at j ⊢;exact k _ _ _ _ i j⟩) q
theorem uJ (h:ae ta):ae (mF ta):=λρ M Q Q' i q=>h _ _ _ _ (λx F j=>(by obtain⟨c,e,z⟩:=j;exact⟨c,e,i _ _ z⟩)) q
theorem uK {op:BoolOp}{t:TEd}(h:PE X a (lE X.K t)):PE X (.BoolOp op [a] pos) (lE X.K t):=Bm h
theorem C8 {rest:List Expr}(ma:ae ta)(mb:ae tb)(L:PE X a (lE X.K ta))(O:PE X (.BoolOp .And (b::rest) pos) (lE X.K tb)):PE X (.BoolOp .And (a::b::rest) pos) (lE X.K (mD ta tb)):=by
 refine PE.imp (Bo L O) λσ H Q h=>?_;obtain⟨ρ,M,rs,rm,q⟩:=h;refine⟨ρ,M,rs,rm,ma _ _ _ _ (λx U g9 v H1 F j J=>?_) q⟩;obtain⟨c,e,z⟩:=g9;subst e;refine⟨c,Tt.mp J,?_⟩
 cases c with
 |true=>rw[if_pos rfl]at z ⊢;exact⟨ρ,U,rs.mono (F.stab rm),j,mb _ _ _ _ (λd Y k=>k.ext F) z⟩
 |false=>rw[if_neg J9]at z ⊢;exact z _ H1 F j (Tt.mpr rfl)
theorem DQ {rest:List Expr}(ma:ae ta)(mb:ae tb)(L:PE X a (lE X.K ta))(O:PE X (.BoolOp .Or (b::rest) pos) (lE X.K tb)):PE X (.BoolOp .Or (a::b::rest) pos) (lE X.K (sm ta tb)):=by
 refine PE.imp (Dp L O) λσ H Q h=>?_;obtain⟨ρ,M,rs,rm,q⟩:=h;refine⟨ρ,M,rs,rm,ma _ _ _ _ (λx U g9 v H1 F j J=>?_) q⟩;obtain⟨c,e,z⟩:=g9;subst e;refine⟨c,Tt.mp J,?_⟩
 cases c with
 |true=>rw[if_pos rfl]at z ⊢;exact z _ H1 F j (Tt.mpr rfl)
 |false=>rw[if_neg J9]at z ⊢;exact⟨ρ,U,rs.mono (F.stab rm),j,mb _ _ _ _ (λd Y k=>k.ext F) z⟩
theorem C9 (ma:ae ta)(F:PE X a (lE X.K ta)):PE X (.UnaryOp .Not a pos) (lE X.K (mF ta)):=by
 refine PE.imp (Bp F) λσ H Q h=>?_;obtain⟨ρ,M,rs,rm,q⟩:=h;refine⟨ρ,M,rs,rm,ma _ _ _ _ (λx O g9 v H1 L j z=>?_) q⟩;obtain⟨c,e,J⟩:=g9;subst e;exact⟨c,Tt.mp z,J _ H1 L j (Tt.mpr rfl)⟩
noncomputable def wIf (t:TTd) (ta tb:TEd):TEd:=λρ M Q=>t ρ M λc M1=>if c=true then ta ρ M1 Q else tb ρ M1 Q
theorem A6 {t:TTd}(h:aI t)(z:ae ta)(F:ae tb):ae (wIf t ta tb):=λρ M Q Q' i q=>h _ _ _ _ (λc J j=>by
 cases c with
 |true=>rw[if_pos rfl]at j ⊢;exact z _ _ _ _ i j
 |false=>rw[if_neg J9]at j ⊢;exact F _ _ _ _ i j) q
theorem DR {c:Expr}{t:TTd}(mt:aI t)(ma:ae ta)(mb:ae tb)(L:PT X c (lT X.K t))(O:PE X a (lE X.K ta))(U:PE X b (lE X.K tb)):PE X (.IfExp c a b pos) (lE X.K (wIf t ta tb)):=by
 refine PE.imp (nk L O U) λσ H Q h=>?_;obtain⟨ρ,M,rs,rm,q⟩:=h;refine⟨ρ,M,rs,rm,mt _ _ _ _ (λx J z H1 F j=>?_) q⟩
 cases x with
 |true=>rw[if_pos rfl]at z ⊢;exact⟨ρ,J,rs.mono (F.stab rm),j,ma _ _ _ _ (λd Y k=>k.ext F) z⟩
 |false=>rw[if_neg J9]at z ⊢;exact⟨ρ,J,rs.mono (F.stab rm),j,mb _ _ _ _ (λd Y k=>k.ext F) z⟩
noncomputable def cA (xs:List D) (lo hi:Option Int):List D:=(xs.drop (HT.sIx xs.length 0 lo)).take (HT.sIx xs.length xs.length hi - HT.sIx xs.length 0 lo)
theorem oz (r:RDs K H ds vs)(lo hi:Option Int):RDs K H (cA ds lo hi) (gF vs lo hi):=by
 unfold cA gF;rw[r.length];exact(r.drop _).take _
noncomputable abbrev TOd:=am->Mem->(Option Int->Mem->Prop)->Prop
def bX (T:TOd):Prop:=∀ ρ M Q Q',(∀ d M',Q d M'->Q' d M')->T ρ M Q->T ρ M Q'
noncomputable def ia:TOd:=λ_ M Q=>Q none M
noncomputable def ib (t:TEd):TOd:=λρ M Q=>t ρ M λx M1=>∃ i,x = .int i/\Q (some i) M1
theorem qj:bX ia:=λ_ _ _ _ h q=>h _ _ q
theorem gL (h:ae ta):bX (ib ta):=λρ M Q Q' i q=>h _ _ _ _ (λx F j=>(by obtain⟨c,e,z⟩:=j;exact⟨c,e,i _ _ z⟩)) q
noncomputable def lO (K:Frag) (T:TOd):TO:=λσ H Q=>∃ ρ M,RS K H σ ρ /\ RM K M H/\T ρ M (λo M'=>∀ H',Ext M H M' H'->RM K M' H'->Q o H')
theorem A7:PO X none (lO X.K ia):=λpins s σ H Q I h=>by
 obtain⟨ρ,M,rs,rm,q⟩:=h;exact ki pins s σ H Q I (q H Ext.refl rm)
theorem qL (m:ae ta)(h:PE X e (lE X.K ta)):PO X (some e) (lO X.K (ib ta)):=λpins s σ H Q I hq=>by
 obtain⟨ρ,M,rs,rm,q⟩:=hq;refine zE h pins s σ H Q I ⟨ρ,M,rs,rm,m _ _ _ _ (λx L g9 v H1 J j z=>?_) q⟩;obtain⟨i,e,F⟩:=g9;subst e;exact⟨i,Tq.mp z,F H1 J j⟩
noncomputable def dy:D->Option Int->Option Int->Mem->QD->Prop:=λx lo hi M Q=>match x with
 |.tup ds=>Q (.tup (cA ds lo hi)) M
 |.ref a=>∃ ds,M a=some (.lst ds) /\ ∀ p,M p=none->Q (.ref p) (af M p (.lst (cA ds lo hi)))
 |.con ds=>∀ p,M p=none->Q (.ref p) (af M p (.lst (cA ds lo hi)))
 |_=>False
noncomputable def wSl (te:TEd) (tl th:TOd):TEd:=λρ M Q=>te ρ M λx M1=>tl ρ M1 λl M2=>th ρ M2 λu M3=>dy x l u M3 Q
theorem so {lo hi:Option Int}{Q Q':QD}(h:∀ d M',Q d M'->Q' d M')(q:dy x lo hi M Q):dy x lo hi M Q':=by
 cases x with
 |tup ds=>exact h _ _ q
 |ref a=>obtain⟨ds,e,q⟩:=q;exact⟨ds,e,λp n=>h _ _ (q p n)⟩
 |con ds=>exact λp n=>h _ _ (q p n)
 |_=>exact q.elim
theorem A8 {tl th:TOd}(m:ae ta)(ml:bX tl)(mh:bX th):ae (wSl ta tl th):=λρ M Q Q' i q =>
 m _ _ _ _ (λx J j=>ml _ _ _ _ (λl L z=>mh _ _ _ _ (λu O F=>so i F) z) j) q
theorem DS {lo hi:Option Expr}{tl th:TOd}{p2:Pos}(m:ae ta)(ml:bX tl)(mh:bX th)(he:PE X e (lE X.K ta))(hl:PO X lo (lO X.K tl))(hu:PO X hi (lO X.K th)) :
 PE X (.Subscript e (.Slice lo hi none p2) pos) (lE X.K (wSl ta tl th)):=by
 refine PE.imp (iM (sl_tup.or (sl_list.or wG)) he hl hu) λσ H Q h=>?_;obtain⟨ρ,M,rs,rm,q⟩:=h;refine⟨ρ,M,rs,rm,m _ _ _ _ (λx M1 q1 v H1 Y L Z=>?_) q⟩;refine⟨ρ,M1,rs.mono (Y.stab rm),L,ml _ _ _ _ (λl M2 q2 H2 x2 U=>?_) q1⟩;refine⟨ρ,M2,(rs.mono (Y.stab rm)).mono (x2.stab L),U,mh _ _ _ _ (λu M3 z H3 x3 j=>?_) q2⟩;have F:=Y.trans (x2.trans x3);have J:=(Z.mono (x2.stab L)).mono (x3.stab U)
 cases x with
 | tup ds =>
   obtain⟨a,vs,rfl,O,r⟩:=Tw J
   by_cases hw:HT.sIx vs.length 0 l=0/\HT.sIx vs.length vs.length u=vs.length
   ·refine .inr (.inr ⟨a,vs,rfl,O,hw,?_⟩);have e:cA ds l u=ds:=by
     unfold cA;rw[<- r.length,hw.1,hw.2,r.length];simp
    simp only[dy]at z;rw[e]at z;exact z.ext F _ H3 Ext.refl j J
   ·simp only[dy]at z;exact .inl ⟨a,vs,rfl,O,hw,λp n=>da j (oz r l u) (z.ext F) n⟩
 | ref a =>
   cases Ts.mp J
   obtain⟨ds,e,z⟩:=z;obtain⟨vs,O,r⟩:=j _ _ e;exact .inr (.inl ⟨a,vs,rfl,SqL.of O,λp n=>db j (oz r l u) (λp' n'=>(z p' n').ext F) n⟩)
 | con ds =>
   obtain⟨a,vs,rfl,O,r⟩:=Tz.mp J;exact .inr (.inl ⟨a,vs,rfl,O.sq,λp n=>db j (oz r l u) (λp' n'=>(z p' n').ext F) n⟩)
 |_=>exact z.elim
end
end
variable {ta:TEd}{pos:Pos}{tg:Expr}{H1:Hp}
section
section
variable {X:Cx}
noncomputable def tyN (M:Mem):D->Option String
 |.non=>some "NoneType"
 |.bl _=>some "bool"
 |.int _=>some "int"
 |.str _=>some "str"
 |.tup _=>some "tuple"
 |.ref a=>match M a with
  |some (.lst _)=>some "list"
  |some (.dct _ _)=>some "dict"
  |_=>none
 |.con _=>none
 |.fn _=>none
noncomputable def xi (T t:String):Bool:=t==T || (t == "bool" && T == "int")
theorem DT {t:String}(rm:RM K M H)(r:RD K H x v)(e:tyN M x=some t):cK K H v (.type t):=by
 cases x with
 |non=>cases e;cases Tv.mp r;exact .non
 |bl k=>cases e;cases Tt.mp r;exact .bl k
 |int i=>cases e;cases Tq.mp r;exact .int i
 |str i=>cases e;cases Tr.mp r;exact .str i
 | tup ds =>
   cases e
   obtain⟨a,vs,rfl,j,rs⟩:=Tw r;exact .tup j
 |con ds=>cases e
 |fn _=>cases e
 | ref a =>
   cases Ts.mp r
   simp only[tyN]at e
   cases e0:M a with
   |none=>rw[e0]at e;cases e
   | some o =>
     rw[e0]at e
     cases o with
     | lst ds =>
       cases e
       obtain⟨vs,j,rs⟩:=rm _ _ e0;exact .lst j
     | dct t kvs =>
       cases e
       have ro:=rm _ _ e0
       cases t with
       |false=>obtain⟨ps,j,_⟩:=ro;exact .dK j
       |true=>obtain⟨ps,j,_⟩:=ro;exact .dT j
     |fdc kvs=>cases e
     |dcn _=>cases e
     |tab _ _=>cases e
     |fdn _=>cases e
noncomputable def eI:List String:=["NoneType","bool","int","str","tuple","list","dict"]
theorem A9 (K:Frag):∀ T∈["bool","int","str","tuple","list","dict"],∀ t∈eI,Ox K (.type t) (.type T)=some (xi T t):=by
 intro T j t z;simp only[eI,Jl,JB,or_false]at j z
 rcases j with rfl|rfl|rfl|rfl|rfl|rfl <;> rcases z with rfl|rfl|rfl|rfl|rfl|rfl|rfl <;> rfl
noncomputable def mG (T:String) (ta:TEd):TEd:=λρ M Q=>ta ρ M λx M1=>∃ t,tyN M1 x=some t/\Q (.bl (xi T t)) M1
theorem uL {T:String}(h:ae ta):ae (mG T ta):=λρ M Q Q' i q=>h _ _ _ _ (λx F j=>(by obtain⟨t,e,z⟩:=j;exact⟨t,e,i _ _ z⟩)) q
theorem Ab {t:String}(e:tyN M x=some t):t∈eI:=by
 cases x with
 | ref a =>
   simp only[tyN]at e
   cases e0:M a with
   |none=>rw[e0]at e;cases e
   |some o=>rw[e0]at e;cases o <;> cases e <;> simp[eI]
 |con _=>cases e
 |fn _=>cases e
 |_=>cases e;simp[eI]
theorem uM (T:String)(j:T∈["bool","int","str","tuple","list","dict"]):CallR X (.builtin "isinstance") (λvs H Q=>∃ v t,vs=[v,.ty T]/\cK X.K H v (.type t)/\t∈eI/\Q (.bl (xi T t)) H):=by
 intro pins s σ H xs us Q I r h;obtain⟨v,t,rfl,ty,z,q⟩:=h;obtain⟨u,c,rfl,ru,rc⟩:=rN r
 cases rc
 exact uf I ru ty (A9 X.K T j t z) λtk=>⟨.bl _,H,I.tok tk,rfl,q⟩
theorem Ac {T:String}{y:Str}{p p2:Pos}(Y:T∈["bool","int","str","tuple","list","dict"])(m:ae ta)(he:PE X e (lE X.K ta))(Z:Gl X "isinstance")(hm:X.mg "isinstance" = none)(z:Gl X y)(F:X.mg y=none)(hv:LW y=some (.type T))(hn:y ≠ "__name__")(J:(y==("__debug__":Str))=false)(U:Jt [e,.Name y p2] X.env=(false,eval e X.env)::Jt [.Name y p2] X.env)(L:(KH pos (Jt [.Name y p2] X.env)).any (·.1)=false) :
 PE X (.Call (.Name "isinstance" p) [e,.Name y p2] [] pos) (lE X.K (mG T ta)):=by
 have h2:PE X (.Name y p2) (tC (.ty T)):=zq z F hv rfl hn J;refine PE.imp (bM (uM T Y) Z hm (by decide +kernel) (cG he (cG h2 gw rfl) U) (by decide) (by decide) U L) λσ H Q h=>?_
 obtain⟨ρ,M,rs,rm,q⟩:=h;exact⟨ρ,M,rs,rm,m _ _ _ _ (λx M1 g9 v H1 x1 j O=>(by obtain⟨t,e,q1⟩:=g9;exact⟨v,t,rfl,DT j O e,Ab e,q1 _ H1 x1 j (Tt.mpr rfl)⟩)) q⟩
noncomputable def wBM (rd:D->List D->Mem->QD->Prop) (to:TEd) (t:TAd):TEd:=λρ M Q=>to ρ M λx M1=>(∃ a xs,x = .ref a/\M1 a=some (.lst xs))/\t ρ M1 λds M2=>rd x ds M2 Q
def fg (rd:D->List D->Mem->QD->Prop):Prop:=∀ x ds M Q Q',(∀ d M',Q d M'->Q' d M')->rd x ds M Q->rd x ds M Q'
theorem Ad {rd:D->List D->Mem->QD->Prop}{to:TEd}{t:TAd}(hr:fg rd)(mo:ae to)(mt:bw t):ae (wBM rd to t):=λρ M Q Q' i q =>
 mo _ _ _ _ (λx J j=>(by obtain⟨e,z⟩:=j;exact⟨e,mt _ _ _ _ (λds L F=>hr _ _ _ _ _ i F) z⟩)) q
theorem DU (rm:RM K M H)(r:RD K H x v)(h:∃ a xs,x = .ref a/\M a=some (.lst xs)):tyV K "list" v H:=by
 obtain⟨a,xs,rfl,e⟩:=h
 cases Ts.mp r
 obtain⟨vs,j,_⟩:=rm _ _ e;exact .inl ⟨rfl,vs,SqL.of j⟩
theorem ky {rd:D->List D->Mem->QD->Prop}{r:V->List V->Hp->VK->Prop}{to:TEd}{t:TAd}(hr:fg rd)(mo:ae to)(mt:bw t)(U:∀ v vs H Q,lMt K rd v vs H Q->r v vs H Q)(σ:St)(H:Hp)(Q:VK)(h:lE K (wBM rd to t) σ H Q):tBM K "list" r (lE K to) (lA K t) σ H Q:=by
 obtain⟨ρ,M,rs,rm,q⟩:=h;refine⟨ρ,M,rs,rm,mo _ _ _ _ (λx Y ⟨e,Z⟩ v H1 L j z=>⟨DU j z e,?_⟩) q⟩;refine⟨ρ,Y,rs.mono (L.stab rm),j,mt _ _ _ _ (λds M2 q2 vs H2 O F J=>?_) Z⟩;exact U v vs H2 Q ⟨x,ds,M2,F,z.mono (O.stab j),J,hr _ _ _ _ _ (λd M' k=>k.ext (L.trans O)) q2⟩
noncomputable def ic:D->List D->Mem->QD->Prop:=λx ds M Q=>∃ a xs y,x = .ref a/\ds=[y]/\M a=some (.lst xs)/\xs.length<Je/\Q .non (af M a (.lst (xs++[y])))
theorem iF:fg ic:=λ_ _ _ _ _ h j=>(by obtain⟨a,xs,y,F,J,L,z,q⟩:=j;exact⟨a,xs,y,F,J,L,z,h _ _ q⟩)
theorem qM {o0:O}(rm:RM K M H)(m:M a=some o0)(rd:RDs K H ds vs)(r:RD K H d v)(q:KE' K M H Q d (af M a (.lst ds)))(w:fz (some o0)=false:=by rfl) :
 Q v (upd H a (.lst vs)):=by
 have st:Stab H (upd H a (.lst vs)):=rm.stabPut m w;exact q v _ (Ext.put m w) (rm.put m ⟨vs,au,rd.mono st⟩ w) (r.mono st)
theorem xj (v:V)(vs:List V)(H:Hp)(Q:VK)(h:lMt K ic v vs H Q):qD v vs H Q:=by
 obtain⟨x,ds,M,rm,rx,rs,a,xs,y,rfl,rfl,e,z,q⟩:=h
 cases Ts.mp rx
 obtain⟨w,rfl,rw'⟩:=rs.one;obtain⟨us,j,ru⟩:=rm _ _ e;exact⟨a,us,w,rfl,rfl,j,by rw[ru.length];exact z,qM rm e (ru.append (RDs.cons rw' RDs.nil)) (Tv.mpr rfl) q⟩
noncomputable abbrev BT:=D->am->Option am
noncomputable abbrev BTs:=List D->am->Option am
noncomputable def cq (i:Nat):BT:=λd ρ=>some (ρ.set i (some d))
noncomputable def iR:BTs:=λds ρ=>match ds with|[]=>some ρ|_=>none
noncomputable def cr (b:BT) (bs:BTs):BTs:=λds ρ=>match ds with|d::r=>(b d ρ).bind λρ'=>bs r ρ'|[]=>none
noncomputable def xk (bs:BTs):BT:=λd ρ=>match d with|.tup ds=>bs ds ρ|_=>none
noncomputable def lG (K:Frag) (b:BT):TG:=λv σ H Q=>∃ d ρ ρ',RD K H d v/\RS K H σ ρ /\ b d ρ = some ρ' /\ ∀ σ',RS K H σ' ρ'->Q σ' H
noncomputable def lGs (K:Frag) (b:BTs):TGs:=λvs σ H Q=>∃ ds ρ ρ',RDs K H ds vs/\RS K H σ ρ /\ b ds ρ = some ρ' /\ ∀ σ',RS K H σ' ρ'->Q σ' H
theorem PG.imp {t t':TG}(h:PG X e t)(i:∀ v σ H Q,t' v σ H Q->t v σ H Q):PG X e t':=λpins s σ H v u Q I r q=>h pins s σ H v u Q I r (i _ _ _ _ q)
theorem PGs.imp {e:List Expr}{t t':TGs}(h:PGs X e t)(i:∀ v σ H Q,t' v σ H Q->t v σ H Q):PGs X e t':=λpins s σ H v u Q I r q=>h pins s σ H v u Q I r (i _ _ _ _ q)
theorem Ae {i:Nat}{x:Str}(j:X.N.Nodup)(hi:X.N[i]? = some x)(hx:Loc X.env.scope x)(hf:X.fn x=true∨X.env.scope.names.lookup x=some .local):PG X (.Name x pos) (lG X.K (cq i)) :=
 PG.imp (qz j hi hx hf) λv σ H Q ⟨d,ρ,ρ',r,rs,e,q⟩=>by
  cases e
  exact q _ (rs.set i r)
theorem Af:PGs X [] (lGs X.K iR):=PGs.imp zw λvs σ H Q ⟨ds,ρ,ρ',r,rs,e,q⟩=>by
 cases ds with
 |nil=>cases e;exact⟨RDs.nil_iff.mp r,q σ rs⟩
 |cons _ _=>cases e
theorem xl {es:List Expr}{b:BT}{bs:BTs}(h1:PG X e (lG X.K b))(h2:PGs X es (lGs X.K bs))(z:(L4 (e::es) X.env).map (·.2)=assign e X.env::(L4 es X.env).map (·.2)) :
 PGs X (e::es) (lGs X.K (cr b bs)):=PGs.imp (wk h1 h2 z) λvs σ H Q ⟨ds,ρ,ρ',r,rs,e,q⟩=>by
 cases ds with
 |nil=>cases e
 | cons d ds =>
   obtain⟨v,vr,rfl,F,J⟩:=Tu.mp r;simp only[cr]at e
   cases j:b d ρ with
   |none=>rw[j]at e;cases e
   | some ρ1 =>
     rw[j]at e;exact⟨v,vr,rfl,d,ρ,ρ1,F,rs,j,λσ' rs'=>⟨ds,ρ1,ρ',J,rs',e,q⟩⟩
theorem Ca {es:List Expr}{k:Nat}{bs:BTs}{n:Nat}(z:X.calm=true)(hlen:∀ ds ρ ρ',bs ds ρ = some ρ'->ds.length=n)(h:PGs X es (lGs X.K bs))(F:(L4 es X.env).length=n)(j:(L4 es X.env).findIdx? (·.1)=none) :
 PG X (.Tuple es k pos) (lG X.K (xk bs)):=PG.imp (Bt z h F j) λv σ H Q ⟨d,ρ,ρ',r,rs,e,q⟩=>by
 cases d with
 | tup ds =>
   obtain⟨a,vs,rfl,J,rv⟩:=Tw r;exact⟨a,vs,rfl,J,by rw[rv.length];exact hlen _ _ _ e,ds,ρ,ρ',rv,rs,e,q⟩
 |_=>cases e
noncomputable abbrev TId:=am->Mem->(List D->(Mem->Prop)->Mem->Prop)->Prop
def bN (T:TId):Prop:=∀ ρ M Q Q',(∀ xs c M',Q xs c M'->Q' xs c M')->T ρ M Q->T ρ M Q'
def Yl (H H':Hp):Prop:=H'=H∨∃ q vs,H q=none/\H'=upd H q (.tup vs)
def fW (K:Frag) (H1:Hp) (xs:List D) (chk:Mem->Prop) (J:It):Prop:=∀ M H,Stab H1 H->RM K M H->chk M -> ∀ i,(xs.length<=i->J.stop i H)/\(i<xs.length->J.go i H /\
 ∀ x H',J.yld i H x H'->Yl H H' /\ ∃ d,xs[i]? = some d/\RD K H' d x)
noncomputable def lI (K:Frag) (T:TId):TI:=λσ H R=>∃ ρ M,RS K H σ ρ /\ RM K M H/\T ρ M (λxs chk M1=>∀ J H1,Ext M H M1 H1->RM K M1 H1->fW K H1 xs chk J->R J H1)
theorem PI.imp {t t':TI}(h:PI X tg e t)(i:∀ σ H Q,t' σ H Q->t σ H Q):PI X tg e t':=λpins s σ H Q I q=>h pins s σ H Q I (i _ _ _ q)
theorem Yl.ext {H':Hp}(rm:RM K M H)(y:Yl H H'):Ext M H M H'/\RM K M H':=by
 rcases y with rfl|⟨q,vs,n,rfl⟩
 ·exact⟨Ext.refl,rm⟩
 ·exact⟨TB n,rm.new n⟩
noncomputable def F9 (K:Frag) (tl:TE):TI:=λσ H R=>tl σ H λx H1=>∃ a,x = .ref a/\(((∃ xs,SqL K H1 a xs)/\R (Itl K a) H1)∨((∃ xs,SqT K H1 a xs)/\R (Itt K a) H1))
theorem Cb {l:Expr}{tl:TE}(J:PE X l tl):PI X tg l (F9 X.K tl):=by
 intro pins s σ H R I h;refine thn (J pins s σ H _ I h) λv s1 L=>?_;obtain⟨x,H1,j,O,U⟩:=L;obtain⟨a,e,q⟩:=U;subst e
 cases O
 rcases q with⟨⟨xs,z⟩,q⟩|⟨⟨xs,z⟩,q⟩
 ·obtain⟨its,rv,p,Y⟩:=j.list z;refine KP p.isList ?_;refine⟨s1.heap.objs.size,[s1.heap.objs.size],_,_,H1,rfl,j.kept (t':=s1.toks) λb o e=>s9 _ e,u5 a _,⟨_,Jo _ rfl,rfl,rfl⟩,λb F=>?_,q⟩;have e:b=s1.heap.objs.size:=by simpa using F
  subst e;exact j.fpOk (Jg _) (j.hok.fresh (Jg _))
 ·obtain⟨its,rv,p,Y⟩:=j.tuple z;refine Kz (show s1.heap.IsTuple a its.toArray from p) ?_;refine⟨s1.heap.objs.size,[s1.heap.objs.size],_,_,H1,rfl,j.kept (t':=s1.toks) λb o e=>s9 _ e,rF a _,⟨_,Jo _ rfl,rfl,rfl⟩,λb F=>?_,q⟩;have e:b=s1.heap.objs.size:=by simpa using F
  subst e;exact j.fpOk (Jg _) (j.hok.fresh (Jg _))
noncomputable def sr (ta:TEd):TId:=λρ M R=>ta ρ M λx M1=>∃ ds,aO M1 x=some ds/\R ds (λM=>aO M x=some ds) M1
theorem xm (h:ae ta):bN (sr ta):=λρ M Q Q' i q=>h _ _ _ _ (λx F j=>(by obtain⟨ds,e,z⟩:=j;exact⟨ds,e,i _ _ _ z⟩)) q
theorem uN {chk:Mem->Prop}(h:∀ M H,Stab H1 H->RM K M H->chk M -> ∃ vs,SqL K H a vs/\RDs K H ds vs):fW K H1 ds chk (Itl K a):=λM H st rm c i=>by
 obtain⟨vs,sq,r⟩:=h M H st rm c;have l:=r.length;refine⟨λhi=>⟨vs,sq,by lia⟩,λhi=>⟨⟨vs,vs[i]'(by lia),sq,Jh (by lia)⟩,λx H' y=>?_⟩⟩
 obtain⟨e,y⟩:=y;subst e;exact⟨.inl rfl,r.getV (y vs sq)⟩
theorem Cd {chk:Mem->Prop}(h:∀ M H,Stab H1 H->RM K M H->chk M -> ∃ vs,SqT K H a vs/\RDs K H ds vs):fW K H1 ds chk (Itt K a):=λM H st rm c i=>by
 obtain⟨vs,sq,r⟩:=h M H st rm c;have l:=r.length;refine⟨λhi=>⟨vs,sq,by lia⟩,λhi=>⟨⟨vs,vs[i]'(by lia),sq,Jh (by lia)⟩,λx H' y=>?_⟩⟩
 obtain⟨e,y⟩:=y;subst e;exact⟨.inl rfl,r.getV (y vs sq)⟩
theorem Ce {l:Expr}(m:ae ta)(L:PE X l (lE X.K ta)):PI X tg l (lI X.K (sr ta)):=by
 refine PI.imp (Cb L) λσ H R h=>?_;obtain⟨ρ,M,rs,rm,q⟩:=h;refine⟨ρ,M,rs,rm,m _ _ _ _ (λx U g9 v H1 J j rd1=>?_) q⟩;obtain⟨ds,e,F⟩:=g9
 cases x with
 | tup es =>
   cases e
   obtain⟨a,vs,rfl,z,rv⟩:=Tw rd1;exact⟨a,rfl,.inr ⟨⟨vs,z⟩,F _ H1 J j (Cd λM' H' st _ _=>⟨vs,st.sqT z,rv.mono st⟩)⟩⟩
 | con es =>
   cases e
   obtain⟨a,vs,rfl,z,rv⟩:=Tz.mp rd1;exact⟨a,rfl,.inl ⟨⟨vs,z.sq⟩,F _ H1 J j (uN λM' H' st _ _=>⟨vs,(st.sqF z).sq,rv.mono st⟩)⟩⟩
 | ref a =>
   cases Ts.mp rd1
   have get:∀ {M':Mem} {es:List D},aO M' (.ref a)=some es->M' a=some (.lst es):=λ{M' es} e=>by
    simp only[aO]at e
    cases e0:M' a with
    |none=>rw[e0]at e;cases e
    | some o =>
      rw[e0]at e
      cases o with
      |dct _ _=>cases e
      |fdc _=>cases e
      |dcn _=>cases e
      |tab _ _=>cases e
      |fdn _=>cases e
      |lst es'=>cases e;rfl
   obtain⟨vs,z,rv⟩:=j _ _ (get e);exact⟨a,rfl,.inl ⟨⟨vs,SqL.of z⟩,F _ H1 J j (uN λM' H' st rm' c=>by
    obtain⟨us,O,ru⟩:=rm' _ _ (get c);exact⟨us,SqL.of O,ru⟩)⟩⟩
 |_=>cases e
noncomputable def cO (lo:Int) (n:Nat):List D:=(KZ n).map λi=>.int (lo+(i:Nat))
theorem Cf {lo:Int}{n:Nat}:fW K H1 (cO lo n) (λ_=>True) (Itr lo n):=λM H st rm c i=>by
 have l:(cO lo n).length=n:=by simp[cO]
 refine⟨λhi=>by show n<=i;lia,λhi=>⟨by show i<n;lia,λx H' y=>?_⟩⟩
 obtain⟨e,y⟩:=y;subst e y;refine⟨.inl rfl,.int (lo+i),?_,Tq.mpr rfl⟩;simp only[cO,JF,List.getElem?_range (show i<n by lia),Lx]
noncomputable def mH (ta:TAd):TId:=λρ M R=>ta ρ M λds M1=>∃ j:Int,ds=[.int j] /\ -(2 ^ 62)<=j/\j<2 ^ 62/\R (cO 0 j.toNat) (λ_=>True) M1
theorem uO {ta:TAd}(h:bw ta):bN (mH ta):=λρ M Q Q' i q=>h _ _ _ _ (λx J z=>(by obtain⟨j,e,a,b,F⟩:=z;exact⟨j,e,a,b,i _ _ _ F⟩)) q
theorem Ag {a:Expr}{ta:TAd}{p:Pos}(m:bw ta)(F:Gl X "range")(hm:X.mg "range" = none)(J:PA X [a] (lA X.K ta))(L:Jt [a] X.env=[(false,eval a X.env)]):PI X tg (.Call (.Name "range" p) [a] [] pos) (lI X.K (mH ta)):=by
 refine PI.imp (u6 F hm J L) λσ H R h=>?_;obtain⟨ρ,M,rs,rm,q⟩:=h;refine⟨ρ,M,rs,rm,m _ _ _ _ (λds M1 g9 vs H1 Z z rd1=>?_) q⟩;obtain⟨j,e,O,U,Y⟩:=g9;subst e;obtain⟨v,rfl,r⟩:=rd1.one
 cases Tq.mp r
 exact⟨j,rfl,O,U,Y _ H1 Z z Cf⟩
end
end
end Mi
namespace Mi
end Mi
namespace Mi
variable {K:Frag}{M:Mem}{H H1:Hp}{x:D}{ta:TEd}{xs:List D}{pos pos':Pos}
section
section
variable {X:Cx}
noncomputable def isT:D->Bool|.tup _=>true|_=>false
theorem eU {ds:List D}{v:V}(rm:RM K M H)(r:RD K H x v)(e:aO M x=some ds):∃ p vs,v = .ref p/\SqV K (isT x) H p vs/\RDs K H ds vs:=by
 cases x with
 | tup es =>
   cases e
   obtain⟨a,vs,rfl,j,rv⟩:=Tw r;exact⟨a,vs,rfl,j,rv⟩
 | con es =>
   cases e
   obtain⟨a,vs,rfl,j,rv⟩:=Tz.mp r;exact⟨a,vs,rfl,j.sq,rv⟩
 | ref a =>
   cases Ts.mp r
   simp only[aO]at e
   cases e0:M a with
   |none=>rw[e0]at e;cases e
   | some o =>
     rw[e0]at e
     cases o with
     |dct _ _=>cases e
     |fdc _=>cases e
     |dcn _=>cases e
     |tab _ _=>cases e
     |fdn _=>cases e
     | lst es =>
       cases e
       obtain⟨vs,j,rv⟩:=rm _ _ e0;exact⟨a,vs,rfl,SqL.of j,rv⟩
 |_=>cases e
noncomputable def ig (x y:D):D:=.tup [x,y]
noncomputable def kz (ta tb:TEd):TId:=λρ M R=>aN ta (aN tb bA) ρ M λds M1=>∃ x y xs ys,ds=[x,y]/\aO M1 x=some xs/\aO M1 y=some ys/\R (PZ ig xs ys) (λM=>aO M x=some xs/\aO M y=some ys) M1
theorem xo {tb:TEd}(j:ae ta)(z:ae tb):bN (kz ta tb):=λρ M Q Q' i q=>aG j (aG z aB) _ _ _ _ (λds U F=>(by obtain⟨x,y,xs,ys,e,J,L,O⟩:=F;exact⟨x,y,xs,ys,e,J,L,i _ _ _ O⟩)) q
theorem iS {p:Addr}{o:HO}(n:H p=none):Stab H (upd H p o):=⟨λa xs e=>by rw[ai (λz=>by rw[z,n]at e;cases e)];exact e,λa o u e=>by rw[ai (λz=>by rw[z,n]at e;cases e)];exact e⟩
theorem Cg {y:D}{ys:List D}{a b:Addr}(rx:RD K H1 x (.ref a))(ry:RD K H1 y (.ref b)):fW K H1 (PZ ig xs ys) (λM=>aO M x=some xs/\aO M y=some ys) (Itz K (isT x) (isT y) a b):=λM H st rm c i=>by
 obtain⟨p1,vs,Y,j,O⟩:=eU rm (rx.mono st) c.1;obtain⟨p2,us,Z,z,U⟩:=eU rm (ry.mono st) c.2
 cases Y
 cases Z
 have l1:=O.length;have l2:=U.length;have lz:(PZ ig xs ys).length=min xs.length ys.length:=List.length_zipWith;refine⟨λhi=>⟨vs,us,j,z,by lia⟩,λhi=>⟨⟨vs,us,vs[i]'(by lia),us[i]'(by lia),j,z,Jh (by lia),Jh (by lia)⟩,λv H' hy=>?_⟩⟩
 obtain⟨p,v1,v2,n,rfl,rfl,g⟩:=hy;obtain⟨g1,g2⟩:=g vs us j z;obtain⟨d1,F,J⟩:=O.getV g1;obtain⟨d2,hd2,L⟩:=U.getV g2;have sb:=iS (o:=.tup [v1,v2]) n;refine⟨.inr ⟨p,[v1,v2],n,rfl⟩,.tup [d1,d2],?_,TJ ⟨p,[v1,v2],rfl,au,RDs.cons (J.mono sb) (RDs.cons (L.mono sb) RDs.nil)⟩⟩;rw[List.getElem?_zipWith,F,hd2];rfl
theorem Ch {elts:List Expr}{cx}{p:Pos}{a b:Expr}{tb:TEd}(ma:ae ta)(mb:ae tb)(L:Gl X "zip")(hm:X.mg "zip" = none)(O:PA X [a,b] (lA X.K (aN ta (aN tb bA))))(U:Jt [a,b] X.env=[(false,eval a X.env),(false,eval b X.env)])(z:Jt [b] X.env=[(false,eval b X.env)]) :
 PI X (.Tuple elts cx pos) (.Call (.Name "zip" p) [a,b] [] pos') (lI X.K (kz ta tb)):=by
 refine PI.imp (BR L hm O U z) λσ H R h=>?_;obtain⟨ρ,M,rs,rm,q⟩:=h;refine⟨ρ,M,rs,rm,aG ma (aG mb aB) _ _ _ _ (λds M1 g9 vs H1 x1 j rd1=>?_) q⟩;obtain⟨x,y,xs,ys,e,Y,Z,q1⟩:=g9;subst e;obtain⟨v,u,rfl,F,J⟩:=rd1.two;obtain⟨p1,vs,rfl,s1,_⟩:=eU j F Y;obtain⟨p2,us,rfl,s2,_⟩:=eU j J Z;exact⟨p1,p2,isT x,isT y,vs,us,rfl,s1,s2,q1 _ H1 x1 j (Cg F J)⟩
end
end
section
section
variable {X:Cx}
noncomputable def dX (xs:List D):List D:=xs.mapIdx λi x=>.tup [.int (i:Nat),x]
noncomputable def mJ (ta:TEd):TId:=λρ M R=>ta ρ M λx M1=>∃ xs,aO M1 x=some xs/\R (dX xs) (λM=>aO M x=some xs) M1
theorem uP (h:ae ta):bN (mJ ta):=λρ M Q Q' i q=>h _ _ _ _ (λx F j=>(by obtain⟨ds,e,z⟩:=j;exact⟨ds,e,i _ _ _ z⟩)) q
theorem Ci {a:Addr}(rx:RD K H1 x (.ref a)):fW K H1 (dX xs) (λM=>aO M x=some xs) (Ite K (isT x) a):=λM H st rm c i=>by
 obtain⟨U,vs,L,j,J⟩:=eU rm (rx.mono st) c
 cases L
 have l1:=J.length;have lz:(dX xs).length=xs.length:=by simp[dX]
 refine⟨λhi=>⟨vs,j,by lia⟩,λhi=>⟨⟨vs,vs[i]'(by lia),j,Jh (by lia)⟩,λv H' O=>?_⟩⟩
 obtain⟨p,v1,n,rfl,rfl,g⟩:=O;obtain⟨d1,z,F⟩:=J.getV (g vs j);have sb:=iS (o:=.tup [.int (i:Nat),v1]) n;refine⟨.inr ⟨p,[.int (i:Nat),v1],n,rfl⟩,.tup [.int (i:Nat),d1],?_,TJ ⟨p,[.int (i:Nat),v1],rfl,au,RDs.cons (Tq.mpr rfl) (RDs.cons (F.mono sb) RDs.nil)⟩⟩;simp[dX,LC,z]
theorem Ah {elts:List Expr}{cx}{p:Pos}{a:Expr}(ma:ae ta)(F:Gl X "enumerate")(hm:X.mg "enumerate" = none)(J:PA X [a] (lA X.K (aN ta bA)))(L:Jt [a] X.env=[(false,eval a X.env)]) :
 PI X (.Tuple elts cx pos) (.Call (.Name "enumerate" p) [a] [] pos') (lI X.K (mJ ta)):=by
 refine PI.imp (zK F hm J L) λσ H R h=>?_;obtain⟨ρ,M,rs,rm,q⟩:=h;refine⟨ρ,M,rs,rm,ma _ _ _ _ (λx M1 g9 vs H1 Y j rd1=>?_) q⟩;obtain⟨xs,O,U⟩:=g9;obtain⟨v,rfl,z⟩:=rd1.one;obtain⟨Z,us,rfl,s1,_⟩:=eU j z O;exact⟨Z,isT x,us,rfl,s1,U _ H1 Y j (Ci z)⟩
end
end
variable {b:BT}{vs:List V}{te:TEd}{src:TId}
section
noncomputable abbrev NC:=am->Mem->List D->Prop
noncomputable abbrev TCd:=am->Mem->List D->NC->Prop
def bY (T:TCd):Prop:=∀ ρ M acc N N',(∀ ρ' M' acc',N ρ' M' acc'->N' ρ' M' acc')->T ρ M acc N->T ρ M acc N'
structure ExtP (p:Addr) (M:Mem) (H:Hp) (M':Mem) (H':Hp):Prop where
 kp:∀ a o,a≠p->fz (M a)=true->H a=some o->H' a=some o
 nw:∀ a o,fz (M a)=true->H a=some o->M' a=M a
section
variable {K:Frag} {M M' M'':Mem} {H H' H'':Hp} {p:Addr}
theorem ExtP.new (x:ExtP p M H M' H')(a:Addr)(o:HO)(n:M a=none)(e:H a=some o):M' a=none:=(x.nw a o (by rw[n];rfl) e).trans n
theorem Ext.toP (x:Ext M H M' H'):ExtP p M H M' H':=⟨λa o _=>x.kp a o,x.nw⟩
theorem ExtP.refl:ExtP p M H M H:=⟨λ_ _ _ _ h=>h,λ_ _ _ _=>rfl⟩
theorem ExtP.trans (a:ExtP p M H M' H')(F:H p=some (.lst vs))(j:∃ vs',H' p=some (.lst vs'))(b:ExtP p M' H' M'' H''):ExtP p M H M'' H'' :=
 ⟨fun c o ne n h=>b.kp c o ne (by rw [a.nw c o n h];exact n) (a.kp c o ne n h),fun c o n h=>by
   have n':fz (M' c)=true:=by rw[a.nw c o n h];exact n
   refine Eq.trans ?_ (a.nw c o n h)
   by_cases z:c=p
   ·subst z;obtain⟨vs',e⟩:=j;exact b.nw c _ n' e
   ·exact b.nw c o n' (a.kp c o z n h)⟩
theorem ExtP.stab (r:RM K M H)(j:H p=some (.lst vs))(x:ExtP p M H M' H'):Stab H H' where
 tup:=λa xs e=>x.kp a _ (λz=>by subst z;rw[j]at e;cases e) (by rw[r.fzT e];rfl) e
 frz:=λa o u e=>x.kp a _ (λz=>by subst z;rw[j]at e;cases e) (r.fzF e) e
theorem oA {ho:HO}(j:H p=some (.lst vs)):Stab H (upd H p ho) :=
 ⟨λa xs e=>by rw[ai (λz=>by subst z;rw[j]at e;cases e)];exact e,λa o u e=>by rw[ai (λz=>by subst z;rw[j]at e;cases e)];exact e⟩
theorem RM.side {ho:HO}(r:RM K M H)(n:M p=none)(j:H p=some (.lst vs)):RM K M (upd H p ho):=λa o e=>by
 have ne:a≠p:=λz=>by subst z;rw[n]at e;cases e
 exact(r a o e).mono (oA j) λF q=>by rw[ai ne];exact q
end
def ii (K:Frag) (H:Hp) (p:Addr) (acc:List D):Prop:=∃ vs,H p=some (.lst vs)/\RDs K H acc vs
noncomputable def KC (K:Frag) (p:Addr) (M:Mem) (H:Hp) (N:St->Hp->Prop):NC:=λρ' M' acc'=>∀ σ' H',ExtP p M H M' H'->RS K H' σ' ρ'->RM K M' H'->ii K H' p acc'->N σ' H'
noncomputable def lC (K:Frag) (p:Addr) (T:TCd):TC:=λσ H N=>∃ ρ M acc,RS K H σ ρ /\ RM K M H/\M p=none/\ii K H p acc/\T ρ M acc (KC K p M H N)
theorem KC.ext {p:Addr}{z M':Mem}{H2:Hp}{N:St->Hp->Prop}{ρ:am}{acc:List D}(F:H p=some (.lst vs))(j:∃ vs',H2 p=some (.lst vs'))(x:ExtP p M H z H2)(h:KC K p M H N ρ M' acc):KC K p z H2 N ρ M' acc :=
 λσ' H' y=>h σ' H' (x.trans F j y)
noncomputable def fh (te:TEd):TCd:=λρ M acc N=>te ρ M λx M1=>acc.length<Je/\N ρ M1 (acc++[x])
noncomputable def bo:List TTd->TCd->TCd
 |[],tb=>tb
 |t::r,tb=>λρ M acc N=>t ρ M λb M1=>if b=true then bo r tb ρ M1 acc N else N ρ M1 acc
noncomputable def bZ (b:BT) (tb:TCd) (chk:Mem->Prop) (N:NC):List D->NC
 |[]=>λρ M acc=>chk M/\N ρ M acc
 |x::xs=>λρ M acc=>chk M /\ ∃ ρ',b x ρ = some ρ'/\tb ρ' M acc (bZ b tb chk N xs)
noncomputable def eJ (src:TId) (b:BT) (tb:TCd):TCd:=λρ M acc N=>src ρ M λxs chk M1=>bZ b tb chk N xs ρ M1 acc
noncomputable def ij (fr:List (Option Nat)) (src:TId) (b:BT) (tb:TCd):TEd:=λρ M Q=>src ρ M λxs chk M1=>bZ b tb chk (λ_ M' acc=>∀ p,M' p=none->Q (.ref p) (af M' p (.lst acc))) xs (sd fr ρ) M1 []
theorem bL (h:ae te):bY (fh te):=λρ M acc N N' i q=>h _ _ _ _ (λx J j=>(by obtain⟨z,F⟩:=j;exact⟨z,i _ _ _ F⟩)) q
theorem aQ {tb:TCd}(z:bY tb):∀ {ts:List TTd},(∀ t∈ts,aI t)->bY (bo ts tb)
 |[],_=>z
 | t::r,h=>fun ρ M acc N N' i q=>h t K0 _ _ _ _ (fun b J j=>by
   cases b with
   |true=>rw[if_pos rfl]at j ⊢;exact aQ z (λt' F=>h t' (Ji _ F)) _ _ _ _ _ i j
   |false=>rw[if_neg J9]at j ⊢;exact i _ _ _ j) q
theorem gM {b:BT}{tb:TCd}(z:bY tb){chk:Mem->Prop}{N N':NC}(i:∀ ρ' M' acc',N ρ' M' acc'->N' ρ' M' acc'):∀ (xs:List D) (ρ:am) (M:Mem) (acc:List D),bZ b tb chk N xs ρ M acc->bZ b tb chk N' xs ρ M acc
 |[],ρ,M,acc,h=>⟨h.1,i _ _ _ h.2⟩
 |x::xs,ρ,M,acc,⟨c,ρ',e,q⟩=>⟨c,ρ',e,z _ _ _ _ _ (λρ2 F j J=>gM z i xs ρ2 F j J) q⟩
theorem iG {tb:TCd}(j:bN src)(z:bY tb):bY (eJ src b tb):=λρ M acc N N' i q=>j _ _ _ _ (λxs c J F=>gM z i xs _ _ _ F) q
theorem lr {fr:List (Option Nat)}{tb:TCd}(j:bN src)(z:bY tb):ae (ij fr src b tb):=λρ M Q Q' i q =>
 j _ _ _ _ (λxs c L F=>gM z (λ_ M' acc J p n=>i _ _ (J p n)) xs _ _ _ F) q
section
variable {K:Frag} {p:Addr}
theorem gN (m:ae te)(σ:St)(H:Hp)(N:St->Hp->Prop)(h:lC K p (fh te) σ H N):yT p (lE K te) σ H N:=by
 obtain⟨ρ,M,acc,rs,rm,n,⟨vs,U,ra⟩,q⟩:=h;refine⟨ρ,M,rs,rm,m _ _ _ _ (λx M1 g9 v H1 J L O=>?_) q⟩;obtain⟨z,Y⟩:=g9;have j:=J.keep p _ n U;have Z:=J.new p _ n U;have st:=J.stab rm;have F:Stab H1 (upd H1 p (.lst (vs++[v]))):=oA j;refine⟨vs,j,by rw[ra.length];exact z,Y σ _ ⟨λa o ne m' e=>?_,J.nw⟩ ((rs.mono st).mono F) (L.side Z j) ⟨vs++[v],au,((ra.mono st).mono F).append (RDs.cons (O.mono F) RDs.nil)⟩⟩
 rw[ai ne];exact J.kp a o m' e
theorem jv {tb:TCd}(mb:bY tb):∀ {ts:List TTd},(∀ t∈ts,aI t) -> ∀ (σ:St) (H:Hp) (N:St->Hp->Prop),lC K p (bo ts tb) σ H N->jj (ts.map (lT K)) (lC K p tb) σ H N
 |[],_,σ,H,N,h=>h
 | t::r,hm,σ,H,N,h=>by
   obtain⟨ρ,M,acc,rs,rm,n,⟨vs,L,ra⟩,q⟩:=h;refine⟨ρ,M,rs,rm,hm t K0 _ _ _ _ (λb U J H1 z F=>?_) q⟩;have j:=z.keep p _ n L;have Y:=z.new p _ n L;have st:=z.stab rm
   cases b with
   | false =>
     rw[if_neg J9]at J;dsimp only;rw[if_neg J9];exact J σ H1 z.toP (rs.mono st) F ⟨vs,j,ra.mono st⟩
   | true =>
     rw[if_pos rfl]at J;dsimp only;rw[if_pos rfl];exact jv mb (λt' O=>hm t' (Ji _ O)) σ H1 N ⟨ρ,U,acc,rs.mono st,F,Y,⟨vs,j,ra.mono st⟩,
      aQ mb (λt' O=>hm t' (Ji _ O)) _ _ _ _ _ (λρ' M' acc' k=>k.ext L ⟨vs,j⟩ z.toP) J⟩
theorem lu {tb:TCd}(mb:bY tb){chk:Mem->Prop}{J:It}{F:Mem}{Nd:NC}{N:St->Hp->Prop}{σ:St}{ρ:am}{acc:List D}(it:fW K H1 xs chk J)(rs:RS K H1 σ ρ)(rm:RM K F H1)(n:F p=none)(ac:ii K H1 p acc)(q:bZ b tb chk Nd xs ρ F acc)(hN:∀ ρ' M' acc' σ' H',ExtP p F H1 M' H'->RS K H' σ' ρ'->RM K M' H'->ii K H' p acc'->Nd ρ' M' acc'->N σ' H') :
 i6 J (lG K b) (lC K p tb) N σ H1:=by
 obtain⟨HK,L,_⟩:=id ac;refine⟨λi m σ H=>m=xs.length - i/\i<=xs.length /\ ∃ ρ M acc,RS K H σ ρ /\ RM K M H/\M p=none/\ii K H p acc/\ExtP p F H1 M H/\bZ b tb chk Nd (xs.drop i) ρ M acc,⟨xs.length,by simp,Kk _,ρ,F,acc,rs,rm,n,ac,ExtP.refl,q⟩,?_⟩
 rintro i m σ H ⟨rfl,hi,ρ,M,acc,rs,j,n,ac,x,q⟩;have st:=x.stab rm L;obtain⟨vs,hp,ra⟩:=id ac
 by_cases z:i<xs.length
 ·rw[K5 z]at q;obtain⟨c,ρ',hb,q⟩:=q;obtain⟨go,yl⟩:=(it M H st j c i).2 z;refine .inr ⟨go,λσ' H'=>∃ m',m'<xs.length - i/\(m'=xs.length - (i+1)/\i+1<=xs.length /\ ∃ ρ M acc,RS K H' σ' ρ /\ RM K M H'/\M p=none/\ii K H' p acc/\ExtP p F H1 M H'/\bZ b tb chk Nd (xs.drop (i+1)) ρ M acc),λσ' H' h=>h,λx' H' y=>?_⟩;obtain⟨yy,d,hd,rd⟩:=yl x' H' y;rw[Jh z]at hd
  cases hd
  obtain⟨xy,rmy⟩:=yy.ext j;have sty:=xy.stab j;have O:=xy.keep p _ n hp;refine⟨_,ρ,ρ',rd,rs.mono sty,hb,λσ2 Y=>?_⟩;refine⟨ρ',M,acc,Y,rmy,n,⟨vs,O,ra.mono sty⟩,mb _ _ _ _ _ (λρ3 M3 U q3 σ3 H3 x3 Z HI HJ=>?_) q⟩;have n3:M3 p=none:=x3.new p _ n O;exact⟨xs.length - (i+1),by lia,rfl,z,ρ3,M3,U,Z,HI,n3,HJ,(x.trans L ⟨vs,hp⟩ xy.toP).trans L ⟨vs,O⟩ x3,q3⟩
 ·have e:i=xs.length:=by lia
  subst e;rw[MA]at q;exact .inl ⟨(it M H st j q.1 _).1 (Jg _),hN ρ M acc σ H x rs j ac q.2⟩
theorem iH {tb:TCd}(ms:bN src)(mb:bY tb)(σ:St)(H:Hp)(N:St->Hp->Prop)(h:lC K p (eJ src b tb) σ H N):(lI K src) σ H λJ H1=>i6 J (lG K b) (lC K p tb) N σ H1:=by
 obtain⟨ρ,M,acc,rs,rm,n,⟨vs,F,ra⟩,q⟩:=h;refine⟨ρ,M,rs,rm,ms _ _ _ _ (λxs chk Y O J H1 z L it=>?_) q⟩;have j:=z.keep p _ n F;have U:=z.new p _ n F;have st:=z.stab rm;exact lu mb it (rs.mono st) L U ⟨vs,j,ra.mono st⟩ O λρ' M' acc' σ' H' x2 rs' rm' ac' k=>k σ' H' (z.toP.trans F ⟨vs,j⟩ x2) rs' rm' ac'
theorem fj {fr:List (Option Nat)}{tb:TCd}(ms:bN src)(mb:bY tb)(σ:St)(H:Hp)(Q:VK)(h:lE K (ij fr src b tb) σ H Q):rY (lI K src) (lG K b) (λp=>lC K p tb) fr σ H Q:=by
 obtain⟨ρ,M,rs,rm,q⟩:=h;refine⟨ρ,M,rs,rm,ms _ _ _ _ (λxs chk O Z J H1 L j it p n=>?_) q⟩;have st:=L.stab rm;have xn:Ext O H1 O (upd H1 p (.lst [])):=TB n;have stn:=xn.stab j;have Y:O p=none:=j.out n;refine lu (p:=p) mb (xs:=xs) (chk:=chk) (λM' H' st'=>it M' H' ⟨λa xs e=>st'.tup _ _ (stn.tup _ _ e),λa o u e=>st'.frz _ _ _ (stn.frz _ _ _ e)⟩) (((rs.mono st).mono stn).inh fr) (j.new n) Y ⟨[],au,RDs.nil⟩ Z λρ' M' acc' σ' H' U rs' rm' ac' k=>?_;obtain⟨vs,hp,ra⟩:=ac';have n':M' p=none:=U.new p _ Y au;refine k p n' (.ref p) H' ⟨λa o m e=>?_,λa o m e=>?_⟩ (λa o e=>?_) (Ts.mpr rfl)
 ·have F:=L.kp a o m e;have ne:a≠p:=λz=>by subst z;rw[n]at F;cases F
  exact U.kp a o ne (by rw[L.nw a o m e];exact m) (by rw[ai ne];exact F)
 ·have F:=L.kp a o m e;have ne:a≠p:=λz=>by subst z;rw[n]at F;cases F
  rw[ax ne];exact(U.nw a o (by rw[L.nw a o m e];exact m) (by rw[ai ne];exact F)).trans (L.nw a o m e)
 ·by_cases z:a=p
  ·subst z;rw[aa]at e;cases e;exact⟨vs,hp,ra⟩
  ·rw[ax z]at e;exact rm' a o e
end
end
variable {u:TSd}{c:TTd}{i:Nat}
section
noncomputable def fX:TSd:=λD ρ M=>D.nx ρ M
noncomputable def gO (t u:TSd):TSd:=λD ρ M=>t { D with nx:=u D } ρ M
noncomputable def jw:TSd:=λD ρ M=>D.bk ρ M
noncomputable def mK:TSd:=λD ρ M=>D.ct ρ M
noncomputable def mL (te:TEd):TSd:=λD ρ M=>te ρ M λ_ M1=>D.nx ρ M1
noncomputable def iT (te:TEd):TSd:=λD ρ M=>te ρ M D.rt
noncomputable def sIf (c:TTd) (t u:TSd):TSd:=λD ρ M=>c ρ M λb M1=>if b=true then t D ρ M1 else u D ρ M1
noncomputable def gP (te:TEd) (b:BT):TSd:=λD ρ M=>te ρ M λx M1=>∃ ρ',b x ρ = some ρ'/\D.nx ρ' M1
noncomputable def su (ta:TAd) (bs:BTs):TSd:=λD ρ M=>ta ρ M λxs M1=>∃ ρ',bs xs ρ = some ρ'/\D.nx ρ' M1
noncomputable def bj (b:BT) (tb:TSd) (chk:Mem->Prop) (D:bd):List Mi.D->am->Mem->Prop
 |[]=>λρ M=>chk M/\D.nx ρ M
 |x::xs=>λρ M=>chk M /\ ∃ ρ',b x ρ = some ρ'/\tb { D with nx:=bj b tb chk D xs,ct:=bj b tb chk D xs,bk:=D.nx } ρ' M
noncomputable def kA (src:TId) (b:BT) (tb:TSd):TSd:=λD ρ M=>src ρ M λxs chk M1=>bj b tb chk D xs ρ M1
noncomputable def ba (c:TTd) (tb:TSd) (D:bd):Nat->am->Mem->Prop
 |0=>λ_ _=>False
 |n+1=>λρ M=>c ρ M λb M1=>if b=true then tb { D with nx:=ba c tb D n,ct:=ba c tb D n,bk:=D.nx } ρ M1 else D.nx ρ M1
noncomputable def jx (c:TTd) (tb:TSd):TSd:=λD ρ M=>∃ n,ba c tb D n ρ M
theorem lw:aJ fX:=λ_ _ _ _ h q=>h.nx _ _ q
theorem sv:aJ jw:=λ_ _ _ _ h q=>h.bk _ _ q
theorem uQ:aJ mK:=λ_ _ _ _ h q=>h.ct _ _ q
theorem uR {t:TSd}(j:aJ t)(z:aJ u):aJ (gO t u):=λa b ρ M h q=>j { a with nx:=u a } { b with nx:=u b } _ _ ⟨λρ' M' q'=>z _ _ _ _ h q',h.rt,h.bk,h.ct⟩ q
theorem uS (h:ae te):aJ (mL te):=λa b ρ M i q=>h _ _ _ _ (λ_ z j=>i.nx _ _ j) q
theorem xq (h:ae te):aJ (iT te):=λa b ρ M i q=>h _ _ _ _ (λd z j=>i.rt _ _ j) q
theorem xt {t:TSd}(z:aI c)(F:aJ t)(J:aJ u):aJ (sIf c t u):=λa b ρ M i q=>z _ _ _ _ (λk L j=>by
 cases k with
 |true=>rw[if_pos rfl]at j ⊢;exact F _ _ _ _ i j
 |false=>rw[if_neg J9]at j ⊢;exact J _ _ _ _ i j) q
theorem xu {bt:BT}(h:ae te):aJ (gP te bt):=λa b ρ M i q=>h _ _ _ _ (λd F j=>(by obtain⟨ρ',e,z⟩:=j;exact⟨ρ',e,i.nx _ _ z⟩)) q
theorem xv {ta:TAd}{bs:BTs}(h:bw ta):aJ (su ta bs):=λa b ρ M i q=>h _ _ _ _ (λd F j=>(by obtain⟨ρ',e,z⟩:=j;exact⟨ρ',e,i.nx _ _ z⟩)) q
theorem gQ {bt:BT}{tb:TSd}(j:aJ tb){chk:Mem->Prop}{a b:bd}(i:LeD a b):∀ (xs:List D) (ρ:am) (M:Mem),bj bt tb chk a xs ρ M->bj bt tb chk b xs ρ M
 |[],ρ,M,h=>⟨h.1,i.nx _ _ h.2⟩
 |x::xs,ρ,M,⟨c,ρ',e,q⟩=>⟨c,ρ',e,j { a with nx:=bj bt tb chk a xs,ct:=bj bt tb chk a xs,bk:=a.nx } { b with nx:=bj bt tb chk b xs,ct:=bj bt tb chk b xs,bk:=b.nx } _ _ ⟨λρ2 z F=>gQ j i xs ρ2 z F,i.rt,i.nx,λρ2 z F=>gQ j i xs ρ2 z F⟩ q⟩
theorem xw {bt:BT}{tb:TSd}(j:bN src)(z:aJ tb):aJ (kA src bt tb):=λa b ρ M i q=>j _ _ _ _ (λxs c J F=>gQ z i xs _ _ F) q
theorem fG {c:TTd}{tb:TSd}(z:aI c)(F:aJ tb){a b:bd}(i:LeD a b):∀ (n:Nat) (ρ:am) (M:Mem),ba c tb a n ρ M->ba c tb b n ρ M
 |0,ρ,M,h=>h
 | n+1,ρ,M,h=>z _ _ _ _ (fun k O j=>by
   cases k with
   |true=>rw[if_pos rfl]at j ⊢;exact F { a with nx:=ba c tb a n,ct:=ba c tb a n,bk:=a.nx } { b with nx:=ba c tb b n,ct:=ba c tb b n,bk:=b.nx } _ _ ⟨λρ2 J L=>fG z F i n ρ2 J L,i.rt,i.nx,λρ2 J L=>fG z F i n ρ2 J L⟩ j
   |false=>rw[if_neg J9]at j ⊢;exact i.nx _ _ j) h
theorem sF {tb:TSd}(j:aI c)(z:aJ tb):aJ (jx c tb):=λa b ρ M i g9=>(by obtain⟨n,q⟩:=g9;exact⟨n,fG j z i n _ _ q⟩)
section
variable {K:Frag}
theorem lB (D:bD)(σ:St)(H:Hp)(h:lS K fX D σ H):rC D σ H:=by
 obtain⟨ρ,M,A,rs,rm,l,q⟩:=h;exact l.nx ρ M σ H Ext.refl rs rm q
theorem sH (D:bD)(σ:St)(H:Hp)(h:lS K jw D σ H):tY D σ H:=by
 obtain⟨ρ,M,A,rs,rm,l,q⟩:=h;exact l.bk ρ M σ H Ext.refl rs rm q
theorem uT (D:bD)(σ:St)(H:Hp)(h:lS K mK D σ H):yK D σ H:=by
 obtain⟨ρ,M,A,rs,rm,l,q⟩:=h;exact l.ct ρ M σ H Ext.refl rs rm q
theorem xx {t:TSd}(mt:aJ t)(mu:aJ u)(D:bD)(σ:St)(H:Hp)(h:lS K (gO t u) D σ H):Bq (lS K t) (lS K u) D σ H:=by
 obtain⟨ρ,M,A,rs,rm,l,q⟩:=h;exact⟨ρ,M,{ A with nx:=u A },rs,rm,⟨λρ' M' σ' H' x rs' rm' q'=>⟨ρ',M',A,rs',rm',l.ext x,q'⟩,l.rt,l.bk,l.ct⟩,q⟩
theorem uU (m:ae te)(D:bD)(σ:St)(H:Hp)(h:lS K (mL te) D σ H):yL (lE K te) D σ H:=by
 obtain⟨ρ,M,A,rs,rm,l,q⟩:=h;exact⟨ρ,M,rs,rm,m _ _ _ _ (λd F J v H1 z j L=>l.nx ρ F σ H1 z (rs.mono (z.stab rm)) j J) q⟩
theorem xz (m:ae te)(D:bD)(σ:St)(H:Hp)(h:lS K (iT te) D σ H):Br (lE K te) D σ H:=by
 obtain⟨ρ,M,A,rs,rm,l,q⟩:=h;exact⟨ρ,M,rs,rm,m _ _ _ _ (λd F J v H1 L j z=>l.rt d F v H1 L j z J) q⟩
theorem Ai {t:TSd}(mc:aI c)(D:bD)(σ:St)(H:Hp)(h:lS K (sIf c t u) D σ H):Bs (lT K c) (lS K t) (lS K u) D σ H:=by
 obtain⟨ρ,M,A,rs,rm,l,q⟩:=h;refine⟨ρ,M,rs,rm,mc _ _ _ _ (λk J z H1 F j=>?_) q⟩
 cases k with
 |true=>rw[if_pos rfl]at z ⊢;exact⟨ρ,J,A,rs.mono (F.stab rm),j,l.ext F,z⟩
 |false=>rw[if_neg J9]at z ⊢;exact⟨ρ,J,A,rs.mono (F.stab rm),j,l.ext F,z⟩
theorem xA (m:ae te)(D:bD)(σ:St)(H:Hp)(h:lS K (gP te b) D σ H):nA (lE K te) (lG K b) D σ H:=by
 obtain⟨ρ,M,A,rs,rm,l,q⟩:=h;refine⟨ρ,M,rs,rm,m _ _ _ _ (λd J g9 v H1 F j z=>?_) q⟩;obtain⟨ρ',e,L⟩:=g9;exact⟨d,ρ,ρ',z,rs.mono (F.stab rm),e,λσ' rs'=>l.nx ρ' J σ' H1 F rs' j L⟩
theorem lF (m:ae te)(D:bD)(σ:St)(H:Hp)(h:lS K (gP te (cq i)) D σ H):nA (lE K te) (i5 i) D σ H:=by
 obtain⟨ρ,M,A,rs,rm,l,q⟩:=h;refine⟨ρ,M,rs,rm,m _ _ _ _ (λd z g9 v H1 j rm1 rd1=>?_) q⟩;obtain⟨ρ',e,F⟩:=g9
 cases e
 exact l.nx _ z _ H1 j ((rs.mono (j.stab rm)).set i rd1) rm1 F
theorem xB {tb:TSd}(ms:bN src)(mb:aJ tb)(D:bD)(σ:St)(H:Hp)(h:lS K (kA src b tb) D σ H):wn (lI K src) (lG K b) (lS K tb) D σ H:=by
 obtain⟨ρ,M,A,rs,rm,l,q⟩:=h;refine⟨ρ,M,rs,rm,ms _ _ _ _ (λxs chk M1 q1 J H1 x1 U it=>?_) q⟩;refine⟨λi m σ H'=>m=xs.length - i/\i<=xs.length /\ ∃ ρ F,RS K H' σ ρ /\ RM K F H'/\Ext M1 H1 F H'/\bj b tb chk A (xs.drop i) ρ F,⟨xs.length,by simp,Kk _,ρ,M1,rs.mono (x1.stab rm),U,Ext.refl,q1⟩,?_⟩
 rintro i m σ2 H2 ⟨rfl,hi,ρ2,F,Y,j,x2,Z⟩;have HI:=x2.stab U
 by_cases L:i<xs.length
 ·rw[K5 L]at Z;obtain⟨c,ρ',hb,q3⟩:=Z;obtain⟨go,yl⟩:=(it F H2 HI j c i).2 L;refine .inr ⟨go,λσ' H'=>∃ m',m'<xs.length - i/\(m'=xs.length - (i+1)/\i+1<=xs.length /\ ∃ ρ M,RS K H' σ' ρ /\ RM K M H'/\Ext M1 H1 M H'/\bj b tb chk A (xs.drop (i+1)) ρ M),λσ' H' h=>h,λx' H' y=>?_⟩;obtain⟨yy,d,hd,rd⟩:=yl x' H' y;rw[Jh L]at hd
  cases hd
  obtain⟨xy,rmy⟩:=yy.ext j;have HJ:=x1.trans (x2.trans xy);refine⟨_,ρ2,ρ',rd,Y.mono (xy.stab j),hb,λσ3 HK=>?_⟩;have nx:∀ ρ5 O σ5 z,Ext F H' O z->RS K z σ5 ρ5->RM K O z->bj b tb chk A (xs.drop (i+1)) ρ5 O -> ∃ m',m'<xs.length - i/\(m'=xs.length - (i+1)/\i+1<=xs.length /\ ∃ ρ M,RS K z σ5 ρ /\ RM K M z/\Ext M1 H1 M z/\bj b tb chk A (xs.drop (i+1)) ρ M) :=
   λρ5 O σ5 z x5 HL HM q5=>⟨xs.length - (i+1),by lia,rfl,L,ρ5,O,HL,HM,(x2.trans xy).trans x5,q5⟩
  refine⟨ρ',F,{ A with nx:=bj b tb chk A (xs.drop (i+1)),ct:=bj b tb chk A (xs.drop (i+1)),bk:=A.nx },HK,rmy,⟨nx,λd O v z x5=>l.rt d O v z (HJ.trans x5),λρ5 O σ5 z x5=>l.nx ρ5 O σ5 z (HJ.trans x5),nx⟩,q3⟩
 ·have e:i=xs.length:=by lia
  subst e;rw[MA]at Z;exact .inl ⟨(it F H2 HI j Z.1 _).1 (Jg _),l.nx ρ2 F σ2 H2 (x1.trans x2) Y j Z.2⟩
theorem sJ {tb:TSd}(mc:aI c)(mb:aJ tb)(D:bD)(σ:St)(H:Hp)(h:lS K (jx c tb) D σ H):u4 (lT K c) (lS K tb) D σ H:=by
 obtain⟨ρ,M,A,rs,rm,l,n,q⟩:=h;refine⟨λm σ' H'=>∃ ρ' M',RS K H' σ' ρ'/\RM K M' H'/\Ext M H M' H'/\ba c tb A m ρ' M',⟨n,ρ,M,rs,rm,Ext.refl,q⟩,?_⟩;rintro m σ1 H1 ⟨ρ1,M1,O,U,x1,q1⟩
 cases m with
 |zero=>exact q1.elim
 | succ m =>
   refine⟨ρ1,M1,O,U,mc _ _ _ _ (λk M2 q2 H2 x2 Y=>?_) q1⟩;have j:=x1.trans x2;have Z:=O.mono (x2.stab U)
   cases k with
   |false=>rw[if_neg J9]at q2;dsimp only;rw[if_neg J9];exact l.nx ρ1 M2 σ1 H2 j Z Y q2
   | true =>
     rw[if_pos rfl]at q2;dsimp only;rw[if_pos rfl];refine⟨λσ' H'=>∃ ρ' M',RS K H' σ' ρ'/\RM K M' H'/\Ext M H M' H'/\ba c tb A m ρ' M',λσ' H' h=>⟨m,Nat.lt_succ_self m,h⟩,ρ1,M2,{ A with nx:=ba c tb A m,ct:=ba c tb A m,bk:=A.nx },Z,Y,⟨?_,λd z v H5 F=>l.rt d z v H5 (j.trans F),λρ5 z σ5 H5 F=>l.nx ρ5 z σ5 H5 (j.trans F),?_⟩,q2⟩
     ·exact λρ5 z σ5 H5 F J L q5=>⟨ρ5,z,J,L,j.trans F,q5⟩
     ·exact λρ5 z σ5 H5 F J L q5=>⟨ρ5,z,J,L,j.trans F,q5⟩
end
noncomputable def jy:D->D->D->Mem->(Mem->Prop)->Prop:=λo i v M Q=>∃ a,o = .ref a /\
 ((∃ xs k j,i = .int k/\M a=some (.lst xs)/\ixN xs.length k=some j/\Q (af M a (.lst (xs.set j v)))) ∨
  ∃ t kvs,M a=some (.dct t kvs)/\rZ t i=true/\kvs.length<Je/\Q (af M a (.dct t (nQ kvs i v))))
noncomputable def sK (te to ti:TEd):TSd:=λD ρ M=>te ρ M λv M1=>to ρ M1 λo M2=>ti ρ M2 λi M3=>jy o i v M3 λM4=>D.nx ρ M4
theorem uV {o i v:D}{Q Q':Mem->Prop}(h:∀ M',Q M'->Q' M')(q:jy o i v M Q):jy o i v M Q':=by
 obtain⟨a,e,⟨xs,k,j,z,F,J,q⟩|⟨t,kvs,z,F,J,q⟩⟩:=q
 ·exact⟨a,e,.inl ⟨xs,k,j,z,F,J,h _ q⟩⟩
 ·exact⟨a,e,.inr ⟨t,kvs,z,F,J,h _ q⟩⟩
theorem xC {to ti:TEd}(he:ae te)(ho:ae to)(hi:ae ti):aJ (sK te to ti):=λa b ρ M i q =>
 he _ _ _ _ (λv J j=>ho _ _ _ _ (λo L z=>hi _ _ _ _ (λk O F=>uV (λM' q'=>i.nx _ _ q') F) z) j) q
section
variable {X:Cx} {K:Frag}
theorem xE (j:X.A.units+1<Qf):PSet X (λo i v H Q=>∃ a H',o = .ref a/\DPut H a i v H'/\Q H'):=by
 intro pins s σ H o i v ov iv u Q I ro ri rv h;obtain⟨a,H',rfl,g,q⟩:=h
 cases ro
 exact um j I g ri rv λs' I'=>⟨H',I',q⟩
theorem PSet.or {t t':rE}(h:PSet X t)(h':PSet X t'):PSet X (λo i v H Q=>t o i v H Q∨t' o i v H Q):=by
 intro pins s σ H o i v ov iv u Q I ro ri rv q
 rcases q with q|q
 ·exact h pins s σ H o i v ov iv u Q I ro ri rv q
 ·exact h' pins s σ H o i v ov iv u Q I ro ri rv q
section
variable {κ:Type} [DecidableEq κ] {H:Hp} {RK:D -> κ -> Prop} (inj:∀ {d e:D} {k : κ},RK d k->RK e k->d=e) (fn:∀ {d:D} {k k' : κ},RK d k->RK d k'->k=k')
include inj fn
theorem qN {k:D}{q : κ}(hk:RK k q):∀ {kvs:List (D×D)} {ps:List (κ × V)},KI (λp r=>RK p.1 r.1/\RD K H p.2 r.2) kvs ps ->
 (kvs.any λp=>decide (p.1=k))=(ps.any λp=>decide (p.1=q))
 |_,_,.nil=>rfl
 | _,_,.cons (a:=p) (b:=r) hr t=>by
   rw[Li,Li,qN hk t];congr 1
   by_cases e:p.1=k
   ·have e':r.1=q:=by have h1:=hr.1;rw[e]at h1;exact fn h1 hk
    rw[decide_eq_true e,decide_eq_true e']
   ·have e' : ¬ r.1=q:=λz=>e (by have h1:=hr.1;rw[z]at h1;exact inj h1 hk)
    rw[decide_eq_false e,decide_eq_false e']
theorem qO {k:D}{q : κ}(hk:RK k q){d:D}{v:V}(j:RD K H d v):∀ {kvs:List (D×D)} {ps:List (κ × V)},KI (λp r=>RK p.1 r.1/\RD K H p.2 r.2) kvs ps ->
 KI (λp r=>RK p.1 r.1/\RD K H p.2 r.2) (kvs.map λp=>if p.1=k then (p.1,d) else p) (ps.map λp=>if p.1=q then (p.1,v) else p)
 |_,_,.nil=>.nil
 | _,_,.cons (a:=p) (b:=r) hr t=>by
   refine .cons ?_ (qO hk j t)
   by_cases e:p.1=k
   ·have e':r.1=q:=by have h1:=hr.1;rw[e]at h1;exact fn h1 hk
    dsimp only;rw[if_pos e,if_pos e'];exact⟨hr.1,j⟩
   ·have e' : ¬ r.1=q:=λz=>e (by have h1:=hr.1;rw[z]at h1;exact inj h1 hk)
    dsimp only;rw[if_neg e,if_neg e'];exact hr
theorem oB {k:D}{q : κ}(hk:RK k q){d:D}{v:V}(j:RD K H d v){kvs:List (D×D)}{ps:List (κ × V)}(r:KI (λp r=>RK p.1 r.1/\RD K H p.2 r.2) kvs ps) :
 KI (λp r=>RK p.1 r.1/\RD K H p.2 r.2) (nQ kvs k d) (ce ps q v):=by
 unfold nQ ce;rw[qN (K:=K) (H:=H) (RK:=RK) inj fn hk r]
 by_cases e:(ps.any λp=>decide (p.1=q))=true
 ·rw[if_pos e,if_pos e];exact qO (RK:=RK) inj fn hk j r
 ·rw[if_neg e,if_neg e];exact r.snoc ⟨hk,j⟩
end
theorem xF {o i v:D}{ov iv vv:V}{Qd:Mem->Prop}{Q:Hp->Prop}(rm:RM K M H)(ro:RD K H o ov)(ri:RD K H i iv)(rv:RD K H v vv)(h:jy o i v M Qd)(U:∀ M' H',Ext M H M' H'->RM K M' H'->Qd M'->Q H') :
 yQ ov iv vv H Q∨∃ a H',ov = .ref a/\DPut H a iv vv H'/\Q H':=by
 obtain⟨a,rfl,⟨xs,k,j,rfl,F,O,q⟩|⟨t,kvs,J,F,O,q⟩⟩:=h
 ·cases Ts.mp ro
  cases Tq.mp ri
  obtain⟨vs,ha,rs⟩:=rm _ _ F;have st:Stab H (upd H a (.lst (vs.set j vv))):=rm.stabPut F;exact .inl ⟨a,vs,k,j,rfl,rfl,ha,by rw[rs.length];exact O,U _ _ (Ext.put F) (rm.put (o:=.lst (xs.set j v)) F ⟨_,au,(rs.set j rv).mono st⟩) q⟩
 ·cases Ts.mp ro
  have ro':=rm _ _ J
  cases t with
  | false =>
    obtain⟨ps,Y,pr⟩:=ro';obtain⟨kq,hk⟩:=nR (show fU i=true from F);have st:Stab H (upd H a (.dK (ce ps kq vv))):=rm.stabPut J;have L:=oB (RK:=RKey) RKey.inj RKey.fun hk rv pr;rw[kr hk ri];refine .inr ⟨a,_,rfl,DPut.k Y (by rw[<- ML pr];exact O),U _ _ (Ext.put J) (rm.put (o:=.dct false (nQ kvs i v)) J ⟨_,au,Tx L λ_ _ z=>⟨z.1,z.2.mono st⟩⟩) q⟩
  | true =>
    obtain⟨ps,Y,pr⟩:=ro';obtain⟨kq,hk⟩:=qI (show eQ i=true from F);have st:Stab H (upd H a (.dT (ce ps kq vv))):=rm.stabPut J;have L:=oB (RK:=RKeys) RKeys.inj RKeys.fun hk rv pr
    cases i <;> first
     |exact hk.elim
     | (obtain ⟨b,us,rfl,Z,ru⟩:=TU (qJ F) ri
        rw[iP hk ru]at Z;exact .inr ⟨a,_,rfl,DPut.t Y Z (by rw[<- ML pr];exact O),U _ _ (Ext.put J) (rm.put (o:=.dct true (nQ kvs _ v)) J ⟨_,au,Tx L λ_ _ z=>⟨z.1,z.2.mono st⟩⟩) q⟩)
theorem Cj {o i e:Expr}{to ti:TEd}{tpos:Pos}(hu:X.A.units+1 < Qf)(me:ae te)(mo:ae to)(mi:ae ti)(he:PE X e (lE X.K te))(ho:PE X o (lE X.K to))(hi:PE X i (lE X.K ti))(hs:MM [.Subscript o i tpos] e pos.line X.env=pure false)(hw:LF [.Subscript o i tpos] e X.env=pure none)(ha:∀ v,assign (.Subscript o i tpos) X.env v=(do
   let ov <- holding [v] (eval o X.env)
   let iv <- holding [v,ov] (eval i X.env)
   Np tpos
   holding [v,ov,iv] (setItem ov iv v)
   release [v,ov,iv] [])):PS X (.Assign [.Subscript o i tpos] e pos) (lS X.K (sK te to ti)):=by
 refine PS.imp (tZ he (Bu ho hi (PSet.or wB (xE hu)) ha) hs hw rfl) λD σ H h=>?_;obtain⟨ρ,M,A,rs,rm,l,q⟩:=h;refine⟨ρ,M,rs,rm,me _ _ _ _ (λv M1 q1 vv H1 J j L=>?_) q⟩;refine⟨ρ,M1,rs.mono (J.stab rm),j,mo _ _ _ _ (λov M2 q2 vo H2 O z U=>?_) q1⟩;refine⟨ρ,M2,(rs.mono (J.stab rm)).mono (O.stab j),z,mi _ _ _ _ (λiv M3 q3 vi H3 Y Z HI=>?_) q2⟩;have F:=J.trans (O.trans Y);exact xF Z (U.mono (Y.stab z)) HI ((L.mono (O.stab j)).mono (Y.stab z)) q3 λM' H' x4 HJ q4=>l.nx ρ M' σ H' (F.trans x4) (rs.mono ((F.trans x4).stab rm)) HJ q4
noncomputable def jz:R2d
 |.int i,.int j,M,Q=>Q (.int (i+j)) M
 |_,_,_,_=>False
noncomputable def jA:R2d
 |.int i,.int j,M,Q=>Q (.int (i - j)) M
 |_,_,_,_=>False
noncomputable def jB:R2d
 |.int i,.int j,M,Q=>MulOk i j/\Q (.int (i*j)) M
 |_,_,_,_=>False
theorem lH:ar jz:=by
 intro x y M Q Q' h q
 cases x <;> cases y <;> first|exact q.elim|exact h _ _ q
theorem lJ:ar jA:=by
 intro x y M Q Q' h q
 cases x <;> cases y <;> first|exact q.elim|exact h _ _ q
theorem lK:ar jB:=by
 intro x y M Q Q' h q
 cases x <;> cases y <;> first|exact q.elim|exact⟨q.1,h _ _ q.2⟩
theorem uW:OpR X (Lv .Add) (l2 X.K jz):=by
 refine OpR.of zx λv u H Q h=>?_;obtain⟨x,y,M,rm,rx,ry,q⟩:=h
 cases x <;> cases y <;> first
  |exact q.elim
  |(cases Tq.mp rx;cases Tq.mp ry;exact⟨_,_,rfl,rfl,q _ H Ext.refl rm (Tq.mpr rfl)⟩)
theorem uX:OpR X (Lv .Sub) (l2 X.K jA):=by
 refine OpR.of zy λv u H Q h=>?_;obtain⟨x,y,M,rm,rx,ry,q⟩:=h
 cases x <;> cases y <;> first
  |exact q.elim
  |(cases Tq.mp rx;cases Tq.mp ry;exact⟨_,_,rfl,rfl,q _ H Ext.refl rm (Tq.mpr rfl)⟩)
theorem uY:OpR X (Lv .Mult) (rI MulOk λi j=>.int (i*j)):=opI λ_ _ _ _ _ _ _ z q=>imul_int q z.ok
theorem uZ:OpR X (Lv .Mult) (l2 X.K jB):=by
 refine OpR.of uY λv u H Q h=>?_;obtain⟨x,y,M,rm,rx,ry,q⟩:=h
 cases x <;> cases y <;> first
  |exact q.elim
  |(cases Tq.mp rx;cases Tq.mp ry;exact⟨_,_,rfl,rfl,q.1,q.2 _ H Ext.refl rm (Tq.mpr rfl)⟩)
noncomputable def sL (i:Nat) (rd:R2d) (te:TEd):TSd:=λD ρ M=>∃ x,ρ[i]? = some (some x)/\te ρ M λy M1=>rd x y M1 λz M2=>D.nx (ρ.set i (some z)) M2
theorem xG {rd:R2d}(hr:ar rd)(he:ae te):aJ (sL i rd te):=λa b ρ M l g9=>(by obtain⟨x,e,q⟩:=g9;exact⟨x,e,he _ _ _ _ (λy J j=>hr _ _ _ _ _ (λz L F=>l.nx _ _ F) j) q⟩)
theorem jC {x:Str}{e:Expr}{op:Nq}{rd:R2d}(Z:X.N.Nodup)(hi:X.N[i]? = some x)(hx:Loc X.env.scope x)(he:PE X e (lE X.K te))(ho:OpR X (Lv op) (l2 X.K rd))(hr:ar rd)(me:ae te)(hf:X.fn x=true∨X.env.scope.names.lookup x=some .local):PS X (.AugAssign (.Name x pos') op e pos) (lS X.K (sL i rd te)):=by
 refine PS.imp (By Z hi hx he (ti:=l2 X.K rd) ho hf) λD σ H h=>?_;obtain⟨ρ,M,A,rs,rm,l,d,e,q⟩:=h;obtain⟨v,hv,j⟩:=rs.2 i d e;refine⟨v,hv,ρ,M,rs,rm,me _ _ _ _ (λy M1 q1 u H1 F J L=>?_) q⟩;refine⟨d,y,M1,J,j.mono (F.stab rm),L,hr _ _ _ _ _ (λz M2 q2 w H2 Y O U=>?_) q1⟩;exact l.nx _ M2 _ H2 (F.trans Y) ((rs.mono ((F.trans Y).stab rm)).set i U) O q2
end
end
end Mi
namespace Mi
variable {K:Frag}
theorem v5 {ta:TAd}{i j:Nat}(m:bw ta)(D:bD)(σ:St)(H:Hp)(h:lS K (su ta (cr (cq i) (cr (cq j) iR))) D σ H):Bv i j (lA K ta) D σ H:=by
 obtain⟨ρ,M,A,rs,rm,l,q⟩:=h;refine⟨ρ,M,rs,rm,m _ _ _ _ (λds L g9 vs H1 J F z=>?_) q⟩;obtain⟨ρ',e,O⟩:=g9
 match ds,e,z with
 |[d1,d2],e,z =>
  obtain⟨v,u,rfl,U,Y⟩:=z.two;simp only[cr,cq,iR,Lj,RV]at e;subst e;exact⟨v,u,rfl,l.nx _ L _ H1 J (((rs.mono (J.stab rm)).set i U).set j Y) F O⟩
end Mi
namespace Mi
end Mi
namespace Mi
variable {A:JI}{s:z0}{v:V}{b:Bool}{H:Hp}{u:hW}{r r':R2d}{ta tb tc:TEd}
section
section
variable {X:Cx}
noncomputable def isD:D->D->Option Bool
 |x,.non=>some (match x with|.non=>true|_=>false)
 |x,.bl b=>some (match x with|.bl c=>c==b|_=>false)
 |_,_=>none
noncomputable def wIs:R2d:=λx y M Q=>∃ k,isD x y=some k/\Q (.bl k) M
noncomputable def sM:R2d:=λx y M Q=>∃ k,isD x y=some k/\Q (.bl (!k)) M
theorem Aj:ar wIs:=λ_ _ _ _ _ h j=>(by obtain⟨k,e,q⟩:=j;exact⟨k,e,h _ _ q⟩)
theorem xH:ar sM:=λ_ _ _ _ _ h j=>(by obtain⟨k,e,q⟩:=j;exact⟨k,e,h _ _ q⟩)
theorem Ak {M:Od}{E Q:hW->z0->Prop}{v:hW}(j:∀ id,v ≠ .builtin id)(h:Q (.bool (v == .bool b)) s):Jm M A (JM .Is v (.bool b)) Q E s:=by
 cases v <;> first|exact Jd h|exact absurd rfl (j _)
theorem xI {M:Od}{E Q:hW->z0->Prop}{v:hW}(j:∀ id,v ≠ .builtin id)(h:Q (.bool (!(v == .bool b))) s):Jm M A (JM .IsNot v (.bool b)) Q E s:=by
 cases v <;> first|exact Jd h|exact absurd rfl (j _)
theorem v6 {K:Frag}{x y:D}{w:V}{t:hW}{k:Bool}(e:isD x y=some k)(rx:RD K H x v)(ry:RD K H y w)(ru:RelV v u)(rt:RelV w t):(t = .none/\(u == .none)=k)∨∃ b,t = .bool b/\(u == .bool b)=k /\ ∀ id,u ≠ .builtin id:=by
 cases y with
 | non =>
   cases Tv.mp ry
   cases rt
   refine .inl ⟨rfl,?_⟩
   cases x with
   |non=>cases Tv.mp rx;cases ru;cases e;rfl
   |bl c=>cases Tt.mp rx;cases ru;cases e;rfl
   |int i=>cases Tq.mp rx;obtain⟨tk,rfl⟩:=ru;cases e;rfl
   |str z=>cases Tr.mp rx;obtain⟨tk,rfl⟩:=ru;cases e;rfl
   |tup ds=>obtain⟨a,vs,rfl,_⟩:=Tw rx;cases ru;cases e;rfl
   |con ds=>obtain⟨a,vs,rfl,_⟩:=Tz.mp rx;cases ru;cases e;rfl
   |ref a=>cases Ts.mp rx;cases ru;cases e;rfl
   |fn z=>obtain⟨a,rfl,_⟩:=TQ.mp rx;cases ru;cases e;rfl
 | bl b =>
   cases Tt.mp ry
   cases rt
   refine .inr ⟨b,rfl,?_⟩
   cases x with
   |non=>cases Tv.mp rx;cases ru;cases e;exact⟨rfl,λ_ z=>by cases z⟩
   |bl c=>cases Tt.mp rx;cases ru;cases e;exact⟨by cases b <;> cases c <;> rfl,λ_ z=>by cases z⟩
   |int i=>cases Tq.mp rx;obtain⟨tk,rfl⟩:=ru;cases e;exact⟨rfl,λ_ z=>by cases z⟩
   |str z=>cases Tr.mp rx;obtain⟨tk,rfl⟩:=ru;cases e;exact⟨rfl,λ_ z=>by cases z⟩
   |tup ds=>obtain⟨a,vs,rfl,_⟩:=Tw rx;cases ru;cases e;exact⟨rfl,λ_ z=>by cases z⟩
   |con ds=>obtain⟨a,vs,rfl,_⟩:=Tz.mp rx;cases ru;cases e;exact⟨rfl,λ_ z=>by cases z⟩
   |ref a=>cases Ts.mp rx;cases ru;cases e;exact⟨rfl,λ_ z=>by cases z⟩
   |fn z=>obtain⟨a,rfl,_⟩:=TQ.mp rx;cases ru;cases e;exact⟨rfl,λ_ z=>by cases z⟩
 |_=>cases e
theorem Al:OpR X (JM .Is) (l2 X.K wIs):=by
 intro pins s σ H v w u t Q I ru rt h;obtain⟨x,y,M,rm,rx,ry,k,e,q⟩:=h;have fin:EP X pins σ Q (.bool k) s:=⟨.bl k,H,I,rfl,q _ H Ext.refl rm (Tt.mpr rfl)⟩
 rcases v6 e rx ry ru rt with⟨rfl,j⟩|⟨b,rfl,j,nb⟩
 ·exact is_none_gen (by rw[j];exact fin)
 ·exact Ak nb (by rw[j];exact fin)
theorem xJ:OpR X (JM .IsNot) (l2 X.K sM):=by
 intro pins s σ H v w u t Q I ru rt h;obtain⟨x,y,M,rm,rx,ry,k,e,q⟩:=h;have fin:EP X pins σ Q (.bool (!k)) s:=⟨.bl (!k),H,I,rfl,q _ H Ext.refl rm (Tt.mpr rfl)⟩
 rcases v6 e rx ry ru rt with⟨rfl,j⟩|⟨b,rfl,j,nb⟩
 ·exact isnot_none_gen (by rw[j];exact fin)
 ·exact xI nb (by rw[j];exact fin)
noncomputable def ci (r r':R2d) (ta tb tc:TEd):TEd:=λρ M Q=>ta ρ M λx M1=>tb ρ M1 λy M2=>r x y M2 λz M3=>∃ k,z = .bl k/\(if k=true then tc ρ M3 λw M4=>r' y w M4 Q else Q (.bl false) M3)
theorem fY (hr:ar r)(F:ar r')(J:ae ta)(L:ae tb)(O:ae tc):ae (ci r r' ta tb tc):=λρ M Q Q' i q =>
 J _ _ _ _ (λx M1 U=>L _ _ _ _ (λy M2 Y=>hr _ _ _ _ _ (λz M3 ⟨k,e,j⟩=>⟨k,e,by
  cases k with
  |true=>rw[if_pos rfl]at j ⊢;exact O _ _ _ _ (λw M4 Z=>F _ _ _ _ _ i Z) j
  |false=>rw[if_neg J9]at j ⊢;exact i _ _ j⟩) Y) U) q
theorem jD (hr:ar r)(HI:ar r')(ma:ae ta)(mb:ae tb)(mc:ae tc)(σ:St)(H:Hp)(Q:VK)(h:lE X.K (ci r r' ta tb tc) σ H Q):nC (l2 X.K r) (l2 X.K r') (lE X.K ta) (lE X.K tb) (lE X.K tc) σ H Q:=by
 obtain⟨ρ,M,rs,rm,q⟩:=h;refine⟨ρ,M,rs,rm,ma _ _ _ _ (λx M1 q1 v H1 O j HJ=>?_) q⟩;refine⟨ρ,M1,rs.mono (O.stab rm),j,mb _ _ _ _ (λy M2 q2 w H2 U F L=>?_) q1⟩;refine⟨x,y,M2,F,HJ.mono (U.stab j),L,hr _ _ _ _ _ (λz M3 g9 v3 H3 Z J HK=>?_) q2⟩;obtain⟨k,e,Y⟩:=g9;subst e;refine⟨k,Tt.mp HK,?_⟩
 cases k with
 | true =>
   rw[if_pos rfl]at Y ⊢;refine⟨ρ,M3,(((rs.mono (O.stab rm)).mono (U.stab j)).mono (Z.stab F)),J,mc _ _ _ _ (λw4 M4 q4 v4 H4 x4 HL HM=>?_) Y⟩;exact⟨y,w4,M4,HL,(L.mono (Z.stab F)).mono (x4.stab J),HM,HI _ _ _ _ _ (λd M5 k5=>k5.ext (((O.trans U).trans Z).trans x4)) q4⟩
 | false =>
   rw[if_neg J9]at Y ⊢;exact Y (.bl false) H3 ((O.trans U).trans Z) J (Tt.mpr rfl)
noncomputable def iU:D->Option Bool
 |.bl b=>some b
 |.int i=>some (i != 0)
 |_=>none
noncomputable def sN:RAd:=λxs M Q=>∃ x ds ts,xs=[x]/\aO M x=some ds/\aH iU ds=some ts/\Q (.bl (ts.all id)) M
noncomputable def sP:RAd:=λxs M Q=>∃ x ds ts,xs=[x]/\aO M x=some ds/\aH iU ds=some ts/\Q (.bl (ts.any id)) M
theorem oC:aS sN:=λ_ _ _ _ h j=>(by obtain⟨x,ds,ts,e,z,F,q⟩:=j;exact⟨x,ds,ts,e,z,F,h _ _ q⟩)
theorem oE:aS sP:=λ_ _ _ _ h j=>(by obtain⟨x,ds,ts,e,z,F,q⟩:=j;exact⟨x,ds,ts,e,z,F,h _ _ q⟩)
theorem oF {α β:Type}{f : α -> Option β}:∀ {xs:List α} {ys:List β},aH f xs=some ys->ys.length=xs.length /\ ∀ (i:Nat) x,xs[i]? = some x -> ∃ y,ys[i]? = some y/\f x=some y
 |[],ys,h=>by cases h;exact⟨rfl,λi x e=>by simp at e⟩
 | x::xs,ys,h=>by
   simp only[aH]at h
   cases j:f x with
   |none=>rw[j]at h;cases h
   | some y =>
     rw[j]at h;simp only[Lj]at h
     cases e2:aH f xs with
     |none=>rw[e2]at h;cases h
     | some r =>
       rw[e2]at h;cases h;obtain⟨l,g⟩:=oF e2;refine⟨by simp[l],λi z e=>?_⟩
       cases i with
       |zero=>simp at e;subst e;exact⟨y,rfl,j⟩
       |succ i=>simp at e;simpa using g i z e
theorem Am {P:Jy}{w:JQ}{E:hW->z0->Prop}{K:Frag}{d:D}{Q:Bool->z0->Prop}(e:iU d=some b)(rd:RD K H d v)(ru:RelV v u)(q:Q b s):Jm (model P w) A (truthy u) Q E s:=by
 cases d with
 |bl c=>cases Tt.mp rd;cases ru;cases e;exact Kl q
 |int i=>cases Tq.mp rd;obtain⟨t,rfl⟩:=ru;cases e;exact PyProof.Rows.truthy_int q
 |_=>cases e
theorem range_all {ts:List Bool}:(KZ ts.length).all (λi=>ts.getD i false)=ts.all id/\(KZ ts.length).any (λi=>ts.getD i false)=ts.any id:=by
 have e:(KZ ts.length).map (λi=>ts.getD i false)=ts:=by
  apply So
  ·simp
  ·intro i h1 h2;simp[OE,Jh h2]
 constructor
 ·conv=>rhs;rw[<- e]
  rw[Om];rfl
 ·conv=>rhs;rw[<- e]
  rw[List.any_map];rfl
theorem oG (U:X.calm=true){pins:List (Addr×Obj)}{σ:St}{M:Mem}{x:D}{ds:List D}{ts:List Bool}{Q:hW->z0->Prop}{g:List Bool->Bool}(I:Inv X pins σ H s)(rm:RM X.K M H)(rd:RD X.K H x v)(ru:RelV v u)(e1:aO M x=some ds)(e2:aH iU ds=some ts)(fin:∀ h' tk,Inv X pins σ H { s with heap:=h',toks:=tk }->Q (.bool (g ts)) { s with heap:=h',toks:=tk })(gg:Nat->(Nat->Bool)->Bool)(Y:gg ts.length (λi=>ts.getD i false)=g ts) :
 Jm (model X.prog X.w) X.A.in1 (R7 u) (λit s₂=>∃ I fp wr n P St tr,it = .ref I/\Walks X.prog X.w X.A.in1 I fp wr n P St/\St 0 s₂.heap/\TruthOf X.prog X.w X.A.in1 P tr /\
  ∀ h' tk,(∀ b o,b∉wr->s₂.heap.get? b=some o->h'.get? b=some o)->Q (.bool (gg n tr)) { s₂ with heap:=h',toks:=tk }) X.xe s:=by
 obtain⟨p,vs,rfl,sq,Z⟩:=C1 rm rd e1
 cases ru
 obtain⟨lt,get⟩:=oF e2;have lv:=Z.length;have tr:∀ (its:List hW),Vals vs its->TruthOf X.prog X.w X.A.in1 (λi w=>its.toArray[i]? = some w) (λi=>ts.getD i false):=by
  intro its rv i w s' Q' E' hP J;have z:its[i]? = some w:=by simpa using hP
  have li:=rv.length;have hi:i<its.length:=(Jw.mp z).1;obtain⟨d,hd⟩:∃ d,ds[i]? = some d:=⟨ds[i]'(by lia),Jh (by lia)⟩
  obtain⟨v',L,rd'⟩:=Z.get hd;obtain⟨u',F,ru'⟩:=rv.get L;rw[z]at F;cases F;obtain⟨b,hb,eb⟩:=get i d hd;have:ts.getD i false=b:=by rw[OE,hb];rfl
  have J:Q' (ts.getD i false) s':=J;rw[this]at J;exact Am eb rd' ru' J
 rcases sq with sq|sq
 ·obtain⟨its,rv,pl,hz⟩:=I.list sq;have li:=rv.length;have j:p<s.heap.objs.size:=by obtain⟨o,n,e,_⟩:=pl;exact Jn e
  refine KP pl.isList ⟨s.heap.objs.size,_,_,_,_,_,_,rfl,Walks.list (by rw[Rm];exact I.ok.hd U) s.heap.objs.size p (JU j) its.toArray,⟨⟨_,Jo _ rfl,rfl,rfl⟩,pl.isList.at λo e=>s9 _ e⟩,tr its rv,λh' tk k=>?_⟩
  have O:its.toArray.size=ts.length:=by rw[Jk];lia
  rw[O,Y];exact fin h' tk (I.kept (t':=tk) λb o e=>k b o (by simp;exact JU (Jn e)) (s9 _ e))
 ·obtain⟨its,rv,pl,hz⟩:=I.tuple sq;have li:=rv.length;have j:p<s.heap.objs.size:=by obtain⟨o,e,_⟩:=pl;exact Jn e
  have pt:s.heap.IsTuple p its.toArray:=pl;refine Kz pt ⟨s.heap.objs.size,_,_,_,_,_,_,rfl,Walks.tuple (by rw[Rm];exact I.ok.hd U) s.heap.objs.size p (JU j) its.toArray,⟨⟨_,Jo _ rfl,rfl,rfl⟩,pt.push _⟩,tr its rv,λh' tk k=>?_⟩
  have O:its.toArray.size=ts.length:=by rw[Jk];lia
  rw[O,Y];exact fin h' tk (I.kept (t':=tk) λb o e=>k b o (by simp;exact JU (Jn e)) (s9 _ e))
theorem sQ (j:X.calm=true):CallR X (.builtin "all") (lR X.K sN):=by
 intro pins s σ H xs us Q I rv h;obtain⟨ds,M,rm,rs,x,es,ts,rfl,z,F,q⟩:=h;obtain⟨v,rfl,r⟩:=rs.one;obtain⟨u,rfl,ru⟩:=dN rv;exact call_all_walk (oG j I rm r ru z F (g:=λts=>ts.all id) (λh' tk I'=>⟨.bl _,H,I',rfl,q _ H Ext.refl rm (Tt.mpr rfl)⟩) (λn tr=>(KZ n).all tr) range_all.1)
theorem sR (j:X.calm=true):CallR X (.builtin "any") (lR X.K sP):=by
 intro pins s σ H xs us Q I rv h;obtain⟨ds,M,rm,rs,x,es,ts,rfl,z,F,q⟩:=h;obtain⟨v,rfl,r⟩:=rs.one;obtain⟨u,rfl,ru⟩:=dN rv;exact call_any_walk (oG j I rm r ru z F (g:=λts=>ts.any id) (λh' tk I'=>⟨.bl _,H,I',rfl,q _ H Ext.refl rm (Tt.mpr rfl)⟩) (λn tr=>(KZ n).any tr) range_all.2)
theorem xK {op op':Qc}{a b c:Expr}{pos:Pos}(ho:OpR X (JM op) (l2 X.K r))(j:OpR X (JM op') (l2 X.K r'))(hr:ar r)(z:ar r')(ma:ae ta)(mb:ae tb)(mc:ae tc)(F:PE X a (lE X.K ta))(J:PE X b (lE X.K tb))(L:PE X c (lE X.K tc))(hm:Pa [op,op'] [b,c]=false) :
 PE X (.Compare a [op,op'] [b,c] pos) (lE X.K (ci r r' ta tb tc)):=PE.imp (wq ho j F J L hm) (jD hr z ma mb mc)
theorem xL {op op':Qc}{a b c:Expr}{pos:Pos}(ho:OpR X (JM op) (l2 X.K r))(z:OpR X (JM op') (l2 X.K r'))(hr:ar r)(j:ar r')(ma:ae ta)(mb:ae tb)(mc:ae tc)(F:PE X a (lE X.K ta))(J:PE X b (lE X.K tb))(L:PE X c (lE X.K tc))(hm:Pa [op,op'] [b,c]=false) :
 PT X (.Compare a [op,op'] [b,c] pos) (lT X.K (dG (ci r r' ta tb tc))):=PT.imp (wt ho z F J L hm) λσ H Q h=>jD hr j ma mb mc σ H _ (nU (fY hr j ma mb mc) σ H Q h)
end
end
end Mi
namespace Srt
end Srt
namespace Srt
end Srt
namespace Srt
end Srt
namespace Srt
end Srt
namespace Srt
end Srt
namespace Srt
end Srt
namespace Srt
end Srt
namespace Srt
end Srt
namespace It
end It
namespace It
end It
namespace It
end It
namespace Mi
open L2.Srt
end Mi
namespace Mi
open L2.Srt
end Mi
namespace Mi
end Mi
namespace Mi
end Mi
namespace Mi
end Mi
namespace Mi
end Mi
namespace Mi
end Mi
namespace Dk
end Dk
namespace Mi
open L2.Srt
end Mi
namespace Mi
end Mi
namespace Mi
end Mi
namespace Mi
end Mi
namespace Mi
end Mi
namespace Mi
end Mi
namespace Mi
end Mi
namespace Mi
end Mi
namespace Mi
end Mi
namespace Mi
open L2.Srt
end Mi
namespace Srt
open AutoSeq1 (wpAny_loadPart')
open MeetsSeq MeetsSeq2 MeetsSeq3
end Srt
namespace Srt
end Srt
namespace Mi
open L2.Srt
end Mi
namespace ST
end ST
namespace ST
noncomputable abbrev Srt (l:List Nat):Prop:=l.Pairwise (· < ·)
noncomputable abbrev En:=Nat×Int×hW
end ST
namespace ST
end ST
namespace ST
end ST
namespace ST
end ST
namespace ST
end ST
namespace ST
end ST
namespace ST
end ST
namespace ST
end ST
namespace ST
end ST
namespace ST
end ST
namespace ST
end ST
namespace ST
end ST
namespace ST
end ST
namespace Mi
open L2.Srt
end Mi
namespace Mi
end Mi
namespace Mi
section
variable {X:Cx}
theorem RDs.strs_eq {K:Frag}{H:Hp}:∀ {ns:List Str} {vs:List V},RDs K H (ns.map D.str) vs->vs=ns.map V.str
 |[],vs,h=>RDs.nil_iff.mp h
 | n::ns,vs,h=>by
   obtain⟨v,r,rfl,h1,h2⟩:=Tu.mp h;rw[Tr.mp h1,RDs.strs_eq h2];rfl
end
end Mi
namespace It
end It
namespace Mi
end Mi
section
section
variable {X:Cx}
def PF (X:Cx) (es:List Expr) (t:Str->TE):Prop :=
 ∀ (acc:Str) (pins:List (Addr×Obj)) (s:z0) (σ:St) (H:Hp) (Q:VK),Inv X pins σ H s->t acc σ H Q ->
  Joins (model X.prog X.w) X.A X.xe (evalEach es X.env) acc (λout s1=>out.length<=Je/\EP X pins σ Q (.str out s1.toks) { s1 with toks:=s1.toks+1 }) s
noncomputable def DV (acc:Str):TE:=λ_ H Q=>acc.length<=Je/\Q (.str acc) H
noncomputable def DW (te:TE) (tr:Str->TE) (acc:Str):TE:=λσ H Q=>te σ H λx H1=>∃ y,x = .str y/\(acc++y).length<=Je/\tr (acc++y) σ H1 Q
theorem v7:PF X [] DV:=λacc pins s σ H Q I g9=>(by obtain⟨j,q⟩:=g9;exact⟨j,.str acc,H,I.tok _,⟨_,rfl⟩,q⟩)
theorem ik {e:Expr}{tr:Str->TE}(he:PE X e te)(hr:PF X es tr):PF X (e::es) (DW te tr):=by
 intro acc pins s σ H Q I h;refine thn (he pins s σ H _ I h) λv s1 j=>?_;obtain⟨x,H1,z,F,y,hx,J,q⟩:=j;subst hx;obtain⟨t,rfl⟩:=F;exact⟨y,t,rfl,J,hr _ pins s1 σ H1 Q z q⟩
theorem qP {j z:Expr}{t:Str->TE}(h:PF X (j::z::es) t):PE X (.JoinedStr (j::z::es) pos) (t Kb) :=
 λpins s σ H Q I q=>wpAny_JoinedStr (h _ pins s σ H Q I q)
noncomputable def Fa (te:TE):TE:=λσ H Q=>te σ H λx H1=>(∃ y:Str,x = .str y/\y.length<=Je/\Q (.str y) H1)∨∃ i:Int,x = .int i/\i.natAbs.log2<1920/\Q (.str (Ko i)) H1
theorem v8 {e:Expr}(h:PE X e te):PE X (.FormattedValue e (-1) none pos) (Fa te):=by
 intro pins s σ H Q I q;refine wpAny_FormattedValue_plain (thn (h pins s σ H _ I q) λv s1 L=>?_);obtain⟨x,H1,z,J,j⟩:=L
 rcases j with⟨y,rfl,F,j⟩|⟨i,rfl,F,j⟩
 ·obtain⟨t,rfl⟩:=J;exact wpAny_formatField_str ⟨.str y,H1,z,⟨_,rfl⟩,j⟩ ⟨.str y,H1,z.tok _,⟨_,rfl⟩,j⟩ F
 ·obtain⟨t,rfl⟩:=J;exact wpAny_formatField_int F ⟨.str _,H1,z.tok _,⟨_,rfl⟩,j⟩
noncomputable def yX:V->List V->Hp->VK->Prop:=λx vs H Q=>∃ (x0:Str) (b:Addr) (ys:List Str),x = .str x0/\vs=[.ref b]/\H b=some (.lst (ys.map .str))/\(ys.map (·.length)).sum+ys.length*x0.length<=16777216/\Q (.str (Ta x0 ys)) H
theorem fq:∀ {ys:List Str} {us:List hW},Vals (ys.map V.str) us->StrsAre us ys
 |[],_,.nil=>.nil
 |y::ys,_,.cons ⟨t,e⟩ r=>by subst e;exact .cons y t (fq r)
theorem An:MtM X "str.join" yX:=by
 intro pins s σ H x vs v us Q I rx rv h;obtain⟨x0,b,ys,rfl,rfl,j,z,q⟩:=h;obtain⟨t,rfl⟩:=rx;obtain⟨u,rfl,ru⟩:=rv.one
 cases ru
 obtain⟨its,r,F,J⟩:=I.list (SqL.of j);exact join_list F.isList (fq r) z λt' k=>⟨.str _,H,I.tok _,⟨_,rfl⟩,q⟩
noncomputable def DX (K:Frag) (te:TE) (ts:TO):TE:=λσ H Q=>te σ H λx H1=>ts σ H1 λst H3=>∃ a xs,x = .ref a/\SqL K H3 a xs/\st=some (-1) /\ ∀ q,H3 q=none->Q (.ref q) (upd H3 q (.lst xs.reverse))
theorem Ao {e st:Expr}{ts:TO}{p2:Pos}(he:PE X e te)(L:PO X (some st) ts):PE X (.Subscript e (.Slice none none (some st) p2) pos) (DX X.K te ts):=by
 intro pins s σ H Q I h;refine T3 (thn (he pins s σ H _ I h) λv s1 j=>?_);obtain⟨x,H1,O,U,Y⟩:=j;refine wpAny_Slice ?_;rw[QT];refine Jd ?_;refine Jd (thn (L pins s1 σ H1 _ O Y) λvs s3 j=>?_);obtain⟨u,Z,I3,ps,q3⟩:=j;have F:Inv X pins σ Z { s3 with heap:=s3.heap.push { cls:=.type "slice",data:=.fields #[.none,.none,vs] } }:=I3.kept (t':=s3.toks) λb ob q=>s9 _ q
 obtain⟨a,xs,rfl,sq,rfl,q⟩:=q3
 cases U
 obtain⟨its,r,J,hz⟩:=F.list sq;have hlen:=r.length;show Jm (model X.prog X.w) X.A (QU e (.Slice none none (some st) p2) (.ref a) (.ref s3.heap.objs.size)) (EP X pins σ Q) X.xe { s3 with heap:=s3.heap.push { cls:=.type "slice",data:=.fields #[.none,.none,vs] } }
 refine T5 (ops:=[.ref a,.ref s3.heap.objs.size]) J.isList.typeIs slot_list_getitem.lookup ?_ (by with_unfolding_all rfl)
 refine OZ J.isList (Rb ..) .none .none ps (by intro z;have:=Ki.inj z;lia) ?_ (by rw[Jk] <;> lia)
 rw[PySem.W.krv_pick];refine⟨.ref _,_,F.laid (t':=s3.toks) (o:=.lst xs.reverse) (λb ob q=>s9 _ q) (Jg _) ?_,rfl,q _ (F.hok.fresh (Jg _))⟩;refine⟨by rw[QN];exact hz,_,0,?_,Jo _ rfl⟩
 exact r.reverse
noncomputable def DY:R2:=λx y H Q=>∃ l b xs zs,x = .ref l/\y = .ref b/\H l=some (.lst xs)/\H b=some (.lst zs)/\xs.length+zs.length<=Je/\Q (.ref l) (upd H l (.lst (xs++zs)))
theorem DZ {E:hW->z0->Prop}{a b:hW}{Q:hW->z0->Prop}(J:s.TypeIs a "list")(U:s.TypeIs b "list")(Y:Jm M A (call (.builtin "list.__iadd__") [a,b]) Q E s):Jm M A (Lv .Add a b) Q E s:=by
 unfold Lv;refine K2 ?_;have L:PM (.type "list") (dunderI "add")=pure (some (.builtin "list.__iadd__")):=PySem.F.slot_list_iadd.lookup;have O:isSeqSlot (some (.builtin "list.__iadd__"))=true:=by decide +kernel
 have j:Ss (.type "list") "add" (Operator.Add == .Add)=pure false:=by
  unfold Ss;show (PM (.type "list") (dunderI "add") >>= λfi=>pure (fi.isSome && !isSeqSlot fi))=pure false;rw[L,pure_bind,O];rfl
 have z:seqSlot? (.type "list") (dunderI "add")=pure (some (.builtin "list.__iadd__")):=PySem.seqSlot_of L O;refine h8 (Oi J (h8 (OR j ?_)));show Jm M A (if false=true then _ else _) Q E s
 rw[if_neg J9];refine h8 (PySem.wpAny_binaryOp1_none (nm:="add") J U PySem.noFill_list_add ?_);refine h8 (OR z ?_);exact h8 (LX Y)
theorem Ap:OpR X (Lv .Add) DY:=by
 intro pins s σ H x y v u Q I rx ry h;obtain⟨l,b,xs,zs,rfl,rfl,L,U,hz,q⟩:=h
 cases rx
 cases ry
 obtain⟨z,its,n,r,hl,e⟩:=I.lstM L;obtain⟨z2,j,Y,Z,HI,O⟩:=I.lstM U;have hsz:its.toArray.size+j.toArray.size<=Je:=by rw[Jk,Jk];lia
 have J : ¬ (!its.toArray.isEmpty&&LJ (its.toArray.size+j.toArray.size))=true:=by
  rw[nH hsz,Bool.and_false];exact J9
 refine DZ ⟨_,e,rfl⟩ ⟨_,O,rfl⟩ (Lm PySem.F.slot_list_iadd ⟨_,e,rfl⟩ PySem.F.entry_list_iadd (PySem.F.args_list_iadd_2 _ _)
  (AutoSeq1.list___iadd___list_list_0 l its.toArray n b j.toArray Y J (by rw[Jk];lia) (by lia)) ⟨e,O,?_⟩)
 refine⟨.ref l,_,I.lset (its':=its++j) L e (by simp) (r.append Z) ?_,rfl,q⟩
 rw[Jq];lia
noncomputable def Fb (ta tb:TE) (K:Frag):TE:=λσ H Q=>ta σ H λx H1=>∃ a xs,x = .ref a/\SqL K H1 a xs/\if xs.isEmpty=true then tb σ H1 Q else Q (.ref a) H1
theorem Ck {a b:Expr}{ta tb:TE}(L:PE X a ta)(O:PE X b tb):PE X (.BoolOp .Or [a,b] pos) (Fb ta tb X.K):=by
 intro pins s σ H Q I h;refine BoolOp_or (thn (L pins s σ H _ I h) λv s1 z=>?_);obtain⟨x,H1,U,F,j⟩:=z;obtain⟨c,xs,rfl,sq,j⟩:=j;refine thn (ua pins s1 σ H1 (.ref c) v (λk H'=>H'=H1/\k = !xs.isEmpty) U F ⟨_,.inl ⟨xs,sq,rfl⟩,rfl,rfl⟩) λk s2 z=>?_;obtain⟨H2,J,e,ek⟩:=z;subst e ek
 cases hx:xs.isEmpty with
 | true =>
   rw[hx,if_pos rfl]at j;exact BoolOp_one (O pins s2 σ H2 Q J j)
 | false =>
   rw[hx,if_neg J9]at j;exact⟨.ref c,H2,J,F,j⟩
end
namespace Mi
variable {te ta:TEd}{e:Expr}{pos:Pos}
section
variable {X:Cx}
noncomputable def mM (acc:Str):TEd:=λ_ M Q=>acc.length<=Je/\Q (.str acc) M
noncomputable def mP (te:TEd) (tr:Str->TEd) (acc:Str):TEd:=λρ M Q=>te ρ M λx M1=>∃ y,x = .str y/\(acc++y).length<=Je/\tr (acc++y) ρ M1 Q
theorem v9 {acc:Str}:ae (mM acc):=λ_ _ _ _ h j=>(by obtain⟨z,q⟩:=j;exact⟨z,h _ _ q⟩)
theorem va {tr:Str->TEd}{acc:Str}(m:ae te)(mr:∀ a,ae (tr a)):ae (mP te tr acc):=λρ M Q Q' i q =>
 m _ _ _ _ (λx J j=>(by obtain⟨y,e,z,F⟩:=j;exact⟨y,e,z,mr _ _ _ _ _ i F⟩)) q
def PFd (X:Cx) (es:List Expr) (t:Str->TEd):Prop:=PF X es λacc=>lE X.K (t acc)
theorem Cl:PFd X [] mM:=λacc pins s σ H Q I g9=>(by obtain⟨ρ,M,rs,rm,z,q⟩:=g9;exact v7 acc pins s σ H Q I ⟨z,q _ H Ext.refl rm (Tr.mpr rfl)⟩)
theorem Aq {es:List Expr}{tr:Str->TEd}(m:ae te)(mr:∀ a,ae (tr a))(he:PE X e (lE X.K te))(hr:PFd X es tr):PFd X (e::es) (mP te tr):=by
 intro acc pins s σ H Q I ⟨ρ,M,rs,rm,q⟩;refine ik he hr acc pins s σ H Q I ⟨ρ,M,rs,rm,m _ _ _ _ (λx L g9 v H1 J j F=>?_) q⟩;obtain⟨y,e,z,O⟩:=g9;subst e;refine⟨y,Tr.mp F,z,ρ,L,rs.mono (J.stab rm),j,mr _ _ _ _ _ (λd U k=>k.ext J) O⟩
theorem Ar {j z:Expr}{es:List Expr}{t:Str->TEd}(h:PFd X (j::z::es) t):PE X (.JoinedStr (j::z::es) pos) (lE X.K (t Kb)):=qP h
noncomputable def fmD:R1d
 |.str y,M,Q=>y.length<=Je/\Q (.str y) M
 |.int i,M,Q=>i.natAbs.log2<1920/\Q (.str (Ko i)) M
 |_,_,_=>False
theorem xM:my fmD:=by
 intro x M Q Q' h q
 cases x with
 |str y=>exact⟨q.1,h _ _ q.2⟩
 |int i=>exact⟨q.1,h _ _ q.2⟩
 |_=>exact q.elim
noncomputable def sU (te:TEd):TEd:=λρ M Q=>te ρ M λx M1=>fmD x M1 Q
theorem xN (m:ae te):ae (sU te):=λρ M Q Q' i q =>
 m _ _ _ _ (λx z j=>xM _ _ _ _ i j) q
theorem Cm (m:ae te)(he:PE X e (lE X.K te)):PE X (.FormattedValue e (-1) none pos) (lE X.K (sU te)):=by
 refine PE.imp (v8 he) λσ H Q h=>?_;obtain⟨ρ,M,rs,rm,q⟩:=h;refine⟨ρ,M,rs,rm,m _ _ _ _ (λx L j v H1 J z F=>?_) q⟩
 cases x with
 |str y=>exact .inl ⟨y,Tr.mp F,j.1,j.2 _ H1 J z (Tr.mpr rfl)⟩
 |int i=>exact .inr ⟨i,Tq.mp F,j.1,j.2 _ H1 J z (Tr.mpr rfl)⟩
 |_=>exact j.elim
noncomputable def mQ:RAd:=λxs M Q=>∃ i:Int,xs=[.int i]/\i.natAbs.log2<1920/\Q (.str (Ko i)) M
theorem lL:aS mQ:=λ_ _ _ _ h j=>(by obtain⟨i,e,z,q⟩:=j;exact⟨i,e,z,h _ _ q⟩)
theorem sV:CallR X (.type "str") (lR X.K mQ):=by
 refine CallR.of nD λvs H Q h=>?_;obtain⟨ds,M,rm,rs,i,rfl,z,q⟩:=h;obtain⟨v,rfl,r⟩:=rs.one
 cases Tq.mp r
 exact⟨i,rfl,z,q _ H Ext.refl rm (Tr.mpr rfl)⟩
noncomputable def mR (to te:TEd):TEd:=λρ M Q=>to ρ M λx M1=>(∃ x0,x = .str x0)/\te ρ M1 λy M2=>∃ (x0:Str) (b:Addr) (ys:List Str),x = .str x0/\y = .ref b/\M2 b=some (.lst (ys.map .str))/\(ys.map (·.length)).sum+ys.length*x0.length<=16777216/\Q (.str (Ta x0 ys)) M2
theorem vb {to:TEd}(mo:ae to)(me:ae te):ae (mR to te):=λρ M Q Q' i q =>
 mo _ _ _ _ (λx Y j=>(by obtain⟨e,F⟩:=j;exact⟨e,me _ _ _ _ (λy Z j=>(by obtain⟨x0,b,ys,J,L,O,z,U⟩:=j;exact⟨x0,b,ys,J,L,O,z,i _ _ U⟩)) F⟩)) q
theorem RDs.strs {K:Frag}{H:Hp}:∀ {ys:List Str} {vs:List V},RDs K H (ys.map .str) vs->vs=ys.map .str
 |[],_,h=>h
 |y::ys,_,⟨v,r,e,h1,h2⟩=>by subst e;rw[RDs.strs h2,Tr.mp h1];rfl
theorem vc {K:Frag}{to:TEd}(mo:ae to)(me:ae te)(σ:St)(H:Hp)(Q:VK)(h:lE K (mR to te) σ H Q):tBM K "str" yX (lE K to) (lA K (aN te bA)) σ H Q:=by
 obtain⟨ρ,M,rs,rm,q⟩:=h;refine⟨ρ,M,rs,rm,mo _ _ _ _ (λx Y g9 v H1 O F rd1=>?_) q⟩;obtain⟨⟨x0,e⟩,Z⟩:=g9;subst e
 cases Tr.mp rd1
 refine⟨rfl,ρ,Y,rs.mono (O.stab rm),F,me _ _ _ _ (λy M2 J vs H2 x2 j L=>?_) Z⟩;obtain⟨HI,b,ys,e1,e2,e3,z,J⟩:=J
 cases e1
 subst e2;obtain⟨v,rfl,r⟩:=L.one
 cases Ts.mp r
 obtain⟨us,U,ru⟩:=j _ _ e3;rw[RDs.strs ru]at U;exact⟨x0,b,ys,rfl,rfl,U,z,J _ H2 (O.trans x2) j (Tr.mpr rfl)⟩
noncomputable def mU (te:TEd) (ts:TOd):TEd:=λρ M Q=>te ρ M λx M1=>ts ρ M1 λu M3=>∃ a ds,x = .ref a/\M3 a=some (.lst ds)/\u=some (-1) /\ ∀ q,M3 q=none->Q (.ref q) (af M3 q (.lst ds.reverse))
theorem vd {ts:TOd}(m:ae te)(mh:bX ts):ae (mU te ts):=λρ M Q Q' i q =>
 m _ _ _ _ (λx U j=>mh _ _ _ _ (λu Y z=>(by obtain⟨a,ds,F,J,L,O⟩:=z;exact⟨a,ds,F,J,L,λp n=>i _ _ (O p n)⟩)) j) q
theorem As {hi:Expr}{th:TOd}{p2:Pos}(m:ae ta)(mh:bX th)(he:PE X e (lE X.K ta))(Y:PO X (some hi) (lO X.K th)) :
 PE X (.Subscript e (.Slice none none (some hi) p2) pos) (lE X.K (mU ta th)):=by
 refine PE.imp (Ao he Y) λσ H Q h=>?_;obtain⟨ρ,M,rs,rm,q⟩:=h;refine⟨ρ,M,rs,rm,m _ _ _ _ (λx Z q1 v H1 O j F=>?_) q⟩;refine⟨ρ,Z,rs.mono (O.stab rm),j,mh _ _ _ _ (λu M3 J H3 U z=>?_) q1⟩;have L:=F.mono (U.stab j);obtain⟨a,ds,rfl,e,rfl,J⟩:=J
 cases Ts.mp L
 obtain⟨vs,ha,r⟩:=z _ _ e;exact⟨a,vs,rfl,SqL.of ha,rfl,λp' n=>db z r.reverse (λp' n'=>(J p' n').ext (O.trans U)) n⟩
noncomputable def mV:R2d:=λx y M Q=>∃ a b xs ys,x = .ref a/\y = .ref b/\M a=some (.lst xs)/\M b=some (.lst ys)/\xs.length+ys.length<=Je/\Q (.ref a) (af M a (.lst (xs++ys)))
theorem lP:ar mV:=λ_ _ _ _ _ h j=>(by obtain⟨a,b,xs,y,F,J,L,O,z,q⟩:=j;exact⟨a,b,xs,y,F,J,L,O,z,h _ _ q⟩)
theorem ve:OpR X (Lv .Add) (l2 X.K mV):=by
 refine OpR.of Ap λv u H Q h=>?_;obtain⟨x,y,M,rm,rx,ry,a,b,xs,ys,rfl,rfl,j,F,z,q⟩:=h
 cases Ts.mp rx
 cases Ts.mp ry
 obtain⟨us,J,ru⟩:=rm _ _ j;obtain⟨ws,L,rw'⟩:=rm _ _ F;exact⟨a,b,us,ws,rfl,rfl,J,L,by rw[ru.length,rw'.length];exact z,qM rm j (ru.append rw') (Ts.mpr rfl) q⟩
noncomputable def sW (ta tb:TEd):TEd:=λρ M Q=>ta ρ M λx M1=>∃ a xs,x = .ref a/\M1 a=some (.lst xs)/\if xs.isEmpty=true then tb ρ M1 Q else Q (.ref a) M1
theorem xO {tb:TEd}(h:ae ta)(k:ae tb):ae (sW ta tb):=λρ M Q Q' i q=>h _ _ _ _ (λx F ⟨a,xs,e,z,j⟩=>⟨a,xs,e,z,by
 cases hx:xs.isEmpty with
 |true=>rw[hx,if_pos rfl]at j;rw[if_pos rfl];exact k _ _ _ _ i j
 |false=>rw[hx,if_neg J9]at j;rw[if_neg J9];exact i _ _ j⟩) q
theorem Cn {a b:Expr}{tb:TEd}(ma:ae ta)(mb:ae tb)(L:PE X a (lE X.K ta))(O:PE X b (lE X.K tb)):PE X (.BoolOp .Or [a,b] pos) (lE X.K (sW ta tb)):=by
 refine PE.imp (Ck L O) λσ H Q h=>?_;obtain⟨ρ,M,rs,rm,q⟩:=h;refine⟨ρ,M,rs,rm,ma _ _ _ _ (λx U g9 v H1 F j rd1=>?_) q⟩;obtain⟨c,xs,e,Y,z⟩:=g9;subst e
 cases Ts.mp rd1
 obtain⟨us,Z,ru⟩:=j _ _ Y;refine⟨c,us,rfl,SqL.of Z,?_⟩;have J:=ru.length
 cases hx:xs.isEmpty with
 | true =>
   have:us.isEmpty=true:=by rw[Pj]at hx ⊢;subst hx;exact List.eq_nil_of_length_eq_zero J
   rw[hx,if_pos rfl]at z;rw[this,if_pos rfl];exact⟨ρ,U,rs.mono (F.stab rm),j,mb _ _ _ _ (λd M2 k=>k.ext F) z⟩
 | false =>
   have:us.isEmpty=false:=by
    cases us with
    | nil=>cases xs with
      |nil=>cases hx
      |cons _ _=>cases J
    |cons _ _=>rfl
   rw[hx,if_neg J9]at z;rw[this,if_neg J9];exact z _ H1 F j (Ts.mpr rfl)
end
end Mi
end
section
section
variable {X:Cx}
noncomputable def vf:V->List V->Hp->VK->Prop:=λx vs H Q=>∃ x0 y0:Str,x = .str x0/\vs=[.str y0]/\(y0.length==0)=false/\x0.length+2<=Je /\ ∀ q,H q=none->Q (.ref q) (upd H q (.lst ((Jb x0 y0).map .str)))
theorem lQ:∀ {l:List (Str×Tok)},Vals ((l.map (·.1)).map V.str) (strValues l)
 |[]=>.nil
 |(a,t)::l=>.cons ⟨t,rfl⟩ (lQ (l:=l))
theorem xP:MtM X "str.split" vf:=by
 intro pins s σ H x vs v us Q I rx rv h;obtain⟨x0,j,rfl,rfl,L,O,q⟩:=h;obtain⟨t,rfl⟩:=rx;obtain⟨u,rfl,ru⟩:=rv.one;obtain⟨J,rfl⟩:=ru;have hle:(Jb x0 j).length<=Je:=K7 (split_le x0 j) O;have key:∀ (l:List (Str×Tok)) (k:Nat),l.map (·.1)=Jb x0 j->EP X pins σ Q (.ref s.heap.objs.size) { s with heap:=s.heap.push { cls:=.type "list",data:=.seq (strValues l).toArray },toks:=k }:=λl k e=>by
  have ev:Vals ((Jb x0 j).map V.str) (strValues l):=by rw[<- e];exact lQ
  refine⟨.ref s.heap.objs.size,_,I.laid (t':=k) (o:=.lst ((Jb x0 j).map .str)) (λb ob q=>s9 _ q) (Jg _) ?_,rfl,q _ (I.hok.fresh (Jg _))⟩;exact⟨by rw[Jc];exact hle,_,0,ev,Jo _ rfl⟩
 have U:x0.length<=Je:=by lia
 cases h1:(decide (x0.length<j.length) || decide (QO x0<QO j))
 ·cases hf:(Km x0 j 0 x0.length (x0.length+1)).isEmpty
  ·have z:P5 x0 (Km x0 j 0 x0.length (x0.length+1)) j.length=Jb x0 j:=by
    unfold Jb;rw[if_neg (by rw[h1];nofun),if_neg (by rw[hf];nofun)]
   refine Lm Pk (Nb _ _ _) OV (OF _ _) (meets_str_split_sep x0 j t J h1 L hf U (by rw[z];exact hle)) ?_
   show wants (EP X pins σ Q) X.xe _ { s with toks:=_,heap:=s.heap.push { cls:=.type "list",data:=.seq (strsFrom s.toks (P5 x0 (Km x0 j 0 x0.length (x0.length+1)) j.length)).toArray } }
   rw[strsFrom_eq];exact key (numbered s.toks _) _ ((numbered_texts _ _).trans z)
  ·have z : [x0]=Jb x0 j:=by unfold Jb;rw[if_neg (by rw[h1];nofun),if_pos hf]
   exact Lm Pk (Nb _ _ _) OV (OF _ _) (meets_str_split_not_found x0 j t J h1 L hf) (key [(x0,t)] _ z)
 ·have z : [x0]=Jb x0 j:=by unfold Jb;rw[if_pos h1]
  exact Lm Pk (Nb _ _ _) OV (OF _ _) (meets_str_split_cannot_occur x0 j t J h1) (key [(x0,t)] _ z)
noncomputable def dY (x y:Str):List Str:=[(JN x y).1,(JN x y).2.1,(JN x y).2.2]
noncomputable def yY:V->List V->Hp->VK->Prop:=λx vs H Q=>∃ x0 y0:Str,x = .str x0/\vs=[.str y0]/\(y0.length==0)=false/\x0.length<=Je /\ ∀ q,H q=none->Q (.ref q) (upd H q (.tup ((dY x0 y0).map .str)))
theorem Au:MtM X "str.partition" yY:=by
 intro pins s σ H x vs v us Q I rx rv h;obtain⟨x0,j,rfl,rfl,z,J,q⟩:=h;obtain⟨t,rfl⟩:=rx;obtain⟨u,rfl,ru⟩:=rv.one;obtain⟨L,rfl⟩:=ru;refine Lm F.slot_str_partition (Nb _ _ _) F.entry_str_partition (F.args_str_partition_2 _ _) (meets_str_partition x0 j t L z J) ?_;have key:∀ (a b c:Tok) (k:Nat),EP X pins σ Q (.ref s.heap.objs.size) { s with heap:=s.heap.push { cls:=.type "tuple",data:=.seq [.str (JN x0 j).1 a,.str (JN x0 j).2.1 b,.str (JN x0 j).2.2 c].toArray },toks:=k }:=λa b c k=>by
  refine⟨.ref s.heap.objs.size,_,I.laid (t':=k) (o:=.tup ((dY x0 j).map .str)) (λb ob q=>s9 _ q) (Jg _) ?_,rfl,q _ (I.hok.fresh (Jg _))⟩;refine⟨by rw[td];simp[dY],[.str (JN x0 j).1 a,.str (JN x0 j).2.1 b,.str (JN x0 j).2.2 c],.cons ⟨_,rfl⟩ (.cons ⟨_,rfl⟩ (.cons ⟨_,rfl⟩ .nil)),ND _ _⟩
 unfold JN at key
 revert key
 cases Km x0 j 0 x0.length 1 with
 |nil=>intro key;exact key _ _ _ _
 |cons i r=>intro key;exact key _ _ _ _
noncomputable def qQ:V->List V->Hp->VK->Prop:=λx vs H Q=>∃ x0 y0:Str,x = .str x0/\vs=[.str y0]/\Q (.bl (Nu x0 y0)) H
theorem vg:MtM X "str.startswith" qQ:=by
 intro pins s σ H x vs v us Q I rx rv h;obtain⟨x0,j,rfl,rfl,q⟩:=h;obtain⟨t,rfl⟩:=rx;obtain⟨u,rfl,ru⟩:=rv.one;obtain⟨z,rfl⟩:=ru;exact SC.startswith ⟨.bl _,H,I,rfl,q⟩
theorem vh:CallR X (.type "int") (λxs H Q=>∃ (x:Str) (n:Int),xs=[.str x]/\Qp x=some n/\x.length<=640/\Q (.int n) H):=by
 intro pins s σ H xs us Q I r h;obtain⟨x,n,rfl,e,j,q⟩:=h;obtain⟨u,rfl,rx⟩:=dN r;obtain⟨t,rfl⟩:=rx;exact PySem.W.KIN.call_text e j ⟨.int _,H,I.tok _,⟨_,rfl⟩,q⟩
noncomputable def Fc:V->Option Int->Option Int->Hp->VK->Prop:=λx lo hi H Q=>∃ (x0:Str) (i:Int),x = .str x0/\lo=some i/\hi=none/\x0.length<=Je/\Q (.str (Ka x0 (some i) none)) H
theorem Co:SlR X Fc:=by
 intro pins s σ H x v vl vu lo hi sl Q I rx hs pl pu h;obtain⟨x0,i,rfl,rfl,rfl,j,q⟩:=h;obtain⟨t,rfl⟩:=rx
 cases pl with
 | int _ ui =>
   cases pu
   refine⟨"str",_,F.slot_str_getitem.lookup,Nb _ _ _,Pl (l:=some (i,ui)) (u:=none) (st:=none) hs rfl (post_val_or_str ⟨K7 (Nv x0 _ _) j,λt' k=>?_⟩)⟩;exact⟨.str _,H,I.tok _,⟨_,rfl⟩,q⟩
noncomputable def Its (x:Str):It:=⟨λi _=>i<x.cps.size,λi H v H'=>H'=H /\ ∃ c,x.cps[i]? = some c/\v = .str ⟨#[c]⟩,λi _=>x.cps.size<=i⟩
theorem jE {tg:Expr}{St:Nat->Heap->Prop}{n:String}(W:∀ A':JI,A'.handled=none->Walks P w A' it [it] [it] x.cps.size (SignAt x) St)(hs:∀ i h,St i h -> ∃ o vs,h.get? it=some o/\o.cls = .type n/\o.data = .fields vs)(he:∀ (A':JI),A'.handled=none -> ∀ (i:Nat) (s:z0) (Q:Option hW->z0->Prop) (E:hW->z0->Prop),x.cps.size<=i->St i s.heap->(∀ h',(∀ b o,b≠it->s.heap.get? b=some o->h'.get? b=some o)->Q none { s with heap:=h' })->Jm (model P w) A' (Ow (.ref it)) Q E s)(j:∀ (A:JI) (i:Nat) (s:z0) (Q:hW->z0->Prop) (E:hW->z0->Prop),St i s.heap->Q (.ref it) s->Jm (model P w) A (R7 (.ref it)) Q E s)(hn : ["enumerate","zip","dict_itemiterator","dict_reverseitemiterator","odict_iterator","itertools.zip_longest","itertools.pairwise"].contains n=false):gv P w K tg (Its x) [it] it St where
 mem:=by simp
 obj:=λi h st b F=>by
  have e:b=it:=by simpa using F
  subst e;obtain⟨o,vs,e,c,d⟩:=hs i h st;exact⟨o,e,λv z=>by rw[d]at z;cases z⟩
 keep:=λi h h' st k=>(W { units:=0,handled:=none } rfl).frame i h h' st k
 item:=by
  intro X J hw L O i pins s σ H E I hf st hg;subst J hw L;obtain⟨f0,f1,f2,U,f4,Y⟩:=hf it (by simp)
  refine(W X.A (I.ok.hd O)).item i s _ E hg st λv h' tk hv st' sb=>?_;obtain⟨c,u,Z,rfl⟩:=hv;have I1:Inv X pins σ H { s with heap:=h',toks:=tk }:=I.turned (t':=tk) (λb o F e=>sb b o (by simpa using F) e) f0 f1 U f4 Y
  obtain⟨o,vs,e,c',d⟩:=hs _ _ st';exact⟨_,rfl,mx (s:={ s with heap:=h',toks:=tk }) e c' d hn ⟨.str _,H,I1,⟨_,rfl⟩,⟨rfl,c,Z,rfl⟩,st',λb F=>(hf b F).1⟩⟩
 done:=by
  intro X J hw L O i pins s σ H E I hf st hg;subst J hw L;obtain⟨f0,f1,f2,U,f4,Y⟩:=hf it (by simp)
  exact he X.A (I.ok.hd O) i s _ E hg st λh' sb=>⟨rfl,I.turned (t':=s.toks) (λb o F e=>sb b o F e) f0 f1 U f4 Y⟩
 self:=j
theorem iI {n:String}{t:Tok}(i:Nat)(h:Heap)(st:h.IsStrIter it n x t i):∃ o vs,h.get? it=some o/\o.cls = .type n/\o.data = .fields vs:=by
 obtain⟨o,a,b,c⟩:=st;exact⟨o,_,a,b,c⟩
noncomputable def Cp (ta:TE):TI:=λσ H R=>ta σ H λx H1=>∃ x0,x = .str x0/\R (Its x0) H1
theorem xQ {tg l:Expr}{ta:TE}(L:PE X l ta):PI X tg l (Cp ta):=by
 intro pins s σ H R I h;refine thn (L pins s σ H _ I h) λv s1 O=>?_;obtain⟨x,H1,F,U,Y⟩:=O;obtain⟨x0,rfl,q⟩:=Y;obtain⟨t,rfl⟩:=U;have fp:∀ b∈[s1.heap.objs.size],cu X pins H1 b:=λb z=>by
  have e:b=s1.heap.objs.size:=by simpa using z
  subst e;exact F.fpOk (Jg _) (F.hok.fresh (Jg _))
 cases ha:x0.cps.all (· < 128)
 ·refine wpAny_pyIter_wide ha ?_;refine⟨s1.heap.objs.size,[s1.heap.objs.size],_,_,H1,rfl,F.kept (t':=s1.toks) λb o e=>s9 _ e,jE (n:="str_iterator") (λA' j=>Walks.strWide j _ x0 t) iI (λA' j i s Q E hi st J=>wpAny_pyNext_wide_end j st (by simpa using hi) λh' he=>J h' λb o z e=>he b o z e) (λ_ _ _ _ _ st h=>wpAny_pyIter_striter_wide st h) (by decide),⟨_,Jo _ rfl,rfl,rfl⟩,fp,q⟩
 ·refine wpAny_pyIter_ascii ha ?_;refine⟨s1.heap.objs.size,[s1.heap.objs.size],_,_,H1,rfl,F.kept (t':=s1.toks) λb o e=>s9 _ e,jE (n:="str_ascii_iterator") (λA' j=>Walks.strAscii j _ x0 t) iI (λA' j i s Q E hi st J=>wpAny_pyNext_ascii_end j st (by simpa using hi) λh' he=>J h' λb o z e=>he b o z e) (λ_ _ _ _ _ st h=>wpAny_pyIter_striter_ascii st h) (by decide),⟨_,Jo _ rfl,rfl,rfl⟩,fp,q⟩
end
end
namespace En
open Sem (wp)
variable {T:String}
section
variable {prog:Jy} {w:JQ} {A:JI} {E:hW->z0->Prop} {s:z0}
theorem qk {newId initId:String}{Bn Bi:MW}{args:List hW}{kw:List (Str×hW)}{S:PySem.Spec}{Q Q₁:hW->z0->Prop}(ft:TypeCalled T newId initId)(Z:checkTypeCall T ⟨args,kw⟩=pure ())(J:My newId ⟨.type T::args,kw⟩=pure ())(entryN:entryFor table newId=some Bn)(entryI:entryFor table initId=some Bi)(g:T8 (Bn ⟨.type T::args,kw⟩) S)(h:S A.in1 (wants Q₁ E) s)(j:∀ obj s₁,Q₁ obj s₁ -> s₁.TypeIs obj T/\argsOk initId ⟨obj::args,kw⟩ /\ ∃ Si,T8 (Bi ⟨obj::args,kw⟩) Si/\Si A.in1 (wants (λr s₂=>r = .none/\Q obj s₂) E) s₁) :
 Jm (model prog w) A (call (.type T) args kw) Q E s:=by
 obtain⟨c,tl,U⟩:=ft.mro;have L:=ft.made;have Y:=ft.sub;refine NF (Q4 ?_);show Jm _ _ (callAny (.type T) _) _ _ _;refine Jd ⟨OG _ (by decide +kernel),codeAny_builtin F.entry_type_call ?_⟩
 rw[Around.under_plain (weight_type_call_type T args kw) (units_type_call_type T args kw)];have h1:=ft.notType;have h2:=ft.canCreate
 repeat (any_goals (first|assumption|wp_step))
 refine Lz (Lb ft.plain entryN (OR J (g prog w A.in1 _ s h))) λr s₁ hr=>?_
 cases r with
 |error e=>exact hr
 | ok fl =>
   cases fl with
   | ret obj =>
     obtain⟨hT,hok,Si,gi,O⟩:=j _ _ hr;have HI:=ft.init.lookup;have HJ:=ft.init.bind obj
     repeat (any_goals (first|assumption|wp_step))
     refine Lz (Lb ft.init.plain entryI (ft.init.check _ _ _ _ _ _ _ _ hT hok (gi prog w A.in1 _ s₁ O))) λr₂ s₂ z=>?_
     cases r₂ with
     |error e=>exact z
     | ok fl₂ =>
       cases fl₂ with
       | ret r =>
         obtain⟨rfl,hq⟩:=z
         repeat (any_goals (first|assumption|wp_step))
       |_=>exact z.elim
   |_=>exact hr.elim
theorem Av {newId:String}{self:hW}{rest:List hW}{k:Str×hW}(J:PM (.type T) "__init__" = pure (some (.builtin "object.__init__")))(hm:Bind.madeBy (.type T)=pure (some newId))(z:(some newId != some "object.__new__")=true) :
 T8 (MW.«object.__init__» ⟨self::rest,[k]⟩) (λ_ R s=>s.TypeIs self T/\R (.ok (.ret .none)) s):=by
 refine Meets.of_wp λprog w A R s F=>?_;obtain⟨L,j⟩:=F
 cases rest with
 | nil =>
   repeat (any_goals (first|assumption|wp_step))
   exact⟨_,rfl,j⟩
 | cons a rest =>
   repeat (any_goals (first|assumption|wp_step))
   exact⟨_,rfl,j⟩
open AutoSeq1 (wpAny_loadPart') in
theorem vj (l:Addr)(items:Array hW)(n:Nat)(dct:Option Addr)(sl:Array (Option hW))(t:Tok) :
 T8 (MW.«enumerate.__new__» ⟨[.type "enumerate",.ref l],[("start",.int 1 t)]⟩) (λ_ R s=>s.heap.get? l=some { cls:=.type "list",dict:=dct,data:=.seq items n,slots:=sl } /\
  R (.ok (.ret (.ref (s.heap.push (Zp.itO false l)).objs.size))) { s with heap:=(s.heap.push (Zp.itO false l)).push { cls:=.type "enumerate",data:=.fields #[.none,.bool false,.ref s.heap.objs.size,Ls 1,.none,.none] } }) :=
 .of_wp λprog w A R s h=>by
  obtain⟨J,g,d,tk,os⟩:=s;obtain⟨j,h⟩:=h;have z:=sub_enumerate;have F:OT (LB ⟨J,g,d,tk,os⟩) l items:=⟨_,j,rfl,n,rfl⟩
  wp_walk using KS j
  refine wpAny_stack_any λst=>Jd ?_
  split
  ·rename_i c _ _ _ _ _
   cases (c==Pz "enumerate") <;> (wp_walk using KS j,KP F;exact⟨_,rfl,h⟩)
  ·wp_walk using KS j,KP F
   exact⟨_,rfl,h⟩
end
section
variable {M:Od} {A:JI} {E:hW->z0->Prop} {s:z0} {env:Env}
theorem oH {f:hW}{x:Sem hW}{rest:List (Bool×Sem hW)}{keywords:List (Option Str×Sem hW)}{b:Bool}{Q:Args->z0->Prop}(j:keywords.all (·.1.isSome)=true)(h:Jm M A (spliced ((false,x)::rest)) (λvs s₁=>Jm M A (evalAll (keywords.map (·.2))) (λkvs s₂=>Q ⟨vs,(keywords.filterMap (·.1)).zip kvs⟩ s₂) E s₁) E s) :
 Jm M A (evalArgs f b ((false,x)::rest) keywords) Q E s:=by
 unfold evalArgs
 cases b <;>
 (show Jm M A (spliced ((false,x)::rest) >>= _) Q E s
  refine h8 (JS h (λvs s' h'=>?_) λ_ _ x=>x);refine K2 ?_;rw[if_pos j];refine h8 (JS h' (λkvs s₂ z=>?_) λ_ _ x=>x);exact h8 (Jd (Jd z)))
theorem callWith_type_kw {pos:Pos}{e:Expr}{rest:List Expr}{kws:List NP}{Q:hW->z0->Prop}(h:Jm M A (spliced (KH pos (Jt (e::rest) env))) (fun vs s₁=>Jm M A (evalAll ((MP pos (Lh kws env)).map (·.2)))
   (λkvs s₂=>Jm M A (call (.type T) vs (((MP pos (Lh kws env)).filterMap (·.1)).zip kvs)) Q E s₂) E s₁) E s)(he:KH pos (Jt (e::rest) env)=(false,eval e env)::KH pos (Jt rest env))(j:(KH pos (Jt (e::rest) env)).any (·.1)=false)(z:(MP pos (Lh kws env)).all (·.1.isSome)=true)(F:(MP pos (Lh kws env)).any (·.1.isNone)=false) :
 Jm M A (RW pos (.type T) [] (KH pos (Jt (e::rest) env)) (MP pos (Lh kws env))) Q E s:=by
 unfold RW;rw[he]at h j ⊢;refine h8 (K2 (JS (oH (Q:=λa s₁=>Jm M A (call (.type T) a.pos a.kw) Q E s₁) z h) (λa s₁ h₁=>h8 (Kd ?_)) λ_ _ x=>x));simp only[j,F,Bool.or_false];refine h8 (Jd ?_);exact h8 (JS h₁ (λr s₂ hr=>h8 (K2 (Qi (Jd hr)))) λ_ _ x=>x)
end
section
variable {prog:Jy} {w:JQ} {A:JI} {E:hW->z0->Prop} {s:z0}
theorem call_enumS {l:Addr}{items:Array hW}{t:Tok}{Q:hW->z0->Prop}(O:Zp.Sq false s.heap l items)(q:∀ h',P4 h' (s.heap.objs.size+1) s.heap.objs.size 1 .none->Zp.At false h' s.heap.objs.size l 0->(∀ b o,s.heap.get? b=some o->h'.get? b=some o)->Q (.ref (s.heap.objs.size+1)) { s with heap:=h' }) :
 Jm (model prog w) A (call (.type "enumerate") [.ref l] [("start",.int 1 t)]) Q E s:=by
 obtain⟨⟨c,dct,dt,sl⟩,U,Y,n,hd⟩:=O;have j:c = .type "list":=Y;have z:dt = .seq items n:=hd;subst j z;refine qk Rl (by kernel_rfl) (by kernel_rfl) Q7 F.entry_object_init (vj l items n dct sl t) (Q₁:=λobj s₁=>s₁.TypeIs obj "enumerate" /\ Q obj s₁) ⟨U,?_⟩ λobj s₁ J=>⟨J.1,by unfold argsOk;kernel_rfl,_,Av F.called_enumerate.init.lookup F.called_enumerate.made (by decide),J.1,rfl,J.2⟩
 have L:(s.heap.push (Zp.itO false l)).objs.size=s.heap.objs.size+1:=Kh ..;have e:((s.heap.push (Zp.itO false l)).push { cls:=.type "enumerate",data:=.fields #[.none,.bool false,.ref s.heap.objs.size,Ls 1,.none,.none] }).get? (s.heap.push (Zp.itO false l)).objs.size=some _:=Jo _ rfl;rw[L]at e;show _/\_;rw[L];exact⟨⟨_,e,rfl⟩,q _ e (Zp.at_new (s9 _ (Jo _ rfl))) λb o x=>s9 _ (s9 _ x)⟩
end
end En
section
variable {X:Cx}
noncomputable def Cq (K:Frag) (ta:TA):TI:=λσ H R=>ta σ H λvs H1=>∃ a xs,vs=[.ref a]/\SqV K false H1 a xs/\R (Ite K false a 1) H1
theorem xR {cx}{kp np:Pos}{j:Nat}{a:Expr}(O:Gl X "enumerate")(hm:X.mg "enumerate" = none)(U:PA X [a] ta)(F:Jt [a] X.env=[(false,eval a X.env)]) :
 PI X (.Tuple elts cx pos) (.Call (.Name "enumerate" p) [a] [⟨some "start",.Constant (.int 1) j np,kp⟩] pos') (Cq X.K ta):=by
 intro pins s σ H R I h;refine Ll (eO I O hm (u:=.type "enumerate") boot_enumerate ?_ (by decide) (by decide))
 refine En.callWith_type_kw (thn (U pos' pins s σ H _ I h) λus s1 g9=>?_) (by rw[F];rfl) (by rw[F];rfl) rfl rfl;obtain⟨vs,H1,z,Y,Z⟩:=g9
 obtain⟨a',xs,rfl,qx,q⟩:=Z
 cases Y with
 | cons r rr =>
   cases rr
   cases r
   obtain⟨is,rx,px⟩:=z.sqv qx;refine kws_cons (R6 (kws_nil ?_));refine En.call_enumS px λh1 J i1 k1=>?_;refine OU J ?_;refine⟨_,_,_,_,H1,rfl,z.kept (t':=_) k1,lj (t:=false) (a:=a') (oo:=1) (by simp),⟨⟨_,J⟩,i1⟩,λc L=>?_,q⟩
   have hle:s1.heap.objs.size<=c:=by
    simp only[Jl,JB,or_false]at L
    rcases L with rfl|rfl <;> lia
   exact z.fpOk hle (z.hok.fresh hle)
end
namespace Mi
variable {K:Frag}{ta:TEd}{tl:TOd}{pos:Pos}
section
section
variable {X:Cx}
inductive SM where|split|part|starts
noncomputable def oJ:SM->D->List D->Mem->QD->Prop
 |.split=>λx ds M Q=>∃ x0 y0:Str,x = .str x0/\ds=[.str y0]/\(y0.length==0)=false/\x0.length+2<=Je /\ ∀ q,M q=none->Q (.ref q) (af M q (.lst ((Jb x0 y0).map .str)))
 |.part=>λx ds M Q=>∃ x0 y0:Str,x = .str x0/\ds=[.str y0]/\(y0.length==0)=false/\x0.length<=Je/\Q (.tup ((dY x0 y0).map .str)) M
 |.starts=>λx ds M Q=>∃ x0 y0:Str,x = .str x0/\ds=[.str y0]/\Q (.bl (Nu x0 y0)) M
noncomputable def Cr:SM->V->List V->Hp->VK->Prop
 |.split=>vf|.part=>yY|.starts=>qQ
theorem lU:∀ o,fg (oJ o)
 |.split=>λ_ _ _ _ _ h j=>(by obtain⟨x0,z,F,J,L,O,q⟩:=j;exact⟨x0,z,F,J,L,O,λp n=>h _ _ (q p n)⟩)
 |.part=>λ_ _ _ _ _ h j=>(by obtain⟨x0,z,F,J,L,O,q⟩:=j;exact⟨x0,z,F,J,L,O,h _ _ q⟩)
 |.starts=>λ_ _ _ _ _ h j=>(by obtain⟨x0,z,F,J,q⟩:=j;exact⟨x0,z,F,J,h _ _ q⟩)
noncomputable def wSM (rd:D->List D->Mem->QD->Prop) (to te:TEd):TEd:=λρ M Q=>to ρ M λx M1=>(∃ x0,x = .str x0)/\te ρ M1 λy M2=>rd x [y] M2 Q
theorem Aw {rd:D->List D->Mem->QD->Prop}{to te:TEd}(hr:fg rd)(mo:ae to)(me:ae te):ae (wSM rd to te):=λρ M Q Q' i q =>
 mo _ _ _ _ (λx J j=>(by obtain⟨e,z⟩:=j;exact⟨e,me _ _ _ _ (λy L F=>hr _ _ _ _ _ i F) z⟩)) q
theorem TM {K:Frag}{H:Hp}:∀ (ys:List Str),RDs K H (ys.map .str) (ys.map .str)
 |[]=>RDs.nil
 |y::ys=>RDs.cons (Tr.mpr rfl) (TM ys)
theorem Fd (o:SM)(x y:D)(v u:V)(M:Mem)(H:Hp)(Q:VK)(rm:RM K M H)(rx:RD K H x v)(ry:RD K H y u)(h:oJ o x [y] M (KE' K M H Q)):Cr o v [u] H Q:=by
 cases o with
 | split =>
   obtain⟨x0,j,rfl,e,z,F,q⟩:=h
   cases e
   cases Tr.mp rx
   cases Tr.mp ry
   exact⟨x0,j,rfl,rfl,z,F,λp n=>db rm (TM _) q n⟩
 | part =>
   obtain⟨x0,j,rfl,e,z,F,q⟩:=h
   cases e
   cases Tr.mp rx
   cases Tr.mp ry
   exact⟨x0,j,rfl,rfl,z,F,λp n=>da rm (TM _) q n⟩
 | starts =>
   obtain⟨x0,j,rfl,e,q⟩:=h
   cases e
   cases Tr.mp rx
   cases Tr.mp ry
   exact⟨x0,j,rfl,rfl,q _ H Ext.refl rm (Tt.mpr rfl)⟩
theorem kB (o:SM){to te:TEd}(mo:ae to)(me:ae te)(σ:St)(H:Hp)(Q:VK)(h:lE K (wSM (oJ o) to te) σ H Q):tBM K "str" (Cr o) (lE K to) (lA K (aN te bA)) σ H Q:=by
 obtain⟨ρ,M,rs,rm,q⟩:=h;refine⟨ρ,M,rs,rm,mo _ _ _ _ (λx L g9 v H1 J j rd1=>?_) q⟩;obtain⟨⟨x0,e⟩,O⟩:=g9;subst e
 cases Tr.mp rd1
 refine⟨rfl,ρ,L,rs.mono (J.stab rm),j,me _ _ _ _ (λy Z U vs H2 Y z F=>?_) O⟩;obtain⟨v,rfl,r⟩:=F.one;exact Fd o _ _ _ _ _ _ _ z (Tr.mpr rfl) r (lU o _ _ _ _ _ (λd M' k=>k.ext (J.trans Y)) U)
noncomputable def sY:R2d:=λx y M Q=>∃ (x0:Str) (i:Int) (c:Nat),x = .str x0/\y = .int i/\x0.length<=Je/\atI x0.cps.toList i=some c/\Q (.str ⟨#[c]⟩) M
theorem oK:ar sY:=λ_ _ _ _ _ h j=>(by obtain⟨x0,i,c,z,F,J,L,q⟩:=j;exact⟨x0,i,c,z,F,J,L,h _ _ q⟩)
theorem E1:IxR X (l2 X.K sY):=by
 refine IxR.of BL λv u H Q h=>?_;obtain⟨x,y,M,rm,rx,ry,x0,i,c,rfl,rfl,j,e,q⟩:=h
 cases Tr.mp rx
 cases Tq.mp ry
 exact⟨x0,i,c,rfl,rfl,j,e,q _ H Ext.refl rm (Tr.mpr rfl)⟩
noncomputable def sZ (te:TEd) (tl:TOd):TEd:=λρ M Q=>te ρ M λx M1=>tl ρ M1 λl M2=>∃ (x0:Str) (i:Int),x = .str x0/\l=some i/\x0.length<=Je/\Q (.str (Ka x0 (some i) none)) M2
theorem xS (m:ae ta)(ml:bX tl):ae (sZ ta tl):=λρ M Q Q' i q =>
 m _ _ _ _ (λx Y z=>ml _ _ _ _ (λl Z F=>(by obtain⟨x0,j,J,L,O,U⟩:=F;exact⟨x0,j,J,L,O,i _ _ U⟩)) z) q
theorem Ct {e:Expr}{lo:Option Expr}{p2:Pos}(m:ae ta)(ml:bX tl)(he:PE X e (lE X.K ta))(O:PO X lo (lO X.K tl)) :
 PE X (.Subscript e (.Slice lo none none p2) pos) (lE X.K (sZ ta tl)):=by
 refine PE.imp (iM Co he O ki) λσ H Q h=>?_;obtain⟨ρ,M,rs,rm,q⟩:=h;refine⟨ρ,M,rs,rm,m _ _ _ _ (λx U Y v H1 L j z=>?_) q⟩;refine⟨ρ,U,rs.mono (L.stab rm),j,ml _ _ _ _ (λl M2 F H2 Z J=>?_) Y⟩;obtain⟨x0,i,rfl,rfl,hz,F⟩:=F
 cases Tr.mp z
 exact⟨x0,i,rfl,rfl,rfl,hz,F _ H2 (L.trans Z) J (Tr.mpr rfl)⟩
noncomputable def mW:RAd:=λxs M Q=>∃ (x:Str) (n:Int),xs=[.str x]/\Qp x=some n/\x.length<=640/\Q (.int n) M
theorem lV:aS mW:=λ_ _ _ _ h j=>(by obtain⟨x,n,e,z,F,q⟩:=j;exact⟨x,n,e,z,F,h _ _ q⟩)
theorem ql:CallR X (.type "int") (lR X.K mW):=by
 refine CallR.of vh λvs H Q h=>?_;obtain⟨ds,M,rm,rs,x,n,rfl,e,j,q⟩:=h;obtain⟨v,rfl,r⟩:=rs.one
 cases Tr.mp r
 exact⟨x,n,rfl,e,j,q _ H Ext.refl rm (Tq.mpr rfl)⟩
noncomputable def mX:RAd:=λxs M Q=>∃ (x:Str),xs=[.str x]/\x.length<=Je/\Q (.int (x.length:Nat)) M
theorem lW:aS mX:=λ_ _ _ _ h j=>(by obtain⟨x,e,z,q⟩:=j;exact⟨x,e,z,h _ _ q⟩)
theorem qm:CallR X (.builtin "len") (lR X.K mX):=by
 refine CallR.of nE λvs H Q h=>?_;obtain⟨ds,M,rm,rs,x,rfl,j,q⟩:=h;obtain⟨v,rfl,r⟩:=rs.one
 cases Tr.mp r
 exact⟨.str x,_,rfl,⟨j,rfl⟩,q _ H Ext.refl rm (Tq.mpr rfl)⟩
noncomputable def jF:R2d:=λx y M Q=>∃ x0 y0:Str,x = .str y0/\y = .str x0/\Q (.bl (Txt.contains x0 y0)) M
theorem t5:ar jF:=λ_ _ _ _ _ h j=>(by obtain⟨x0,z,F,J,q⟩:=j;exact⟨x0,z,F,J,h _ _ q⟩)
theorem t6:OpR X (JM .In) (l2 X.K jF):=by
 refine OpR.of u9 λv u H Q h=>?_;obtain⟨x,y,M,rm,rx,ry,x0,j,rfl,rfl,q⟩:=h
 cases Tr.mp rx
 cases Tr.mp ry
 exact⟨j,x0,rfl,rfl,q _ H Ext.refl rm (Tt.mpr rfl)⟩
noncomputable def oM:D->Bool
 |.non=>true
 |.tup _=>true
 |_=>false
noncomputable def mY:D->Bool
 |.non=>true
 |_=>false
noncomputable def jG:R2d:=λx y M Q=>∃ (a:Addr) (ds:List D),x = .non/\y = .ref a/\M a=some (.lst ds)/\ds.all oM=true/\Q (.bl (ds.any mY)) M
theorem t7:ar jG:=λ_ _ _ _ _ h j=>(by obtain⟨a,ds,z,F,J,L,q⟩:=j;exact⟨a,ds,z,F,J,L,h _ _ q⟩)
theorem qR {K:Frag}{H:Hp}:∀ {ds:List D} {vs:List V} {us:List hW},RDs K H ds vs->Vals vs us->ds.all oM=true->us.any (λu=>u == .none)=ds.any mY
 |[],_,_,h,q,_=>by rw[RDs.nil_iff.mp h]at q;cases q;rfl
 | d::ds,_,_,h,q,a=>by
   obtain⟨v,r,rfl,h1,h2⟩:=Tu.mp h;rw[MQ,hX]at a
   cases q with
   | cons j z =>
     rw[Li,Li,qR h2 z a.2];congr 1
     cases d with
     |non=>cases Tv.mp h1;cases j;rfl
     |tup es=>obtain⟨b,us,rfl,_⟩:=Tw h1;cases j;rfl
     |_=>cases a.1
theorem E2 {A:JI}{s:z0}:SeqAt.EqAt A s .none .none true:=by
 intro prog w E Q h;unfold eqBool;refine K2 ?_;refine wpAny_ite_true rfl ?_;exact h8 (LX (Jd h))
theorem t8 (J:X.A.units+1<Qf):OpR X (JM .In) (l2 X.K jG):=by
 intro pins s σ H v w u t Q I ru rt h;obtain⟨x,y,M,rm,rx,ry,a,ds,rfl,rfl,e,ok,q⟩:=h
 cases Tv.mp rx
 cases Ts.mp ry
 cases ru
 cases rt
 obtain⟨vs,L,rs⟩:=rm _ _ e;obtain⟨its,r,pl,Y⟩:=I.list (SqL.of L);refine SeqAt.in_listAt (λu=>u == .none) pl.isList (λw hw=>?_) ⟨.bl _,H,I,rfl,?_⟩
 ·have z:w∈its:=by simpa using hw
  obtain⟨i,hi,rfl⟩:=List.getElem_of_mem z;have Z:=r.length;have F:vs[i]? = some (vs[i]'(by lia)):=Jh (by lia)
  obtain⟨u,j,rv⟩:=r.get F;rw[Jh hi]at j;cases j;generalize vs[i]'(by lia)=v at F rv
  obtain⟨d,hd,rd⟩:=rs.getV F;have hok:=JK.mp ok d (KD hd)
  cases d with
  |non=>cases Tv.mp rd;rw[show its[i] = .none from rv];exact E2
  | tup es =>
    obtain⟨b,us,rfl,O,_⟩:=Tw rd;rw[show its[i] = .ref b from rv];obtain⟨is,r2,p2,_⟩:=I.tuple O;exact SeqAt.EqAt.tuple_none p2 J
  |_=>cases hok
 ·have U:=qR rs r ok;rw[show its.toArray.any (λu=>u == .none)=its.any (λu=>u == .none) by simp,U]
  exact q _ H Ext.refl rm (Tt.mpr rfl)
noncomputable def gR (x:Str):List D:=x.cps.toList.map λc=>.str ⟨#[c]⟩
noncomputable def jH (ta:TEd):TId:=λρ M R=>ta ρ M λx M1=>∃ x0,x = .str x0/\R (gR x0) (λ_=>True) M1
theorem t9 (h:ae ta):bN (jH ta):=λρ M Q Q' i q=>h _ _ _ _ (λx F j=>(by obtain⟨x0,e,z⟩:=j;exact⟨x0,e,i _ _ _ z⟩)) q
theorem Cu {H1:Hp}{x:Str}:fW K H1 (gR x) (λ_=>True) (Its x):=λM H st rm c i=>by
 have l:(gR x).length=x.cps.size:=by simp[gR]
 refine⟨λhi=>by show _<=_;lia,λhi=>⟨by show _<_;lia,λv H' j=>?_⟩⟩
 obtain⟨rfl,c,z,rfl⟩:=j;exact⟨.inl rfl,.str ⟨#[c]⟩,by simp[gR,z],Tr.mpr rfl⟩
theorem xT {tg l:Expr}(m:ae ta)(F:PE X l (lE X.K ta)):PI X tg l (lI X.K (jH ta)):=by
 refine PI.imp (xQ F) λσ H R h=>?_;obtain⟨ρ,M,rs,rm,q⟩:=h;refine⟨ρ,M,rs,rm,m _ _ _ _ (λx O g9 v H1 L j z=>?_) q⟩;obtain⟨x0,e,J⟩:=g9;subst e;exact⟨x0,Tr.mp z,J _ H1 L j Cu⟩
noncomputable def eV (xs:List D):List D:=xs.mapIdx λi x=>.tup [.int ((i:Nat)+1),x]
noncomputable def jI (ta:TEd):TId:=λρ M R=>ta ρ M λx M1=>∃ a xs,x = .ref a/\M1 a=some (.lst xs)/\R (eV xs) (λM=>aO M (.ref a)=some xs) M1
theorem tf (h:ae ta):bN (jI ta):=λρ M Q Q' i q=>h _ _ _ _ (λx J j=>(by obtain⟨a,ds,e,z,F⟩:=j;exact⟨a,ds,e,z,i _ _ _ F⟩)) q
theorem Ax {H1:Hp}{xs:List D}{a:Addr}:fW K H1 (eV xs) (λM=>aO M (.ref a)=some xs) (Ite K false a 1):=λM H st rm c i=>by
 obtain⟨U,vs,L,j,J⟩:=eU rm (Ts.mpr rfl) c
 cases L
 have l1:=J.length;have lz:(eV xs).length=xs.length:=by simp[eV]
 refine⟨λhi=>⟨vs,j,by lia⟩,λhi=>⟨⟨vs,vs[i]'(by lia),j,Jh (by lia)⟩,λv H' O=>?_⟩⟩
 obtain⟨p,v1,n,rfl,rfl,g⟩:=O;obtain⟨d1,z,F⟩:=J.getV (g vs j);have sb:=iS (o:=.tup [.int ((i:Nat)+1),v1]) n;refine⟨.inr ⟨p,[.int ((i:Nat)+1),v1],n,rfl⟩,.tup [.int ((i:Nat)+1),d1],?_,TJ ⟨p,[.int ((i:Nat)+1),v1],rfl,au,RDs.cons (Tq.mpr rfl) (RDs.cons (F.mono sb) RDs.nil)⟩⟩;simp[eV,LC,z]
theorem xU {elts:List Expr}{cx}{p pos' kp np:Pos}{j:Nat}{a:Expr}(ma:ae ta)(F:Gl X "enumerate")(hm:X.mg "enumerate" = none)(J:PA X [a] (lA X.K (aN ta bA)))(L:Jt [a] X.env=[(false,eval a X.env)]) :
 PI X (.Tuple elts cx pos) (.Call (.Name "enumerate" p) [a] [⟨some "start",.Constant (.int 1) j np,kp⟩] pos') (lI X.K (jI ta)):=by
 refine PI.imp (xR F hm J L) λσ H R h=>?_;obtain⟨ρ,M,rs,rm,q⟩:=h;refine⟨ρ,M,rs,rm,ma _ _ _ _ (λx M1 g9 vs H1 Y z rd1=>?_) q⟩;obtain⟨a,xs,e,O,U⟩:=g9;subst e;obtain⟨v,rfl,Z⟩:=rd1.one
 cases Ts.mp Z
 obtain⟨us,hu,ru⟩:=z _ _ O;exact⟨a,us,rfl,SqL.of hu,U _ H1 Y z Ax⟩
end
end
section
section
variable {X:Cx}
theorem oO:OpR X (JM .NotIn) (λx y H Q=>∃ i j,x = .str i/\y = .str j/\Q (.bl (!(!(Km j i 0 j.length 1).isEmpty))) H):=by
 intro pins s σ H x y v u Q I rx ry h;obtain⟨i,j,rfl,rfl,q⟩:=h;obtain⟨t,rfl⟩:=rx;obtain⟨t',rfl⟩:=ry;exact notIn_str (nB I q rfl)
noncomputable def il:R2d:=λx y M Q=>∃ x0 y0:Str,x = .str y0/\y = .str x0/\Q (.bl (!Txt.contains x0 y0)) M
theorem qo:ar il:=λ_ _ _ _ _ h j=>(by obtain⟨x0,z,F,J,q⟩:=j;exact⟨x0,z,F,J,h _ _ q⟩)
theorem qq:OpR X (JM .NotIn) (l2 X.K il):=by
 refine OpR.of oO λv u H Q h=>?_;obtain⟨x,y,M,rm,rx,ry,x0,j,rfl,rfl,q⟩:=h
 cases Tr.mp rx
 cases Tr.mp ry
 exact⟨j,x0,rfl,rfl,q _ H Ext.refl rm (Tt.mpr rfl)⟩
theorem jJ (k:Str):∀ {vs:List hW} {ys:List Str},StrsAre vs ys->vs.countP (RX k)=ys.count k
 |_,_,.nil=>rfl
 | _,_,.cons n u h=>by
   rw[List.countP_cons,MZ,jJ k h];rfl
theorem iV (k:Str):∀ {vs:List hW} {ys:List Str},StrsAre vs ys -> ∀ (j:Nat) (h1:j<vs.length) (h2:j<ys.length),RX k vs[j]=(ys[j]==k)
 |_,_,.nil,j,h1,_=>absurd h1 (Nat.not_lt_zero _)
 | _,_,.cons n u h,j,h1,h2=>by
   cases j with
   |zero=>rfl
   |succ j=>exact iV k h j (Nw h1) (Nw h2)
theorem oP:∀ {vs:List hW} {ys:List Str},StrsAre vs ys->vs.length=ys.length
 |_,_,.nil=>rfl
 |_,_,.cons n u h=>by rw[Jr,Jr,oP h]
theorem vk {k:Str}:∀ {ns:List Str} {j:Nat},j<ns.idxOf k -> ∀ (h2:j<ns.length),(ns[j]==k)=false
 | n::r,0,h,_=>by
   by_cases e:n=k
   ·subst e;simp at h
   ·simpa using e
 | n::r,j+1,h,h2=>by
   by_cases e:n=k
   ·subst e;simp at h
   ·have z:(n==k)=false:=by simpa using e
    rw[Q6,z]at h;exact vk (by simpa using h) (Nw h2)
noncomputable def vm:V->List V->Hp->VK->Prop:=λx vs H Q=>∃ (l:Addr) (ns:List Str) (k:Str),x = .ref l/\vs=[.str k]/\H l=some (.lst (ns.map V.str))/\Q (.int (ns.count k:Nat)) H
theorem xV:MtM X "list.count" vm:=by
 intro pins s σ H x vs v us Q I rx rv h;obtain⟨l,ns,k,rfl,rfl,j,q⟩:=h
 cases rx
 obtain⟨u,rfl,ru⟩:=rv.one;obtain⟨t,rfl⟩:=ru;obtain⟨z,its,n,r,L,e⟩:=I.lstM j;have hi:=fq r;refine Lm Pm ⟨_,e,rfl⟩ PySem.F.entry_list_count (PySem.F.args_list_count_2 _ _) (PySem.SeqAt.list_countAt l its.toArray n none #[] (.str k t) (RX k)) ⟨e,λy J=>(eq_isStrOf k t hi y (by simpa using J)).at _ _,?_⟩
 rw[show its.toArray.toList=its from rfl,jJ k hi];exact⟨.int (ns.count k:Nat),H,I.tok _,⟨_,rfl⟩,q⟩
noncomputable def qS:V->List V->Hp->VK->Prop:=λx vs H Q=>∃ (l:Addr) (ns:List Str) (k:Str),x = .ref l/\vs=[.str k]/\H l=some (.lst (ns.map V.str))/\k∈ns/\Q (.int (ns.idxOf k:Nat)) H
theorem vn:MtM X "list.index" qS:=by
 intro pins s σ H x vs v us Q I rx rv h;obtain⟨l,ns,k,rfl,rfl,L,hk,q⟩:=h
 cases rx
 obtain⟨u,rfl,ru⟩:=rv.one;obtain⟨t,rfl⟩:=ru;obtain⟨z,its,n,r,O,e⟩:=I.lstM L;have hi:=fq r;have Y:=oP hi;have J:ns.idxOf k<ns.length:=MR.mpr hk;rw[Jc]at O;rw[Jc,td]at z;have mk:=PySem.SeqAt.list_indexAt l its.toArray n none #[] (.str k t) (RX k) (ns.idxOf k) (by rw[Jk];omega) (by omega) (by
  show RX k its[ns.idxOf k]=true;rw[iV k hi _ (by omega) J,L6 J];simp) λj h1 h2=>by
  show RX k its[j]=false;rw[iV k hi j (by simpa using h1) (by omega)]
  exact vk h2 _
 exact Lm Pn ⟨_,e,rfl⟩ PySem.F.entry_list_index (PySem.F.args_list_index_2 _ _) mk ⟨e,λy U=>(eq_isStrOf k t hi y (by simpa using U)).at _ _,⟨.int (ns.idxOf k:Nat),H,I.tok _,⟨_,rfl⟩,q⟩⟩
noncomputable def jK:D->List D->Mem->QD->Prop:=λx ds M Q=>∃ (a:Addr) (ns:List Str) (k:Str),x = .ref a/\ds=[.str k]/\M a=some (.lst (ns.map .str))/\Q (.int (ns.count k:Nat)) M
theorem jL:fg jK:=λ_ _ _ _ _ h j=>(by obtain⟨a,ns,k,z,F,J,q⟩:=j;exact⟨a,ns,k,z,F,J,h _ _ q⟩)
theorem Ay (v:V)(vs:List V)(H:Hp)(Q:VK)(h:lMt K jK v vs H Q):vm v vs H Q:=by
 obtain⟨x,ds,M,rm,rx,rs,a,ns,k,rfl,rfl,e,q⟩:=h
 cases Ts.mp rx
 obtain⟨F,rfl,j⟩:=rs.one
 cases Tr.mp j
 obtain⟨us,z,ru⟩:=rm _ _ e;have rv:=ru.strs_eq;subst rv;exact⟨a,ns,k,rfl,rfl,z,q _ H Ext.refl rm (Tq.mpr rfl)⟩
noncomputable def im:D->List D->Mem->QD->Prop:=λx ds M Q=>∃ (a:Addr) (ns:List Str) (k:Str),x = .ref a/\ds=[.str k]/\M a=some (.lst (ns.map .str))/\k∈ns/\Q (.int (ns.idxOf k:Nat)) M
theorem iJ:fg im:=λ_ _ _ _ _ h j=>(by obtain⟨a,ns,k,z,F,J,L,q⟩:=j;exact⟨a,ns,k,z,F,J,L,h _ _ q⟩)
theorem xW (v:V)(vs:List V)(H:Hp)(Q:VK)(h:lMt K im v vs H Q):qS v vs H Q:=by
 obtain⟨x,ds,M,rm,rx,rs,a,ns,k,rfl,rfl,e,hk,q⟩:=h
 cases Ts.mp rx
 obtain⟨F,rfl,j⟩:=rs.one
 cases Tr.mp j
 obtain⟨us,z,ru⟩:=rm _ _ e;have rv:=ru.strs_eq;subst rv;exact⟨a,ns,k,rfl,rfl,z,hk,q _ H Ext.refl rm (Tq.mpr rfl)⟩
noncomputable def wz:V->Option Int->Option Int->Hp->VK->Prop:=λx lo hi H Q=>∃ (x0:Str) (i:Int),x = .str x0/\lo=none/\hi=some i/\x0.length<=Je/\Q (.str (Ka x0 none (some i))) H
theorem Az:SlR X wz:=by
 intro pins s σ H x v vl vu lo hi sl Q I rx hs pl pu h;obtain⟨x0,i,rfl,rfl,rfl,j,q⟩:=h;obtain⟨t,rfl⟩:=rx
 cases pu with
 | int _ ui =>
   cases pl
   refine⟨"str",_,F.slot_str_getitem.lookup,Nb _ _ _,Pl (l:=none) (u:=some (i,ui)) (st:=none) hs rfl (post_val_or_str ⟨K7 (Nv x0 _ _) j,λt' k=>?_⟩)⟩;exact⟨.str _,H,I.tok _,⟨_,rfl⟩,q⟩
noncomputable def tm (te:TEd) (tl:TOd):TEd:=λρ M Q=>te ρ M λx M1=>tl ρ M1 λl M2=>∃ (x0:Str) (i:Int),x = .str x0/\l=some i/\x0.length<=Je/\Q (.str (Ka x0 none (some i))) M2
theorem xX (m:ae ta)(ml:bX tl):ae (tm ta tl):=λρ M Q Q' i q =>
 m _ _ _ _ (λx Y z=>ml _ _ _ _ (λl Z F=>(by obtain⟨x0,j,J,L,O,U⟩:=F;exact⟨x0,j,J,L,O,i _ _ U⟩)) z) q
theorem Cv {e:Expr}{lo:Option Expr}{p2:Pos}(m:ae ta)(ml:bX tl)(he:PE X e (lE X.K ta))(O:PO X lo (lO X.K tl)) :
 PE X (.Subscript e (.Slice none lo none p2) pos) (lE X.K (tm ta tl)):=by
 refine PE.imp (iM Az he ki O) λσ H Q h=>?_;obtain⟨ρ,M,rs,rm,q⟩:=h;refine⟨ρ,M,rs,rm,m _ _ _ _ (λx U Y v H1 L j z=>?_) q⟩;refine⟨ρ,U,rs.mono (L.stab rm),j,ml _ _ _ _ (λl M2 F H2 Z J=>?_) Y⟩;obtain⟨x0,i,rfl,rfl,hz,F⟩:=F
 cases Tr.mp z
 exact⟨x0,i,rfl,rfl,rfl,hz,F _ H2 (L.trans Z) J (Tr.mpr rfl)⟩
end
end
end Mi
namespace Mi
open L2.Srt
end Mi
namespace Mi
end Mi
namespace Mi
end Mi
namespace Mi
section
mutual
noncomputable def GV (K:Frag):D->hW->Prop
 |.int i,v=>∃ t,v = .int i t
 |.str x,v=>∃ t,v = .str x t
 |.tup ds,v=>∃ a o its n,v = .ref a/\K.lookup a=some o/\o.cls = .type "tuple" /\ o.data = .seq its n/\its.size<=Je/\fk ds=false/\GVs K ds its.toList
 |_,_=>False
noncomputable def GVs (K:Frag):List D->List hW->Prop
 |[],us=>us=[]
 |d::ds,us=>∃ u r,us=u::r/\GV K d u/\GVs K ds r
end
theorem GV.ints {K:Frag}{i:Int}{t}:GV K (.int i) (.int i t):=by unfold GV;exact⟨t,rfl⟩
theorem GV.strs {K:Frag}{i:Str}{t}:GV K (.str i) (.str i t):=by unfold GV;exact⟨t,rfl⟩
mutual
theorem yZ {K:Frag}:∀ {d:D} {u:hW},GV K d u -> ∃ v,RelV v u /\ ∀ H,RD K H d v
 |.int i,u,h=>by unfold GV at h;obtain⟨t,rfl⟩:=h;exact⟨.int i,⟨t,rfl⟩,λH=>Tq.mpr rfl⟩
 |.str i,u,h=>by unfold GV at h;obtain⟨t,rfl⟩:=h;exact⟨.str i,⟨t,rfl⟩,λH=>Tr.mpr rfl⟩
 |.tup ds,u,h=>by
  unfold GV at h;obtain⟨a,o,its,n,rfl,h1,h2,j,z,F,J⟩:=h;obtain⟨vs,g1,g2⟩:=gvs_rd J;exact⟨.ref a,rfl,λH=>TF.mpr ⟨a,vs,rfl,.inr ⟨F,.inr ⟨o,its,n,h1,h2,j,z,g1⟩⟩,g2 H⟩⟩
 |.non,u,h=>by unfold GV at h;exact h.elim
 |.bl _,u,h=>by unfold GV at h;exact h.elim
 |.con _,u,h=>by unfold GV at h;exact h.elim
 |.ref _,u,h=>by unfold GV at h;exact h.elim
 |.fn _,u,h=>by unfold GV at h;exact h.elim
theorem gvs_rd {K:Frag}:∀ {ds:List D} {us:List hW},GVs K ds us -> ∃ vs,Vals vs us /\ ∀ H,RDs K H ds vs
 |[],us,h=>by unfold GVs at h;subst h;exact⟨[],.nil,λH=>RDs.nil⟩
 | d::ds,us,h=>by
   unfold GVs at h;obtain⟨u,r,rfl,h1,h2⟩:=h;obtain⟨v,g1,g2⟩:=yZ h1;obtain⟨vs,g3,j⟩:=gvs_rd h2;exact⟨v::vs,.cons g1 g3,λH=>RDs.cons (g2 H) (j H)⟩
end
end
section
noncomputable def ng (kvs:List (NK×D)) (k:NK):Option D:=(kvs.find? λp=>decide (p.1=k)).map (·.2)
noncomputable def np (kvs:List (NK×D)) (k:NK) (v:D):List (NK×D):=if (ng kvs k).isSome then kvs.map (λp=>if p.1=k then (p.1,v) else p) else kvs++[(k,v)]
end
end Mi
namespace Mi
end Mi
variable {mN:Str->Option hW}{fI:Addr}
section
open Sem (wp)
noncomputable abbrev exO (C:Addr) (t:Addr) (dct:Option Addr):Obj:={ cls:=.ref C,dict:=dct,data:=.fields #[.ref t,.none,.none,.none,.bool false,.none] }
noncomputable abbrev tuO (vs:List hW):Obj:={ cls:=.type "tuple",data:=.seq vs.toArray }
section
variable {prog:Jy} {w:JQ} {A:JI} {E:hW->z0->Prop} {h:Heap} {g:Array P7} {d:Drawn} {t:Nat} {os:SW}
variable {nm q:Str} {C N:Addr} {bs bm bmB:List hW} {hdct:Bool} {sn:List Str} {sub:List hW} {ab:Bool} {col:Option Bool} {dd:Option Addr} {k0 k1 k2 k3 k5:Option hW} {B newId initId:String}
theorem mw (F:RY B newId initId bmB)(T:RN h bmB bm){rest:List hW}{oI:Obj}{Q:Fin->z0->Prop}(z:h.get? C=some (LU nm q C N bs bm hdct sn sub ab col dd k0 k1 k2 k3 k5 newId))(hn:h.Ns N mN)(hi:mN "__init__" = some (.ref fI))(U:h.get? fI=some oI)(Y:oI.cls = .type "function")(hq:Jm (model prog w) A (call (.ref fI) (.ref (h.objs.size+1)::rest)) (λr s'=>r = .none/\Q (.done (.ret (.ref (h.objs.size+1)))) s') E ⟨(h.push (tuO rest)).push (exO C h.objs.size none),g,d,t,os⟩)(j:rest.length<=Je) :
 Jm (model prog w) A (MW.«type.__call__» ⟨.ref C::rest,[]⟩) Q E ⟨h,g,d,t,os⟩:=by
 repeat (first|with_reducible refine Le z ?_|with_reducible refine wpAny_madeBy_exc z ?_|wp_step)
 refine codeAny_call_builtin_code (OG _ F.quiet) (wpAny_check_new_subT F T z ?_);refine codeAny_exc_new_subT F T z ?_ j;show Jm _ _ _ _ _ _;have J:=s9 (exO C h.objs.size none) (s9 (tuO rest) z);have L:=s9 (exO C h.objs.size none) (s9 (tuO rest) U);have Z:((h.push (tuO rest)).push (exO C h.objs.size none)).Ns N mN :=
  let ⟨o,es,ep,e,r⟩:=hn; ⟨o,es,ep,s9 _ (s9 _ e),r⟩
 have O:((h.push (tuO rest)).push (exO C h.objs.size none)).get? (h.objs.size+1)=some (exO C h.objs.size none):=by heap_get
 have HI:(JL C::bm).contains (.ref C)=true:=by simp
 have T₁:=T.keeps (h':=(h.push (tuO rest)).push (exO C h.objs.size none)) λb o e=>s9 _ (s9 _ e);unfold Rk
 repeat (first|with_reducible refine Le O ?_|(with_reducible refine Of J ?_;rw[HI])|wp_step)
 show Jm _ _ (PM (.ref C) _) _ _ _;refine wpAny_typeLookup_tail J Z T₁ F.mroIs F.init.lookup ?_;rw[hi];refine K2 (h8 ?_);unfold bindSpecial;refine h8 (Oi (T:="function") ⟨_,L,Y⟩ ?_);rw[if_pos (by decide)]
 refine Jd (h8 (JS hq (λr s' hr=>?_) λ_ _ x=>x));obtain⟨rfl,hQ⟩:=hr
 wp_walk
 exact hQ
theorem oQ (F:RY B newId initId bmB)(T:RN h bmB bm){rest:List hW}{oI:Obj}{Q:hW->z0->Prop}(z:h.get? C=some (LU nm q C N bs bm hdct sn sub ab col dd k0 k1 k2 k3 k5 newId))(O:h.Ns N mN)(hi:mN "__init__" = some (.ref fI))(J:h.get? fI=some oI)(L:oI.cls = .type "function")(U:Jm (model prog w) (A.under (.builtin "type.__call__" ⟨.ref C::rest,[]⟩)) (call (.ref fI) (.ref (h.objs.size+1)::rest)) (λr s'=>r = .none/\Q (.ref (h.objs.size+1)) s') E ⟨(h.push (tuO rest)).push (exO C h.objs.size none),g,d,t,os⟩)(j:rest.length<=Je) :
 Jm (model prog w) A (call (.ref C) rest) Q E ⟨h,g,d,t,os⟩:=by
 have f1:=tc_lookup;have f2:=tc_bind (.ref C);have Y:(⟨h,g,d,t,os⟩:z0).TypeIs (.ref C) "type":=⟨_,z,rfl⟩;refine NF (Q4 ?_);show Jm _ _ (callAny (.ref C) _) _ _ _
 repeat (any_goals (first|assumption|with_reducible refine Le z ?_|wp_step))
 refine⟨rfl,?_⟩;exact codeAny_call_builtin_at (OG _ (by decide +kernel)) entry_typeCall (wpAny_check_type_call_sub z (mw F T z O hi J L U j))
end
section
variable {prog:Jy} {w:JQ} {A:JI} {E:hW->z0->Prop} {s:z0} {env:Env}
variable {nm q:Str} {C N:Addr} {bs bm bmB:List hW} {hdct:Bool} {sn:List Str} {sub:List hW} {ab:Bool} {col:Option Bool} {dd:Option Addr} {k0 k1 k2 k3 k5:Option hW} {B newId initId:String}
theorem dJ {E:hW->z0->Prop}{x:Sem hW}{Q:Flow->z0->Prop}(j:bm.contains (.type "BaseException")=true)(J:A.handled=none)(h:Jm M A x (fun v s₁=>∃ e t dct,v = .ref e/\s₁.heap.get? C=some (LU nm q C N bs bm hdct sn sub ab col dd k0 k1 k2 k3 k5 newId) /\
   s₁.heap.get? e=some (exO C t dct)/\E (.ref e) s₁) E s):Jm M A (raiseStmt env (some x) none) Q E s:=by
 have z:(JL C::bm).contains (.type "BaseException")=true:=by rw[Nc,j,PV]
 unfold raiseStmt;refine h8 (JS h (λv s₁ h₁=>?_) λ_ _ x=>x);obtain⟨e,t,dct,rfl,F,he,L⟩:=h₁;obtain⟨O,g,d,tk,os⟩:=s₁
 repeat (first|with_reducible refine Le he ?_|with_reducible refine Le F ?_|(with_reducible refine Of F ?_;rw[z])|wp_step)
 exact wpAny_raiseNew_none J L
theorem kC (F:RY B newId initId bmB){np cpos:Pos}{args:List Expr}{Q:Flow->z0->Prop}(j:bm.contains (.type "BaseException")=true)(L:A.handled=none)(z:(KH cpos (Jt args env)).any (·.1)=false)(hi:mN "__init__" = some (.ref fI))(h:Jm (model prog w) A (eval (.Name x np) env) (fun f s₁=>f = .ref C/\Jm (model prog w) A (evalArgs (.ref C) true (KH cpos (Jt args env)) [])
   (fun a s₂=>a.kw=[]/\a.pos.length<=Je/\s₂.heap.get? C=some (LU nm q C N bs bm hdct sn sub ab col dd k0 k1 k2 k3 k5 newId)/\s₂.heap.Ns N mN/\RN s₂.heap bmB bm/\(∃ oI,s₂.heap.get? fI=some oI/\oI.cls = .type "function") /\
     Jm (model prog w) (A.under (.builtin "type.__call__" ⟨.ref C::a.pos,[]⟩)) (call (.ref fI) (.ref (s₂.heap.objs.size+1)::a.pos)) (λr s'=>r = .none/\s'.heap.get? C=some (LU nm q C N bs bm hdct sn sub ab col dd k0 k1 k2 k3 k5 newId)/\(∃ t dct,s'.heap.get? (s₂.heap.objs.size+1)=some (exO C t dct))/\E (.ref (s₂.heap.objs.size+1)) s') E
      { s₂ with heap:=(s₂.heap.push (tuO a.pos)).push (exO C s₂.heap.objs.size none) }) E s₁) E s) :
 Jm (model prog w) A (exec (.Raise (some (.Call (.Name x np) args [] cpos)) none pos) env) Q E s:=by
 rw[arm_exec_Raise]
 first
  |refine h8 (Kd (dJ (C:=C) (nm:=nm) (q:=q) (N:=N) (bs:=bs) (bm:=bm) (hdct:=hdct) (sn:=sn) (sub:=sub) (ab:=ab) (col:=col) (dd:=dd) (k0:=k0) (k1:=k1) (k2:=k2) (k3:=k3) (k5:=k5) (newId:=newId) j L (h8 (JS (OW (JS h (λf s₁ h₁=>?_) λ_ _ x=>x)) (λv s₃ J=>h8 (Kd (Jd J))) λ_ _ x=>x))))
  |(simp only[evalOpt,Option.map];refine h8 (Kd (dJ (C:=C) (nm:=nm) (q:=q) (N:=N) (bs:=bs) (bm:=bm) (hdct:=hdct) (sn:=sn) (sub:=sub) (ab:=ab) (col:=col) (dd:=dd) (k0:=k0) (k1:=k1) (k2:=k2) (k3:=k3) (k5:=k5) (newId:=newId) j L (h8 (JS (OW (JS h (λf s₁ h₁=>?_) λ_ _ x=>x)) (λv s₃ J=>h8 (Kd (Jd J))) λ_ _ x=>x)))))
  |(refine h8 (Kd (dJ (C:=C) (nm:=nm) (q:=q) (N:=N) (bs:=bs) (bm:=bm) (hdct:=hdct) (sn:=sn) (sub:=sub) (ab:=ab) (col:=col) (dd:=dd) (k0:=k0) (k1:=k1) (k2:=k2) (k3:=k3) (k5:=k5) (newId:=newId) j L ?_));refine h8 (JS (OW (JS h (λf s₁ h₁=>?_) λ_ _ x=>x)) (λv s₃ J=>h8 (Kd (Jd J))) λ_ _ x=>x))
 obtain⟨rfl,h₁⟩:=h₁;unfold RW;refine h8 (K2 (JS h₁ (λa s₂ O=>h8 (Kd ?_)) λ_ _ x=>x));obtain⟨apos,akw⟩:=a;obtain⟨U,hlen,hC,hn,T,⟨oI,Y,Z⟩,O⟩:=O;obtain rfl:akw=[]:=U;obtain⟨hp,g,d,tk,os⟩:=s₂;simp only[z];refine h8 (wpAny_keeperOf_exc hC ?_);refine h8 (oQ F T hC hn hi Y Z (JS O (λr s' hr=>?_) λ_ _ x=>x) hlen);obtain⟨rfl,HI,⟨t,dct,he⟩,hE⟩:=hr;exact⟨rfl,h8 (K2 (Qi (Jd ⟨_,t,dct,rfl,HI,he,hE⟩)))⟩
end
end
open PySem.W
open Sem (wp)
open Builtin Builtin.ObjectAttr
noncomputable def io:List hW->Bool
 |.ref _::r=>io r
 |l=>l==vbm
theorem qr (self:hW):∀ (l:List hW),io l=true->refuseLoop self "__setattr__" l=pure ():=by
 intro l
 induction l with
 |nil=>intro e;exact absurd e (by decide)
 | cons v r ih =>
   intro e
   cases v with
   |ref c=>rw[refuseLoop_ref];exact ih e
   |_=>rw[Oq (show ((_::r)==vbm)=true from e)];exact F.store_ValueError.passes self
theorem xY:∀ (l:List hW),io l=true->l.contains (.type "object")=true/\l.contains (.type "BaseException")=true:=by
 intro l
 induction l with
 |nil=>intro e;exact absurd e (by decide)
 | cons v r ih =>
   intro e
   cases v with
   |ref c=>rw[Nc,Nc,(ih e).1,(ih e).2,PV,PV];exact⟨rfl,rfl⟩
   |_=>rw[Oq (show ((_::r)==vbm)=true from e)];decide
noncomputable def oR (K:Frag) (C:Addr):Bool:=(clsIn K C).any λcd=>io cd.mro&&cd.hasDict
section
variable {prog:Jy} {w:JQ} {A:JI} {E:hW->z0->Prop} {s:z0} {K:Frag} {x C t0:Addr} {name:Str} {v:hW}
theorem Cw (hx:h.get? x=some (exO C t0 none)):InstAt h x (exO C t0 none) C none:=⟨hx,rfl,rfl,trivial⟩
theorem AA {Q:Unit->z0->Prop}(X:K.In s.heap)(hx:s.heap.get? x=some (exO C t0 none))(O:findIn K (.ref C) "__setattr__" = some (some (.builtin "object.__setattr__")))(hp:oR K C=true)(ht:findIn K (.ref C) name=some none)(h_:∀ h' tk',h'.get? x=some (exO C t0 (some s.heap.objs.size))->h'.Ns1 s.heap.objs.size (λy=>if y=name then some v else none)->(∀ b o,b≠x->s.heap.get? b=some o->h'.get? b=some o)->Q () { s with heap:=h',toks:=tk' }) :
 Jm (model prog w) A (setAttr (.ref x) name v) Q E s:=by
 have SF:=F.store_ValueError;have I:=Cw hx;obtain⟨cd,U,ho⟩:=any_some hp;rw[hX]at ho;have ne:cd.mro.isEmpty=false:=by cases q:cd.mro with|nil=>rw[q]at ho;exact absurd ho.1 (by decide)|cons _ _=>rfl
 have sub:Looks (model prog w) s.heap (Rk (.ref x) (.type "object")) true:=I.type.andThen (looks_mroIn X (by unfold mroIn;rw[U,Lj,if_neg (by rw[ne];decide),(xY _ ho.1).1]))
 refine set_plain X I O ?_;have j:Looks (model prog w) { s with toks:=s.toks+1 }.heap (Rk (.ref x) (.type "object")) true:=sub
 refine Lb SF.slot.plain SF.entry (@check_slot (model prog w) _ _ { s with toks:=s.toks+1 } "object.__setattr__" "object" "__setattr__" (.ref x) [.str name s.toks,v] [] _ SF.kind SF.split j (SF.args (.ref x) (.str name s.toks) v) ?_)
 have hm:Looks (model prog w) s.heap (mroOf (.ref C)) cd.mro:=(looks_clsIn X U).andThen .now;rw[osa_eq,refuse_eq];have I1:InstAt { s with toks:=s.toks+1 }.heap x (exO C t0 none) C none:=I
 refine h8 (h8 (I1.type.here (h8 (Looks.here (s:={ s with toks:=s.toks+1 }) hm ?_))))
 rw[qr _ _ ho.1];refine Jd (h8 (I1.type.here (h8 (Looks.here (s:={ s with toks:=s.toks+1 }) (looks_findIn X ht) (h8 ?_)))))
 refine Jd ?_;obtain⟨h,g,d,t,os⟩:=s;refine h8 (Jd (h8 (h8 (wpAny_loadPart hx (h8 (Looks.at (looks_clsIn X U) ?_))))));rw[ho.2];have z:(h.push { cls:=.type "dict",data:=.dict #[] }).get? x=some (exO C t0 none):=s9 _ hx;have J:x≠h.objs.size:=JU (Jn hx);refine h8 (wpAny_alloc' ?_);refine h8 (wpAny_update' z ?_);refine Jd ?_;have Y:((h.push { cls:=.type "dict",data:=.dict #[] }).update x λo=>{ cls:=o.cls,dict:=some h.objs.size,data:=o.data,slots:=o.slots }).get? h.objs.size
  = some { cls:=.type "dict",data:=.dict #[] }:=(QP _ _ _ _ J.symm).trans (Heap.get?_push_at rfl rfl)
 have Z:((h.push { cls:=.type "dict",data:=.dict #[] }).update x λo=>{ cls:=o.cls,dict:=some h.objs.size,data:=o.data,slots:=o.slots }).Ns h.objs.size (λ_=>none) :=
  ⟨_,#[],_,Y,rfl,λe he=>absurd he (by simp),λ_=>rfl⟩
 show Jm _ _ (storeInDict h.objs.size (.str name t) name v) _ _ _;unfold storeInDict newKeyGuard;refine h8 (Jd (h8 (wpAny_nsSet1 (Heap.Ns1.of_empty Z) λh' L O=>?_)));obtain⟨oD,esD,epD,HI,HJ,HK⟩:=L.count (Within.cons name v Within.nil);refine h8 (wpAny_lookBehind HI (by rw[HJ];exact pastItsLine_dict (K7 HK (by rw[Jr,Kq,td];omega))) ?_)
 refine Jd ?_;refine h_ h' _ ?_ L λb ob HL hb=>?_
 ·refine(O.2 x J).trans (JX _ z rfl)
 ·exact(O.2 b (JU (Jn hb))).trans ((QP _ _ _ _ HL).trans (s9 _ hb))
end
end L2

namespace L2
open PySem PySem.Spec PyProof.Rows
open PySem.W
def exAt (C e:Addr) (h:Heap):Prop:=∃ t,h.get? e=some (exO C t none)
def exAd (C e dx:Addr) (h:Heap):Prop:=∃ t,h.get? e=some (exO C t (some dx))
theorem tq {K:Frag}{h:Heap}{N:Addr}{mg:Str->Option hW}{n:Str}{v:hW}(X:K.In h)(G:h.Ns N mg)(e:nsIn K N n=some (some v)):mg n=some v:=by
 obtain⟨o,es,ep,ho,hd,_,hf⟩:=G;unfold nsIn at e
 split at e
 ·rename_i c d es' n' sl q;have:=X _ _ q;rw[ho]at this
  cases this
  cases hd
  split at e
  ·rename_i en he
   cases e
   rw[<- hf];unfold nsFind findBy;rw[<- R8,he];rfl
  ·split at e <;> cases e
 ·cases e
noncomputable def jM (K:Frag) (C:Addr) (bmB:List hW) (newId:String) (fI:Addr):Bool:=match K.lookup C with
 | some ⟨.type "type",_,.cls cd,sl⟩=>(match cd.mro,sl.toList with
   |.ref C'::bm,[_,_,_,_,some (.builtin n),_]=>C'==C&&n==newId && !cd.hasDel&&tailIn K bmB bm&&nsOkIn K cd.ns&&nsIn K cd.ns "__init__" == some (some (.ref fI))
   |_,_=>false)
 |_=>false
theorem oS {K:Frag}{h:Heap}{C fI:Addr}{bmB:List hW}{newId:String}(X:K.In h)(q:jM K C bmB newId fI=true):∃ bm N nm qn bs hd sn sub ab col dd k0 k1 k2 k3 k5 mN,
 h.get? C=some (LU nm qn C N bs bm hd sn sub ab col dd k0 k1 k2 k3 k5 newId)/\h.Ns N mN/\mN "__init__" = some (.ref fI)/\RN h bmB bm:=by
 unfold jM at q
 split at q
 ·next dd cd sl ho =>
  split at q
  ·next C' bm k0 k1 k2 k3 n k5 hm F =>
   simp only[hX,beq_iff_eq,JD]at q;obtain⟨⟨⟨⟨⟨rfl,rfl⟩,j⟩,J⟩,hok⟩,z⟩:=q
   cases cd
   cases sl
   dsimp only at hm j hok z F;subst hm j F;exact⟨bm,_,_,_,_,_,_,_,_,_,dd,k0,k1,k2,k3,k5,_,X _ _ ho,.of_isNs (OC X hok),tq X (.of_isNs (OC X hok)) z,Ri X J⟩
  ·cases q
 ·cases q
section
variable {prog:Jy} {w:JQ} {A:JI} {E:hW->z0->Prop} {h:Heap} {g:Array P7} {d:Drawn} {t:Nat} {os:SW}
variable {nm q:Str} {C N:Addr} {bs bm:List hW} {hdct:Bool} {sn:List Str} {sub:List hW} {ab:Bool} {col:Option Bool} {dd:Option Addr} {k0 k1 k2 k3 k5:Option hW}
theorem vp {e t0:Addr}{rest:List hW}{Q:hW->z0->Prop}(z:h.get? C=some (LU nm q C N bs bm hdct sn sub ab col dd k0 k1 k2 k3 k5 "ValueError.__new__"))(T:RN h vbm bm)(he:h.get? e=some (exO C t0 none))(J:∀ h',h.objs.size<=h'.objs.size->(∀ b o,b≠e->h.get? b=some o->h'.get? b=some o)->exAt C e h'->Q .none ⟨h',g,d,t,os⟩)(j:rest.length<=Je):Jm (model prog w) A (call (.builtin "ValueError.__init__") (.ref e::rest)) Q E ⟨h,g,d,t,os⟩:=by
 refine NF (Lb F.excBase_ValueError.init.plain F.excBase_ValueError.initEntry (wpAny_check_init_subT Qq T z he rfl ?_))
 wp_walk
 have O:e≠h.objs.size:=JU (Jn he);refine J _ ?_ (λb o L ho=>?_) ⟨h.objs.size,?_⟩
 ·rw[Mx,Kh];exact OQ _
 ·rw[JV _ _ (Ne.symm L)];exact s9 _ ho
 ·rw[JX _ (s9 _ he) rfl];rfl
end
end L2

namespace L2
open PySem PySem.Spec PyProof.Rows
open PySem.W
structure kD (K:Frag) (C D fI:Addr) (fld:Str):Prop where
 ex:jM K C vbm "ValueError.__new__" fI=true
 sa:findIn K (.ref C) "__setattr__" = some (some (.builtin "object.__setattr__"))
 ov:oR K C=true
 na:findIn K (.ref C) fld=some none
 dg:specialIn K (.ref D) "__getattribute__" = some (some (.builtin "type.__getattribute__"))
 dr:readsIn K D (.type "type")=true
 df:findCls K (.ref D) (.type "type") "__init__" = some (.val (.builtin "ValueError.__init__"))
 fo:((K.lookup fI).any λo=>o.cls == .type "function")=true
theorem exAt.ext {P:Jy}{w:JQ}{H:Hp}{h:Heap}{C e:Addr}(x:exAt C e h):ObjOk P w H h e (.ext (exAt C e)) :=
 ⟨x,⟨_,x.choose_spec⟩,λh1 h2 q k=>⟨q.choose,k _ q.choose_spec⟩⟩
theorem exAd.ext {P:Jy}{w:JQ}{H:Hp}{h:Heap}{C e dx:Addr}(x:exAd C e dx h):ObjOk P w H h e (.ext (exAd C e dx)) :=
 ⟨x,⟨_,x.choose_spec⟩,λh1 h2 q k=>⟨q.choose,k _ q.choose_spec⟩⟩
section
variable {X:Cx} {C D fI:Addr} {fld:Str}
theorem xZ {xD:Str}{a1 J:Expr}{t:TA}{j apos cpos epos:Pos}(Z:kD X.K C D fI fld)(hg:Gl X xD)(hm:X.mg xD=some (.ref D))(ha:PA X [a1,J] t)(F:(xD==("__debug__":Str))=false)(he:Jt [a1,J] X.env=(false,eval a1 X.env)::Jt [J] X.env)(L:(KH cpos (Jt [J] X.env)).any (·.1)=false)(O:L3 (.Call (.Attribute (.Name xD j) "__init__" apos) [a1,J] [] cpos) none epos.line X.env=pure false){pl:Sem Bool}(ht:eval (.Call (.Attribute (.Name xD j) "__init__" apos) [a1,J] [] cpos) X.env=(do
   let ov <- eval (.Name xD j) X.env
   Np apos.atName
   let (f,first) <- holding [ov] (getMethod ov "__init__" pl)
   RW cpos f first (KH cpos (Jt [a1,J] X.env)) (MP cpos (Lh [] X.env)))) :
 PS X (.Expr (.Call (.Attribute (.Name xD j) "__init__" apos) [a1,J] [] cpos) epos)
  (λDD σ H=>t σ H λvs H1=>∃ e y,vs=[.ref e,.str y]/\H1 e=some (.ext (exAt C e))/\DD.nx σ H1):=by
 intro pins s σ H DD I h;refine Qa ?_ I.quiet O;refine PySem.W.methodCall_KW (pl:=pl) (cE I hg hm ?_ F) ht
 ·refine method_cls I.kIn Z.dg (cls_value I.kIn Z.dr Z.df (by decide +kernel) ?_)
  refine NH (thn (ha cpos pins _ σ H _ (I.tok _) h) λus s1 g9=>?_) he L;obtain⟨vs,H1,U,r,e,y,hv,Y,q⟩:=g9;subst hv
  cases r with
  |cons r1 r =>
  cases r with
  |cons r2 r =>
  cases r
  cases r1
  obtain⟨t',rfl⟩:=r2;obtain⟨bm,N,nm,qn,bs,hd,sn,sub,ab,col,dd,k0,k1,k2,k3,k5,mN,hC,hN,HJ,hT⟩:=oS U.kIn Z.ex;obtain⟨⟨t0,HI⟩,_,_⟩:=(show ObjOk X.prog X.w H1 s1.heap e (.ext (exAt C e)) from U.hok e _ Y);obtain⟨hh,g,d,tk,os⟩:=s1;refine vp hC hT HI (λh' sz kp ex=>?_) (show 1<=Je by decide)
  have I2:=U.write (x:=e) (e:=e) (o:=.ext (exAt C e)) (h':=h') (t':=tk) (by rw[Y];trivial) (.inl rfl) kp ⟨_,ex.choose_spec⟩ ex.ext
  have eH:upd H1 e (.ext (exAt C e))=H1:=by
   funext b
   unfold upd
   by_cases z:b=e
   ·rw[if_pos z,z,Y]
   ·rw[if_neg z]
  rw[eH]at I2;exact⟨σ,H1,I2,q⟩
theorem y9 {o value:Expr}{ta tv:TE}{pos pos':Pos}(Z:kD X.K C D fI fld)(L:PE X o ta)(O:PE X value tv)(U:L3 value (some (.Attribute o fld pos')) pos.line X.env=pure false) :
 PS X (.Assign [.Attribute o fld pos'] value pos) (λDD σ H=>tv σ H λy H1=>ta σ H1 λx H2=>∃ e,x = .ref e/\H2 e=some (.ext (exAt C e)) /\
  ∀ dx,H2 dx=none->dx≠e->DD.nx σ (upd (upd H2 e (.ext (exAd C e dx))) dx (.xd [(fld,y)]))):=by
 intro pins s σ H D I h;refine plainObj_wpAny_Assign_Attribute (thn (O pins s σ H _ I h) λu s1 ⟨y,H1,Y,ry,q⟩=>thn (L pins s1 σ H1 _ Y q) λov s2 g9=>?_) U;obtain⟨x,H2,F,rx,e,ex,J,q2⟩:=g9;subst ex;obtain rfl:ov=JL e:=rx;obtain⟨⟨t0,j⟩,_,_⟩:=(show ObjOk X.prog X.w H2 s2.heap e (.ext (exAt C e)) from F.hok e _ J);refine AA F.kIn j Z.sa Z.ov Z.na λh' tk' hx hn kp=>?_;have lt:e<s2.heap.objs.size:=Jn j;have ne:s2.heap.objs.size≠e:=Ly lt;have I3:=F.write (x:=e) (e:=e) (o:=.ext (exAd C e s2.heap.objs.size)) (h':=s2.heap.update e λob=>{ ob with dict:=some s2.heap.objs.size }) (t':=tk') (by rw[J];trivial) (.inl rfl)
  (λb u z q=>(JV _ _ (Ne.symm z)).trans q) ⟨_,JX _ j rfl⟩ (exAd.ext ⟨t0,JX _ j rfl⟩)
 have I4:=I3.laid (a:=s2.heap.objs.size) (o:=.xd [(fld,y)]) (h':=h') (t':=tk') (λb u q=>?_) (by rw[Mx];exact Jg _) ⟨_,hn,λf=>?_⟩
 ·exact⟨σ,_,I4,q2 _ (F.hok.fresh (Jg _)) ne⟩
 ·by_cases z:b=e
  ·subst z;have q':(s2.heap.update b λob=>{ ob with dict:=some s2.heap.objs.size }).get? b=some u:=q
   rw[JX _ j rfl]at q'
   cases q'
   exact hx
  ·exact kp b u z ((JV _ _ (Ne.symm z)).symm.trans q)
 ·rw[KG]
  by_cases z:f=fld
  ·subst z;rw[beq_self_eq_true,if_pos rfl];exact ry
  ·rw[beq_false_of_ne z,if_neg z];trivial
end
noncomputable def spI (C:Addr) (fld a b:Str):Sp:=λvs H Q E=>∃ e n,vs=[.ref e,.int n]/\H e=some (.ext (exAt C e))/\0<=n/\n<=1000/\a.length+b.length<=100 /\
 ∀ dx,H dx=none->dx≠e->Q .non (upd (upd H e (.ext (exAd C e dx))) dx (.xd [(fld,.int n)]))
theorem vq {n:Int}(h0 : 0<=n)(h1:n<=1000):(gV (Ko n)).length<=4/\n.natAbs.log2<1920:=by
 have z:∀ m:Fin 1001,(gV (Ko ((m.val:Nat):Int))).length<=4:=by decide +kernel
 obtain⟨m,rfl⟩:=Int.eq_ofNat_of_zero_le h0;refine⟨z ⟨m,by omega⟩,?_⟩
 have:m<2 ^ 10:=by omega
 have hm:((m:Int)).natAbs=m:=Rn m;rw[hm]
 by_cases h:m=0
 ·subst h;decide
 ·exact PX ((Qo h).mpr this) (by decide)
section
variable {P:Jy} {w:JQ} {K:Frag} {mg:Str->Option hW} {base:Heap} {C D fI:Addr} {fld:Str}
theorem AB {qual slf row a b xD:Str}{st:Stmt}{fd:KW}{k kc kd:Nat}{z J apos cpos epos qa qb qc qd qe r0 r1 pos' pos:Pos}(F:Fun K "__init__" qual st fI fd)(S:cY [slf,row] [slf,row] (aj st))(Z:kD K C D fI fld)(j:bq st=[.Expr (.Call (.Attribute (.Name xD z) "__init__" apos) [.Name slf J,.JoinedStr [.Constant (.str a) kc qa,.FormattedValue (.Name row qb) (-1) none qc,.Constant (.str b) kd qd] qe] [] cpos) epos,.Assign [.Attribute (.Name slf r0) fld pos'] (.Name row r1) pos])(hg:(aj st).names.lookup xD=some .globalImplicit)(hm:mg xD=some (.ref D))(L:(xD==("__debug__":Str))=false)(d1:(slf==("__debug__":Str))=false)(d2:(row==("__debug__":Str))=false)(c1:(slf==("__classdict__":Str))=false)(c2:(row==("__classdict__":Str))=false)(v1:(aj st).names.lookup slf=some .local)(v2:(aj st).names.lookup row=some .local){pl:Env->Sem Bool}(O:∀ env,L3 (.Call (.Attribute (.Name xD z) "__init__" apos) [.Name slf J,.JoinedStr [.Constant (.str a) kc qa,.FormattedValue (.Name row qb) (-1) none qc,.Constant (.str b) kd qd] qe] [] cpos) none epos.line env=pure false)(hs:∀ env,L3 (.Name row r1) (some (.Attribute (.Name slf r0) fld pos')) pos.line env=pure false)(ht:∀ env,eval (.Call (.Attribute (.Name xD z) "__init__" apos) [.Name slf J,.JoinedStr [.Constant (.str a) kc qa,.FormattedValue (.Name row qb) (-1) none qc,.Constant (.str b) kd qd] qe] [] cpos) env=(do
   let ov <- eval (.Name xD z) env
   Np apos.atName
   let (f,first) <- holding [ov] (getMethod ov "__init__" (pl env))
   RW cpos f first (KH cpos (Jt [.Name slf J,.JoinedStr [.Constant (.str a) kc qa,.FormattedValue (.Name row qb) (-1) none qc,.Constant (.str b) kd qd] qe] env)) (MP cpos (Lh [] env)))) :
 br P w K mg base CX0 (k+1) fI fd [slf,row] (spI C fld a b):=by
 refine F.ok S (λvs H Q E h=>?_) λcdv A outer s H vs Q E hr h=>?_
 ·obtain⟨e,n,rfl,_⟩:=h;rfl
 ·obtain⟨e,n,rfl,he,h0,h1,hl,q⟩:=h;rw[j];have n1:∀ pos,PE (cv CX0 P w K mg base [slf,row] qual (aj st) fI cdv A outer s H E).nox (.Name slf pos) (rB 0):=λpos=>gu (i:=0) rfl (.inl v1) d1 c1;have n2:∀ pos,PE (cv CX0 P w K mg base [slf,row] qual (aj st) fI cdv A outer s H E).nox (.Name row pos) (rB 1):=λpos=>gu (i:=1) rfl (.inl v2) d2 c2;refine⟨_,cX (xZ (C:=C) (D:=D) (fI:=fI) (fld:=fld) Z hg hm (cG (n1 _) (cG (qP (ik jc (ik (v8 (n2 _)) (ik jc v7)))) gw rfl) rfl) L rfl rfl (O _) (ht _)) (eF (y9 Z (n1 _) (n2 _) (hs _))),?_⟩;obtain⟨z1,z2⟩:=vq h0 h1;have hE:(Kb:Str).length=0:=rfl;have sl : 200<=Je:=by decide
  refine⟨.ref e,rfl,a,rfl,?_,.int n,rfl,.inr ⟨n,rfl,z2,_,rfl,?_,b,rfl,?_,?_,e,_,rfl,he,.int n,rfl,.ref e,rfl,e,rfl,he,λdx U Y=>q dx U Y⟩⟩
  all_goals (simp only[Jf,hE];omega)
end
end L2

namespace L2
open PySem PySem.Spec PyProof.Rows
open PySem.W
noncomputable def CXF (P:Jy) (w:JQ) (base:Heap) (cls:hW):CXT:=λouter H s E u s'=>∃ a T dx H',u = .ref a/\s'.os=s.os/\Oh s'.gens/\Un (frs outer) [] H H' s.heap s'.heap/\HOk P w H' s'.heap/\s'.heap.FunFrames base outer/\Exc s'.heap a cls (some T) (some dx) /\
 H' a=none/\H' T=none/\s.heap.get? a=none/\s.heap.get? T=none/\E cls (some dx) H'
section
variable {P:Jy} {w:JQ} {K:Frag} {mg:Str->Option hW} {base:Heap} {N:List Str} {qual:Str} {scope:Scope} {f:Addr} {cd:hW} {A:JI} {outer:List Env} {s s1:z0} {H H1:Hp} {E:XK} {pins:List (Addr×Obj)} {σ:St} {C:Addr}
theorem kE {e dx:Addr}(hE:E (.ref C) (some dx) H1)(I:Inv (cv (CXF P w base (.ref C)) P w K mg base N qual scope f cd A outer s H E) pins σ H1 s1)(he:exAd C e dx s1.heap)(hH:H1 e=none)(n0:s.heap.get? e=none) :
 (cv (CXF P w base (.ref C)) P w K mg base N qual scope f cd A outer s H E).xe (.ref e) s1:=by
 obtain⟨t,ee⟩:=he;have J:s1.heap.FunFrames base (Na qual scope s.heap.objs.size f cd::outer):=I.stack;show Jm _ _ (leaving _ _) _ _ _;refine wH (base:=base) (L:=s.heap.objs.size) (cls:=.ref C) (hd:=none) (dd:=some dx) I.ok.frames J rfl ⟨⟨_,_,ee,rfl,rfl,rfl,rfl⟩,λT hT=>by cases hT⟩ λh2 T l x nT=>?_
 have Z:∀ b∈frs (Na qual scope s.heap.objs.size f cd::outer),H1 b=none:=I.stkFree;have ltS:∀ b o,s.heap.get? b=some o->b≠e:=λb o j z=>by rw[z,n0]at j;cases j
 have bs:=I.base;have sz:∀ b o,s.heap.get? b=some o->b∈frs (Na qual scope s.heap.objs.size f cd::outer)->b∈frs outer:=λb o j hm=>by
  unfold frs at hm;rw[MJ]at hm
  rcases Jl.mp hm with z|z
  ·have:=Jn j;rw[z]at this;exact absurd this (L8 _)
  ·exact z
 refine⟨e,T,dx,H1,rfl,I.os,I.bare,⟨λb o j O hf hx=>?_,λb o j O hf hx=>?_,bs.free,λb o j hx=>?_,bs.tups,bs.frzs,bs.tbls⟩,λa o ha=>?_,?_,x,hH,?_,n0,?_,hE⟩
 ·have h1:=bs.keep b o j O hf hx;exact l.keep b o (ltS b o j) (by simp) (λz=>hf (sz b o j z)) h1
 ·obtain⟨sl,h1⟩:=bs.slot b o j O hf hx;obtain⟨U,F⟩:=l.slot b _ (ltS b o j) (by simp) h1
  exact⟨U,F⟩
 ·obtain⟨o',h1⟩:=bs.there b o j hx;obtain⟨U,F⟩:=l.slot b _ (ltS b o j) (by simp) h1
  exact⟨_,F⟩
 ·refine (I.hok a o ha).stay (fun b u j hu=>?_) (fun b z=>z) (fun b xs z=>z);have Y:H1 b≠none:=by
   rcases j with z|z
   ·rw[z,ha];simp
   ·rw[z];simp
  exact l.keep b u (λz=>Y (by rw[z];exact hH)) (by simp) (λz=>Y (Z b z)) hu
 ·exact (J.of_keeps fun b o j O=>(by
   have HI:b≠e:=λz=>by
    rw[z,ee]at j
    cases j
    exact O _ rfl
   obtain⟨sl,h3⟩:=l.slot b o HI (by simp) j
   exact⟨_,h3,rfl⟩)).2.2
 ·exact I.hok.no nT
 ·cases hz:s.heap.get? T with
  |none=>rfl
  |some o=>obtain⟨o',h1⟩:=bs.there T o hz (by intro z;cases z);rw[nT]at h1;cases h1
end
section
variable {X:Cx} {pins:List (Addr×Obj)} {σ:St} {H:Hp} {s:z0} {a:Addr} {φ:Heap->Prop}
theorem Inv.untrackG (I:Inv X pins σ (upd H a (.ext φ)) s)(J:X.s₀.heap.get? a=none)(F:H a=none):Inv X pins σ H s:=by
 have ne:∀ b o,X.s₀.heap.get? b=some o->b≠a:=λb o e z=>by rw[z,J]at e;cases e
 have nt:∀ b o,H b=some o->b≠a:=λb o e z=>by rw[z,F]at e;cases e
 have back:∀ b,upd H a (.ext φ) b=none->H b=none:=λb e=>by
  by_cases z:b=a
  ·rw[z];exact F
  ·rw[ai z]at e;exact e
 refine⟨I.ok,I.os,I.bare,⟨I.base.keep,I.base.slot,λb o e n hx=>back b (I.base.free b o e n hx),I.base.there,λb xs e=>?_,λb o u e=>?_,λb ps e=>?_⟩,I.loc,I.cell,back _ I.free,λy c e=>back _ (I.freeC y c e),λp j=>?_,λb o e=>?_,I.len⟩
 ·have h1:=I.base.tups b xs e
  by_cases z:b=a
  ·rw[z,au]at h1;cases h1
  ·rw[ai z]at h1;exact h1
 ·have h1:=I.base.frzs b o u e
  by_cases z:b=a
  ·rw[z,au]at h1;cases h1
  ·rw[ai z]at h1;exact h1
 ·obtain⟨more,h1⟩:=I.base.tbls b ps e
  by_cases z:b=a
  ·rw[z,au]at h1;cases h1
  ·rw[ai z]at h1;exact⟨more,h1⟩
 ·obtain⟨e,n,r⟩:=I.pin p j;exact⟨e,back _ n,r⟩
 ·have h1:=I.hok b o (by rw[ai (nt b o e)];exact e)
  exact h1.stay (λc u _ q=>q) (λc q=>(by
   by_cases z:c=a
   ·rw[z,au]at q;cases q
   ·rw[ai z]at q;exact q)) λc xs q=>(by
   by_cases z:c=a
   ·rw[z,au]at q;cases q
   ·rw[ai z]at q;exact q)
theorem vt {x ta tb:Str}{np cpos pos:Pos}{U:Expr}{t:TA}{C D fI:Addr}{fld:Str}{fd:KW}{ps:List Str}{k:Nat}{Q:Flow->z0->Prop}(I:Inv X pins σ H s)(hc:X.calm=true)(hg:Gl X x)(hm:X.mg x=some (.ref C))(Z:kD X.K C D fI fld)(FI:br X.prog X.w X.K X.mg X.base CX0 k fI fd ps (spI C fld ta tb))(hr:Room (k+1) X.A)(hb:Binds X.K fd ps [])(HJ:ta.length+tb.length<=100)(ha:PA X [U] t)(h:t σ H λvs H1=>∃ n:Int,vs=[.int n]/\0<=n/\n<=1000 /\ ∀ s2 e dx,Inv X pins σ (upd H1 dx (.xd [(fld,.int n)])) s2->exAd C e dx s2.heap->H1 dx=none->dx≠e->H1 e=none->X.s₀.heap.get? e=none->X.xe (.ref e) s2)(HK:(x==("__debug__":Str))=false:=by decide)(he:Jt [U] X.env=[(false,eval U X.env)]:=by rfl)(HL:(KH cpos (Jt [U] X.env)).any (·.1)=false:=by rfl) :
 Jm (model X.prog X.w) X.A (exec (.Raise (some (.Call (.Name x np) [U] [] cpos)) none pos) X.env) Q X.xe s:=by
 obtain⟨bm,N,nm,qn,bs,hd,sn,sub,ab,col,dd,k0,k1,k2,k3,k5,mN,hC,hN,HM,hT⟩:=oS I.ok.mod.kin Z.ex;refine kC (C:=C) (nm:=nm) (q:=qn) (N:=N) (bs:=bs) (bm:=bm) (hdct:=hd) (sn:=sn) (sub:=sub) (ab:=ab) (col:=col) (dd:=dd) (k0:=k0) (k1:=k1) (k2:=k2) (k3:=k3) (k5:=k5) (mN:=mN) (fI:=fI) Qq (hT.hasType (by decide)) (I.ok.hd hc) HL HM ?_
 refine cE I hg hm ⟨rfl,?_⟩ HK;have hp:=ha cpos pins s σ H _ I h;rw[he]at hp ⊢;refine Qg (thn hp λus s1 ⟨vs,H1,L,r,n,hv,h0,h1,q⟩=>⟨rfl,?_,L.bk _ _ hC,hN.keeps L.bk,hT.keeps L.bk,?_,?_⟩)
 ·subst hv;rw[<- r.length];exact(show 1<=Je by decide)
 ·obtain⟨oI,ho,HN⟩:=any_some Z.fo;exact⟨oI,L.kIn _ _ ho,beq_iff_eq.mp HN⟩
 ·subst hv
  cases r with
  |cons r1 r =>
  cases r
  obtain⟨tn,rfl⟩:=r1;obtain⟨j,g,d,tk,os⟩:=s1;have HQ:j.objs.size+1≠j.objs.size:=Nat.succ_ne_self _;have I2:Inv X pins σ (upd H1 (j.objs.size+1) (.ext (exAt C (j.objs.size+1)))) ⟨(j.push (tuO [.int n tn])).push (exO C j.objs.size none),g,d,tk,os⟩ :=
   L.laid (s:=⟨j,g,d,tk,os⟩) (t':=tk) (λb u q=>s9 _ (s9 _ q)) (OQ _) (exAt.ext (Exists.intro j.objs.size (by heap_get)))
  have e0:H1 (j.objs.size+1)=none:=L.hok.fresh (OQ _);have n0:X.s₀.heap.get? (j.objs.size+1)=none:=NU (K7 L.sz (OQ _));have r2:Vals [V.ref (j.objs.size+1),V.int n] [JL (j.objs.size+1),Mv n tn]:=.cons rfl (.cons ⟨tn,rfl⟩ .nil);have hq:spI C fld ta tb [V.ref (j.objs.size+1),V.int n] (upd H1 (j.objs.size+1) (.ext (exAt C (j.objs.size+1)))) (λv H'=>v = .non /\ ∃ dx,H1 dx=none/\dx≠j.objs.size+1/\H'=upd (upd H1 dx (.xd [(fld,.int n)])) (j.objs.size+1) (.ext (exAd C (j.objs.size+1) dx))) E0:=by
   refine⟨_,n,rfl,au,h0,h1,HJ,λdx Y O=>⟨rfl,dx,?_,O,?_⟩⟩
   ·rw[ai O]at Y;exact Y
   ·funext b
    unfold upd
    by_cases z1:b=dx
    ·rw[if_pos z1,if_neg (by rw[z1];exact O),if_pos z1]
    ·rw[if_neg z1]
     by_cases z2:b=j.objs.size+1
     ·rw[if_pos z2,if_pos z2]
     ·rw[if_neg z2,if_neg z2,if_neg z2,if_neg z1]
  have hl:([JL (j.objs.size+1),Mv n tn]:List hW).length=ps.length:=by
   have e:=r2.length;rw[FI.len _ _ _ _ hq]at e;exact e.symm
  refine NF (Lz (FI.run _ X.stack _ _ ⟨[JL (j.objs.size+1),Mv n tn],[]⟩ [JL (j.objs.size+1),Mv n tn] _ _ E0 (hr.make C _ []) (I2.env0.make C _ []) (by have:=hb _ [JL (j.objs.size+1),Mv n tn] I2.kIn hl;rwa[Kp]at this) r2 hq) λr s' J=>?_)
  cases r with
  |error e=>exact(show False from J).elim
  | ok fl =>
    cases fl with
    |next=>exact(show False from J).elim
    |brk=>exact(show False from J).elim
    |cont=>exact(show False from J).elim
    | ret u =>
      obtain⟨v,H',I3,rv,hv,dx,HP,HI,rfl⟩:=I2.after J;subst hv;obtain⟨ad,_,_⟩:=(show ObjOk X.prog X.w _ s'.heap (j.objs.size+1) (.ext (exAd C (j.objs.size+1) dx)) from I3.hok _ _ au);have hd2:j.objs.size+1≠dx:=λz=>HI z.symm;have I4:=I3.untrackG n0 (by rw[ai hd2];exact e0)
      exact⟨rv,I3.bk _ _ hC,⟨_,_,ad.choose_spec⟩,q s' _ dx I4 ad HP HI e0 n0⟩
end
end L2

namespace L2
open PySem PySem.Spec PyProof.Rows
open PySem.W
def clsF (a C dx:Addr) (h:Heap):Prop:=∃ o,h.get? a=some o/\o.cls = .ref C/\notCls o=true/\o.dict=some dx
theorem clsF.ext {P:Jy}{w:JQ}{H:Hp}{h:Heap}{a C dx:Addr}(x:clsF a C dx h):ObjOk P w H h a (.ext (clsF a C dx)) :=
 ⟨x,⟨_,x.choose_spec.1⟩,λh1 h2 q k=>⟨q.choose,k _ q.choose_spec.1,q.choose_spec.2⟩⟩
def IsF (H:Hp) (a C dx:Addr) (fld:Str) (n:Int):Prop:=H a=some (.ext (clsF a C dx))/\H dx=some (.xd [(fld,.int n)])
section
variable {prog:Jy} {w:JQ} {A:JI} {E:hW->z0->Prop} {h:Heap} {g:Array P7} {d:Drawn} {t:Nat} {os:SW} {a C:Addr} {o:Obj} {od:Option Obj} {K:Frag} {name:Str} {v:hW}
theorem vw {tk:Tok}{Q:Fin->z0->Prop}(X:K.In h)(I:Lk h a o C od)(hf:MV K C od name=some (.value v))(j:Q (.done (.ret v)) ⟨h,g,d,t,os⟩):Jm (model prog w) A (MW.«object.__getattribute__» ⟨[.ref a,.str name tk],[]⟩) Q E ⟨h,g,d,t,os⟩:=by
 have z:=I.type (M:=model prog w);have F:=Rj (M:=model prog w) X I hf;refine h8 (Jd (h8 (Jd (h8 (z.at (h8 (F.at ?_)))))));exact h8 (Jd (Jd j))
theorem Cy {tk:Tok}{fill expr:Bool}{Q:hW->z0->Prop}(X:K.In h)(I:Lk h a o C od)(j:Kf K (.ref C) "__getattribute__" = some (some (.builtin "BaseException.__getattribute__")))(z:Kf K (.ref C) "__getattr__" = some none)(hf:MV K C od name=some (.value v))(L:handedIn v=true)(J:∀ (M:Od) (A:JI) (E:hW->z0->Prop) (nameV:hW) (R:Unit->z0->Prop),R () ⟨h,g,d,t,os⟩->Jm M A (My "BaseException.__getattribute__" ⟨[.ref a,nameV],[]⟩) R E ⟨h,g,d,t,os⟩)(O:Q v ⟨h,g,d,t,os⟩):Jm (model prog w) A (Sf (.ref a) (.str name tk) fill expr) Q E ⟨h,g,d,t,os⟩:=by
 have U:=I.type (M:=model prog w);have Y:=Mr (M:=model prog w) X j;have L2:=Mr (M:=model prog w) X z;unfold Sf;refine K2 (h8 (U.at (h8 (Y.at ?_))));show Jm _ _ (O6 _ _ _ _ _ _) _ _ _;unfold O6;have f3:=F.attrBase_ValueError.ga.bind (.ref a);have Z:(expr&&onTheHeap (Value.builtin "BaseException.__getattribute__"))=false:=by cases expr <;> rfl
 repeat (any_goals (first|assumption|with_reducible refine L2.at ?_|wp_step))
 refine Lb F.attrBase_ValueError.ga.plain SQ (J _ _ _ _ _ (vw X I hf ?_))
 repeat (any_goals (first|assumption|wp_step))
 exact handed_on L O
end
section
variable {X:Cx} {pins:List (Addr×Obj)} {σ:St} {H:Hp} {s:z0} {a C dx:Addr} {fld:Str} {n:Int}
theorem IsF.inst (x:IsF H a C dx fld n)(I:Inv X pins σ H s):∃ o od u,Lk s.heap a o C (some od)/\lookIn fld od=some (some u)/\RelV (.int n) u:=by
 obtain⟨⟨o,e,c,nc,dd⟩,_,_⟩:=(show ObjOk X.prog X.w H s.heap a (.ext (clsF a C dx)) from I.hok a _ x.1);obtain⟨mA,j,r⟩:=(show ObjOk X.prog X.w H s.heap dx (.xd [(fld,.int n)]) from I.hok dx _ x.2);obtain⟨od,ho,z⟩:=kR j;have rf:=r fld;rw[KG,beq_self_eq_true]at rf;obtain⟨u,F,ru⟩:=TH (v:=.int n) (o:=mA fld) rf;exact⟨o,od,u,⟨e,c,nc,by rw[dd];exact ho⟩,by rw[z,F],ru⟩
theorem Cz {e:Expr}{te:TE}{pos:Pos}(he:PE X e te)(F:NM e fld X.env (eval e X.env)=eval e X.env)(Z:nM X.K C)(hd:hasDictIn X.K C=true)(L:findIn X.K (.ref C) fld=some none) :
 PE X (.Attribute e fld pos) (λσ H Q=>te σ H λx H1=>∃ a dx n,x = .ref a/\IsF H1 a C dx fld n/\Q (.int n) H1):=by
 intro pins s σ H Q I h;refine zB F (thn (he pins s σ H _ I h) λu s1 O=>?_);obtain⟨x,H1,j,rx,a,dx,n,ex,U,q⟩:=O;subst ex;obtain rfl:u=JL a:=rx;obtain⟨o,od,u,J,Y,ru⟩:=U.inst j;obtain⟨hh,g,d,tk,os⟩:=s1;have z:findObj X.K C (some od) fld=some (.value u):=findObj_own hd L rfl Y;have hv:handedIn u=true:=ue ru;refine h8 (wpAny_mkText ?_);exact Cy j.kIn J Z.ga Z.gn z hv (nL j.kIn J Z.sb) ⟨.int n,H1,j.tok _,ru,q⟩
theorem ya:CallR X (.builtin "isinstance") (λvs H Q=>∃ a C dx fld n c b,vs=[.ref a,c]/\isC c=true/\IsF H a C dx fld n/\nM X.K C/\Ox X.K (.ref C) (cV c)=some b/\Q (.bl b) H):=by
 intro pins s σ H xs us Q I r h;obtain⟨a,C,dx,fld,n,c,b,rfl,F,L,Z,hk,q⟩:=h
 cases r with
 |cons O r =>
 cases r with
 |cons j r =>
 cases r
 cases O
 have e:cV c=_:=(by
  cases c <;> first|cases F|skip
  ·exact(show _=JL _ from j).symm
  ·exact(show _=Pz _ from j).symm)
 rw[e]at hk;obtain⟨o,od,u,J,_,_⟩:=L.inst I;exact Kg (wJ Z) I.kIn ⟨o,_,J⟩ hk (λz=>nomatch z) λtk=>⟨.bl b,H,I.tok tk,rfl,q⟩
end
end L2

namespace L2
open PySem PySem.Spec PyProof.Rows
open PySem.W
section
variable {X:Cx} {pins:List (Addr×Obj)} {σ:St} {H:Hp} {s:z0} {a C:Addr} {φ:Heap->Prop}
theorem TV (I:Inv X pins σ H s)(F:X.s₀.heap.get? a=none)(J:H a=none)(x:∀ H',ObjOk X.prog X.w H' s.heap a (.ext φ))(L:a≠X.env.locals)(O:∀ y c,X.env.cells.lookup y=some c->c≠a)(U:∀ p∈X.pn++pins,p.1≠a):Inv X pins σ (upd H a (.ext φ)) s:=by
 have ne:∀ b o,X.s₀.heap.get? b=some o->b≠a:=λb o e z=>by rw[z,F]at e;cases e
 have nt:∀ b o,H b=some o->b≠a:=λb o e z=>by rw[z,J]at e;cases e
 refine⟨I.ok,I.os,I.bare,⟨I.base.keep,I.base.slot,λb o e n hx=>by rw[ai (ne b o e)];exact I.base.free b o e n hx,I.base.there,λb xs e=>?_,λb o u e=>?_,λb ps e=>?_⟩,I.loc,I.cell,by rw[ai (Ne.symm L)];exact I.free,λy c e=>by rw[ai (O y c e)];exact I.freeC y c e,λp j=>?_,λb o e=>?_,I.len⟩
 ·have h1:=I.base.tups b xs e;rw[ai (nt b _ h1)];exact h1
 ·have h1:=I.base.frzs b o u e;rw[ai (nt b _ h1)];exact h1
 ·obtain⟨more,h1⟩:=I.base.tbls b ps e;exact⟨more,by rw[ai (nt b _ h1)];exact h1⟩
 ·obtain⟨e,n,r⟩:=I.pin p j;exact⟨e,by rw[ai (U p j)];exact n,r⟩
 ·by_cases z:b=a
  ·subst z;rw[au]at e;cases e;exact x _
  ·rw[ai z]at e;exact(I.hok b o e).stay (λc u _ q=>q) (λc q=>by rw[ai (nt c _ q)];exact q) λc xs q=>by rw[ai (nt c _ q)];exact q
end
structure vx (X:Cx) (xD:Str) (C D:Addr):Prop where
 g5:Gl X xD
 m5:X.mg xD=some (.ref D)
 d5:(xD==("__debug__":Str))=false
 eD:P1 X.K D vbm "ValueError.__new__" = true
 sD:NR X.K (.ref C) (.ref D)=some true
section
variable {X:Cx}
theorem AC {n xD x fx:Str}{C D:Addr}{ie i k:Nat}{f:Addr}{fd:KW}{ps:List Str}{sp:Sp}{U:Expr}{es:List Expr}{tA:TA}{fp cpos epos np HN xp apos HM tpos:Pos}(hex:X.ex=[])(HP:X.stack=X.env::X.outer)(HY:X.env.frame=some X.env.locals)(Z:∀ a,vx (X.hld a) xD C D)(hN:X.N.Nodup)(hi:X.N[i]? = some x)(hx:X.env.scope.names.lookup x=some .local)(HK:X.N[ie]? = some n)(hn:X.env.scope.names.lookup n=some .local)(HZ:ie≠i)(hd:(n==("__debug__":Str))=false)(I0:(n==("__classdict__":Str))=false)(F:br X.prog X.w X.K X.mg X.base (CXF X.prog X.w X.base (.ref C)) k f fd ps sp)(hr:Room k X.A)(hg:Gl X fx)(hm:X.mg fx=some (.ref f))(hk:KN X.K (.ref f)=true)(hb:Binds X.K fd ps [])(ha:PA X.nox (U::es) tA)(I8:(fx==("__debug__":Str))=false)(he:Jt (U::es) X.env=(false,eval U X.env)::Jt es X.env)(I9:(KH cpos (Jt es X.env)).any (·.1)=false)(Ia:L3 (.Call (.Name fx fp) (U::es) [] cpos) none epos.line X.env=pure false) :
 PS X (.Try [.Expr (.Call (.Name fx fp) (U::es) [] cpos) epos] [.ExceptHandler (some (.Name xD np)) (some n) [.Assign [.Name x xp] (.Name n HN) apos] HM] [] [] tpos)
  (λDD σ H=>tA σ H λvs H1=>sp vs H1 (λ_ H2=>DD.nx σ H2) λcls dd H'=>∃ dx,dd=some dx /\ ∀ a,H' a=none->DD.nx ((σ.set i (some (.ref a))).set ie none) (upd H' a (.ext (clsF a C dx)))):=by
 intro pins s σ H DD I h;refine wpAny_Try_except (P9 (Qa ?_ I.quiet Ia));refine Ll (cE I hg hm ?_ I8);have hA:=PA.nox (X:=X.wish λe s₁=>Jm (model X.prog X.w) X.A (QF e X.env) (λ_ s₂=>Jm (model X.prog X.w) X.A (Pd e none) (λ_ s₃=>Jm (model X.prog X.w) X.A (handleBy e X.env [.ExceptHandler (some (.Name xD np)) (some n) [.Assign [.Name x xp] (.Name n HN) apos] HM]) (SP X pins DD) X.xe s₃) X.xe s₂) X.xe s₁) ha;refine R9 (h₀:=X.base) I.ok.mod.kin hk (thn (hA cpos pins s σ H _ (I.wish _) h) λus s1 ⟨vs,H1,O,r,q⟩=>⟨O.unwish.kIn,?_⟩) he I9;have O:=O.unwish;have hl:(us++[]).length=ps.length:=by rw[Kp,<- r.length];exact F.len _ _ _ _ q
 refine NF (Lz (F.run X.A X.stack s1 H1 ⟨us,[]⟩ us vs _ _ hr O.env0 (by have:=hb s1 us O.kIn hl;rwa[Kp]at this) r q) λr s' hq=>?_)
 cases r with
 | ok fl =>
   cases fl with
   | ret u =>
     obtain⟨v,H',I2,_,z⟩:=O.after hq;exact Mc (Mc ⟨σ,H',I2,z⟩)
   |next=>exact False.elim hq
   |brk=>exact False.elim hq
   |cont=>exact False.elim hq
 |error u =>
 obtain⟨a,T,dx,H',rfl,os,bare,un,hok,ff,ex,HQ,Ib,na,nT,hE⟩:=hq;rw[HP]at ff;have frn:∀ b∈frs X.stack,H' b=none:=λb hb=>by
  have h1:=O.stkFree b hb;obtain⟨_,o,ho,_⟩:=O.stack.mem hb;exact un.free b o ho h1 (by intro z;cases z)
 refine qG (base:=X.base) (L:=X.env.locals) (by rw[I.ok.frames,HP]) ff HY ex λh2 T2 l HS HU=>?_
 rw[<- HP]at l;have ne1:∀ b o,s1.heap.get? b=some o->b≠a/\some b≠some T/\b≠T2:=λb o e=>by
  refine⟨λz=>?_,λz=>?_,λz=>?_⟩
  ·rw[z,na]at e;cases e
  ·cases z;rw[nT]at e;cases e
  ·obtain⟨o',e'⟩:=un.there b o e (by intro z;cases z)
   rw[z,HU]at e';cases e'
 have Ic:H' T2=none:=hok.no HU;have mkU:∀ Y,(∀ b o,b≠a->some b≠some T->b≠T2->b∉frs X.stack->s'.heap.get? b=some o->Y.get? b=some o)->(∀ b o,b≠a->some b≠some T->b≠T2->s'.heap.get? b=some o -> ∃ sl,Y.get? b=some { o with slots:=sl })->Un (frs X.stack) [] H1 H' s1.heap Y/\HOk X.prog X.w H' Y:=λY k1 k2=>by
  refine⟨⟨λb o e n hf hx=>?_,λb o e n hf hx=>?_,un.free,λb o e hx=>?_,un.tups,un.frzs,un.tbls⟩,λb o e=>?_⟩
  ·obtain⟨j,J,z3⟩:=ne1 b o e;exact k1 b o j J z3 hf (un.keep b o e n hf hx)
  ·obtain⟨j,J,z3⟩:=ne1 b o e;obtain⟨sl,U⟩:=un.slot b o e n hf hx;obtain⟨HV,e2⟩:=k2 b _ j J z3 U;exact⟨HV,e2⟩
  ·obtain⟨j,J,z3⟩:=ne1 b o e;obtain⟨o',U⟩:=un.there b o e hx;obtain⟨HV,e2⟩:=k2 b _ j J z3 U;exact⟨_,e2⟩
  ·refine (hok b o e).stay (fun c u hc q=>?_) (fun c q=>q) fun c xs q=>q;have hH:H' c≠none:=by
    rcases hc with z|z
    ·rw[z,e];simp
    ·rw[z];simp
   exact k1 c u (λz=>hH (by rw[z];exact HQ)) (λz=>hH (by cases z;exact Ib)) (λz=>hH (by rw[z];exact Ic)) (λz=>hH (frn c z)) q
 obtain⟨Id,HW⟩:=mkU h2 (λb o j J _ hf e=>l.keep b o j J hf e) (λb o j J _ e=>l.slot b o j J e);have I2:Inv X pins σ H' { s' with heap:=h2 }:=O.call' (s':={ s' with heap:=h2 }) os Id HW bare λb z=>by cases z
 obtain⟨bm,N,nm,qn,bs,Ik,sn,sub,ab,col,dd,k0,k1,k2,k3,k5,mN,hD,_,_,hT⟩:=zF I.ok.mod.kin (Z a).eD;obtain⟨oe,vs',ee,ec,_,_,_⟩:=id HS.obj;refine wpAny_handleBy_cons (codeAny_handlers_test ?_) (by intro q;cases q)
 refine cE (X:=X.hld a) (I2.hld a) (Z a).g5 (Z a).m5 ?_ (Z a).d5;refine qg (QJ I2.kIn (Z a).sD) (I2.bk _ _ hD) ee ec (hT.hasType (by decide)) ?_
 refine codeAny_handlers_suite_as ?_;refine uo (s:={ s' with heap:=h2 }) HS λY sb Ie=>?_
 obtain⟨Ig,HX⟩:=mkU Y (λb o j J z3 hf e=>(sb.2 b z3).trans (l.keep b o j J hf e)) (λb o j J z3 e=>by
  obtain⟨sl,U⟩:=l.slot b o j J e;exact⟨sl,(sb.2 b z3).trans U⟩)
 have I3:Inv X pins σ H' { s' with heap:=Y }:=O.call' (s':={ s' with heap:=Y }) os Ig HX bare λb z=>by cases z
 refine kQ (X:=X.hld a) (v:=.ref a) (I3.hld a) hN HK (.inl hn) rfl (λs4 J4 g9=>?_) (.inr hn);obtain⟨b4,Ih,Ii⟩:=g9;obtain⟨o3,Il,e3,c3,Ij,HR,_⟩:=id Ie.obj;have aL:a≠X.env.locals:=λz=>by
  obtain⟨m,⟨o,es',ep,ho,HI,_⟩,_⟩:=I3.loc;rw[<- z]at ho;have HJ:Y.get? a=some o:=ho;rw[e3]at HJ;cases HJ;rw[HR]at HI;cases HI
 have aC:∀ y c,X.env.cells.lookup y=some c->c≠a:=λy c e z=>by
  obtain⟨v,o,ho,HI⟩:=I3.cell y c e;rw[z]at ho;have HJ:Y.get? a=some o:=ho;rw[e3]at HJ;cases HJ;rw[HR]at HI;cases HI
 have a4:a≠b4:=by
  rcases Ii with z|z
  ·rw[z];exact aL
  ·exact λy=>aC n b4 z y.symm
 have n0:X.s₀.heap.get? a=none:=by
  cases hz:X.s₀.heap.get? a with
  |none=>rfl
  | some o =>
    obtain⟨o',e'⟩:=O.base.there a o hz (by rw[hex];intro z;cases z)
    rw[na]at e';cases e'
 have cF:clsF a C dx s4.heap:=⟨o3,(Ih.2 a a4).trans e3,c3,by unfold PySem.W.notCls;rw[HR],Ij⟩
 have J5:=TV (X:=X.hld a) (φ:=clsF a C dx) J4 n0 HQ (λH'=>cF.ext) aL aC λp hp z=>by
  obtain⟨e,_⟩:=O.pin p hp;rw[z,na]at e;cases e
 have hlen:ie<σ.length:=by rw[I.len];exact(Jw.mp HK).1
 have step:=eF (u3 (X:=X.hld a) (pos:=apos) (pos':=xp) hN hi (.inl hx) (gu (X:=X.hld a) (pos:=HN) HK (.inl hn) hd I0) rfl (.inr hx)) pins s4 _ _
  { nx:=λσ' H''=>σ'=(σ.set ie (some (.ref a))).set i (some (.ref a))/\H''=upd H' a (.ext (clsF a C dx)),rt:=λ_ _=>False } J5 ⟨.ref a,by rw[JY hlen],rfl,rfl⟩
 refine JS step (λfl s5 HL=>?_) λ_ _ z=>z.elim
 cases fl with
 |brk=>obtain⟨_,_,_,z⟩:=HL;exact z.elim
 |cont=>obtain⟨_,_,_,z⟩:=HL;exact z.elim
 |ret u=>obtain⟨_,_,_,_,_,z⟩:=HL;exact z.elim
 | next =>
   obtain⟨σ',H'',J6,rfl,rfl⟩:=HL;have J7:=J6.unhld I.ok;refine zG J7 hN HK hn λs6 J8=>⟨_,_,J8,?_⟩;have es':(((σ.set ie (some (.ref a))).set i (some (.ref a))).set ie none)=(σ.set i (some (.ref a))).set ie none:=by
    rw[List.set_comm _ _ HZ,List.set_set]
   rw[es'];obtain⟨dx',e',q'⟩:=hE
   cases e'
   exact q' a HQ
end
end L2

namespace L2
open PySem PySem.Spec PyProof.Rows
namespace Mi
section
inductive BOp where|add|sub|mul|fdiv|mod|pow|ext
inductive COp where|eq|ne|lt|le|gt|ge|is|isn|inStr|inNon|ninStr
inductive BF where|len|abs|max2|min2|int|tuple|all|any|str|intS|lenS
inductive MF where|append|count|indexS
set_option genCtorIdx false
set_option genInjectivity false
mutual
inductive MG where
 |name (i:Nat)
 |tup (gs:MGs)
inductive MGs where
 |nil
 |cons (g:MG) (r:MGs)
end
mutual
inductive ME where
 |var (i:Nat)
 |int (i:Int)
 |bl (b:Bool)
 |non
 |str (x:Str)
 |bin (op:BOp) (a b:ME)
 |neg (a:ME)
 |cmp (op:COp) (a b:ME)
 |and (es:MEs)
 |or (es:MEs)
 |not (a:ME)
 |ite (c:MT) (a b:ME)
 |tup (es:MEs)
 |lst (es:MEs)
 |ix (a b:ME)
 |sl (a:ME) (lo hi:MO)
 |call (f:Nat) (es:MEs)
 |blt (f:BF) (es:MEs)
 |isin (a:ME) (T:String)
 |chain (op op':COp) (a b c:ME)
 |glob (x:Str) (d:D)
 |meth (m:MF) (o a:ME)
 |comp (fr:List (Option Nat)) (N:List Str) (c:MC)
 |fstr (es:MEs)
 |fmt (a:ME)
 |join (o a:ME)
 |smeth (m:SM) (o a:ME)
 |ixS (a b:ME)
 |slS (a:ME) (lo:MO)
 |slT (a:ME) (hi:MO)
 |revS (a st:ME)
 |orL (a b:ME)
inductive MEs where
 |nil
 |cons (e:ME) (r:MEs)
inductive MO where
 |none
 |some (e:ME)
inductive MT where
 |tru (e:ME)
 |cmp (op:COp) (a b:ME)
 |chain (op op':COp) (a b c:ME)
 |and (ts:MTs)
 |or (ts:MTs)
 |not (t:MT)
inductive MTs where
 |nil
 |cons (t:MT) (r:MTs)
inductive MI where
 |seq (e:ME)
 |rng1 (a:ME)
 |zip (a b:ME)
 |enum (a:ME)
 |enum1 (a:ME)
 |chars (a:ME)
inductive MC where
 |last (src:MI) (g:MG) (ifs:MTs) (elt:ME)
 |more (src:MI) (g:MG) (ifs:MTs) (rest:MC)
end
mutual
inductive MS where
 |asg (g:MG) (e:ME)
 |par (i j:Nat) (a b:ME)
 |put (o i e:ME)
 |aug (i:Nat) (op:BOp) (e:ME)
 |drop (e:ME)
 |ret (e:ME)
 |ite (c:MT) (a b:MSs)
 |for (g:MG) (src:MI) (b:MSs)
 |while (c:MT) (b:MSs)
 |bot
 |pass|brk|cnt
inductive MSs where
 |nil
 |cons (s:MS) (r:MSs)
end
set_option genCtorIdx true
set_option genInjectivity true
noncomputable def opB:BOp->R2d
 |.add=>dH|.sub=>nW|.mul=>gK|.fdiv=>jp|.mod=>nX|.pow=>nY|.ext=>dH
noncomputable def opC:COp->R2d
 |.eq=>wEq|.ne=>wNe|.lt=>wLt|.le=>wLe|.gt=>wGt|.ge=>wGe|.is=>wIs|.isn=>sM| .inStr=>jF|.inNon=>jG|.ninStr=>il
noncomputable def opF:BF->RAd
 |.len=>fV| .intS=>mW|.lenS=>mX|.abs=>ku|.max2=>jq|.min2=>jr|.int=>kx| .tuple=>jt| .all=>sN|.any=>sP| .str=>mQ
noncomputable def opM:MF->D->List D->Mem->QD->Prop
 |.append=>ic| .count=>jK|.indexS=>im
noncomputable def opI:BOp->R2d
 |.add=>jz|.sub=>jA|.mul=>jB|.ext=>mV|_=>λ_ _ _ _=>False
theorem oU:∀ o,ar (opB o)
 |.add=>nZ|.sub=>wQ|.mul=>wR|.fdiv=>uB|.mod=>wU|.pow=>wV|.ext=>nZ
theorem bn:∀ o,ar (opC o)
 |.eq=>zO|.ne=>zP|.lt=>zS|.le=>zT|.gt=>zU|.ge=>zV|.is=>Aj|.isn=>xH| .inStr=>t5|.inNon=>t7|.ninStr=>qo
theorem yb:∀ o,aS (opF o)
 |.len=>ol| .intS=>lV|.lenS=>lW|.abs=>om|.max2=>ll|.min2=>lq|.int=>ou| .tuple=>ju| .all=>oC|.any=>oE| .str=>lL
theorem yc:∀ o,fg (opM o)
 |.append=>iF| .count=>jL|.indexS=>iJ
theorem yd:∀ o,ar (opI o)
 |.add=>lH|.sub=>lJ|.mul=>lK|.ext=>lP
 |.fdiv=>λ_ _ _ _ _ _ q=>q.elim|.mod=>λ_ _ _ _ _ _ q=>q.elim|.pow=>λ_ _ _ _ _ _ q=>q.elim
noncomputable abbrev Phi:=Nat->RAd
mutual
noncomputable def bG:MG->BT
 |.name i=>cq i
 |.tup gs=>xk (bGs gs)
noncomputable def bGs:MGs->BTs
 |.nil=>iR
 |.cons g r=>cr (bG g) (bGs r)
end
mutual
noncomputable def wE (Φ:Phi):ME->TEd
 |.var i=>iN i
 |.int i=>wC (.int i)
 |.bl b=>wC (.bl b)
 |.non=>wC .non
 |.str x=>wC (.str x)
 |.bin op a b=>wOp (opB op) (wE Φ a) (wE Φ b)
 |.neg a=>wUn og (wE Φ a)
 |.cmp op a b=>wOp (opC op) (wE Φ a) (wE Φ b)
 |.and es=>wAnds Φ es
 |.or es=>wOrs Φ es
 |.not a=>mF (wE Φ a)
 |.ite c a b=>wIf (wT Φ c) (wE Φ a) (wE Φ b)
 |.tup es=>wAr se (wA Φ es)
 |.lst es=>wAr sf (wA Φ es)
 |.ix a b=>wOp wIx (wE Φ a) (wE Φ b)
 |.sl a lo hi=>wSl (wE Φ a) (wO Φ lo) (wO Φ hi)
 |.call f es=>wAr (Φ f) (wA Φ es)
 |.blt f es=>wAr (opF f) (wA Φ es)
 |.isin a T=>mG T (wE Φ a)
 |.chain op op' a b c=>ci (opC op) (opC op') (wE Φ a) (wE Φ b) (wE Φ c)
 |.glob _ d=>wC d
 |.meth m o a=>wBM (opM m) (wE Φ o) (aN (wE Φ a) bA)
 |.comp fr _ c=>wCmp Φ fr c
 |.fstr es=>wFs Φ es Kb
 |.fmt a=>sU (wE Φ a)
 |.join o a=>mR (wE Φ o) (wE Φ a)
 |.smeth m o a=>wSM (oJ m) (wE Φ o) (wE Φ a)
 |.ixS a b=>wOp sY (wE Φ a) (wE Φ b)
 |.slS a lo=>sZ (wE Φ a) (wO Φ lo)
 |.slT a hi=>tm (wE Φ a) (wO Φ hi)
 |.revS a st=>mU (wE Φ a) (ib (wE Φ st))
 |.orL a b=>sW (wE Φ a) (wE Φ b)
noncomputable def wA (Φ:Phi):MEs->TAd
 |.nil=>bA
 |.cons e r=>aN (wE Φ e) (wA Φ r)
noncomputable def wFs (Φ:Phi):MEs->Str->TEd
 |.nil=>mM
 |.cons e r=>mP (wE Φ e) (wFs Φ r)
noncomputable def wAnds (Φ:Phi):MEs->TEd
 |.nil=>λ_ _ _=>False
 |.cons e .nil=>wE Φ e
 |.cons e (.cons f r)=>mD (wE Φ e) (wAnds Φ (.cons f r))
noncomputable def wOrs (Φ:Phi):MEs->TEd
 |.nil=>λ_ _ _=>False
 |.cons e .nil=>wE Φ e
 |.cons e (.cons f r)=>sm (wE Φ e) (wOrs Φ (.cons f r))
noncomputable def wO (Φ:Phi):MO->TOd
 |.none=>ia
 |.some e=>ib (wE Φ e)
noncomputable def wT (Φ:Phi):MT->TTd
 |.tru e=>sj (wE Φ e)
 |.cmp op a b=>dG (wOp (opC op) (wE Φ a) (wE Φ b))
 |.chain op op' a b c=>dG (ci (opC op) (opC op') (wE Φ a) (wE Φ b) (wE Φ c))
 |.and ts=>wAndTs Φ ts
 |.or ts=>wOrTs Φ ts
 |.not t=>mz (wT Φ t)
noncomputable def wAndTs (Φ:Phi):MTs->TTd
 |.nil=>λ_ _ _=>False
 |.cons e .nil=>wT Φ e
 |.cons e (.cons f r)=>mC (wT Φ e) (wAndTs Φ (.cons f r))
noncomputable def wOrTs (Φ:Phi):MTs->TTd
 |.nil=>λ_ _ _=>False
 |.cons e .nil=>wT Φ e
 |.cons e (.cons f r)=>sk (wT Φ e) (wOrTs Φ (.cons f r))
noncomputable def wTl (Φ:Phi):MTs->List TTd
 |.nil=>[]
 |.cons t r=>wT Φ t::wTl Φ r
noncomputable def wI (Φ:Phi):MI->TId
 |.seq e=>sr (wE Φ e)
 |.rng1 a=>mH (aN (wE Φ a) bA)
 |.zip a b=>kz (wE Φ a) (wE Φ b)
 |.enum a=>mJ (wE Φ a)
 |.enum1 a=>jI (wE Φ a)
 |.chars a=>jH (wE Φ a)
noncomputable def wCl (Φ:Phi):MC->TCd
 |.last src g ifs elt=>eJ (wI Φ src) (bG g) (bo (wTl Φ ifs) (fh (wE Φ elt)))
 |.more src g ifs rest=>eJ (wI Φ src) (bG g) (bo (wTl Φ ifs) (wCl Φ rest))
noncomputable def wCmp (Φ:Phi) (fr:List (Option Nat)):MC->TEd
 |.last src g ifs elt=>ij fr (wI Φ src) (bG g) (bo (wTl Φ ifs) (fh (wE Φ elt)))
 |.more src g ifs rest=>ij fr (wI Φ src) (bG g) (bo (wTl Φ ifs) (wCl Φ rest))
end
mutual
noncomputable def wS (Φ:Phi):MS->TSd
 |.asg g e=>gP (wE Φ e) (bG g)
 |.par i j a b=>su (aN (wE Φ a) (aN (wE Φ b) bA)) (cr (cq i) (cr (cq j) iR))
 |.put o i e=>sK (wE Φ e) (wE Φ o) (wE Φ i)
 |.aug i op e=>sL i (opI op) (wE Φ e)
 |.drop e=>mL (wE Φ e)
 |.ret e=>iT (wE Φ e)
 |.ite c a b=>sIf (wT Φ c) (wSs Φ a) (wSs Φ b)
 |.for g src b=>kA (wI Φ src) (bG g) (wSs Φ b)
 |.while c b=>jx (wT Φ c) (wSs Φ b)
 |.bot=>λ_ _ _=>False
 |.pass=>fX
 |.brk=>jw
 |.cnt=>mK
noncomputable def wSs (Φ:Phi):MSs->TSd
 |.nil=>fX
 |.cons s r=>gO (wS Φ s) (wSs Φ r)
end
section
variable {Φ:Phi} (hΦ:∀ f,aS (Φ f))
include hΦ
mutual
theorem mE:∀ m,ae (wE Φ m)
 |.var _=>wP
 |.int _=>gJ
 |.bl _=>gJ
 |.non=>gJ
 |.str _=>gJ
 |.bin op a b=>eG (oU op) (mE a) (mE b)
 |.neg a=>zL oh (mE a)
 |.cmp op a b=>eG (bn op) (mE a) (mE b)
 |.and es=>mAnds es
 |.or es=>mOrs es
 |.not a=>uJ (mE a)
 |.ite c a b=>A6 (mT c) (mE a) (mE b)
 |.tup es=>i8 uw (mA es)
 |.lst es=>i8 uz (mA es)
 |.ix a b=>eG qK (mE a) (mE b)
 |.sl a lo hi=>A8 (mE a) (mO lo) (mO hi)
 |.call f es=>i8 (hΦ f) (mA es)
 |.blt f es=>i8 (yb f) (mA es)
 |.isin a T=>uL (mE a)
 |.chain op op' a b c=>fY (bn op) (bn op') (mE a) (mE b) (mE c)
 |.glob _ _=>gJ
 |.meth m o a=>Ad (yc m) (mE o) (aG (mE a) aB)
 |.comp fr _ c=>mCmp fr c
 |.fstr es=>mFs es _
 |.fmt a=>xN (mE a)
 |.join o a=>vb (mE o) (mE a)
 |.smeth m o a=>Aw (lU m) (mE o) (mE a)
 |.ixS a b=>eG oK (mE a) (mE b)
 |.slS a lo=>xS (mE a) (mO lo)
 |.slT a hi=>xX (mE a) (mO hi)
 |.revS a st=>vd (mE a) (gL (mE st))
 |.orL a b=>xO (mE a) (mE b)
theorem mA:∀ m,bw (wA Φ m)
 |.nil=>aB
 |.cons e r=>aG (mE e) (mA r)
theorem mFs:∀ m acc,ae (wFs Φ m acc)
 |.nil,_=>v9
 |.cons e r,_=>va (mE e) (mFs r)
theorem mAnds:∀ m,ae (wAnds Φ m)
 |.nil=>λ_ _ _ _ _ q=>q.elim
 |.cons e .nil=>mE e
 |.cons e (.cons f r)=>uI (mE e) (mAnds (.cons f r))
theorem mOrs:∀ m,ae (wOrs Φ m)
 |.nil=>λ_ _ _ _ _ q=>q.elim
 |.cons e .nil=>mE e
 |.cons e (.cons f r)=>xh (mE e) (mOrs (.cons f r))
theorem mO:∀ m,bX (wO Φ m)
 |.none=>qj
 |.some e=>gL (mE e)
theorem mT:∀ m,aI (wT Φ m)
 |.tru e=>xf (mE e)
 |.cmp op a b=>nS (eG (bn op) (mE a) (mE b))
 |.chain op op' a b c=>nS (fY (bn op) (bn op') (mE a) (mE b) (mE c))
 |.and ts=>mAndTs ts
 |.or ts=>mOrTs ts
 |.not t=>uG (mT t)
theorem mAndTs:∀ m,aI (wAndTs Φ m)
 |.nil=>λ_ _ _ _ _ q=>q.elim
 |.cons e .nil=>mT e
 |.cons e (.cons f r)=>uH (mT e) (mAndTs (.cons f r))
theorem mOrTs:∀ m,aI (wOrTs Φ m)
 |.nil=>λ_ _ _ _ _ q=>q.elim
 |.cons e .nil=>mT e
 |.cons e (.cons f r)=>xg (mT e) (mOrTs (.cons f r))
theorem mTl:∀ m,∀ t∈wTl Φ m,aI t
 |.nil=>by rw[wTl];intro t j;simp at j
 |.cons t r=>by
  rw[wTl];intro t' j
  rcases Jl.mp j with e|e
  ·rw[e];exact mT t
  ·exact mTl r t' e
theorem mI:∀ m,bN (wI Φ m)
 |.seq e=>xm (mE e)
 |.rng1 a=>uO (aG (mE a) aB)
 |.zip a b=>xo (mE a) (mE b)
 |.enum a=>uP (mE a)
 |.enum1 a=>tf (mE a)
 |.chars a=>t9 (mE a)
theorem mCl:∀ m,bY (wCl Φ m)
 |.last src g ifs elt=>iG (mI src) (aQ (bL (mE elt)) (mTl ifs))
 |.more src g ifs rest=>iG (mI src) (aQ (mCl rest) (mTl ifs))
theorem mCmp (fr:List (Option Nat)):∀ m,ae (wCmp Φ fr m)
 |.last src g ifs elt=>lr (mI src) (aQ (bL (mE elt)) (mTl ifs))
 |.more src g ifs rest=>lr (mI src) (aQ (mCl rest) (mTl ifs))
end
mutual
theorem mS:∀ m,aJ (wS Φ m)
 |.asg g e=>xu (mE hΦ e)
 |.par i j a b=>xv (aG (mE hΦ a) (aG (mE hΦ b) aB))
 |.put o i e=>xC (mE hΦ e) (mE hΦ o) (mE hΦ i)
 |.aug i op e=>xG (yd op) (mE hΦ e)
 |.drop e=>uS (mE hΦ e)
 |.ret e=>xq (mE hΦ e)
 |.ite c a b=>xt (mT hΦ c) (mSs a) (mSs b)
 |.for g src b=>xw (mI hΦ src) (mSs b)
 |.while c b=>sF (mT hΦ c) (mSs b)
 |.bot=>λ_ _ _ _ _ q=>q
 |.pass=>lw
 |.brk=>sv
 |.cnt=>uQ
theorem mSs:∀ m,aJ (wSs Φ m)
 |.nil=>lw
 |.cons s r=>uR (mS s) (mSs r)
end
end
end
variable {f:Pos->Bool}{b:Bool}{e:Expr}{es:List Expr}{env:Env}{l:Nat}
section
structure Ctx where
 Γ:List Str
 N:List Str
 sc:Scope
 fn:List Str
 cs:List (Str×D)
 lm:Nat
 nm:Str
noncomputable def glB (sc:Scope) (x:Str):Bool:=sc.names.lookup x==some .globalImplicit
noncomputable def ye (sc:Scope) (x:Str):Bool:=sc.names.lookup x==some .local || sc.names.lookup x==some .cell || sc.names.lookup x==some .free
noncomputable def tu (sc:Scope) (x:Str):Bool:=sc.names.lookup x==some .local || sc.names.lookup x==some .cell
noncomputable def aP:Expr->Bool
 |.Starred ..=>false
 |_=>true
noncomputable def vy:Expr->Bool
 |.Name ..|.Call ..|.Subscript ..|.Constant ..|.BinOp ..|.Attribute ..=>true
 |_=>false
noncomputable def ip:Expr->Bool
 |.Slice ..=>false
 |_=>true
noncomputable def jN:Expr->Bool
 |.ListComp ..|.SetComp ..|.DictComp ..=>false
 |_=>true
noncomputable def jO:Expr->Bool
 |.Set ..=>false
 |_=>true
noncomputable def iq:Expr->Bool
 |.Call _ (_::_) _ _=>true
 |.Call ..=>false
 |_=>true
noncomputable def opO:BOp->Nq
 |.add=>.Add|.sub=>.Sub|.mul=>.Mult|.fdiv=>.FloorDiv|.mod=>.Mod|.pow=>.Pow|.ext=>.Add
noncomputable def iW:COp->Qc
 |.eq=>.Eq|.ne=>.NotEq|.lt=>.Lt|.le=>.LtE|.gt=>.Gt|.ge=>.GtE|.is=>.Is|.isn=>.IsNot| .inStr=>.In|.inNon=>.In|.ninStr=>.NotIn
noncomputable def oV:BF->Str
 |.len=>"len"| .intS=>"int"|.lenS=>"len"|.abs=>"abs"|.max2=>"max"|.min2=>"min"|.int=>"int"| .tuple=>"tuple"| .all=>"all"|.any=>"any"| .str=>"str"
noncomputable def CA:MF->Str
 |.append=>"append"| .count=>"count"|.indexS=>"index"
noncomputable def CB:SM->Str
 |.split=>"split"|.part=>"partition"|.starts=>"startswith"
noncomputable def bltNames:List Str:=["len","abs","max","min","int","list","tuple","sum","isinstance","range","bool","str","dict","zip","enumerate","reversed","sorted","all","any","set"]
noncomputable def iX (sc osc:Scope):Scope :=
 { sc with names:=sc.names.map λ(n,k)=>if (k == .free&&osc.kind == .function&&osc.names.lookup n==some .cell) then (n,.cell) else (n,k) }
theorem qt (sc:Scope)(env:Env):relabel sc env=iX sc env.scope:=rfl
noncomputable def yf (sc osc:Scope) (oN N':List Str) (fr:List (Option Nat)):Bool :=
 decide (sc.kind = .function)&&decide ((sc.names.map (·.1)).Nodup)&&decide (N'.Nodup)
  && sc.names.all (λx=>!(x.2 == .free) || osc.names.lookup x.1==some .cell || osc.names.lookup x.1==some .free)
  && decide (fr.length=N'.length)
  && (KZ N'.length).all λi=>match fr[i]?,N'[i]? with
   |some (some j),some x=>decide (oN[j]? = some x)&&sc.names.any (λy=>decide (y=(x,JJ)))
   |_,_=>true
theorem pk {p:Prop}[d:Decidable p]{t:p->Bool}(h:dite p t (λ_=>false)=true):∃ c,t c=true:=by
 cases d with
 |isTrue c=>exact⟨c,h⟩
 |isFalse c=>cases h
noncomputable def dn (e:Expr) (f:Str->Pos->Bool):Bool:=if h:e.ctorIdx=23 then @Ti.elim (λ_=>Bool) e h f else false
@[elab_as_elim]
theorem dZ {P:Expr->Prop}(e:Expr){f:Str->Pos->Bool}(h:dn e f=true)(k:∀ a b,f a b=true->P (.Name a b)):P e :=
 (pk h).elim λc=>@Ti.elim (λe=>∀ c,@Ti.elim (λ_=>Bool) e c f=true->P e) e c (λa b _ h=>k a b h) c
noncomputable def cH (e:Expr) (f:Const->Nat->Pos->Bool):Bool:=if h:e.ctorIdx=19 then @QW.elim (λ_=>Bool) e h f else false
@[elab_as_elim]
theorem dz {P:Expr->Prop}(e:Expr){f:Const->Nat->Pos->Bool}(h:cH e f=true)(k:∀ a b c,f a b c=true->P (.Constant a b c)):P e :=
 (pk h).elim λc=>@QW.elim (λe=>∀ c,@QW.elim (λ_=>Bool) e c f=true->P e) e c (λa b c _ h=>k a b c h) c
noncomputable def vz (e:Expr) (f:Expr->Nq->Expr->Pos->Bool):Bool:=if h:e.ctorIdx=2 then @Tb.elim (λ_=>Bool) e h f else false
@[elab_as_elim]
theorem CC {P:Expr->Prop}(e:Expr){f:Expr->Nq->Expr->Pos->Bool}(h:vz e f=true)(k:∀ a b c d,f a b c d=true->P (.BinOp a b c d)):P e :=
 (pk h).elim λc=>@Tb.elim (λe=>∀ c,@Tb.elim (λ_=>Bool) e c f=true->P e) e c (λa b c d _ h=>k a b c d h) c
noncomputable def fZ (e:Expr) (f:UnaryOp->Expr->Pos->Bool):Bool:=if h:e.ctorIdx=3 then @RZ.elim (λ_=>Bool) e h f else false
@[elab_as_elim]
theorem iY {P:Expr->Prop}(e:Expr){f:UnaryOp->Expr->Pos->Bool}(h:fZ e f=true)(k:∀ a b c,f a b c=true->P (.UnaryOp a b c)):P e :=
 (pk h).elim λc=>@RZ.elim (λe=>∀ c,@RZ.elim (λ_=>Bool) e c f=true->P e) e c (λa b c _ h=>k a b c h) c
noncomputable def eW (e:Expr) (f:Expr->List Qc->List Expr->Pos->Bool):Bool:=if h:e.ctorIdx=15 then @S0.elim (λ_=>Bool) e h f else false
@[elab_as_elim]
theorem gb {P:Expr->Prop}(e:Expr){f:Expr->List Qc->List Expr->Pos->Bool}(h:eW e f=true)(k:∀ a b c d,f a b c d=true->P (.Compare a b c d)):P e :=
 (pk h).elim λc=>@S0.elim (λe=>∀ c,@S0.elim (λ_=>Bool) e c f=true->P e) e c (λa b c d _ h=>k a b c d h) c
noncomputable def eK (e:Expr) (f:BoolOp->List Expr->Pos->Bool):Bool:=if h:e.ctorIdx=0 then @SH.elim (λ_=>Bool) e h f else false
@[elab_as_elim]
theorem fK {P:Expr->Prop}(e:Expr){f:BoolOp->List Expr->Pos->Bool}(h:eK e f=true)(k:∀ a b c,f a b c=true->P (.BoolOp a b c)):P e :=
 (pk h).elim λc=>@SH.elim (λe=>∀ c,@SH.elim (λ_=>Bool) e c f=true->P e) e c (λa b c _ h=>k a b c h) c
noncomputable def vA (e:Expr) (f:Expr->Expr->Expr->Pos->Bool):Bool:=if h:e.ctorIdx=5 then @Tc.elim (λ_=>Bool) e h f else false
@[elab_as_elim]
theorem CD {P:Expr->Prop}(e:Expr){f:Expr->Expr->Expr->Pos->Bool}(h:vA e f=true)(k:∀ a b c d,f a b c d=true->P (.IfExp a b c d)):P e :=
 (pk h).elim λc=>@Tc.elim (λe=>∀ c,@Tc.elim (λ_=>Bool) e c f=true->P e) e c (λa b c d _ h=>k a b c d h) c
noncomputable def dA (e:Expr) (f:List Expr->Nat->Pos->Bool):Bool:=if h:e.ctorIdx=25 then @Td.elim (λ_=>Bool) e h f else false
@[elab_as_elim]
theorem eX {P:Expr->Prop}(e:Expr){f:List Expr->Nat->Pos->Bool}(h:dA e f=true)(k:∀ a b c,f a b c=true->P (.Tuple a b c)):P e :=
 (pk h).elim λc=>@Td.elim (λe=>∀ c,@Td.elim (λ_=>Bool) e c f=true->P e) e c (λa b c _ h=>k a b c h) c
noncomputable def z9 (e:Expr) (f:List Expr->Pos->Bool):Bool:=if h:e.ctorIdx=24 then @Tj.elim (λ_=>Bool) e h f else false
@[elab_as_elim]
theorem E3 {P:Expr->Prop}(e:Expr){f:List Expr->Pos->Bool}(h:z9 e f=true)(k:∀ a b,f a b=true->P (.List a b)):P e :=
 (pk h).elim λc=>@Tj.elim (λe=>∀ c,@Tj.elim (λ_=>Bool) e c f=true->P e) e c (λa b _ h=>k a b h) c
noncomputable def cP (e:Expr) (f:Expr->Expr->Pos->Bool):Bool:=if h:e.ctorIdx=21 then @Qr.elim (λ_=>Bool) e h f else false
@[elab_as_elim]
theorem ef {P:Expr->Prop}(e:Expr){f:Expr->Expr->Pos->Bool}(h:cP e f=true)(k:∀ a b c,f a b c=true->P (.Subscript a b c)):P e :=
 (pk h).elim λc=>@Qr.elim (λe=>∀ c,@Qr.elim (λ_=>Bool) e c f=true->P e) e c (λa b c _ h=>k a b c h) c
noncomputable def mZ (e:Expr) (f:Expr->List Expr->List NP->Pos->Bool):Bool:=if h:e.ctorIdx=16 then @Tn.elim (λ_=>Bool) e h f else false
@[elab_as_elim]
theorem tw {P:Expr->Prop}(e:Expr){f:Expr->List Expr->List NP->Pos->Bool}(h:mZ e f=true)(k:∀ a b c d,f a b c d=true->P (.Call a b c d)):P e :=
 (pk h).elim λc=>@Tn.elim (λe=>∀ c,@Tn.elim (λ_=>Bool) e c f=true->P e) e c (λa b c d _ h=>k a b c d h) c
noncomputable def jP (e:Expr) (f:Expr->Str->Pos->Bool):Bool:=if h:e.ctorIdx=20 then @Qs.elim (λ_=>Bool) e h f else false
@[elab_as_elim]
theorem tz {P:Expr->Prop}(e:Expr){f:Expr->Str->Pos->Bool}(h:jP e f=true)(k:∀ a b c,f a b c=true->P (.Attribute a b c)):P e :=
 (pk h).elim λc=>@Qs.elim (λe=>∀ c,@Qs.elim (λ_=>Bool) e c f=true->P e) e c (λa b c _ h=>k a b c h) c
noncomputable def vB (e:Expr) (f:Option Expr->Option Expr->Option Expr->Pos->Bool):Bool:=if h:e.ctorIdx=26 then @Te.elim (λ_=>Bool) e h f else false
@[elab_as_elim]
theorem CF {P:Expr->Prop}(e:Expr){f:Option Expr->Option Expr->Option Expr->Pos->Bool}(h:vB e f=true)(k:∀ a b c d,f a b c d=true->P (.Slice a b c d)):P e :=
 (pk h).elim λc=>@Te.elim (λe=>∀ c,@Te.elim (λ_=>Bool) e c f=true->P e) e c (λa b c d _ h=>k a b c d h) c
noncomputable def lX (e:Expr) (f:Expr->List K3->Scope->Pos->Bool):Bool:=if h:e.ctorIdx=8 then @QX.elim (λ_=>Bool) e h f else false
@[elab_as_elim]
theorem vC {P:Expr->Prop}(e:Expr){f:Expr->List K3->Scope->Pos->Bool}(h:lX e f=true)(k:∀ a b c d,f a b c d=true->P (.ListComp a b c d)):P e :=
 (pk h).elim λc=>@QX.elim (λe=>∀ c,@QX.elim (λ_=>Bool) e c f=true->P e) e c (λa b c d _ h=>k a b c d h) c
noncomputable def jQ (e:Expr) (f:List Expr->Pos->Bool):Bool:=if h:e.ctorIdx=18 then @Qt.elim (λ_=>Bool) e h f else false
@[elab_as_elim]
theorem tD {P:Expr->Prop}(e:Expr){f:List Expr->Pos->Bool}(h:jQ e f=true)(k:∀ a b,f a b=true->P (.JoinedStr a b)):P e :=
 (pk h).elim λc=>@Qt.elim (λe=>∀ c,@Qt.elim (λ_=>Bool) e c f=true->P e) e c (λa b _ h=>k a b h) c
noncomputable def fu (e:Expr) (f:Expr->Int->Option Expr->Pos->Bool):Bool:=if h:e.ctorIdx=17 then @Og.elim (λ_=>Bool) e h f else false
@[elab_as_elim]
theorem jR {P:Expr->Prop}(e:Expr){f:Expr->Int->Option Expr->Pos->Bool}(h:fu e f=true)(k:∀ a b c d,f a b c d=true->P (.FormattedValue a b c d)):P e :=
 (pk h).elim λc=>@Og.elim (λe=>∀ c,@Og.elim (λ_=>Bool) e c f=true->P e) e c (λa b c d _ h=>k a b c d h) c
noncomputable def gc (e:Stmt) (f:List Expr->Expr->Pos->Bool):Bool:=if h:e.ctorIdx=5 then @SJ.elim (λ_=>Bool) e h f else false
@[elab_as_elim]
theorem iZ {P:Stmt->Prop}(e:Stmt){f:List Expr->Expr->Pos->Bool}(h:gc e f=true)(k:∀ a b c,f a b c=true->P (.Assign a b c)):P e :=
 (pk h).elim λc=>@SJ.elim (λe=>∀ c,@SJ.elim (λ_=>Bool) e c f=true->P e) e c (λa b c _ h=>k a b c h) c
noncomputable def iK (e:Stmt) (f:Expr->Nq->Expr->Pos->Bool):Bool:=if h:e.ctorIdx=7 then @Qu.elim (λ_=>Bool) e h f else false
@[elab_as_elim]
theorem qw {P:Stmt->Prop}(e:Stmt){f:Expr->Nq->Expr->Pos->Bool}(h:iK e f=true)(k:∀ a b c d,f a b c d=true->P (.AugAssign a b c d)):P e :=
 (pk h).elim λc=>@Qu.elim (λe=>∀ c,@Qu.elim (λ_=>Bool) e c f=true->P e) e c (λa b c d _ h=>k a b c d h) c
noncomputable def vD (e:Stmt) (f:Expr->Pos->Bool):Bool:=if h:e.ctorIdx=24 then @To.elim (λ_=>Bool) e h f else false
@[elab_as_elim]
theorem CG {P:Stmt->Prop}(e:Stmt){f:Expr->Pos->Bool}(h:vD e f=true)(k:∀ a b,f a b=true->P (.Expr a b)):P e :=
 (pk h).elim λc=>@To.elim (λe=>∀ c,@To.elim (λ_=>Bool) e c f=true->P e) e c (λa b _ h=>k a b h) c
noncomputable def oW (e:Stmt) (f:Option Expr->Pos->Bool):Bool:=if h:e.ctorIdx=3 then @SK.elim (λ_=>Bool) e h f else false
@[elab_as_elim]
theorem yg {P:Stmt->Prop}(e:Stmt){f:Option Expr->Pos->Bool}(h:oW e f=true)(k:∀ a b,f a b=true->P (.Return a b)):P e :=
 (pk h).elim λc=>@SK.elim (λe=>∀ c,@SK.elim (λ_=>Bool) e c f=true->P e) e c (λa b _ h=>k a b h) c
noncomputable def CH (e:Stmt) (f:Expr->List Stmt->List Stmt->Pos->Bool):Bool:=if h:e.ctorIdx=12 then @Stmt.If.elim (λ_=>Bool) e h f else false
@[elab_as_elim]
theorem Fe {P:Stmt->Prop}(e:Stmt){f:Expr->List Stmt->List Stmt->Pos->Bool}(h:CH e f=true)(k:∀ a b c d,f a b c d=true->P (.If a b c d)):P e :=
 (pk h).elim λc=>@Stmt.If.elim (λe=>∀ c,@Stmt.If.elim (λ_=>Bool) e c f=true->P e) e c (λa b c d _ h=>k a b c d h) c
noncomputable def za (e:Stmt) (f:Expr->Expr->List Stmt->List Stmt->Pos->Bool):Bool:=if h:e.ctorIdx=9 then @Stmt.For.elim (λ_=>Bool) e h f else false
@[elab_as_elim]
theorem E4 {P:Stmt->Prop}(e:Stmt){f:Expr->Expr->List Stmt->List Stmt->Pos->Bool}(h:za e f=true)(k:∀ a b c d e,f a b c d e=true->P (.For a b c d e)):P e :=
 (pk h).elim λc=>@Stmt.For.elim (λe=>∀ c,@Stmt.For.elim (λ_=>Bool) e c f=true->P e) e c (λa b c d e _ h=>k a b c d e h) c
noncomputable def qT (e:Stmt) (f:Expr->List Stmt->List Stmt->Pos->Bool):Bool:=if h:e.ctorIdx=11 then @Tf.elim (λ_=>Bool) e h f else false
@[elab_as_elim]
theorem AD {P:Stmt->Prop}(e:Stmt){f:Expr->List Stmt->List Stmt->Pos->Bool}(h:qT e f=true)(k:∀ a b c d,f a b c d=true->P (.While a b c d)):P e :=
 (pk h).elim λc=>@Tf.elim (λe=>∀ c,@Tf.elim (λ_=>Bool) e c f=true->P e) e c (λa b c d _ h=>k a b c d h) c
noncomputable def vE (e:Stmt) (f:Pos->Bool):Bool:=if h:e.ctorIdx=25 then @Tp.elim (λ_=>Bool) e h f else false
@[elab_as_elim]
theorem CI {P:Stmt->Prop}(e:Stmt)(h:vE e f=true)(k:∀ a,f a=true->P (.Pass a)):P e :=
 (pk h).elim λc=>@Tp.elim (λe=>∀ c,@Tp.elim (λ_=>Bool) e c f=true->P e) e c (λa _ h=>k a h) c
noncomputable def qU (e:Stmt) (f:Pos->Bool):Bool:=if h:e.ctorIdx=26 then @Tg.elim (λ_=>Bool) e h f else false
@[elab_as_elim]
theorem AE {P:Stmt->Prop}(e:Stmt)(h:qU e f=true)(k:∀ a,f a=true->P (.Break a)):P e :=
 (pk h).elim λc=>@Tg.elim (λe=>∀ c,@Tg.elim (λ_=>Bool) e c f=true->P e) e c (λa _ h=>k a h) c
noncomputable def jS (e:Stmt) (f:Pos->Bool):Bool:=if h:e.ctorIdx=27 then @QY.elim (λ_=>Bool) e h f else false
@[elab_as_elim]
theorem tE {P:Stmt->Prop}(e:Stmt)(h:jS e f=true)(k:∀ a,f a=true->P (.Continue a)):P e :=
 (pk h).elim λc=>@QY.elim (λe=>∀ c,@QY.elim (λ_=>Bool) e c f=true->P e) e c (λa _ h=>k a h) c
noncomputable def lv0 {α:Type} (xs:List α) (b:Bool):Bool:=xs.isEmpty&&b
noncomputable def lvc {α:Type} (xs:List α) (f : α -> List α -> Bool):Bool:=match xs with
 |y::r=>f y r
 |[]=>false
noncomputable def lv1 {α:Type} (xs:List α) (f : α -> Bool):Bool:=lvc xs λy r=>lv0 r (f y)
noncomputable def lv2 {α:Type} (xs:List α) (f : α -> α -> Bool):Bool:=lvc xs λy r=>lv1 r (f y)
noncomputable def os {α:Type} (o:Option α) (f : α -> Bool):Bool:=match o with
 |some x=>f x
 |none=>false
noncomputable def on {α:Type} (o:Option α) (b:Bool):Bool:=o.isNone&&b
@[elab_as_elim]
theorem oX {α:Type}{P:List α -> Prop}(xs:List α)(h:lv0 xs b=true)(k:b=true->P []):P xs:=by
 cases xs with
 |nil=>exact k h
 |cons _ _=>cases h
@[elab_as_elim]
theorem CJ {α:Type}{P:List α -> Prop}(xs:List α){f : α -> List α -> Bool}(h:lvc xs f=true)(k:∀ y r,f y r=true->P (y::r)):P xs:=by
 cases xs with
 |nil=>cases h
 |cons y r=>exact k y r h
@[elab_as_elim]
theorem cB {α:Type}{P:List α -> Prop}(xs:List α){f : α -> Bool}(h:lv1 xs f=true)(k:∀ y,f y=true->P [y]):P xs :=
 CJ xs h λy r h=>oX r h λh=>k y h
@[elab_as_elim]
theorem gd {α:Type}{P:List α -> Prop}(xs:List α){f : α -> α -> Bool}(h:lv2 xs f=true)(k:∀ y z,f y z=true->P [y,z]):P xs :=
 CJ xs h λy r h=>cB r h λz h=>k y z h
@[elab_as_elim]
theorem jos {α:Type}{P:Option α -> Prop}(o:Option α){f : α -> Bool}(h:os o f=true)(k:∀ x,f x=true->P (some x)):P o:=by
 cases o with
 |none=>cases h
 |some x=>exact k x h
@[elab_as_elim]
theorem jon {α:Type}{P:Option α -> Prop}(o:Option α)(h:on o b=true)(k:b=true->P none):P o:=by
 cases o with
 |none=>exact k h
 |some x=>cases h
theorem bF {a:Bool}(h:(a&&b)=true):a=true/\b=true:=by rwa[hX]at h
noncomputable def eY (e:Expr) (g:Str->List Expr->Bool):Bool:=mZ e λf xs ks _=>lv0 ks (dn f λx _=>g x xs)
@[elab_as_elim]
theorem fL {P:Expr->Prop}(e:Expr){g:Str->List Expr->Bool}(h:eY e g=true)(k:∀ x xs p pos,g x xs=true->P (.Call (.Name x p) xs [] pos)):P e :=
 tw e h λf xs ks pos h=>oX ks h λh=>dZ f h λx p h=>k x xs p pos h
noncomputable def n8 (e:Expr) (g:Expr->Str->List Expr->Pos->Pos->Bool):Bool:=mZ e λf xs ks p=>lv0 ks (jP f λo n q=>g o n xs q p)
@[elab_as_elim]
theorem tF {P:Expr->Prop}(e:Expr){g:Expr->Str->List Expr->Pos->Pos->Bool}(h:n8 e g=true)(k:∀ o n xs q p,g o n xs q p=true->P (.Call (.Attribute o n q) xs [] p)):P e :=
 tw e h λf xs ks pos h=>oX ks h λh=>tz f h λo n q h=>k o n xs q pos h
noncomputable def iSl (e:Expr) (g:Expr->Option Expr->Option Expr->Option Expr->Bool):Bool:=cP e λx y _=>vB y λl u s _=>g x l u s
@[elab_as_elim]
theorem jSl {P:Expr->Prop}(e:Expr){g:Expr->Option Expr->Option Expr->Option Expr->Bool}(h:iSl e g=true)(k:∀ x l u s p pos,g x l u s=true->P (.Subscript x (.Slice l u s p) pos)):P e :=
 ef e h λx y pos h=>CF y h λl u s p h=>k x l u s p pos h
mutual
noncomputable def okG:MG->Ctx->Expr->Bool
 |.name i,C,e=>dn e λx _=>decide (C.N[i]? = some x)&&tu C.sc x&&(C.sc.names.lookup x==some .local || C.fn.contains x)
 |.tup gs,C,e=>dA e λes _ _=>okGs gs C es
noncomputable def okGs:MGs->Ctx->List Expr->Bool
 |.nil,_,es=>es.isEmpty
 |.cons g r,C,es=>match es with
  |e::es=>aP e&&okG g C e&&okGs r C es
  |[]=>false
end
mutual
noncomputable def okE:ME->Ctx->Expr->Bool
 |.var i,C,e=>dn e λx _=>decide (C.N[i]? = some x)&&ye C.sc x && !(x==("__debug__":Str)) && !(x==("__classdict__":Str))
 |.int i,_,e=>cH e λc _ _=>decide (c = .int i)
 |.bl i,_,e=>cH e λc _ _=>decide (c = .bool i)
 |.non,_,e=>cH e λc _ _=>decide (c = .none)
 |.str i,_,e=>cH e λc _ _=>decide (c = .str i)
 |.bin op a b,C,e=>vz e λl o r _=>decide (o=opO op)&&okE a C l&&okE b C r
 |.neg a,C,e=>fZ e λo x _=>decide (o = .USub)&&okE a C x
 |.cmp op a b,C,e=>eW e λl os rs _=>lv1 os λo=>lv1 rs λr=>decide (o=iW op)&&okE a C l&&okE b C r && !(LG o r)
 |.and es,C,e=>eK e λo xs _=>decide (o = .And) && !xs.isEmpty&&okEs es C xs
 |.or es,C,e=>eK e λo xs _=>decide (o = .Or) && !xs.isEmpty&&okEs es C xs
 |.not a,C,e=>fZ e λo x _=>decide (o = .Not)&&okE a C x
 |.ite c a b,C,e=>vA e λt x y _=>okT c C t&&okE a C x&&okE b C y
 |.tup es,C,e=>dA e λxs _ _=>okEs es C xs
 |.lst es,C,e=>z9 e λxs _=>okEs es C xs
 |.ix a b,C,e=>cP e λx y _=>ip y&&okE a C x&&okE b C y
 |.sl a lo hi,C,e=>iSl e λx l u s=>on s (okE a C x&&okO lo C l&&okO hi C u)
 |.call f es,C,e=>eY e λx xs=>decide (C.Γ[f]? = some x)&&glB C.sc x && !(x==("__debug__":Str))&&okEs es C xs
 |.blt f es,C,e=>eY e λx xs=>decide (x=oV f)&&glB C.sc x && !xs.isEmpty&&okEs es C xs
 |.isin a T,C,e=>eY e λx xs=>lv2 xs λy w=>dn w λz _=>decide (x = "isinstance")&&glB C.sc x&&glB C.sc z&&decide (z=gV T)&&decide (T∈["bool","int","str","tuple","list","dict"])&&aP y&&okE a C y
 |.chain op op' a b c,C,e=>eW e λl os rs _=>lv2 os λo o'=>lv2 rs λr q=>decide (o=iW op)&&decide (o'=iW op')&&okE a C l&&okE b C r&&okE c C q && !(Pa [o,o'] [r,q])
 |.glob x k,C,e=>dn e λy _=>decide (y=x)&&glB C.sc y&&decide ((x,k)∈C.cs) && !(x==("__debug__":Str))
 |.meth m o a,C,e=>n8 e λx n xs ap cp=>lv1 xs λy=>decide (n=CA m)&&iq x&&(ap.endLine==cp.line)&&aP y&&okE o C x&&okE a C y
 |.comp fr N' c,C,e=>lX e λelt gens sc _=>yf sc C.sc C.N N' fr&&okC c C ⟨C.Γ,N',iX sc C.sc,(sc.names.filter (·.2 == .cell)).map (·.1),C.cs,0,C.nm⟩ gens elt
 |.fstr es,C,e=>jQ e λxs _=>decide (2<=xs.length)&&okEs es C xs
 |.fmt a,C,e=>fu e λx c s _=>on s (decide (c = -1)&&okE a C x)
 |.join o a,C,e=>n8 e λx n xs ap cp=>lv1 xs λy=>decide (n = "join")&&iq x&&(ap.endLine==cp.line)&&aP y&&okE o C x&&okE a C y
 |.smeth m o a,C,e=>n8 e λx n xs ap cp=>lv1 xs λy=>decide (n=CB m)&&iq x&&(ap.endLine==cp.line)&&aP y&&okE o C x&&okE a C y
 |.ixS a b,C,e=>cP e λx y _=>ip y&&okE a C x&&okE b C y
 |.slS a lo,C,e=>iSl e λx l u s=>on s (on u (okE a C x&&okO lo C l))
 |.slT a hi,C,e=>iSl e λx l u s=>on s (on l (okE a C x&&okO hi C u))
 |.revS a st,C,e=>iSl e λx l u s=>on l (on u (os s λs=>okE a C x&&okE st C s))
 |.orL a b,C,e=>eK e λo xs _=>lv2 xs λx y=>decide (o = .Or)&&okE a C x&&okE b C y
noncomputable def okEs:MEs->Ctx->List Expr->Bool
 |.nil,_,es=>es.isEmpty
 |.cons m r,C,es=>match es with
  |e::es=>aP e&&okE m C e&&okEs r C es
  |[]=>false
noncomputable def okO:MO->Ctx->Option Expr->Bool
 |.none,_,e=>e.isNone
 |.some m,C,e=>match e with
  |some e=>okE m C e
  |none=>false
noncomputable def okT:MT->Ctx->Expr->Bool
 |.tru m,C,e=>vy e&&okE m C e
 |.cmp op a b,C,e=>eW e λl os rs _=>lv1 os λo=>lv1 rs λr=>decide (o=iW op)&&okE a C l&&okE b C r && !(LG o r)
 |.chain op op' a b c,C,e=>eW e λl os rs _=>lv2 os λo o'=>lv2 rs λr q=>decide (o=iW op)&&decide (o'=iW op')&&okE a C l&&okE b C r&&okE c C q && !(Pa [o,o'] [r,q])
 |.and ts,C,e=>eK e λo xs _=>decide (o = .And) && !xs.isEmpty&&okTs ts C xs
 |.or ts,C,e=>eK e λo xs _=>decide (o = .Or) && !xs.isEmpty&&okTs ts C xs
 |.not t,C,e=>fZ e λo x _=>decide (o = .Not)&&okT t C x
noncomputable def okTs:MTs->Ctx->List Expr->Bool
 |.nil,_,es=>es.isEmpty
 |.cons m r,C,es=>match es with
  |e::es=>okT m C e&&okTs r C es
  |[]=>false
noncomputable def okI:MI->Ctx->Expr->Expr->Bool
 |.seq m,C,_,e=>jO e&&okE m C e
 |.rng1 a,C,_,e=>eY e λx xs=>lv1 xs λy=>decide (x = "range")&&glB C.sc x&&aP y&&okE a C y
 |.enum a,C,t,e=>eY e λx xs=>lv1 xs λy=>dA t λ_ _ _=>decide (x = "enumerate")&&glB C.sc x&&aP y&&okE a C y
 |.enum1 a,C,t,e=>mZ e λf xs ks _=>dn f λx _=>lv1 xs λy=>lv1 ks λq=>cH q.value λc _ _=>dA t λ_ _ _=>decide (x = "enumerate")&&glB C.sc x&&aP y&&decide (q.arg=some "start")&&decide (c = .int 1)&&okE a C y
 |.chars m,C,_,e=>jO e&&okE m C e
 |.zip a b,C,t,e=>eY e λx xs=>lv2 xs λy z=>dA t λ_ _ _=>decide (x = "zip")&&glB C.sc x&&aP y&&aP z&&okE a C y&&okE b C z
noncomputable def okC:MC->Ctx->Ctx->List K3->Expr->Bool
 |.last src g ifs m,Cs,C,gens,elt=>match gens with
  |[⟨t,it,fs,a⟩]=>decide (a=0)&&okI src Cs t it&&okG g C t&&okTs ifs C fs&&okE m C elt
  |_=>false
 |.more src g ifs rest,Cs,C,gens,elt=>match gens with
  |⟨t,it,fs,a⟩::g2::gs=>decide (a=0)&&okI src Cs t it&&okG g C t&&okTs ifs C fs&&okC rest C C (g2::gs) elt
  |_=>false
end
noncomputable def be (sc:Scope) (ts:List Expr):List Str:=ts.filterMap fun
 |.Name id pos=>if sc.names.lookup id==some .local&&pos.line==(ts.head?.map (·.pos.line)).getD 0 then some id else none
 |_=>none
noncomputable def tG (sc:Scope) (ts vs:List Expr):Bool:=!(ts.length==2 || ts.length==3) || vs.length != ts.length || (be sc ts).length != ts.length || (be sc ts).eraseDups.length != (be sc ts).length || vs.all (QZ 8)
noncomputable def tH (C:Ctx) (i:Nat) (x:Str):Bool:=decide (C.N[i]? = some x)&&decide (C.sc.names.lookup x=some .local)
noncomputable def tI (sc:Scope) (ts vs:List Expr) (ns:List Str):Bool:=!(!(ts.length==2 || ts.length==3) || vs.length != ts.length) && !(vs.any λ| .Starred ..=>true|_=>false)&&decide (be sc ts=ns) && !((be sc ts).length != ts.length || (be sc ts).eraseDups.length != (be sc ts).length) && !(vs.all (QZ 8)) && !(vs.all (constantsAlone 8))
noncomputable def zb (sc:Scope) (tg e:Expr):Bool:=match tg,e with
 |.Tuple ts _ _,.Tuple vs _ _=>tG sc ts vs
 |.Tuple ..,_=>true
 |.Name ..,_=>true
 |_,_=>false
noncomputable def CK (sc:Scope) (x:Str) (px:Pos) (e:Expr):Bool:=match e with
 |.DictComp _ _ _ s _=>!(sc.names.lookup x==some .local&&px.line==e.pos.line && !(s.names.any λ(n,k)=>n==x&&(k == .local || k == .cell)))
 |_=>true
noncomputable def tJ (sc:Scope) (x:Str) (px:Pos) (e:Expr):Bool:=match e with
 |.ListComp _ _ s _=>sc.names.lookup x==some .local&&px.line==e.pos.line && !(s.names.any λ(n,k)=>n==x&&(k == .local || k == .cell))
 |_=>false
mutual
noncomputable def okS:MS->Ctx->Stmt->Bool
 |.asg g m,C,s=>gc s λts e _=>lv1 ts λtg=>okG g C tg&&okE m C e&&zb C.sc tg e&&(match tg with|.Name x px=>CK C.sc x px e|_=>jN e)
 |.par i j a b,C,s=>gc s λts e _=>lv1 ts λtg=>dA tg λts _ _=>dA e λes _ _=>lv2 ts λt u=>lv2 es λe f=>dn t λx px=>dn u λy py=>tH C i x&&tH C j y&&decide (i≠j)&&aP e&&aP f&&okE a C e&&okE b C f&&tI C.sc [.Name x px,.Name y py] [e,f] [x,y]
 |.put o i m,C,s=>gc s λts e _=>lv1 ts λtg=>cP tg λx y _=>ip y&&jN e&&okE o C x&&okE i C y&&okE m C e
 |.aug i op m,C,s=>iK s λt o e _=>dn t λx _=>decide (o=opO op)&&(match op with|.add|.sub|.mul|.ext=>true|_=>false)&&decide (C.N[i]? = some x)&&tu C.sc x&&(C.sc.names.lookup x==some .local || C.fn.contains x)&&okE m C e
 |.drop m,C,s=>vD s λe _=>jN e&&okE m C e
 |.ret m,C,s=>oW s λo _=>os o λe=>okE m C e
 |.ite c a b,C,s=>CH s λt x y _=>okT c C t&&okSs a C x&&okSs b C y
 |.for g src b,C,s=>za s λtg it body els _=>lv0 els (jO it&&okG g C tg&&okI src C tg it&&okSs b C body)
 |.while c b,C,s=>qT s λt body els _=>lv0 els (okT c C t&&okSs b C body)
 |.bot,_,_=>true
 |.pass,_,s=>vE s λ_=>true
 |.brk,_,s=>qU s λ_=>true
 |.cnt,_,s=>jS s λ_=>true
noncomputable def okSs:MSs->Ctx->List Stmt->Bool
 |.nil,_,ss=>ss.isEmpty
 |.cons m r,C,ss=>match ss with
  |s::ss=>okS m C s&&okSs r C ss
  |[]=>false
end
theorem ak (h:aP e=true):Jt (e::es) env=(false,eval e env)::Jt es env:=by
 cases e <;> first|rfl|(cases h;done)
theorem lY (h:aP e=true):L4 (e::es) env=(false,assign e env)::L4 es env:=by
 cases e <;> first|rfl|(cases h;done)
theorem tK (h:vy e=true):∀ whole,isTrue e env whole=(do let v <- whole;Np e.pos;holding [v] (truthy v)):=by
 intro w
 cases e <;> first|rfl|(cases h;done)
theorem oY (h:ip e=true):kl e:=by
 intro o i
 cases e <;> first|rfl|(cases h;done)
theorem jT (h:jO e=true):∀ x,KL e env x=pure x:=by
 intro x
 cases e <;> first|rfl|(cases h;done)
theorem cC {n:Str}(h:iq e=true):NM e n env (eval e env)=eval e env:=by
 cases e <;> first
  |rfl
  | (rename_i f xs _ _;cases xs with
     |nil=>cases h
     |cons _ _=>cases f <;> rfl)
theorem kF {t:Option Expr}(h:jN e=true):L3 e t l env=pure false:=by
 cases e <;> first|rfl|(cases h;done)
end
variable {x:Str}{p pos:Pos}{sc:Scope}
section
noncomputable def lSp (K:Frag) (r:RAd):Sp:=λvs H Q _=>lR K r vs H Q
noncomputable def E5 (Φ:Phi) (j:Nat) (gs:List D) (js:List Nat):RAd:=λargs M Q=>args.length=2 /\ Φ (4000+j) (js.map λi=>(gs++args).getD i .non) M Q
noncomputable def spC (P:Jy) (w:JQ) (K:Frag) (mg:Str->Option hW) (base:Heap) (k:Nat) (Φ:Phi) (i:Nat):List Env->z0->Sp:=λouter s vs H Q _ =>
 ∃ (ds:List D) (a:Addr) (j:Nat) (gs:List D) (js:List Nat) (M:Mem),RM K M H/\RDs K H (ds++[.ref a]) vs/\DC P w K mg base (k - 1) (frs outer) a (lSp K (E5 Φ j gs js)) H s.heap /\ Φ (1000+i) (ds++[.ref a,.int j,.tup gs,.tup (js.map λi:Nat=>.int i)]) M (KE' K M H Q)
def CL (X:Cx) (a:Addr) (r:RAd):Prop:=∀ (pins:List (Addr×Obj)) (s:z0) (σ:St) (H:Hp) (vs:List V) (us:List hW) (Q:VK),Inv X pins σ H s->Vals vs us->lR X.K r vs H Q ->
 PySem.W.FnAt a s.heap/\Jm (model X.prog X.w) X.A (call (.ref a) us) (EP X pins σ Q) X.xe s
structure CM (C:Ctx) (Φ:Phi) (k:Nat) (X:Cx) (P:Addr):Prop where
 cd:∃ c,X.env.code = .ref c/\PySem.W.CodeHd X.base c P
 bm:F6 X.mg X.base
 qu:X.env.qual=C.nm++(".<locals>.":Str)
 spc:∀ (i:Nat) (x:Str),C.Γ[i]? = some x -> ∃ f fd ps,X.mg x=some (.ref f)/\KN X.K (.ref f)=true/\Binds X.K fd ps []/\DE X.prog X.w X.K X.mg X.base k f fd ps (spC X.prog X.w X.K X.mg X.base k Φ i)
 low:∀ (j:Nat) (x:Str),C.Γ[j]? = some x -> ∃ f fd ps,X.mg x=some (.ref f)/\KN X.K (.ref f)=true/\Binds X.K fd ps []/\br X.prog X.w X.K X.mg X.base CX0 (k - 2) f fd ps (lSp X.K (Φ (4000+j)))
 big:(∃ k0,k=k0+2)∨∀ (j:Nat) (x:Str),C.Γ[j]? = some x -> ∀ ds M Q,¬ Φ (4000+j) ds M Q
structure Good (C:Ctx) (Φ:Phi) (k:Nat) (X:Cx):Prop where
 hx:∀ e s,X.xe e s->False
 calm:X.calm=true
 N:X.N=C.N
 sc:X.env.scope=C.sc
 nd:X.N.Nodup
 fn:∀ x∈C.fn,X.fn x=true
 room:Room k X.A
 mgB:∀ x∈bltNames,X.mg x=none
 fns:∀ (i:Nat) (x:Str),C.Γ[i]? = some x -> ∃ f fd ps,X.mg x=some (.ref f)/\Lg X.K K6 x=some (some (.ref f))/\KN X.K (.ref f)=true/\Binds X.K fd ps []/\br X.prog X.w X.K X.mg X.base CX0 k f fd ps (lSp X.K (Φ i))
 mono:∀ f,aS (Φ f)
 cs:∀ x d,(x,d)∈C.cs -> ∃ u,X.mg x=some u/\GV X.K d u
 clo:C.lm=1 -> ∀ a,CL X a (Φ (5000+a))
 lam:∀ P,C.lm=P+2->CM C Φ k X P
section
variable {C:Ctx} {Φ:Phi} {k:Nat} {X:Cx}
theorem Good.units (G:Good C Φ k X):X.A.units+64<Qf:=G.room.units
theorem Good.gl (G:Good C Φ k X)(h:glB C.sc x=true):Gl X x:=by
 show X.env.scope.names.lookup x=_;rw[G.sc];simpa[glB]using h
theorem Good.vis (G:Good C Φ k X)(h:ye C.sc x=true):Vis X.env.scope x:=by
 unfold Vis;rw[G.sc];simp[ye]at h
 rcases h with(h|h)|h
 ·exact .inl h
 ·exact .inr (.inl h)
 ·exact .inr (.inr h)
theorem Good.loc (G:Good C Φ k X)(h:tu C.sc x=true):Loc X.env.scope x:=by
 unfold Loc;rw[G.sc];simpa[tu]using h
theorem Good.own (G:Good C Φ k X)(h:(C.sc.names.lookup x==some .local || C.fn.contains x)=true):X.fn x=true∨X.env.scope.names.lookup x=some .local:=by
 rw[G.sc];simp at h
 rcases h with h|h
 ·exact .inr h
 ·exact .inl (G.fn x h)
theorem CN (G:Good C Φ k X):∀ o:BOp,OpR X (Kx (opO o)) (l2 X.K (opB o))
 |.add=>oa|.sub=>wW|.mul=>wX|.fdiv=>uE|.mod=>wZ|.pow=>xa|.ext=>oa
theorem eL (G:Good C Φ k X):∀ o:COp,OpR X (JM (iW o)) (l2 X.K (opC o))
 |.eq=>zQ (by have:=G.units;lia)|.ne=>zR (by have:=G.units;lia)|.lt=>zW|.le=>zX|.gt=>zY|.ge=>zZ|.is=>Al|.isn=>xJ| .inStr=>t6|.inNon=>t8 (by have:=G.units;lia)|.ninStr=>qq
theorem CO (G:Good C Φ k X){f:BF}{t:TAd}(mt:bw t)(z:Gl X (oV f))(F:PA X (e::es) (lA X.K t))(he:Jt (e::es) X.env=(false,eval e X.env)::Jt es X.env)(j:(KH pos (Jt es X.env)).any (·.1)=false):PE X (.Call (.Name (oV f) p) (e::es) [] pos) (lE X.K (wAr (opF f) t)):=by
 cases f with
 |len=>exact PE.imp (bM sg z (G.mgB _ (by decide)) PySem.boot_len F (by decide) (by decide) he j) (bB ol mt)
 |abs=>exact PE.imp (bM sh z (G.mgB _ (by decide)) (by decide +kernel) F (by decide) (by decide) he j) (bB om mt)
 |max2=>exact PE.imp (bM (qh G.calm) z (G.mgB _ (by decide)) (by decide +kernel) F (by decide) (by decide) he j) (bB ll mt)
 |min2=>exact PE.imp (bM (qi G.calm) z (G.mgB _ (by decide)) (by decide +kernel) F (by decide) (by decide) he j) (bB lq mt)
 |int=>exact PE.imp (fe si z (G.mgB _ (by decide)) (by decide +kernel) F (by decide) (by decide) he j) (bB ou mt)
 |intS=>exact PE.imp (fe ql z (G.mgB _ (by decide)) (by decide +kernel) F (by decide) (by decide) he j) (bB lV mt)
 |lenS=>exact PE.imp (bM qm z (G.mgB _ (by decide)) PySem.boot_len F (by decide) (by decide) he j) (bB lW mt)
 |str=>exact PE.imp (fe sV z (G.mgB _ (by decide)) (by decide +kernel) F (by decide) (by decide) he j) (bB lL mt)
 |tuple=>exact PE.imp (fe ow z (G.mgB _ (by decide)) (by decide +kernel) F (by decide) (by decide) he j) (bB ju mt)
 |all=>exact PE.imp (bM (sQ G.calm) z (G.mgB _ (by decide)) (by decide +kernel) F (by decide) (by decide) he j) (bB oC mt)
 |any=>exact PE.imp (bM (sR G.calm) z (G.mgB _ (by decide)) (by decide +kernel) F (by decide) (by decide) he j) (bB oE mt)
theorem AF (G:Good C Φ k X){f:Nat}{t:TAd}(mt:bw t)(hf:C.Γ[f]? = some x)(J:Gl X x)(j:(x==("__debug__":Str))=false)(L:PA X (e::es) (lA X.K t))(he:Jt (e::es) X.env=(false,eval e X.env)::Jt es X.env)(z:(KH pos (Jt es X.env)).any (·.1)=false):PE X (.Call (.Name x p) (e::es) [] pos) (lE X.K (wAr (Φ f) t)):=by
 obtain⟨a,fd,ps,hm,_,hk,O,F⟩:=G.fns f x hf;refine PE.imp (zC F G.room J hm hk O .nil yR L j he z) λσ H Q h=>?_;have h2:=bB (G.mono f) mt σ H Q h;have:(λvs H1=>lSp X.K (Φ f) (vs++[]) H1 Q E0)=λvs H1=>lR X.K (Φ f) vs H1 Q:=by
  funext vs H1;rw[Kp];rfl
 show (lA X.K t) σ H _;rw[this];exact h2
theorem yh (G:Good C Φ k X){f:Nat}(hf:C.Γ[f]? = some x)(z:Gl X x)(j:(x==("__debug__":Str))=false):PE X (.Call (.Name x p) [] [] pos) (lE X.K (wAr (Φ f) bA)):=by
 obtain⟨a,fd,ps,hm,_,hk,J,F⟩:=G.fns f x hf;refine PE.imp (wx F G.room z hm hk J .nil yR j) λσ H Q h=>?_;obtain⟨ρ,M,rs,rm,q⟩:=h;exact⟨[],M,rm,RDs.nil,q⟩
theorem j0 {env:Env}{pos:Pos}:∀ {es:List Expr},es.all aP=true->(KH pos (Jt es env)).any (·.1)=false
 |[],_=>rfl
 | e::es,h=>by
   simp only[MQ,hX]at h;rw[ak h.1];show (false || (KH pos (Jt es env)).any (·.1))=false
   rw[j0 h.2];rfl
theorem gT:∀ {ms:MEs} {es:List Expr},okEs ms C es=true->es.all aP=true
 |.nil,[],_=>rfl
 |.nil,_::_,h=>by simp[okEs]at h
 |.cons m r,[],h=>by simp[okEs]at h
 |.cons m r,e::es,h=>by
  simp only[okEs,hX]at h;simp only[MQ,hX];exact⟨h.1.1,gT h.2⟩
theorem qV:∀ {gs:MGs} {es:List Expr},okGs gs C es=true -> ∀ ds ρ ρ',bGs gs ds ρ = some ρ'->ds.length=es.length
 |.nil,es,h,ds,ρ,ρ',e=>by
  simp[okGs]at h;subst h;rw[bGs]at e
  cases ds with
  |nil=>rfl
  |cons _ _=>cases e
 |.cons g r,[],h,_,_,_,_=>by simp[okGs]at h
 |.cons g r,x::es,h,ds,ρ,ρ',e=>by
  simp only[okGs,hX]at h;rw[bGs]at e
  cases ds with
  |nil=>cases e
  | cons d ds =>
    simp only[cr]at e
    cases e1:bG g d ρ with
    |none=>rw[e1]at e;cases e
    | some ρ1 =>
      rw[e1]at e;simp[qV h.2 ds ρ1 ρ' e]
theorem oZ {env:Env}:∀ {gs:MGs} {es:List Expr},okGs gs C es=true->(L4 es env).length=es.length/\(L4 es env).findIdx? (·.1)=none
 |.nil,es,h=>by simp[okGs]at h;subst h;exact⟨rfl,rfl⟩
 |.cons g r,[],h=>by simp[okGs]at h
 |.cons g r,x::es,h=>by
  simp only[okGs,hX]at h;obtain⟨a,b⟩:=oZ (env:=env) h.2;rw[lY h.1.1];refine⟨by simp[a],?_⟩
  rw[List.findIdx?_cons];simp[b]
mutual
theorem sG (G:Good C Φ k X):∀ (m:MG) (e:Expr),okG m C e=true->PG X e (lG X.K (bG m))
 |.name i,e,h=>by
  refine dZ e h λx _ h=>?_;simp only[hX]at h;exact Ae G.nd (by rw[G.N];exact of_decide_eq_true h.1.1) (G.loc h.1.2) (G.own h.2)
 |.tup gs,e,h=>by
  refine eX e h λes _ _ h=>?_;rw[bG];obtain⟨a,b⟩:=oZ (env:=X.env) h;exact Ca G.calm (qV h) (sGs G gs _ h) a b
theorem sGs (G:Good C Φ k X):∀ (m:MGs) (es:List Expr),okGs m C es=true->PGs X es (lGs X.K (bGs m))
 |.nil,es,h=>by
  simp[okGs]at h;subst h;exact Af
 |.cons g r,[],h=>by simp[okGs]at h
 |.cons g r,e::es,h=>by
  simp only[okGs,hX]at h;exact xl (sG G g e h.1.2) (sGs G r es h.2) (by rw[lY h.1.1];rfl)
end
theorem PB.imp {F:Sem Fin->Sem Fin}{t t':TC}(h:PB X F t)(i:∀ σ H N,t' σ H N->t σ H N):PB X F t':=λpins s σ H N k Q E I q hk=>h pins s σ H N k Q E I (i _ _ _ q) hk
theorem jU {osc:Scope}{oN N':List Str}{fr:List (Option Nat)}(h:yf sc osc oN N' fr=true):bg sc osc oN N' fr:=by
 simp only[yf,hX,decide_eq_true_eq]at h;obtain⟨⟨⟨⟨⟨h1,h2⟩,L⟩,O⟩,U⟩,Y⟩:=h;refine⟨h1,h2,L,λx hx e=>?_,U,λi j x hi hf=>?_⟩
 ·have F:=JK.mp O x hx;rw[e]at F;simpa using F
 ·have J:i<N'.length:=(Jw.mp hi).1;have z:=JK.mp Y i (Ot.mpr J);rw[hf,hi]at z;simp only[hX,decide_eq_true_eq,List.any_eq_true]at z;obtain⟨a,y,Z,e⟩:=z;exact⟨a,by rw[<- e];exact Z⟩
theorem Good.blk (G:Good C Φ k X){N':List Str}{fr:List (Option Nat)}(B:bg sc C.sc C.N N' fr)(s:z0)(H:Hp)(fp:List Addr) :
 Good ⟨C.Γ,N',iX sc C.sc,(sc.names.filter (·.2 == .cell)).map (·.1),C.cs,0,C.nm⟩ Φ k (aK X sc N' s H fp):=by
 refine⟨λ_ _ h=>h,G.calm,rfl,?_,B.ndN,λx hx=>?_,G.room,G.mgB,G.fns,G.mono,G.cs,λz=>(by cases z),λ_ z=>(by cases z)⟩
 ·show relabel sc X.env=_;rw[qt,G.sc]
 ·obtain⟨y,F,e⟩:=K1.mp hx;obtain⟨h1,h2⟩:=NX.mp F;obtain⟨n,kd⟩:=y;have j:kd = .cell:=by simpa using h2
  subst j;have e':n=x:=e;subst e';show (sc.names.lookup n==some .cell)=true;rw[aV B.nd h1];rfl
end
end
variable {C:Ctx}
section
section
variable {Φ:Phi} {k:Nat}
theorem eM {X:Cx}(G:Good C Φ k X){F:Sem Fin->Sem Fin}{p:Addr}{tb:TCd}{ifs:List Expr}{ts:List TTd}(mb:bY tb)(mt:∀ t∈ts,aI t)(j:PB X F (lC X.K p tb))(z:KI (λc t=>PT X c t) ifs (ts.map (lT X.K))) :
 PB X (λk=>bu ifs X.env >>= λok=>if ok=true then F k else k) (lC X.K p (bo ts tb)) :=
 PB.imp (wK G.hx j z) (jv mb mt)
theorem gU {m:MC}{Cs:Ctx}{g2:K3}{gs:List K3}{elt:Expr}(h:okC m Cs C (g2::gs) elt=true):g2.is_async=0:=by
 obtain⟨t,i,f,a⟩:=g2
 cases m with
 | last src g ifs m =>
   cases gs with
   |nil=>simp only[okC,hX,decide_eq_true_eq]at h;exact h.1.1.1.1
   |cons _ _=>simp[okC]at h
 | more src g ifs rest =>
   cases gs with
   |nil=>simp[okC]at h
   |cons _ _=>simp only[okC,hX,decide_eq_true_eq]at h;exact h.1.1.1.1
theorem yi {X:Cx}(G:Good C Φ k X):∀ T∈["bool","int","str","tuple","list","dict"],X.mg (gV T)=none/\LW (gV T)=some (.type T)/\gV T ≠ "__name__" /\ (gV T==("__debug__":Str))=false:=by
 intro T j;simp only[Jl,JB,or_false]at j
 rcases j with rfl|rfl|rfl|rfl|rfl|rfl
 all_goals exact⟨G.mgB _ (by decide),by decide +kernel,by decide,by decide⟩
mutual
theorem sE:∀ (m:ME) {C:Ctx} {X:Cx} (G:Good C Φ k X) (e:Expr),okE m C e=true->PE X e (lE X.K (wE Φ m))
 |.var i,C,X,G,e,h=>by
  refine dZ e h λx _ h=>?_;simp only[hX,JD,decide_eq_true_eq]at h;exact BU (by rw[G.N];exact h.1.1.1) (G.vis h.1.1.2) h.1.2 h.2
 |.int i,C,X,G,e,h=>by
  refine dz e h λc _ _ h=>?_;rw[of_decide_eq_true h];exact le_int
 |.bl i,C,X,G,e,h=>by
  refine dz e h λc _ _ h=>?_;rw[of_decide_eq_true h];exact DK
 |.non,C,X,G,e,h=>by
  refine dz e h λc _ _ h=>?_;rw[of_decide_eq_true h];exact BV
 |.str i,C,X,G,e,h=>by
  refine dz e h λc _ _ h=>?_;rw[of_decide_eq_true h];exact BW
 |.bin op a b,C,X,G,e,h=>by
  refine CC e h λl o r _ h=>?_;simp only[hX,decide_eq_true_eq]at h;rw[h.1.1];exact DL (CN G op) (oU op) (mE G.mono a) (mE G.mono b) (sE a G _ h.1.2) (sE b G _ h.2)
 |.neg a,C,X,G,e,h=>by
  refine iY e h λo x _ h=>?_;replace h:=bF h;obtain⟨ho,h⟩:=h
  cases of_decide_eq_true ho
  exact DM xb oh (mE G.mono a) (sE a G _ h)
 |.cmp op a b,C,X,G,e,h=>by
  refine gb e h λl os rs pos h=>?_;refine cB os h λo h=>?_;refine cB rs h λr h=>?_;simp only[hX,decide_eq_true_eq]at h;obtain⟨⟨⟨ho,U⟩,hb⟩,hm⟩:=h;rw[JD]at hm;subst ho;exact BX (eL G op) (bn op) (mE G.mono a) (mE G.mono b) (sE a G _ U) (sE b G _ hb) hm
 |.and es,C,X,G,e,h=>by
  refine fK e h λo xs _ h=>?_;replace h:=bF h;obtain⟨ho,h⟩:=h;obtain⟨ho,L⟩:=bF ho
  cases of_decide_eq_true ho
  exact sAnds es G _ _ h (by intro z;rw[z]at L;cases L)
 |.or es,C,X,G,e,h=>by
  refine fK e h λo xs _ h=>?_;replace h:=bF h;obtain⟨ho,h⟩:=h;obtain⟨ho,L⟩:=bF ho
  cases of_decide_eq_true ho
  exact sOrs es G _ _ h (by intro z;rw[z]at L;cases L)
 |.not a,C,X,G,e,h=>by
  refine iY e h λo x _ h=>?_;replace h:=bF h;obtain⟨ho,h⟩:=h
  cases of_decide_eq_true ho
  exact C9 (mE G.mono a) (sE a G _ h)
 |.ite c a b,C,X,G,e,h=>by
  refine CD e h λt x y _ h=>?_;simp only[hX]at h;exact DR (mT G.mono c) (mE G.mono a) (mE G.mono b) (sT c G _ h.1.1) (sE a G _ h.1.2) (sE b G _ h.2)
 |.tup es,C,X,G,e,h=>by
  refine eX e h λxs _ _ h=>?_;exact BZ (mA G.mono es) (sA es G _ h)
 |.lst es,C,X,G,e,h=>by
  refine E3 e h λxs _ h=>?_;exact C0 (mA G.mono es) (sA es G _ h)
 |.ix a b,C,X,G,e,h=>by
  refine ef e h λx y _ h=>?_;simp only[hX]at h;exact yV (F8 (by have:=G.units;lia)) qK (mE G.mono a) (mE G.mono b) (sE a G _ h.1.2) (sE b G _ h.2) (oY h.1.1)
 |.sl a lo hi,C,X,G,e,h=>by
  refine jSl e h λx l u s p pos h=>?_;refine jon s h fun  h=>?_;simp only[hX]at h;exact DS (mE G.mono a) (mO G.mono lo) (mO G.mono hi) (sE a G _ h.1.1) (sO lo G _ h.1.2) (sO hi G _ h.2)
 |.call f es,C,X,G,e,h=>by
  refine fL e h λx xs p pos h=>?_;simp only[hX,decide_eq_true_eq,JD]at h;have hA:=sA es G _ h.2;have O:=gT h.2
  cases xs with
  | nil =>
    cases es with
    |nil=>exact yh G h.1.1.1 (G.gl h.1.1.2) h.1.2
    |cons _ _=>simp[okEs]at h
  | cons y ys =>
    simp only[MQ,hX]at O;exact AF G (mA G.mono es) h.1.1.1 (G.gl h.1.1.2) h.1.2 hA (ak O.1) (j0 O.2)
 |.blt f es,C,X,G,e,h=>by
  refine fL e h λx xs p pos h=>?_;simp only[hX,decide_eq_true_eq,JD]at h;have hA:=sA es G _ h.2;have O:=gT h.2;obtain⟨⟨⟨rfl,Y⟩,L⟩,_⟩:=h
  cases xs with
  |nil=>simp at L
  | cons y ys =>
    simp only[MQ,hX]at O;exact CO G (mA G.mono es) (G.gl Y) hA (ak O.1) (j0 O.2)
 |.chain op op' a b c,C,X,G,e,h=>by
  refine gb e h λl os rs pos h=>?_;refine gd os h λo o' h=>?_;refine gd rs h λr q h=>?_;simp only[hX,decide_eq_true_eq,JD]at h;obtain⟨⟨⟨⟨⟨rfl,rfl⟩,U⟩,hb⟩,hc⟩,hm⟩:=h;exact xK (eL G op) (eL G op') (bn op) (bn op') (mE G.mono a) (mE G.mono b) (mE G.mono c) (sE a G _ U) (sE b G _ hb) (sE c G _ hc) hm
 |.glob x k',C,X,G,e,h=>by
  refine dZ e h λx _ h=>?_;simp only[hX,decide_eq_true_eq,JD]at h;obtain⟨⟨⟨rfl,Y⟩,hc⟩,hd⟩:=h;obtain⟨u,ht,hv⟩:=G.cs _ _ hc;obtain⟨v,rv,rd⟩:=yZ hv;exact PE.imp (zp (v:=v) (G.gl Y) ht rv hd) λσ H Q g9=>(by obtain⟨ρ,M,rs,rm,q⟩:=g9;exact q _ H Ext.refl rm (rd H))
 |.isin a T,C,X,G,e,h=>by
  refine fL e h λx xs p pos h=>?_;refine gd xs h λy w h=>?_;refine dZ w h λz p2 h=>?_;simp only[hX,decide_eq_true_eq]at h;obtain⟨⟨⟨⟨⟨⟨rfl,Y⟩,HI⟩,hz⟩,hT⟩,J⟩,U⟩:=h;obtain⟨n1,n2,n3,n4⟩:=yi G T hT;subst hz;exact Ac hT (mE G.mono a) (sE a G _ U) (G.gl Y) (G.mgB _ (by decide)) (G.gl HI) n1 n2 n3 n4 (ak J) rfl
 |.meth m o a,C,X,G,e,h=>by
  refine tF e h λx n xs ap cp h=>?_;refine cB xs h λy h=>?_;simp only[hX,decide_eq_true_eq]at h;obtain⟨⟨⟨⟨⟨hn,j⟩,Z⟩,J⟩,ho⟩,U⟩:=h;subst hn;have pa:PA X [y] (lA X.K (aN (wE Φ a) bA)):=bJ (mE G.mono a) aB (sE a G _ U) cN (ak J);have few:((KH cp (Jt [y] X.env)).all (λx=>!x.1)&&(MP cp (Lh [] X.env)).all (λx=>x.1.isSome)&&decide (([y]:List Expr).length+([]:List NP).length+(if ([]:List NP).isEmpty then 0 else 1)<30))=true:=by
   rw[ak J];rfl
  cases m with
  |append=>exact PE.imp (fR Nl PySem.F.slot_list_append PySem.F.type_list_append kX (sE o G _ ho) pa (cC j) few Z (ak J) rfl) (ky iF (mE G.mono o) (aG (mE G.mono a) aB) xj)
  |count=>exact PE.imp (fR Nl Pm PySem.F.type_list_count xV (sE o G _ ho) pa (cC j) few Z (ak J) rfl) (ky jL (mE G.mono o) (aG (mE G.mono a) aB) Ay)
  |indexS=>exact PE.imp (fR Nl Pn PySem.F.type_list_index vn (sE o G _ ho) pa (cC j) few Z (ak J) rfl) (ky iJ (mE G.mono o) (aG (mE G.mono a) aB) xW)
 |.fstr es,C,X,G,e,h=>by
  refine tD e h λxs pos h=>?_;simp only[hX,decide_eq_true_eq]at h;have hf:=sFs es G xs h.2
  match xs,h.1,hf with
  |_::_::_,_,hf=>exact Ar hf
 |.fmt a,C,X,G,e,h=>by
  refine jR e h λx c s _ h=>?_;refine jon s h fun  h=>?_;simp only[hX,decide_eq_true_eq]at h;obtain⟨rfl,U⟩:=h;exact Cm (mE G.mono a) (sE a G _ U)
 |.join o a,C,X,G,e,h=>by
  refine tF e h λx n xs ap cp h=>?_;refine cB xs h λy h=>?_;simp only[hX,decide_eq_true_eq]at h;obtain⟨⟨⟨⟨⟨hn,j⟩,Z⟩,J⟩,ho⟩,U⟩:=h;subst hn;have pa:PA X [y] (lA X.K (aN (wE Φ a) bA)):=bJ (mE G.mono a) aB (sE a G _ U) cN (ak J);have few:((KH cp (Jt [y] X.env)).all (λx=>!x.1)&&(MP cp (Lh [] X.env)).all (λx=>x.1.isSome)&&decide (([y]:List Expr).length+([]:List NP).length+(if ([]:List NP).isEmpty then 0 else 1)<30))=true:=by
   rw[ak J];rfl
  exact PE.imp (fR LZ PySem.F.slot_str_join PySem.F.type_str_join An (sE o G _ ho) pa (cC j) few Z (ak J) rfl) (vc (mE G.mono o) (mE G.mono a))
 |.smeth m o a,C,X,G,e,h=>by
  refine tF e h λx n xs ap cp h=>?_;refine cB xs h λy h=>?_;simp only[hX,decide_eq_true_eq]at h;obtain⟨⟨⟨⟨⟨hn,j⟩,Z⟩,J⟩,ho⟩,U⟩:=h;subst hn;have pa:PA X [y] (lA X.K (aN (wE Φ a) bA)):=bJ (mE G.mono a) aB (sE a G _ U) cN (ak J);have few:((KH cp (Jt [y] X.env)).all (λx=>!x.1)&&(MP cp (Lh [] X.env)).all (λx=>x.1.isSome)&&decide (([y]:List Expr).length+([]:List NP).length+(if ([]:List NP).isEmpty then 0 else 1)<30))=true:=by
   rw[ak J];rfl
  cases m with
  |split=>exact PE.imp (fR LZ PySem.F.slot_str_split PySem.F.type_str_split xP (sE o G _ ho) pa (cC j) few Z (ak J) rfl) (kB .split (mE G.mono o) (mE G.mono a))
  |part=>exact PE.imp (fR LZ PySem.F.slot_str_partition PySem.F.type_str_partition Au (sE o G _ ho) pa (cC j) few Z (ak J) rfl) (kB .part (mE G.mono o) (mE G.mono a))
  |starts=>exact PE.imp (fR LZ PySem.F.slot_str_startswith PySem.F.type_str_startswith vg (sE o G _ ho) pa (cC j) few Z (ak J) rfl) (kB .starts (mE G.mono o) (mE G.mono a))
 |.ixS a b,C,X,G,e,h=>by
  refine ef e h λx y _ h=>?_;simp only[hX]at h;exact yV E1 oK (mE G.mono a) (mE G.mono b) (sE a G _ h.1.2) (sE b G _ h.2) (oY h.1.1)
 |.slS a lo,C,X,G,e,h=>by
  refine jSl e h λx l u s p pos h=>?_;refine jon s h λh=>?_;refine jon u h λh=>?_;simp only[hX]at h;exact Ct (mE G.mono a) (mO G.mono lo) (sE a G _ h.1) (sO lo G _ h.2)
 |.slT a hi,C,X,G,e,h=>by
  refine jSl e h λx l u s p pos h=>?_;refine jon s h λh=>?_;refine jon l h λh=>?_;simp only[hX]at h;exact Cv (mE G.mono a) (mO G.mono hi) (sE a G _ h.1) (sO hi G _ h.2)
 |.revS a st,C,X,G,e,h=>by
  refine jSl e h λx l u s p pos h=>?_;refine jon l h fun  h=>?_;refine jon u h fun  h=>?_;refine jos s h λs h=>?_;simp only[hX]at h;exact As (mE G.mono a) (gL (mE G.mono st)) (sE a G _ h.1) (qL (mE G.mono st) (sE st G _ h.2))
 |.orL a b,C,X,G,e,h=>by
  refine fK e h λo xs _ h=>?_;refine gd xs h λx y h=>?_;obtain⟨ho,hy⟩:=bF h;obtain⟨ho,hx⟩:=bF ho
  cases of_decide_eq_true ho
  exact Cn (mE G.mono a) (mE G.mono b) (sE a G _ hx) (sE b G _ hy)
 |.comp fr N' c,C,X,G,e,h=>by
  refine vC e h λelt gens sc pos h=>?_;simp only[hX]at h;have B:bg sc X.env.scope X.N N' fr:=by rw[G.sc,G.N];exact jU h.1
  have B':bg sc C.sc C.N N' fr:=jU h.1
  cases c with
  | last src g ifs m =>
    have h2:=h.2;simp only[okC]at h2
    split at h2
    ·rename_i t it fs a;simp only[hX,decide_eq_true_eq]at h2;obtain⟨⟨⟨⟨rfl,hi⟩,Y⟩,ht⟩,he⟩:=h2;refine PE.imp (iE G.calm G.hx B (λg' z=>by simp at z) (sI src G _ t hi).1 (λs H fp=>sG (G.blk B' s H fp) g t Y) (tb:=λp=>lC X.K p (bo (wTl Φ ifs) (fh (wE Φ m)))) (λs H fp p=>?_) (sI src G _ t hi).2) (fj (mI G.mono src) (aQ (bL (mE G.mono m)) (mTl G.mono ifs)))
     have G':=G.blk B' s H fp;exact eM (p:=p) G' (bL (mE G.mono m)) (mTl G.mono ifs) (PB.imp (kn G'.hx (sE m G' elt he) rfl) (gN (mE G.mono m))) (sTl ifs G' fs ht)
    ·cases h2
  | more src g ifs rest =>
    have h2:=h.2;simp only[okC]at h2
    split at h2
    ·rename_i t it fs a g2 gs;simp only [hX,decide_eq_true_eq] at h2;obtain ⟨⟨⟨⟨rfl,hi⟩,Y⟩,ht⟩,he⟩:=h2;have HJ:∀ g',(g2::gs)[0]? = some g'->g'.is_async=0:=fun g' z=>by
      have z':g2=g':=by simpa using z
      subst z';exact gU he
     refine PE.imp (iE G.calm G.hx B HJ (sI src G _ t hi).1 (λs H fp=>sG (G.blk B' s H fp) g t Y) (tb:=λp=>lC X.K p (bo (wTl Φ ifs) (wCl Φ rest))) (λs H fp p=>?_) (sI src G _ t hi).2) (fj (mI G.mono src) (aQ (mCl G.mono rest) (mTl G.mono ifs)));have G':=G.blk B' s H fp;exact eM (p:=p) G' (mCl G.mono rest) (mTl G.mono ifs) (sCl rest G' elt (⟨t,it,fs,0⟩::g2::gs) sc pos 0 (.inl rfl) p he) (sTl ifs G' fs ht)
    ·cases h2
theorem sA:∀ (m:MEs) {C:Ctx} {X:Cx} (G:Good C Φ k X) (es:List Expr),okEs m C es=true->PA X es (lA X.K (wA Φ m))
 |.nil,C,X,G,es,h=>by
  simp[okEs]at h;subst h;exact cN
 |.cons m r,C,X,G,[],h=>by simp[okEs]at h
 |.cons m r,C,X,G,e::es,h=>by
  simp only[okEs,hX]at h;exact bJ (mE G.mono m) (mA G.mono r) (sE m G e h.1.2) (sA r G es h.2) (ak h.1.1)
theorem sFs:∀ (m:MEs) {C:Ctx} {X:Cx} (G:Good C Φ k X) (es:List Expr),okEs m C es=true->PFd X es (wFs Φ m)
 |.nil,C,X,G,es,h=>by
  simp[okEs]at h;subst h;exact Cl
 |.cons m r,C,X,G,[],h=>by simp[okEs]at h
 |.cons m r,C,X,G,e::es,h=>by
  simp only[okEs,hX]at h;exact Aq (mE G.mono m) (mFs G.mono r) (sE m G e h.1.2) (sFs r G es h.2)
theorem sAnds:∀ (m:MEs) {C:Ctx} {X:Cx} (G:Good C Φ k X) (es:List Expr) (pos:Pos),okEs m C es=true->es≠[]->PE X (.BoolOp .And es pos) (lE X.K (wAnds Φ m))
 |.nil,C,X,G,es,pos,h,j=>by simp[okEs]at h;exact absurd h j
 |.cons m r,C,X,G,[],pos,h,j=>absurd rfl j
 |.cons m .nil,C,X,G,e::es,pos,h,_=>by
  simp only[okEs,hX]at h;obtain⟨h1,h2⟩:=h;simp at h2;subst h2;exact uK (sE m G e h1.2)
 |.cons m (.cons m2 r),C,X,G,e::es,pos,h,_=>by
  simp only[okEs,hX]at h;obtain⟨h1,h2⟩:=h
  cases es with
  |nil=>simp at h2
  | cons f fs =>
    exact C8 (mE G.mono m) (mAnds G.mono _) (sE m G e h1.2) (sAnds (.cons m2 r) G (f::fs) pos (by simpa only[okEs,hX]using h2) (by simp))
theorem sOrs:∀ (m:MEs) {C:Ctx} {X:Cx} (G:Good C Φ k X) (es:List Expr) (pos:Pos),okEs m C es=true->es≠[]->PE X (.BoolOp .Or es pos) (lE X.K (wOrs Φ m))
 |.nil,C,X,G,es,pos,h,j=>by simp[okEs]at h;exact absurd h j
 |.cons m r,C,X,G,[],pos,h,j=>absurd rfl j
 |.cons m .nil,C,X,G,e::es,pos,h,_=>by
  simp only[okEs,hX]at h;obtain⟨h1,h2⟩:=h;simp at h2;subst h2;exact uK (sE m G e h1.2)
 |.cons m (.cons m2 r),C,X,G,e::es,pos,h,_=>by
  simp only[okEs,hX]at h;obtain⟨h1,h2⟩:=h
  cases es with
  |nil=>simp at h2
  | cons f fs =>
    exact DQ (mE G.mono m) (mOrs G.mono _) (sE m G e h1.2) (sOrs (.cons m2 r) G (f::fs) pos (by simpa only[okEs,hX]using h2) (by simp))
theorem sO:∀ (m:MO) {C:Ctx} {X:Cx} (G:Good C Φ k X) (e:Option Expr),okO m C e=true->PO X e (lO X.K (wO Φ m))
 |.none,C,X,G,e,h=>by
  simp[okO]at h;subst h;exact A7
 |.some m,C,X,G,none,h=>by simp[okO]at h
 |.some m,C,X,G,some e,h=>by
  simp only[okO]at h;exact qL (mE G.mono m) (sE m G e h)
theorem sT:∀ (m:MT) {C:Ctx} {X:Cx} (G:Good C Φ k X) (e:Expr),okT m C e=true->PT X e (lT X.K (wT Φ m))
 |.tru m,C,X,G,e,h=>by
  simp only[okT,hX]at h;exact C4 (mE G.mono m) (sE m G e h.2) (tK h.1)
 |.cmp op a b,C,X,G,e,h=>by
  refine gb e h λl os rs pos h=>?_;refine cB os h λo h=>?_;refine cB rs h λr h=>?_;simp only[hX,decide_eq_true_eq]at h;obtain⟨⟨⟨ho,F⟩,J⟩,hm⟩:=h;rw[JD]at hm;subst ho;exact BY (eL G op) (bn op) (mE G.mono a) (mE G.mono b) (sE a G _ F) (sE b G _ J) hm
 |.chain op op' a b c,C,X,G,e,h=>by
  refine gb e h λl os rs pos h=>?_;refine gd os h λo o' h=>?_;refine gd rs h λr q h=>?_;simp only[hX,decide_eq_true_eq,JD]at h;obtain⟨⟨⟨⟨⟨rfl,rfl⟩,F⟩,J⟩,L⟩,hm⟩:=h;exact xL (eL G op) (eL G op') (bn op) (bn op') (mE G.mono a) (mE G.mono b) (mE G.mono c) (sE a G _ F) (sE b G _ J) (sE c G _ L) hm
 |.and ts,C,X,G,e,h=>by
  refine fK e h λo xs _ h=>?_;replace h:=bF h;obtain⟨ho,h⟩:=h;obtain⟨ho,j⟩:=bF ho
  cases of_decide_eq_true ho
  exact(sAndTs ts G _ _ h (by intro z;rw[z]at j;cases j)).pt
 |.or ts,C,X,G,e,h=>by
  refine fK e h λo xs _ h=>?_;replace h:=bF h;obtain⟨ho,h⟩:=h;obtain⟨ho,j⟩:=bF ho
  cases of_decide_eq_true ho
  exact(sOrTs ts G _ _ h (by intro z;rw[z]at j;cases j)).pt
 |.not t,C,X,G,e,h=>by
  refine iY e h λo x _ h=>?_;replace h:=bF h;obtain⟨ho,h⟩:=h
  cases of_decide_eq_true ho
  exact C5 (mT G.mono t) (sT t G _ h)
theorem sAndTs:∀ (m:MTs) {C:Ctx} {X:Cx} (G:Good C Φ k X) (es:List Expr) (pos:Pos),okTs m C es=true->es≠[]->PW X (.BoolOp .And es pos) (lT X.K (wAndTs Φ m))
 |.nil,C,X,G,es,pos,h,j=>by simp[okTs]at h;exact absurd h j
 |.cons m r,C,X,G,[],pos,h,j=>absurd rfl j
 |.cons m .nil,C,X,G,e::es,pos,h,_=>by
  simp only[okTs,hX]at h;obtain⟨h1,h2⟩:=h;simp at h2;subst h2;exact A5 (sT m G e h1)
 |.cons m (.cons m2 r),C,X,G,e::es,pos,h,_=>by
  simp only[okTs,hX]at h;obtain⟨h1,h2⟩:=h
  cases es with
  |nil=>simp at h2
  | cons f fs =>
    exact C7 (mT G.mono m) (mAndTs G.mono _) (sT m G e h1) (sAndTs (.cons m2 r) G (f::fs) pos (by simpa only[okTs,hX]using h2) (by simp))
theorem sOrTs:∀ (m:MTs) {C:Ctx} {X:Cx} (G:Good C Φ k X) (es:List Expr) (pos:Pos),okTs m C es=true->es≠[]->PW X (.BoolOp .Or es pos) (lT X.K (wOrTs Φ m))
 |.nil,C,X,G,es,pos,h,j=>by simp[okTs]at h;exact absurd h j
 |.cons m r,C,X,G,[],pos,h,j=>absurd rfl j
 |.cons m .nil,C,X,G,e::es,pos,h,_=>by
  simp only[okTs,hX]at h;obtain⟨h1,h2⟩:=h;simp at h2;subst h2;exact C6 (sT m G e h1)
 |.cons m (.cons m2 r),C,X,G,e::es,pos,h,_=>by
  simp only[okTs,hX]at h;obtain⟨h1,h2⟩:=h
  cases es with
  |nil=>simp at h2
  | cons f fs =>
    exact DP (mT G.mono m) (mOrTs G.mono _) (sT m G e h1) (sOrTs (.cons m2 r) G (f::fs) pos (by simpa only[okTs,hX]using h2) (by simp))
theorem sTl:∀ (m:MTs) {C:Ctx} {X:Cx} (G:Good C Φ k X) (es:List Expr),okTs m C es=true->KI (λc t=>PT X c t) es ((wTl Φ m).map (lT X.K))
 |.nil,C,X,G,es,h=>by
  simp[okTs]at h;subst h;exact .nil
 |.cons m r,C,X,G,[],h=>by simp[okTs]at h
 |.cons m r,C,X,G,e::es,h=>by
  simp only[okTs,hX]at h;exact .cons (sT m G e h.1) (sTl r G es h.2)
theorem sI:∀ (m:MI) {C:Ctx} {X:Cx} (G:Good C Φ k X) (e tg:Expr),okI m C tg e=true->PI X tg e (lI X.K (wI Φ m)) /\ ∀ x,KL e X.env x=pure x
 |.seq m,C,X,G,e,tg,h=>by
  simp only[okI,hX]at h;exact⟨Ce (mE G.mono m) (sE m G e h.2),jT h.1⟩
 |.chars m,C,X,G,e,tg,h=>by
  simp only[okI,hX]at h;exact⟨xT (mE G.mono m) (sE m G e h.2),jT h.1⟩
 |.rng1 a,C,X,G,e,tg,h=>by
  refine fL e h λx xs p pos h=>?_;refine cB xs h λy h=>?_;simp only[hX,decide_eq_true_eq]at h;obtain⟨⟨⟨rfl,F⟩,j⟩,J⟩:=h;exact⟨Ag (aG (mE G.mono a) aB) (G.gl F) (G.mgB _ (by decide)) (bJ (mE G.mono a) aB (sE a G _ J) cN (ak j)) (ak j),λx=>rfl⟩
 |.enum a,C,X,G,e,tg,h=>by
  refine fL e h λx xs p pos h=>?_;refine cB xs h λy h=>?_;refine eX tg h λts kt pt h=>?_;simp only[hX,decide_eq_true_eq]at h;obtain⟨⟨⟨rfl,F⟩,j⟩,J⟩:=h;exact⟨Ah (mE G.mono a) (G.gl F) (G.mgB _ (by decide)) (bJ (mE G.mono a) aB (sE a G _ J) cN (ak j)) (ak j),λx=>rfl⟩
 |.enum1 a,C,X,G,e,tg,h=>by
  refine tw e h λf xs ks pos h=>?_;refine dZ f h λx p h=>?_;refine cB xs h λy h=>?_;refine cB ks h λq h=>?_;obtain⟨qa,qv,qp⟩:=q;refine dz qv h λc k1 Z h=>?_;refine eX tg h λts kt pt h=>?_;simp only[hX,decide_eq_true_eq]at h;obtain⟨⟨⟨⟨⟨rfl,F⟩,j⟩,O⟩,U⟩,J⟩:=h
  cases O
  cases U
  exact⟨xU (mE G.mono a) (G.gl F) (G.mgB _ (by decide)) (bJ (mE G.mono a) aB (sE a G _ J) cN (ak j)) (ak j),λx=>rfl⟩
 |.zip a b,C,X,G,e,tg,h=>by
  refine fL e h λx xs p pos h=>?_;refine gd xs h λy z h=>?_;refine eX tg h λts kt pt h=>?_;simp only[hX,decide_eq_true_eq]at h;obtain⟨⟨⟨⟨⟨rfl,F⟩,j⟩,L⟩,J⟩,Y⟩:=h;exact⟨Ch (mE G.mono a) (mE G.mono b) (G.gl F) (G.mgB _ (by decide)) (bJ (mE G.mono a) (aG (mE G.mono b) aB) (sE a G _ J) (bJ (mE G.mono b) aB (sE b G _ Y) cN (ak L)) (ak j)) (by rw[ak j,ak L];rfl) (ak L),λx=>rfl⟩
theorem sCl:∀ (m:MC) {C:Ctx} {X:Cx} (G:Good C Φ k X) (elt:Expr) (gens:List K3) (sc:Scope) (pos:Pos) (d:Nat) (_:d=0∨d=d) (p:Addr),okC m C C (gens.drop (d+1)) elt=true ->
 PB X (bf elt gens sc pos d (.ref p) X.env) (lC X.K p (wCl Φ m))
 |.last src g ifs m,C,X,G,elt,gens,sc,pos,d,_,p,h=>by
  simp only[okC]at h
  split at h
  ·rename_i t it fs a hd;simp only [hX,decide_eq_true_eq] at h;obtain ⟨⟨⟨⟨rfl,hi⟩,F⟩,J⟩,he⟩:=h;have L:gens[d+1]? = some ⟨t,it,fs,0⟩:=by
    have z:(gens.drop (d+1))[0]? = some ⟨t,it,fs,0⟩:=by rw[hd];rfl
    rw[Nf]at z;simpa using z
   have j:gens[d+1+1]? = none:=by
    have z:(gens.drop (d+1))[1]? = none:=by rw[hd];rfl
    rw[Nf]at z;simpa using z
   refine PB.imp (lf G.hx G.calm L (λg' z=>by rw[j]at z;cases z) (sI src G _ t hi).1 (sG G g t F) (eM (p:=p) G (bL (mE G.mono m)) (mTl G.mono ifs) (PB.imp (kn G.hx (sE m G elt he) j) (gN (mE G.mono m))) (sTl ifs G fs J)) (sI src G _ t hi).2) (iH (mI G.mono src) (aQ (bL (mE G.mono m)) (mTl G.mono ifs)))
  ·cases h
 |.more src g ifs rest,C,X,G,elt,gens,sc,pos,d,_,p,h=>by
  simp only[okC]at h
  split at h
  ·rename_i t it fs a g2 gs hd;simp only [hX,decide_eq_true_eq] at h;obtain ⟨⟨⟨⟨rfl,hi⟩,F⟩,J⟩,he⟩:=h;have L:gens[d+1]? = some ⟨t,it,fs,0⟩:=by
    have z:(gens.drop (d+1))[0]? = some ⟨t,it,fs,0⟩:=by rw[hd];rfl
    rw[Nf]at z;simpa using z
   have j:gens[d+1+1]? = some g2:=by
    have z:(gens.drop (d+1))[1]? = some g2:=by rw[hd];rfl
    rw[Nf]at z;simpa using z
   have U:gens.drop (d+1+1)=g2::gs:=by
    have z:(gens.drop (d+1)).drop 1=g2::gs:=by rw[hd];rfl
    rw[Ms]at z;simpa using z
   have O:∀ g',gens[d+1+1]? = some g'->g'.is_async=0:=λg' z=>by
    rw[j]at z;cases z;exact gU he
   refine PB.imp (lf G.hx G.calm L O (sI src G _ t hi).1 (sG G g t F) (eM (p:=p) G (mCl G.mono rest) (mTl G.mono ifs) (sCl rest G elt gens sc pos (d+1) (.inr rfl) p (by rw[U];exact he)) (sTl ifs G fs J)) (sI src G _ t hi).2) (iH (mI G.mono src) (aQ (mCl G.mono rest) (mTl G.mono ifs)))
  ·cases h
end
end
end
section
section
variable {Φ:Phi} {k:Nat} {C:Ctx} {X:Cx}
theorem yj {ts vs:List Expr}{kk k2:Nat}{pp p2:Pos}(j:env.scope=sc)(hk:sc.kind = .function)(h:tG sc ts vs=true):LF [.Tuple ts kk pp] (.Tuple vs k2 p2) env=pure none:=by
 have z:env.blockKind = .function:=by unfold P6;rw[j,hk];rfl
 have h':tG sc ts vs=true:=h;unfold LF;dsimp only;rw[z]
 by_cases c1:(!(ts.length==2 || ts.length==3) || vs.length != ts.length)=true
 ·simp only[c1,Bool.true_or,if_true]
 ·simp only[NI]at c1;rw[c1];simp only[P0,bne_self_eq_false,LY,if_false]
  split
  ·rfl
  ·
    generalize F:List.filterMap _ ts=L;obtain rfl:L=be sc ts:=by
     rw[<- F];unfold be;congr 1
     funext x
     cases x <;> first|rfl|(unfold Ro;rw[j])
    unfold tG at h';rw[c1]at h';simp only[P0,MY]at h'
    by_cases c3:((be sc ts).length != ts.length || (be sc ts).eraseDups.length != (be sc ts).length)=true
    ·rw[if_pos c3]
    ·rw [if_neg c3];have J:vs.all (QZ 8)=true:=by
      rcases h' with h'|h'
      ·exact absurd (MY _ _ |>.mpr h') c3
      ·exact h'
     rw[if_pos J]
theorem AG {ts vs:List Expr}{ns:List Str}{kk k2:Nat}{pp p2:Pos}(j:env.scope=sc)(hk:sc.kind = .function)(h:tI sc ts vs ns=true):LF [.Tuple ts kk pp] (.Tuple vs k2 p2) env=pure (some ns):=by
 have F:env.blockKind = .function:=by unfold P6;rw[j,hk];rfl
 simp only[tI,hX,JD,decide_eq_true_eq]at h;obtain⟨⟨⟨⟨⟨J,O⟩,U⟩,Y⟩,Z⟩,c6⟩:=h;unfold LF;dsimp only;rw[F,J];simp only[P0,bne_self_eq_false,LY,if_false]
 split
 ·next z=>exact absurd z (by rw[NI];exact O)
 ·generalize hL:List.filterMap _ ts=L;obtain rfl:L=be sc ts:=by
   rw[<- hL];unfold be;congr 1
   funext x
   cases x <;> first|rfl|(unfold Ro;rw[j])
  rw[Y,Z,c6,U];rfl
theorem qW {i:Nat}(h:tH C i x=true):C.N[i]? = some x/\C.sc.names.lookup x=some .local:=by
 simpa[tH]using h
theorem eN {tg:Expr}(h:L3 e (some tg) l env=pure b):MM [tg] e l env=pure b:=by
 unfold MM;exact h
theorem AH {tg:Expr}(j:env.scope=sc)(hk:sc.kind = .function)(h:zb sc tg e=true):LF [tg] e env=pure none:=by
 cases tg with
 | Tuple ts kk pp =>
   cases e with
   |Tuple vs k2 p2=>exact yj j hk h
   |_=>rfl
 |_=>first|rfl|(cases h;done)
theorem p9 {elt:Expr}{gens:List K3}{s:Scope}{px:Pos}(j:env.scope=sc)(hk:sc.kind = .function) :
 L3 (.ListComp elt gens s pos) (some (.Name x px)) l env=pure (tJ sc x px (.ListComp elt gens s pos)):=by
 have z:env.blockKind = .function:=by unfold P6;rw[j,hk];rfl
 unfold L3;dsimp only;rw[z];unfold tJ Ro;rw[j];rfl
theorem vG {ek ev:Expr}{gens:List K3}{s:Scope}{px:Pos}(j:env.scope=sc)(hk:sc.kind = .function) :
 L3 (.DictComp ek ev gens s pos) (some (.Name x px)) l env=pure (sc.names.lookup x==some .local&&px.line==(Expr.DictComp ek ev gens s pos).pos.line && !(s.names.any λ(n,k)=>n==x&&(k == .local || k == .cell))):=by
 have z:env.blockKind = .function:=by unfold P6;rw[j,hk];rfl
 unfold L3;dsimp only;rw[z];unfold Ro;rw[j];rfl
mutual
theorem sS:∀ (m:MS) (G:Good C Φ k X) (hk:C.sc.kind = .function) (s:Stmt),okS m C s=true->PS X s (lS X.K (wS Φ m))
 |.asg g m,G,hk,s,h=>by
  refine iZ s h λts e pos h1=>?_;clear h;refine cB ts h1 λtg h=>?_;clear h1;simp only[hX]at h;obtain⟨⟨⟨F,he⟩,U⟩,O⟩:=h;have hw:=AH G.sc hk U;have pg:=sG G g tg F;have plain:MM [tg] e pos.line X.env=pure false->PS X (.Assign [tg] e pos) (lS X.K (gP (wE Φ m) (bG g))):=λhs =>
   PS.imp (tZ (sE m G e he) pg hs hw (by cases tg <;> first|rfl|(cases U;done))) (xA (mE G.mono m))
  cases tg with
  |Tuple ts a b=>exact plain (eN (kF O))
  | Name x px =>
    cases e with
    | ListComp elt gens sc cpos =>
      by_cases sw:tJ C.sc x px (.ListComp elt gens sc cpos)=true
      ·cases g with
       |tup gs=>exact absurd F J9
       | name i =>
         cases m with
         | comp fr N' c =>
           replace he:=bF he;have B:bg sc X.env.scope X.N N' fr:=by rw[G.sc,G.N];exact jU he.1
           have B':bg sc C.sc C.N N' fr:=jU he.1;have Y:PG X (.Name x px) (i5 i):=by
            have F:=bF F;have F:=Pe (bF F.1) F.2;exact qz G.nd (by rw[G.N];exact of_decide_eq_true F.1.1) (G.loc F.1.2) (G.own F.2)
           have Z:∀ l,L3 (.ListComp elt gens sc cpos) (some (.Name x px)) l X.env=pure true:=λl=>by rw[p9 G.sc hk,sw]
           have mc:=mCmp G.mono fr c
           cases c with
           | last src g ifs m =>
             have h2:=he.2;simp only[okC]at h2
             split at h2
             ·rename_i t it fs a;simp only[hX,decide_eq_true_eq]at h2;obtain⟨⟨⟨⟨rfl,hi⟩,L⟩,ht⟩,J⟩:=h2;refine PS.imp (jo (i:=i) (g:=lG X.K (bG g)) (wi:=lI X.K (wI Φ src)) G.calm G.hx B (λg' z=>by simp at z) (sI src G _ t hi).1 (λs H fp=>sG (G.blk B' s H fp) g t L) (tb:=λp=>lC X.K p (bo (wTl Φ ifs) (fh (wE Φ m)))) (λs H fp p=>?_) (sI src G _ t hi).2 Y (Z _)) λD σ H h=>?_
              ·have G':=G.blk B' s H fp;exact eM (p:=p) G' (bL (mE G.mono m)) (mTl G.mono ifs) (PB.imp (kn G'.hx (sE m G' elt J) rfl) (gN (mE G.mono m))) (sTl ifs G' fs ht)
              ·exact fj (mI G.mono src) (aQ (bL (mE G.mono m)) (mTl G.mono ifs)) σ H _ (lF mc D σ H h)
             ·cases h2
           | more src g ifs rest =>
             have h2:=he.2;simp only[okC]at h2
             split at h2
             ·rename_i t it fs a g2 gs;simp only [hX,decide_eq_true_eq] at h2;obtain ⟨⟨⟨⟨rfl,hi⟩,L⟩,ht⟩,J⟩:=h2;have HI:∀ g',(g2::gs)[0]? = some g'->g'.is_async=0:=fun g' z=>by
               have z':g2=g':=by simpa using z
               subst z';exact gU J
              refine PS.imp (jo (i:=i) (g:=lG X.K (bG g)) (wi:=lI X.K (wI Φ src)) G.calm G.hx B HI (sI src G _ t hi).1 (λs H fp=>sG (G.blk B' s H fp) g t L) (tb:=λp=>lC X.K p (bo (wTl Φ ifs) (wCl Φ rest))) (λs H fp p=>?_) (sI src G _ t hi).2 Y (Z _)) λD σ H h=>?_
              ·have G':=G.blk B' s H fp;exact eM (p:=p) G' (mCl G.mono rest) (mTl G.mono ifs) (sCl rest G' elt (⟨t,it,fs,0⟩::g2::gs) sc cpos 0 (.inl rfl) p J) (sTl ifs G' fs ht)
              ·exact fj (mI G.mono src) (aQ (mCl G.mono rest) (mTl G.mono ifs)) σ H _ (lF mc D σ H h)
             ·cases h2
         |_=>exact absurd he J9
      ·refine plain ?_;simp only[NI]at sw;refine eN ?_;rw[p9 G.sc hk,sw]
    |SetComp _ _ _ _=>cases m <;> exact absurd he J9
    | DictComp _ _ _ _ _ =>
      refine plain (eN ?_);rw[vG G.sc hk];unfold CK at O;simp only[JD]at O;rw[O]
    |_=>exact plain (eN rfl)
  |_=>cases U
 |.par i j a b,G,hk,s,h=>by
  refine iZ s h λts e pos h=>?_;refine cB ts h λtg h=>?_;refine eX tg h λts k p h=>?_;refine eX e h λes k' p' h=>?_;refine gd ts h λt u h=>?_;refine gd es h λe f h=>?_;refine dZ t h λx px h=>?_;refine dZ u h λy py h=>?_;simp only[hX,decide_eq_true_eq]at h;obtain⟨⟨⟨⟨⟨⟨⟨hi,hj⟩,HJ⟩,n1⟩,n2⟩,U⟩,hb⟩,hw⟩:=h;obtain⟨i1,i2⟩:=qW hi;obtain⟨j1,j2⟩:=qW hj;exact PS.imp (Bw G.calm G.nd (by rw[G.N];exact i1) (by rw[G.N];exact j1) HJ (by rw[G.sc];exact i2) (by rw[G.sc];exact j2) (bJ (mE G.mono a) (aG (mE G.mono b) aB) (sE a G _ U) (bJ (mE G.mono b) aB (sE b G _ hb) cN (ak n2)) (ak n1)) (AG G.sc hk hw) (eN rfl)) (v5 (aG (mE G.mono a) (aG (mE G.mono b) aB)))
 |.put o i m,G,hk,s,h=>by
  refine iZ s h λts e pos h=>?_;refine cB ts h λtg h=>?_;refine ef tg h λx y tp h=>?_;simp only[hX]at h;obtain⟨⟨⟨⟨HK,O⟩,ho⟩,hi⟩,he⟩:=h;exact Cj (by have:=G.units;lia) (mE G.mono m) (mE G.mono o) (mE G.mono i) (sE m G e he) (sE o G x ho) (sE i G y hi) (eN (kF O)) rfl (λv=>by cases y <;> first|rfl|(cases HK;done))
 |.aug i op m,G,hk,s,h=>by
  refine qw s h λt o e pos h=>?_;refine dZ t h λx _ h=>?_;simp only[hX,decide_eq_true_eq]at h;obtain⟨⟨⟨⟨⟨rfl,HL⟩,hi⟩,hl⟩,hf⟩,he⟩:=h
  cases op with
  |add=>exact jC G.nd (by rw[G.N];exact hi) (G.loc hl) (sE m G _ he) uW lH (mE G.mono m) (G.own hf)
  |sub=>exact jC G.nd (by rw[G.N];exact hi) (G.loc hl) (sE m G _ he) uX lJ (mE G.mono m) (G.own hf)
  |ext=>exact jC G.nd (by rw[G.N];exact hi) (G.loc hl) (sE m G _ he) ve lP (mE G.mono m) (G.own hf)
  |mul=>exact jC G.nd (by rw[G.N];exact hi) (G.loc hl) (sE m G _ he) uZ lK (mE G.mono m) (G.own hf)
  |_=>simp at HL
 |.drop m,G,hk,s,h=>by
  refine CG s h λe _ h=>?_;simp only[hX]at h;exact PS.imp (zu (sE m G _ h.2) (kF h.1)) (uU (mE G.mono m))
 |.ret m,G,hk,s,h=>by
  refine yg s h λo _ h=>?_;refine jos o h λe h=>?_;exact PS.imp (jd (sE m G _ h)) (xz (mE G.mono m))
 |.ite c a b,G,hk,s,h=>by
  refine Fe s h λt x y _ h=>?_;simp only[hX]at h;exact PS.imp (rD (sT c G _ h.1.1) (sSs a G hk _ h.1.2) (sSs b G hk _ h.2)) (Ai (mT G.mono c))
 |.for g src b,G,hk,s,h=>by
  refine E4 s h λtg it body els _ h=>?_;refine oX els h fun  h=>?_;simp only[hX]at h;obtain⟨⟨⟨hs,F⟩,hi⟩,hb⟩:=h;exact PS.imp (u8 (λe s z=>(G.hx e s z).elim) G.calm (sI src G _ _ hi).1 (sG G g _ F) (sSs b G hk _ hb) (jT hs)) (xB (mI G.mono src) (mSs G.mono b))
 |.while c b,G,hk,s,h=>by
  refine AD s h λt body els _ h=>?_;refine oX els h fun  h=>?_;simp only[hX]at h;exact PS.imp (wl (λe s z=>(G.hx e s z).elim) (sT c G _ h.1) (sSs b G hk _ h.2)) (sJ (mT G.mono c) (mSs G.mono b))
 |.bot,G,hk,s,h=>λpins s0 σ H D I g9=>(by obtain⟨ρ,M,A,rs,rm,l,q⟩:=g9;exact q.elim)
 |.pass,G,hk,s,h=>by
  refine CI s h λ_ h=>?_;exact PS.imp zt lB
 |.brk,G,hk,s,h=>by
  refine AE s h λ_ h=>?_;exact PS.imp wj sH
 |.cnt,G,hk,s,h=>by
  refine tE s h λ_ h=>?_;exact PS.imp qf uT
theorem sSs:∀ (m:MSs) (G:Good C Φ k X) (hk:C.sc.kind = .function) (s:List Stmt),okSs m C s=true->PSs X s (lS X.K (wSs Φ m))
 |.nil,G,hk,s,h=>by
  simp[okSs]at h;subst h;exact PSs.imp kh lB
 |.cons m r,G,hk,[],h=>by simp[okSs]at h
 |.cons m r,G,hk,s::ss,h=>by
  simp only[okSs,hX]at h;exact PSs.imp (cX (sS m G hk s h.1) (sSs r G hk ss h.2)) (xx (mS G.mono m) (mSs G.mono r))
end
end
end
section
structure FD where
 name:Str
 st:Stmt
 N:List Str
 np:Nat
 body:MSs
noncomputable def cQ (N:List Str) (ds:List D):am:=ds.map some++Jj (N.length - ds.length) none
noncomputable def phi (T:List FD):Nat->Phi
 |0=>λ_ _ _ _=>False
 |k+1=>λf ds M Q=>∃ d,T[f]? = some d/\ds.length=d.np/\wSs (phi T k) d.body { nx:=λ_ M'=>Q .non M',rt:=Q } (cQ d.N ds) M
theorem de (T:List FD):∀ k f,aS (phi T k f)
 |0,f=>λ_ _ _ _ _ q=>q.elim
 |k+1,f=>λds M Q Q' h j=>(by obtain⟨d,e,l,q⟩:=j;exact⟨d,e,l,mSs (de T k) d.body { nx:=λ_ M'=>Q .non M',rt:=Q } { nx:=λ_ M'=>Q' .non M',rt:=Q' } _ _ ⟨λ_ M' q'=>h _ _ q',h,λ_ _ z=>z,λ_ _ z=>z⟩ q⟩)
noncomputable def kG (Γ:List Str) (cs:List (Str×D)) (d:FD):Bool :=
 decide ((aj d.st).kind = .function) && !(aj d.st).isCoroutine && !(aj d.st).isGenerator&&decide (d.N.Nodup)&&decide (d.np<=d.N.length)
  && (d.N.take d.np).all (λx=>(aj d.st).names.lookup x==some .local || (aj d.st).names.lookup x==some .cell)
  && (aj d.st).names.all (λy=>!(y.2 == .free))&&okSs d.body ⟨Γ,d.N,aj d.st,d.N,cs,0,d.name⟩ (bq d.st)
theorem gf {Γ:List Str}{cs:List (Str×D)}{d:FD}(h:kG Γ cs d=true):cY d.N (d.N.take d.np) (aj d.st)/\(d.N.take d.np).length=d.np/\okSs d.body ⟨Γ,d.N,aj d.st,d.N,cs,0,d.name⟩ (bq d.st)=true:=by
 simp only[kG,hX,decide_eq_true_eq,JD]at h;obtain⟨⟨⟨⟨⟨⟨⟨h1,h2⟩,F⟩,J⟩,Z⟩,L⟩,O⟩,U⟩:=h;have j:(d.N.take d.np).length=d.np:=by rw[Jx];lia
 refine⟨⟨h1,h2,F,J,by rw[j],λx hx=>?_,λy Y e=>?_⟩,j,U⟩
 ·have z:=JK.mp L x hx;simpa using z
 ·have z:=JK.mp O y Y;rw[e]at z;simp at z
section
variable {P:Jy} {w:JQ} {K:Frag} {mg:Str->Option hW} {base:Heap}
theorem CP {T:List FD}{k i:Nat}{H:Hp}{a:Addr}{ns:List Int}(F:rT H)(J:SqL K H a (ns.map V.int))(h:phi T k i [.con (ns.map D.int)] (λ_=>none) λd _=>d = .bl true) :
 lSp K (phi T k i) [.ref a] H (λv _=>v = .bl true) λ_ _ _=>False:=by
 have j:RM K (λ_=>none) H:=λ_ _ z=>by cases z
 refine⟨[.con (ns.map D.int)],λ_=>none,j,RDs.cons (Tz.mpr ⟨a,ns.map V.int,rfl,?_,RDs.ints ns⟩) RDs.nil,de T k i [.con (ns.map D.int)] (λ_=>none) (λd _=>d = .bl true) (KE' K (λ_=>none) H λv _=>v = .bl true) (λd M' e=>λv H' x rm rd=>?_) h⟩
 ·rcases J with(z|⟨o,z⟩)|z
  ·rcases F a with q|⟨o,xs,q⟩
   ·rw[z]at q;cases q
   ·rw[z]at q;cases q
  ·exact .inl ⟨o,z⟩
  ·exact .inr z
 ·subst e;exact Tt.mp rd
end
theorem bO (us:List hW)(h:us.length=1):∃ a,us=[a]:=List.length_eq_one_iff.mp h
theorem bH (us:List hW)(h:us.length=2):∃ a b,us=[a,b]:=by
 cases us with
 |nil=>cases h
 |cons a us=>obtain⟨b,rfl⟩:=bO us (Nat.succ.inj h);exact⟨a,b,rfl⟩
theorem zc (us:List hW)(h:us.length=3):∃ a b c,us=[a,b,c]:=by
 cases us with
 |nil=>cases h
 |cons a us=>obtain⟨b,c,rfl⟩:=bH us (Nat.succ.inj h);exact⟨a,b,c,rfl⟩
end
end Mi
variable {X:Cx}
theorem PS.nox {st:PySem.Stmt}{t:TS}(h:PS X.nox st t):PS X st t:=λpins s σ H D I hw =>
 PySem.wpAny_mono (h pins s σ H D (I.wish _) hw) (λ_ _ q=>q.unwish) λ_ _ z=>False.elim z
namespace Mi
theorem RS.start {K:Frag}{H:Hp}{N:List Str}{ds:List D}{vs:List V}(rs:RDs K H ds vs):RS K H (start N vs) (cQ N ds):=by
 refine⟨by simp[L2.start,cQ,rs.length],λj dd F=>?_⟩
 unfold cQ at F;unfold L2.start
 by_cases J:j<ds.length
 ·rw[MD (by simpa using J),JF]at F
  cases e3:ds[j]? with
  |none=>rw[e3]at F;cases F
  | some z =>
    rw[e3]at F;cases F;obtain⟨v,L,rv⟩:=rs.get e3;refine⟨v,?_,rv⟩;rw[MD (by rw[Jc,rs.length];exact J),JF,L];rfl
 ·rw[Mo (by simpa using J),Pb]at F
  split at F <;> cases F
end Mi
section
theorem PI.nox {tg it:Expr}{wi:TI}(h:PI X.nox tg it wi):PI X tg it wi:=λpins s σ H R I hw =>
 JS (h pins s σ H R (I.wish _) hw) (λv s1 q=>JS q (λitv s2 j=>(by obtain⟨it,fp,tn,J,H',e,I',T,st,f,r⟩:=j;exact⟨it,fp,tn,J,H',e,I'.unwish,T,st,f,r⟩)) λ_ _ z=>False.elim z) λ_ _ z=>False.elim z
theorem PG.nox {tg:Expr}{t:TG}(h:PG X.nox tg t):PG X tg t:=λpins s σ H v u Q I r hw =>
 JS (h pins s σ H v u Q (I.wish _) r hw) (λ_ _ j=>(by obtain⟨σ',H',I',q⟩:=j;exact⟨σ',H',I'.unwish,q⟩)) λ_ _ z=>False.elim z
namespace Mi
noncomputable abbrev noR (A:bd):bd:={ A with rt:=λ_ _=>False }
structure GS (K:Frag) (M0:Mem) (H0:Hp) (XE:Int->Mem->Prop) (A:bd) (D:bD) (ρ:am) (M:Mem) (σ:St) (H:Hp):Prop where
 rs:RS K H σ ρ
 rm:RM K M H
 x0:Ext M0 H0 M H
 ra:∀ n M',A.rt (.tup [.int n]) M'->0<=n->n<=1000->XE n M'
 rn:∀ M' v H',Ext M0 H0 M' H'->RM K M' H'->A.rt .non M'->D.rt v H'
 ln:Link K M H (noR A) D
noncomputable def gS (K:Frag) (M0:Mem) (H0:Hp) (XE:Int->Mem->Prop) (r:TSd):TS:=λD σ H=>∃ ρ M A,GS K M0 H0 XE A D ρ M σ H/\r A ρ M
variable {pos:Pos}
section
variable {X:Cx} {K:Frag} {M0:Mem} {H0:Hp} {XE:Int->Mem->Prop} {Φ:Phi} {st:Stmt} {rest:List Stmt} {t u:TSd}
theorem AI (h:PS X.nox st (lS K t))(n:∀ A ρ M,t A ρ M->t (noR A) ρ M):PS X st (gS K M0 H0 XE t) :=
 PS.imp (PS.nox h) λD σ H g9=>(by obtain⟨ρ,M,A,g,q⟩:=g9;exact⟨ρ,M,noR A,g.rs,g.rm,g.ln,n _ _ _ q⟩)
theorem ze:PSs X [] (gS K M0 H0 XE fX) :=
 PSs.imp kh λD σ H g9=>(by obtain⟨ρ,M,A,g,q⟩:=g9;exact g.ln.nx ρ M σ H Ext.refl g.rs g.rm q)
theorem pd (h1:PS X st (gS K M0 H0 XE t))(h2:PSs X rest (gS K M0 H0 XE u)):PSs X (st::rest) (gS K M0 H0 XE (gO t u)) :=
 PSs.imp (cX h1 h2) λD σ H g9=>(by
  obtain⟨ρ,M,A,g,q⟩:=g9;exact⟨ρ,M,{ A with nx:=u A },⟨g.rs,g.rm,g.x0,g.ra,g.rn,⟨λρ' M' σ' H' x rs' rm' q'=>⟨ρ',M',A,⟨rs',rm',g.x0.trans x,g.ra,g.rn,g.ln.ext x⟩,q'⟩,λ_ _ _ _ _ _ _ z=>z.elim,g.ln.bk,g.ln.ct⟩⟩,q⟩)
theorem Ff {c:Expr}{a b:List Stmt}{tc:TTd}(mc:aI tc)(L:PT X.nox c (lT K tc))(O:PSs X a (gS K M0 H0 XE t))(U:PSs X b (gS K M0 H0 XE u)):PS X (.If c a b pos) (gS K M0 H0 XE (sIf tc t u)) :=
 PS.imp (rD (PT.nox L) O U) λD σ H g9=>(by
  obtain⟨ρ,M,A,g,q⟩:=g9;refine⟨ρ,M,g.rs,g.rm,mc _ _ _ _ (λk z j H1 F J=>?_) q⟩;have g1:GS K M0 H0 XE A D ρ z σ H1:=⟨g.rs.mono (F.stab g.rm),J,g.x0.trans F,g.ra,g.rn,g.ln.ext F⟩
  cases k with
  |true=>rw[if_pos rfl]at j;dsimp only;rw[if_pos rfl];exact⟨ρ,z,A,g1,j⟩
  |false=>rw[if_neg J9]at j;dsimp only;rw[if_neg J9];exact⟨ρ,z,A,g1,j⟩)
theorem tL {src:TId}{b:BT}{tb:TSd}(ms:bN src)(mb:aJ tb)(D:bD)(σ:St)(H:Hp)(h:gS K M0 H0 XE (kA src b tb) D σ H):wn (lI K src) (lG K b) (gS K M0 H0 XE tb) D σ H:=by
 obtain⟨ρ,M,A,g,q⟩:=h;refine⟨ρ,M,g.rs,g.rm,ms _ _ _ _ (λxs chk M1 q1 J H1 x1 Y it=>?_) q⟩;refine⟨λi m σ H'=>m=xs.length - i/\i<=xs.length /\ ∃ ρ F,RS K H' σ ρ /\ RM K F H'/\Ext M1 H1 F H'/\bj b tb chk A (xs.drop i) ρ F,⟨xs.length,by simp,Kk _,ρ,M1,g.rs.mono (x1.stab g.rm),Y,Ext.refl,q1⟩,?_⟩
 rintro i m σ2 H2 ⟨rfl,hi,ρ2,F,Z,j,x2,q2⟩;have HI:=x2.stab Y
 by_cases L:i<xs.length
 ·rw[K5 L]at q2;obtain⟨c,ρ',hb,q3⟩:=q2;obtain⟨go,yl⟩:=(it F H2 HI j c i).2 L;refine .inr ⟨go,λσ' H'=>∃ m',m'<xs.length - i/\(m'=xs.length - (i+1)/\i+1<=xs.length /\ ∃ ρ M,RS K H' σ' ρ /\ RM K M H'/\Ext M1 H1 M H'/\bj b tb chk A (xs.drop (i+1)) ρ M),λσ' H' h=>h,λx' H' y=>?_⟩;obtain⟨yy,d,hd,rd⟩:=yl x' H' y;rw[Jh L]at hd
  cases hd
  obtain⟨xy,rmy⟩:=yy.ext j;have HJ:=x1.trans (x2.trans xy);refine⟨_,ρ2,ρ',rd,Z.mono (xy.stab j),hb,λσ3 HK=>?_⟩;have nx:∀ ρ5 U σ5 O,Ext F H' U O->RS K O σ5 ρ5->RM K U O->bj b tb chk A (xs.drop (i+1)) ρ5 U -> ∃ m',m'<xs.length - i/\(m'=xs.length - (i+1)/\i+1<=xs.length /\ ∃ ρ M,RS K O σ5 ρ /\ RM K M O/\Ext M1 H1 M O/\bj b tb chk A (xs.drop (i+1)) ρ M) :=
   λρ5 U σ5 O x5 HL HM q5=>⟨xs.length - (i+1),by lia,rfl,L,ρ5,U,HL,HM,(x2.trans xy).trans x5,q5⟩
  exact⟨ρ',F,{ A with nx:=bj b tb chk A (xs.drop (i+1)),ct:=bj b tb chk A (xs.drop (i+1)),bk:=A.nx },⟨HK,rmy,g.x0.trans HJ,g.ra,g.rn,⟨nx,λ_ _ _ _ _ _ _ z=>z.elim,λρ5 U σ5 O x5=>g.ln.nx ρ5 U σ5 O (HJ.trans x5),nx⟩⟩,q3⟩
 ·have e:i=xs.length:=by lia
  subst e;rw[MA]at q2;exact .inl ⟨(it F H2 HI j q2.1 _).1 (Jg _),g.ln.nx ρ2 F σ2 H2 (x1.trans x2) Z j q2.2⟩
theorem E6 {ev:Expr}{te:TEd}{i:Nat}(me:ae te)(he:PE X.nox ev (lE K te)):PSs X [.Return (some ev) pos] (gS K M0 H0 XE (gO (gP te (cq i)) (iT (wC .non)))) :=
 PSs.imp (eF (jd (PE.nox he))) λD σ H g9=>(by
  obtain⟨ρ,M,A,g,q⟩:=g9;refine⟨ρ,M,g.rs,g.rm,me _ _ _ _ (λd j g9 v H1 x1 rm1 rd1=>?_) q⟩;obtain⟨ρ',e,z⟩:=g9;exact g.rn j v H1 (g.x0.trans x1) rm1 z)
noncomputable def RL (e:ME):MSs:=.cons (.ite (.chain .le .le (.int 0) e (.int 1000)) (.cons (.ret (.tup (.cons e .nil))) .nil) (.cons .bot .nil)) .nil
theorem zf {e:ME}{A:bd}{ρ:am}{M:Mem}{d:D}(hd:∀ (M':Mem) (Q:QD),wE Φ e ρ M' Q->Q d M')(h:wSs Φ (RL e) A ρ M):∃ n:Int,d = .int n/\0<=n/\n<=1000/\A.rt (.tup [.int n]) M:=by
 simp only[RL,wSs,wS,wT,wA,gO,sIf,iT,dG,ci,wAr,aN,bA,opC]at h;rw[wE,wE]at h;have h:=hd _ _ h
 cases d with
 | int n =>
   obtain⟨k,z,h⟩:=h
   cases z
   by_cases h0 : 0<=n
   ·rw[if_pos (decide_eq_true h0)]at h;obtain⟨k,j,h⟩:=h
    cases j
    by_cases h1:n<=1000
    ·rw[if_pos (decide_eq_true h1)]at h;rw[wE]at h;exact⟨n,rfl,h0,h1,(hd _ _ h).2⟩
    ·rw[if_neg (by simpa using h1)]at h
     exact h.elim
   ·rw[if_neg (by simpa using h0)]at h
    obtain⟨k,j,h⟩:=h
    cases j
    exact h.elim
 |_=>exact h.elim
theorem AJ {e:ME}{A:bd}{ρ:am}{M:Mem}(h:wSs Φ (RL e) A ρ M)(he:(∃ i,e = .int i)∨∃ j,e = .var j):∃ n:Int,0<=n/\n<=1000/\(∀ Q:QD,Q (.int n) M->wE Φ e ρ M Q)/\A.rt (.tup [.int n]) M:=by
 rcases he with⟨i,rfl⟩|⟨j,rfl⟩
 ·obtain⟨n,e,h0,h1,q⟩:=zf (d:=.int i) (λM' Q q=>by rw[wE]at q;exact q) h
  cases e
  exact⟨i,h0,h1,λQ q=>by rw[wE];exact q,q⟩
 ·have z:∃ d,ρ[j]? = some (some d):=by
   simp only[RL,wSs,wS,wT,gO,sIf,dG,ci]at h;rw[wE,wE]at h;obtain⟨d,e,_⟩:=h;exact⟨d,e⟩
  obtain⟨d,e⟩:=z;obtain⟨n,rfl,h0,h1,q⟩:=zf (d:=d) (λM' Q q=>(by
   rw[wE]at q;obtain⟨d',e',q⟩:=q;rw[e]at e'
   cases e'
   exact q)) h
  exact⟨n,h0,h1,λQ q=>by rw[wE];exact⟨_,e,q⟩,q⟩
theorem E7 {it tg:Expr}{body:List Stmt}{src:TId}{b:BT}{tb:TSd}(j:QA (model X.prog X.w) X.A X.env X.xe)(z:X.calm=true)(hi:PI X.nox tg it (lI K src))(F:PG X.nox tg (lG K b))(J:PSs X body (gS K M0 H0 XE tb))(ms:bN src)(mb:aJ tb)(L:∀ x,KL it X.env x=pure x):PS X (.For tg it body [] pos) (gS K M0 H0 XE (kA src b tb)) :=
 PS.imp (u8 j z (PI.nox hi) (PG.nox F) J L) (tL ms mb)
end
end Mi
end
open PySem.W
namespace Mi
noncomputable def XMF (K:Frag) (M:Mem) (H:Hp) (cls:hW) (fld:Str) (Q:VK) (E:XK):QD:=λd M' =>
 (∀ n:Int,d = .tup [.int n]->0<=n->n<=1000 -> ∀ H' dx,Ext M H M' H'->RM K M' H'->H' dx=none->E cls (some dx) (upd H' dx (.xd [(fld,.int n)])))/\(d = .non -> ∀ v H',Ext M H M' H'->RM K M' H'->Q v H')
noncomputable def pf (K:Frag) (r:RAd) (cls:hW) (fld:Str):Sp:=λvs H Q E=>∃ ds M,RM K M H/\RDs K H ds vs/\r ds M (XMF K M H cls fld Q E)
noncomputable def XEF (K:Frag) (M:Mem) (H:Hp) (cls:hW) (fld:Str) (E:XK):Int->Mem->Prop:=λn M'=>∀ H' dx,Ext M H M' H'->RM K M' H'->H' dx=none->E cls (some dx) (upd H' dx (.xd [(fld,.int n)]))
section
variable {P:Jy} {w:JQ} {K:Frag} {mg:Str->Option hW} {base:Heap}
theorem AK {N:List Str}{qual:Str}{scope:Scope}{f:Addr}{cd:hW}{A:JI}{outer:List Env}{s:z0}{H:Hp}{E:XK}{M0:Mem}{Φ:Phi}{x ta tb:Str}{np cpos pos:Pos}{z:Expr}{me:ME}{C D fI:Addr}{fld:Str}{fd:KW}{ps:List Str}{k:Nat}(F:(∃ i,me = .int i)∨∃ j,me = .var j)(L:PE (cv (CXF P w base (.ref C)) P w K mg base N qual scope f cd A outer s H E).nox z (lE K (wE Φ me)))(hg:scope.names.lookup x=some .globalImplicit)(hm:mg x=some (.ref C))(Z:kD K C D fI fld)(FI:br P w K mg base CX0 k fI fd ps (spI C fld ta tb))(hr:Room (k+1) (A.deeper (Na qual scope s.heap.objs.size f cd)))(hb:Binds K fd ps [])(O:ta.length+tb.length<=100)(U:(x==("__debug__":Str))=false)(he:∀ env,Jt [z] env=[(false,eval z env)])(Y:∀ env,(KH cpos (Jt [z] env)).any (·.1)=false) :
 PSs (cv (CXF P w base (.ref C)) P w K mg base N qual scope f cd A outer s H E) [.Raise (some (.Call (.Name x np) [z] [] cpos)) none pos] (gS K M0 H (XEF K M0 H (.ref C) fld E) (wSs Φ (RL me))):=by
 refine eF λpins s1 σ H1 D I g9=>?_;obtain⟨ρ,M,Aa,g,q⟩:=g9;obtain⟨n,h0,h1,HI,HJ⟩:=AJ q F;refine vt I rfl hg hm Z FI hr hb O (cG (PE.nox L) gw (he _)) ?_ U (he _) (Y _);refine⟨ρ,M,g.rs,g.rm,HI _ λv H2 x2 HK rd=>?_⟩
 cases Tq.mp rd
 exact⟨n,rfl,h0,h1,λs2 e dx J ad HL HM HN HP=>kE (g.ra n M HJ h0 h1 H2 dx (g.x0.trans x2) HK HL) J ad (by rw[ai (Ne.symm HM)];exact HN) HP⟩
theorem CQ {T:List FD}{m k kk:Nat}{d:FD}{f:Addr}{fd:KW}{C:Addr}{fld:Str}(eT:T[m]? = some d)(F:Fun K d.name d.name d.st f fd)(S:cY d.N (d.N.take d.np) (aj d.st))(L:(d.N.take d.np).length=d.np)(B:∀ (cdv:hW) (A:JI) (outer:List Env) (s:z0) (H:Hp) (E:XK) (M0:Mem),Room kk (A.deeper (Na d.name (aj d.st) s.heap.objs.size f cdv)) ->
   PSs (cv (CXF P w base (.ref C)) P w K mg base d.N d.name (aj d.st) f cdv A outer s H E) (bq d.st) (gS K M0 H (XEF K M0 H (.ref C) fld E) (wSs (phi T k) d.body))) :
 br P w K mg base (CXF P w base (.ref C)) (kk+1) f fd (d.N.take d.np) (pf K (phi T (k+1) m) (.ref C) fld):=by
 obtain⟨oc,od,kV,doc,pm,an,cdv,ct,osl,rfl,lk,j⟩:=F.ex;refine yO lk j S (λvs H Q E h=>?_) λA outer s H vs Q E hr J=>?_
 ·obtain⟨ds,M,rm,rs,d',e',l,q⟩:=h;rw[eT]at e';cases e';rw[rs.length,l,L]
 ·obtain⟨ds,M,rm,rs,d',e',l,q⟩:=J;rw[eT]at e';cases e';refine⟨_,B cdv A outer s H E M hr,cQ d.N ds,M,{ nx:=λ_ M'=>XMF K M H (.ref C) fld Q E .non M',rt:=XMF K M H (.ref C) fld Q E },⟨RS.start rs,rm,Ext.refl,λn M' q h0 h1=>q.1 n rfl h0 h1,λM' v H' x rm' q=>q.2 rfl v H' x rm',⟨λρ M' σ H' x _ rm' q=>q.2 rfl .non H' x rm',λ_ _ _ _ _ _ _ z=>z.elim,λ_ _ _ _ _ _ _ z=>z,λ_ _ _ _ _ _ _ z=>z⟩⟩,q⟩
end
noncomputable def tRest (i:Nat) (C:Addr) (fld:Str):TS:=λD σ H=>(σ[i]? = some (some .non)/\D.rt .non H)∨∃ a dx n,σ[i]? = some (some (.ref a))/\IsF H a C dx fld n/\D.rt (.int n) H /\ ∀ p ho,H p=none->D.rt (.int n) (upd H p ho)
noncomputable def yk (i m:Nat) (ms:MEs):MSs:=.cons (.asg (.name i) .non) (.cons (.asg (.name i) (.call m ms)) (.cons (.ite (.cmp .is (.var i) .non) (.cons (.ret .non) .nil) .nil) (.cons (.asg (.tup (.cons (.name i) .nil)) (.var i)) (.cons (.ret (.var i)) .nil))))
section
variable {Φ:Phi} {i m:Nat} {ms:MEs} {ρ:am} {M:Mem} {Aa:bd}
theorem vH (hΦ:∀ f,aS (Φ f))(h:wSs Φ (yk i m ms) Aa ρ M):wA Φ ms (ρ.set i (some .non)) M λds J=>Φ m ds J λd j=>(d = .non/\Aa.rt .non j)∨∃ d0,d = .tup [d0]/\Aa.rt d0 j:=by
 have z:wE Φ (.call m ms)=wAr (Φ m) (wA Φ ms):=by rw[wE]
 have L:wE Φ (.var i)=iN i:=by rw[wE]
 have O:wE Φ .non=wC .non:=by rw[wE]
 have gt:∀ (ρ2:am) (x y:D),(ρ2.set i (some x))[i]? = some (some y)->y=x:=λρ2 x y e=>by
  by_cases U:i<ρ2.length
  ·rw[JY U]at e;cases e;rfl
  ·rw[List.getElem?_eq_none (by simpa using U)]at e;cases e
 simp only[yk,wSs,wS,gO,gP,z,L,O]at h;obtain⟨ρ',e,h⟩:=h
 cases e
 refine mA hΦ ms _ _ _ _ (λds J q=>hΦ m _ _ _ _ (λd j q=>?_) q) h;obtain⟨ρ',e,q⟩:=q
 cases e
 simp only[sIf,wT,dG,opC,iT,fX,wOp,L,O]at q;obtain⟨d',e,b,F,k,ek,q⟩:=q
 cases ek
 have ed:=gt _ _ _ e;subst ed
 cases d' with
 | non =>
   cases F
   rw[if_pos rfl]at q;exact .inl ⟨rfl,q⟩
 | tup ds =>
   cases F
   rw[if_neg J9]at q;obtain⟨d',e,ρ',eb,q⟩:=q;have ed:=gt _ _ _ e;subst ed
   cases ds with
   |nil=>cases eb
   |cons d0 r =>
   cases r with
   |cons _ _=>cases eb
   |nil =>
   cases eb
   obtain⟨d1,z,q⟩:=q;have ed:=gt _ _ _ z;subst ed;exact .inr ⟨d1,rfl,q⟩
 | _ =>
   cases F
   rw[if_neg J9]at q;obtain⟨d',e,ρ',eb,q⟩:=q;have ed:=gt _ _ _ e;subst ed
   cases eb
end
end Mi
end L2

namespace L2
open PySem PySem.Spec PyProof.Rows
open PySem.W
namespace Mi
section
variable {P:Jy} {w:JQ} {K:Frag} {mg:Str->Option hW} {base:Heap}
theorem AL {T:List FD}{m k kk:Nat}{d d1:FD}{f f1:Addr}{fd J:KW}{i0 ie i:Nat}{C D:Addr}{n xD x fx fld:Str}{Y:Expr}{es:List Expr}{ms:MEs}{ka:Nat}{fp cpos epos np HN xp apos HI tpos HP HQ HR:Pos}{rest:List Stmt}{Cc:Ctx}(eT:T[i0]? = some d)(L:d.body=yk i m ms)(HJ:bq d.st = .Assign [.Name x HP] (.Constant .none ka HQ) HR :: .Try [.Expr (.Call (.Name fx fp) (Y::es) [] cpos) epos] [.ExceptHandler (some (.Name xD np)) (some n) [.Assign [.Name x xp] (.Name n HN) apos] HI] [] [] tpos::rest)(F:Fun K d.name d.name d.st f fd)(S:cY d.N (d.N.take d.np) (aj d.st))(hl:(d.N.take d.np).length=d.np)(G:∀ (cdv:hW) (A:JI) (outer:List Env) (s:z0) (H:Hp) (E:XK),Room kk (A.deeper (Na d.name (aj d.st) s.heap.objs.size f cdv))->Good Cc (phi T k) kk (cv CX0 P w K mg base d.N d.name (aj d.st) f cdv A outer s H E).nox)(Z:∀ X:Cx,X.mg=mg->X.K=K->X.env.scope=aj d.st->vx X xD C D)(R:∀ X:Cx,X.mg=mg->X.K=K->X.env.scope=aj d.st->X.N=d.N->X.calm=true->PSs X rest (tRest i C fld))(hi:d.N[i]? = some x)(hx:(aj d.st).names.lookup x=some .local)(HS:d.N[ie]? = some n)(hn:(aj d.st).names.lookup n=some .local)(HK:ie≠i)(hd:(n==("__debug__":Str))=false)(HU:(n==("__classdict__":Str))=false)(F1:br P w K mg base (CXF P w base (.ref C)) kk f1 J (d1.N.take d1.np) (pf K (phi T k m) (.ref C) fld))(hg:(aj d.st).names.lookup fx=some .globalImplicit)(hm:mg fx=some (.ref f1))(hk:KN K (.ref f1)=true)(hb:Binds K J (d1.N.take d1.np) [])(ha:okEs ms Cc (Y::es)=true)(HV:(fx==("__debug__":Str))=false)(he:∀ env,Jt (Y::es) env=(false,eval Y env)::Jt es env)(HW:∀ env,(KH cpos (Jt es env)).any (·.1)=false)(HX:∀ env,L3 (.Call (.Name fx fp) (Y::es) [] cpos) none epos.line env=pure false) :
 br P w K mg base CX0 (kk+1) f fd (d.N.take d.np) (lSp K (phi T (k+1) i0)):=by
 refine F.ok S (λvs H Q E h=>?_) λcdv A outer s H vs Q E hr h=>?_
 ·obtain⟨ds,M,rm,rs,d',e',l,q⟩:=h;rw[eT]at e';cases e';rw[rs.length,l,hl]
 ·obtain ⟨ds,M,rm,rs,d',e',l,q⟩:=h;rw [eT] at e';cases e';rw [L] at q;have q:=vH (de T k) q;have G1:=G cdv A outer s H E hr;rw [HJ];refine ⟨_,cX (u3 (i:=i) S.nd hi (.inl hx) jb rfl (.inr hx)) (cX (AC (k:=kk) (C:=C) (D:=D) (i:=i) (ie:=ie) (f:=f1) (fd:=J) rfl rfl rfl (fun a=>Z _ rfl rfl rfl) S.nd hi hx HS hn HK hd HU F1 hr hg hm hk hb (sA ms G1 (Y::es) ha) HV (he _) (HW _) (HX _)) (R _ rfl rfl rfl rfl rfl)),?_⟩;have HY:RS K H ((start d.N vs).set i (some .non)) ((cQ d.N ds).set i (some .non)):=(RS.start rs).set i (Tv.mpr rfl);have HL:i < (start d.N vs).length:=by
   have hN:=(Jw.mp hi).1;have hv:vs.length<=d.N.length:=by rw[rs.length,l,<- hl,Jx];exact Sb _ _
   rw[L2.start,Jq,Jc,Lr];omega
  refine⟨_,M,HY,rm,mA (de T k) ms _ _ _ _ (λHZ M1 q1 I9 H1 x1 I0 I8=>⟨HZ,M1,I0,I8,de T k m _ _ _ _ (λdd M2 O=>⟨λnn e h0 h1 H' dx x2 U HM=>⟨dx,rfl,λa j=>?_⟩,λe v H' x2 U=>?_⟩) q1⟩) q⟩
  ·subst e
   rcases O with⟨z,_⟩|⟨d0,z,O⟩
   ·cases z
   cases z
   have nd:dx≠a:=λz=>by rw[z,au]at j;cases j
   have X2:=(x1.trans x2).trans (TB (ho:=.xd [(fld,.int nn)]) HM);have R2:=U.new (ho:=.xd [(fld,.int nn)]) HM;have X3:=X2.trans (TB (ho:=.ext (clsF a C dx)) j);have R3:=R2.new (ho:=.ext (clsF a C dx)) j;refine .inr ⟨a,dx,nn,?_,⟨au,by rw[ai nd];exact au⟩,O _ _ X3 R3 (Tq.mpr rfl),λp ho hp=>O _ _ (X3.trans (TB hp)) (R3.new hp) (Tq.mpr rfl)⟩
   rw[La HK,JY (by rw[NZ];exact HL)]
  ·subst e
   rcases O with⟨_,O⟩|⟨d0,z,_⟩
   ·exact .inl ⟨JY HL,O _ _ (x1.trans x2) U (Tv.mpr rfl)⟩
   ·cases z
end
end Mi
end L2

namespace L2
open PySem PySem.Spec PyProof.Rows
open PySem.W
section
variable {X:Cx}
theorem ym {i:Nat}{C:Addr}{x z fld o:Str}{U Y p2 p3 p4 p5 q0 q1 q2 q3 F q5 q6 q7 q8:Pos}{k1 k2 k3:Nat}(hi:X.N[i]? = some x)(hx:X.env.scope.names.lookup x=some .local)(hd:(x==("__debug__":Str))=false)(J:(x==("__classdict__":Str))=false)(g0:Gl X "isinstance")(m0:X.mg "isinstance" = none)(g1:Gl X z)(m1:X.mg z=some (.ref C))(d1:(z==("__debug__":Str))=false)(Z:nM X.K C)(hh:hasDictIn X.K C=true)(ha:findIn X.K (.ref C) fld=some none)(hb:NM (.Name x F) fld X.env (eval (.Name x F) X.env)=eval (.Name x F) X.env) :
 PSs X [.If (.Compare (.Name x U) [.Is] [.Constant .none k1 Y] p2) [.Return (some (.Constant .none k2 p3)) p4] [] p5,.Return (some (.IfExp (.Call (.Name "isinstance" q0) [.Name x q1,.Name z q2] [] q3) (.Attribute (.Name x F) fld q5) (.Constant (.str o) k3 q6) q7)) q8] (Mi.tRest i C fld):=by
 have L:∀ pos,PE X (.Name x pos) (rB i):=λpos=>gu hi (.inl hx) hd J;refine Mi.PSs.imp (cX (rD (qA BD (L _) jb (BE _)) (eF (jd jb)) kh) (eF (jd (nk (Bg (bM ya g0 m0 (by decide +kernel) (cG (L _) (cG (zH g1 m1 d1) gw rfl) rfl) (by decide) (by decide) rfl rfl)) (Cz (C:=C) (L _) hb Z hh ha) jc)))) λD σ H h=>?_
 rcases h with⟨j,q⟩|⟨a,dx,n,j,O,q,_⟩
 ·exact⟨.non,j,rfl,true,by simp,q⟩
 ·refine⟨.ref a,j,rfl,false,by simp,?_⟩
  refine⟨.ref a,j,a,C,dx,fld,n,.ref C,true,rfl,rfl,O,Z,?_,true,rfl,?_⟩
  ·unfold Ox;rw[if_pos (by simp[cV])]
  ·dsimp only;rw[if_pos rfl];exact⟨.ref a,j,a,dx,n,rfl,O,q⟩
end
end L2

namespace L2
open PySem PySem.Spec PyProof.Rows
open PySem.W
namespace Mi
theorem AM {K:Frag}{C:Addr}(y1:findIn K (.ref C) "__getattribute__" = some (some (.builtin "BaseException.__getattribute__")))(y2:findIn K (.ref C) "__getattr__" = some none)(z:findIn K (.ref C) "__class__" = some (some (.builtin "object.__class__")))(F:specialIn K (.builtin "object.__class__") "__get__" = some (some (.builtin "getset_descriptor.__get__")))(J:takesIn K (.builtin "object.__class__")=some true)(L:mroIn K C (.type "object")=some true)(O:subIn K (.ref C) (.type "BaseException")=some true)(U:isClsIn K C=true):nM K C:=by
 have j:(clsIn K C).isSome=true:=U;refine⟨y1,y2,λod=>?_,L,O,j⟩;obtain⟨cd,e⟩:=K8.mp j;unfold findObj;rw[e,Lj,z,Lj];simp[F,J]
section
variable {P:Jy} {w:JQ} {K:Frag} {mg:Str->Option hW} {base:Heap}
structure CS (K:Frag) (mg:Str->Option hW) (T:List FD) (m r:Nat) (cs:List (Str×D)):Prop where
 blt:∀ x∈bltNames,mg x=none
 fns:∀ (i:Nat) (d:FD),T[i]? = some d -> ∃ f fd,Fun K d.name d.name d.st f fd/\mg d.name=some (.ref f)/\nsIn K K6 d.name=some (some (.ref f))/\Binds K fd (d.N.take d.np) []
 ok:∀ (i:Nat) (d:FD),T[i]? = some d->i<m->i≠r->kG ((T.take m).map (·.name)) cs d=true
 cst:∀ x d,(x,d)∈cs -> ∃ u,mg x=some u/\GV K d u
theorem E8 {T:List FD}{m r:Nat}{cs:List (Str×D)}(h:((KZ m).all λi=>i==r || (T[i]?).all (kG ((T.take m).map (·.name)) cs))=true)(i:Nat)(d:FD)(e:T[i]? = some d)(hi:i<m)(hr:i≠r):kG ((T.take m).map (·.name)) cs d=true:=by
 have z:=JK.mp h i (Ot.mpr hi);rw[e]at z;simpa[hr]using z
def tM (P:Jy) (w:JQ) (K:Frag) (mg:Str->Option hW) (base:Heap) (T:List FD) (m:Nat) (cs:List (Str×D)) (CX:CXT) (k kk:Nat) (d:FD):Prop :=
 ∀ (f:Addr) (cdv:hW) (A:JI) (outer:List Env) (s:z0) (H:Hp) (E:XK),Room kk (A.deeper (Na d.name (aj d.st) s.heap.objs.size f cdv))->Good ⟨(T.take m).map (·.name),d.N,aj d.st,d.N,cs,0,d.name⟩ (phi T k) kk (cv CX P w K mg base d.N d.name (aj d.st) f cdv A outer s H E).nox
theorem qX {T:List FD}{m r:Nat}{dm dr:FD}{cs:List (Str×D)}{C:Addr}{fld:Str}(O:CS K mg T m r cs)(er:T[r]? = some dr)(nm:dm.N.Nodup)(nr:dr.N.Nodup)(Z:∀ k f fd,tM P w K mg base T m cs (CXF P w base (.ref C)) k (k+2) dm->Fun K dm.name dm.name dm.st f fd->br P w K mg base (CXF P w base (.ref C)) (k+3) f fd (dm.N.take dm.np) (pf K (phi T (k+1) m) (.ref C) fld))(hR:∀ k f fd,tM P w K mg base T m cs CX0 k (k+2) dr->(∀ f fd,Fun K dm.name dm.name dm.st f fd->br P w K mg base (CXF P w base (.ref C)) (k+2) f fd (dm.N.take dm.np) (pf K (phi T k m) (.ref C) fld))->Fun K dr.name dr.name dr.st f fd->br P w K mg base CX0 (k+3) f fd (dr.N.take dr.np) (lSp K (phi T (k+1) r))) :
 ∀ k:Nat,(∀ (i:Nat) (d:FD) (f:Addr) (fd:KW),T[i]? = some d->i<m->Fun K d.name d.name d.st f fd->br P w K mg base CX0 (k+2) f fd (d.N.take d.np) (lSp K (phi T k i))) /\ ∀ f fd,Fun K dm.name dm.name dm.st f fd->br P w K mg base (CXF P w base (.ref C)) (k+2) f fd (dm.N.take dm.np) (pf K (phi T k m) (.ref C) fld)
 |0=>⟨λi d f fd _ _ _=>⟨λvs H Q E h=>by obtain⟨ds,M,_,_,q⟩:=h;exact q.elim,λA outer s H args us vs Q E _ _ _ _ h=>by obtain⟨ds,M,_,_,q⟩:=h;exact q.elim⟩,
  λf fd _=>⟨λvs H Q E h=>by obtain⟨ds,M,_,_,q⟩:=h;exact q.elim,λA outer s H args us vs Q E _ _ _ _ h=>by obtain⟨ds,M,_,_,q⟩:=h;exact q.elim⟩⟩
 | k+1=>by
   obtain⟨IH,IX⟩:=qX O er nm nr Z hR k;have G:∀ (d:FD) (CX:CXT),d.N.Nodup->tM P w K mg base T m cs CX k (k+2) d:=λd CX nd f cdv A outer s H E hr=>by
    refine⟨λ_ _ z=>z,rfl,rfl,rfl,nd,λ_ _=>rfl,hr,O.blt,λj x hx=>?_,de T k,O.cst,λz=>(by cases z),λ_ z=>(by cases z)⟩
    have J:((T.take m).map (·.name))[j]? = some x:=hx;rw[JF,List.getElem?_take]at J
    by_cases Y:j<m
    ·rw[if_pos Y]at J
     cases U:T[j]? with
     |none=>rw[U]at J;cases J
     | some d2 =>
       rw[U]at J;cases J;obtain⟨f2,L,F2,m2,n2,b2⟩:=O.fns j d2 U;exact⟨f2,L,_,m2,n2,F2.kp,b2,IH j d2 f2 L U Y F2⟩
    ·rw[if_neg Y]at J;cases J
   refine⟨λi d f fd e hi F=>?_,λf fd F=>Z k f fd (G _ _ nm) F⟩
   by_cases hir:i=r
   ·subst hir;rw[er]at e;cases e;exact hR k f fd (G _ _ nr) IX F
   ·obtain⟨S,hl,hb⟩:=gf (O.ok i d e hi hir);refine F.ok (k:=k+2) S (λvs H Q E h=>?_) λcdv A outer s H vs Q E hr h=>?_
    ·obtain⟨ds,M,rm,rs,d',e',l,q⟩:=h;rw[e]at e';cases e';rw[rs.length,l,hl]
    ·obtain⟨ds,M,rm,rs,d',e',l,q⟩:=h;rw[e]at e';cases e';exact⟨_,sSs d.body (G d CX0 S.nd f cdv A outer s H E hr) S.kind _ hb,cQ d.N ds,M,{ nx:=λ_ M'=>KE' K M H Q .non M',rt:=KE' K M H Q },RS.start rs,rm,⟨λρ M' σ H' x rs' rm' q'=>q' .non H' x rm' (Tv.mpr rfl),λd M' v H' x rm' rd' q'=>q' v H' x rm' rd',λ_ _ _ _ _ _ _ z=>z,λ_ _ _ _ _ _ _ z=>z⟩,q⟩
end
end Mi
end L2

namespace L2
open PySem PySem.Spec PyProof.Rows
open PySem.W
namespace Mi
inductive XI where
 |pl (m:MS)
 |rs (c:MT) (e:ME)
inductive XL where
 |one (x:XI)
 |loop (g:MG) (src:MI) (b:List XI)
noncomputable def XI.ms:XI->MS
 |.pl m=>m
 |.rs c e=>.ite c (RL e) .nil
noncomputable def msI:List XI->MSs
 |[]=>.nil
 |x::r=>.cons x.ms (msI r)
noncomputable def msL (i:Nat) (v:ME):List XL->MSs
 |[]=>.cons (.asg (.name i) v) (.cons (.ret .non) .nil)
 |.one x::r=>.cons x.ms (msL i v r)
 |.loop g src b::r=>.cons (.for g src (msI b)) (msL i v r)
noncomputable def zg:MS->Bool
 |.asg _ _=>true
 |.drop _=>true
 |_=>false
noncomputable def ivB:ME->Bool
 |.int _=>true
 |.var _=>true
 |_=>false
noncomputable def rsB (xr:Str) (C:Ctx) (e:ME) (l:List Stmt):Bool:=match l with
 |[.Raise (some (.Call (.Name x _) [e1] [] _)) none _]=>x==xr&&aP e1&&okE e C e1&&ivB e
 |_=>false
noncomputable def ph (xr:Str) (C:Ctx):XI->Stmt->Bool
 |.pl m,s=>zg m&&okS m C s
 |.rs c e,s=>match s with
  |.If t a [] _=>okT c C t&&rsB xr C e a
  |_=>false
noncomputable def kH (xr:Str) (C:Ctx):List XI->List Stmt->Bool
 |[],l=>l.isEmpty
 | x::r,l=>match l with
   |s::l=>ph xr C x s&&kH xr C r l
   |[]=>false
noncomputable def yn (xr:Str) (C:Ctx):XL->Stmt->Bool
 |.one x,s=>ph xr C x s
 |.loop g src b,s=>match s with
  |.For tg it body [] _=>jO it&&okG g C tg&&okI src C tg it&&kH xr C b body
  |_=>false
noncomputable def okX (xr:Str) (C:Ctx) (v:ME):List XL->List Stmt->Bool
 |[],l=>match l with
  |[.Return (some ev) _]=>okE v C ev
  |_=>false
 | x::r,l=>match l with
   |s::l=>yn xr C x s&&okX xr C v r l
   |[]=>false
section
variable {C:Ctx} {Φ:Phi} {k:Nat} {X:Cx} {M0:Mem} {H0:Hp} {XE:Int->Mem->Prop}
theorem AN {m:MS}(h:zg m=true)(A:bd)(ρ:am)(M:Mem)(q:wS Φ m A ρ M):wS Φ m (noR A) ρ M:=by
 cases m <;> first|cases h|skip
 ·rw[wS]at q ⊢;exact q
 ·rw[wS]at q ⊢;exact q
section
variable (G:Good C Φ k X.nox) (hk:C.sc.kind = .function) {xr:Str}
 (hr:∀ (e:ME) (e1:Expr) (np cpos pos:Pos),aP e1=true->okE e C e1=true->ivB e=true->PSs X [.Raise (some (.Call (.Name xr np) [e1] [] cpos)) none pos] (gS X.K M0 H0 XE (wSs Φ (RL e))))
include G hk hr
theorem sXI (x:XI)(s:Stmt)(h:ph xr C x s=true):PS X s (gS X.K M0 H0 XE (wS Φ x.ms)):=by
 cases x with
 | pl m =>
   rw[ph,hX]at h;exact AI (sS m G hk s h.2) (AN h.1)
 | rs c e =>
   unfold ph at h;dsimp only at h
   split at h
   ·next t a p =>
    rw[hX]at h;have h2:=h.2;unfold rsB at h2
    split at h2
    ·next x np j cpos pos =>
     simp only[hX,beq_iff_eq]at h2;obtain⟨⟨⟨rfl,a1⟩,a2⟩,z⟩:=h2;show PS X _ (gS X.K M0 H0 XE (wS Φ (.ite c (RL e) .nil)));rw[wS];refine Ff (mT G.mono c) (sT c G t h.1) (hr e j np cpos pos a1 a2 z) ?_;rw[wSs];exact ze
    ·cases h2
   ·cases h
theorem sXs:∀ (l:List XI) (ss:List Stmt),kH xr C l ss=true->PSs X ss (gS X.K M0 H0 XE (wSs Φ (msI l)))
 |[],ss,h=>by
  rw[kH,Pj]at h;subst h;rw[msI,wSs];exact ze
 | x::r,ss,h=>by
   cases ss with
   |nil=>rw[kH]at h;cases h
   | cons s ss =>
     rw[kH,hX]at h;rw[msI,wSs];exact pd (sXI G hk hr x s h.1) (sXs r ss h.2)
theorem sXL (z:QA (model X.prog X.w) X.A X.env X.xe)(F:X.calm=true)(x:XL)(s:Stmt)(i:Nat)(v:ME)(r:List XL)(rest:List Stmt)(h:yn xr C x s=true)(j:PSs X rest (gS X.K M0 H0 XE (wSs Φ (msL i v r)))):PSs X (s::rest) (gS X.K M0 H0 XE (wSs Φ (msL i v (x::r)))):=by
 cases x with
 | one x =>
   rw[msL,wSs];exact pd (sXI G hk hr x s h) j
 | loop g src b =>
   rw[msL,wSs];refine pd ?_ j;unfold yn at h;dsimp only at h
   split at h
   ·next tg it body p =>
    simp only[hX]at h;obtain⟨⟨⟨h1,h2⟩,J⟩,L⟩:=h;rw[wS];exact E7 z F (sI src G _ _ J).1 (sG G g _ h2) (sXs G hk hr b body L) (mI G.mono src) (mSs G.mono _) (jT h1)
   ·cases h
theorem sX (j:QA (model X.prog X.w) X.A X.env X.xe)(z:X.calm=true)(i:Nat)(v:ME):∀ (l:List XL) (ss:List Stmt),okX xr C v l ss=true->PSs X ss (gS X.K M0 H0 XE (wSs Φ (msL i v l)))
 |[],ss,h=>by
  unfold okX at h
  split at h
  ·next ev p =>
   rw[msL,wSs,wSs,wSs,wS,wS];have F:wE Φ .non=wC .non:=by rw[wE]
   rw[F];exact E6 (mE G.mono v) (sE v G ev h)
  ·cases h
 | x::r,ss,h=>by
   cases ss with
   |nil=>rw[okX]at h;cases h
   | cons s ss =>
     rw[okX,hX]at h;exact sXL G hk hr j z x s i v r ss h.1 (sX j z i v r ss h.2)
end
end
end Mi
end L2

namespace L2
open PySem PySem.Spec PyProof.Rows
open PySem.W
namespace Mi
noncomputable def CT (s:Stmt) (i:Nat):Stmt:=match s with
 |.ClassDef _ _ _ b _ _ _ _ _ _ _=>b.getD i s
 |_=>s
noncomputable def kJ (C D:Addr) (cd:ClassData) (sl:Array (Option hW)):Bool:=match cd.mro,sl.toList with
 |.ref C' :: .ref D'::r,[_,_,_,_,some (.builtin n),_]=>C'==C&&D'==D&&r==vbm&&n == "ValueError.__new__" && !cd.hasDel&&cd.hasDict
 |_,_=>false
noncomputable def j3 (o:Obj):Bool:=match o.data with
 |.dict es _=>es.toList.all λe=>match e.key with|.str _ _=>true|_=>false
 |_=>false
theorem AO {K:Frag}{C D fI:Addr}{fld:Str}{dd:Option Addr}{cd:ClassData}{sl:Array (Option hW)}{oN:Obj}(lC:K.lookup C=some ⟨.type "type",dd,.cls cd,sl⟩)(F:kJ C D cd sl=true)(lN:K.lookup cd.ns=some oN)(O:j3 oN=true)(iC:nsIn K cd.ns "__init__" = some (some (.ref fI)))(xD:excIn K D vbm "ValueError.__new__" = true)(sa:findIn K (.ref C) "__setattr__" = some (some (.builtin "object.__setattr__")))(na:findIn K (.ref C) fld=some none)(dg:specialIn K (.ref D) "__getattribute__" = some (some (.builtin "type.__getattribute__")))(dr:readsIn K D (.type "type")=true)(df:findCls K (.ref D) (.type "type") "__init__" = some (.val (.builtin "ValueError.__init__")))(fo:isFn K (.ref fI)=true):kD K C D fI fld/\hasDictIn K C=true:=by
 have j:clsIn K C=some cd:=by unfold clsIn;rw[lC]
 have fo':((K.lookup fI).any λo=>o.cls == .type "function")=true:=by
  unfold isFn typeIn at fo;dsimp only at fo
  cases e:K.lookup fI with
  |none=>rw[e]at fo;cases fo
  | some o =>
    rw[e]at fo;have z:o.cls = .type "function":=Ki.inj (beq_iff_eq.mp fo);show (o.cls==_)=true;rw[z];exact beq_self_eq_true _
 have ok:nsOkIn K cd.ns=true:=by
  unfold nsOkIn;rw[lN];unfold j3 at O;obtain⟨a,b,dat,sl⟩:=oN
  cases dat <;> first|cases O;done|skip
  dsimp only at O ⊢;rw[<- Array.all_toList];exact O
 unfold kJ at F
 split at F
 ·next C' D' r n k0 k1 k2 k3 k5 hm U =>
  simp only[hX,beq_iff_eq,JD]at F;obtain⟨⟨⟨⟨⟨rfl,rfl⟩,rfl⟩,rfl⟩,J⟩,L⟩:=F;have Y:tailIn K vbm (.ref D'::vbm)=true:=by
   unfold tailIn;rw[MY];refine .inr ?_;unfold excIn at xD
   split at xD
   ·next Z HI HJ ho =>
    split at xD
    ·next C2 HK l0 l1 l2 l3 n2 l5 HL HM =>
     simp only[hX,beq_iff_eq,JD]at xD;obtain⟨⟨⟨⟨⟨_,_⟩,_⟩,_⟩,q1⟩,q2⟩:=xD;dsimp only;rw[ho];dsimp only;rw[q1,q2];unfold tailIn;simp
    ·cases xD
   ·cases xD
  refine⟨⟨?_,sa,?_,na,dg,dr,df,fo'⟩,by unfold hasDictIn;rw[j];exact L⟩
  ·unfold jM;rw[lC];simp only[hm,U,Y,ok,iC,J];simp
  ·unfold oR;rw[j];show (io cd.mro&&cd.hasDict)=true;rw[hm,L];simp[io]
 ·cases F
theorem E9 {e:ME}(h:ivB e=true):(∃ i,e = .int i)∨∃ j,e = .var j:=by
 cases e <;> first|cases h|skip
 ·exact .inr ⟨_,rfl⟩
 ·exact .inl ⟨_,rfl⟩
theorem pi {j:Expr}(h:aP j=true)(env:Env):Jt [j] env=[(false,eval j env)]:=by rw[ak h];rfl
theorem vI {j:Expr}{p:Pos}(h:aP j=true)(env:Env):(KH p (Jt [j] env)).any (·.1)=false:=by rw[pi h];rfl
end Mi
end L2

namespace L2
open PySem PySem.Spec PyProof.Rows
namespace Mi
variable {f n c:Nat}{ds xs:List D}{M M' M'':Mem}{Q:QD}{ρ:am}{Φ:Phi}{s:Stmt}{y x w:Str}{a b:Addr}{i j lo hi:Int}{E:bd}{ns:List Int}
section
theorem CU {T:List FD}{k:Nat}{d:FD}(e:T[f]? = some d)(l:ds.length=d.np)(r:cQ d.N ds = ρ)(h:wSs (phi T k) d.body { nx:=λ_ M'=>Q .non M',rt:=Q } ρ M):phi T (k+1) f ds M Q:=by
 rw[<- r]at h
 first|exact⟨d,e,l,h⟩|exact .inl ⟨d,e,l,h⟩
theorem ao {T:List FD}{d:FD}(j : 1<=n)(e:T[f]? = some d)(l:ds.length=d.np)(r:cQ d.N ds = ρ)(h:wSs (phi T (n - 1)) d.body { nx:=λ_ M'=>Q .non M',rt:=Q } ρ M):phi T n f ds M Q:=by
 obtain⟨k,rfl⟩:∃ k,n=k+1:=⟨n - 1,by lia⟩
 exact CU e l r h
theorem FF {D:bd}:wSs Φ .nil D ρ M=D.nx ρ M:=by rw[wSs];rfl
theorem gh {s:MS}{r:MSs}{D:bd}:wSs Φ (.cons s r) D ρ M=wS Φ s { D with nx:=wSs Φ r D } ρ M:=by rw[wSs];rfl
theorem FG {y:D}:wIx (.tup ds) y M Q = ∃ i d,y = .int i/\atI ds i=some d/\Q d M:=rfl
theorem FH {y:D}:wIx (.con ds) y M Q = ∃ i d,y = .int i/\atI ds i=some d/\Q d M:=rfl
theorem aE {d:D}(h:M a=some (.lst ds))(e:atI ds i=some d)(q:Q d M):wIx (.ref a) (.int i) M Q:=.inl ⟨ds,i,d,h,rfl,e,q⟩
theorem bP {v:D}{j:Nat}{Q:Mem->Prop}(h:M a=some (.lst ds))(e:ixN ds.length i=some j)(q:Q (af M a (.lst (ds.set j v)))):jy (.ref a) (.int i) v M Q:=⟨a,rfl,.inl ⟨ds,i,j,rfl,h,e,q⟩⟩
theorem dh (h:M a=some (.lst ds))(q:Q (.int ds.length) M):fV [.ref a] M Q:=⟨_,_,rfl,by simp only[oj,h],q⟩
theorem ah (h:M a=some (.lst ds)):aO M (.ref a)=some ds:=by simp only[aO,h]
theorem Go:kx [.int i] M Q=Q (.int i) M:=by
 apply propext;constructor
 ·rintro(⟨j,e,q⟩|⟨k,e,q⟩)
  ·cases e;exact q
  ·cases e
 ·exact λq=>.inl ⟨i,rfl,q⟩
theorem Gp {b:Bool}:kx [.bl b] M Q=Q (.int (if b then 1 else 0)) M:=by
 apply propext;constructor
 ·rintro(⟨j,e,q⟩|⟨k,e,q⟩)
  ·cases e
  ·cases e;exact q
 ·exact λq=>.inr ⟨b,rfl,q⟩
theorem Hu:wEq (.int i) (.int j) M Q=Q (.bl (i==j)) M:=by
 simp[wEq,rb,KQ]
theorem Hv:wNe (.int i) (.int j) M Q=Q (.bl (!(i==j))) M:=by
 simp[wNe,rb,KQ]
theorem CV:dH (.int i) (.int j) M Q=Q (.int (i+j)) M:=rfl
theorem Gq {a b:List D}:dH (.tup a) (.tup b) M Q=((a≠[]∨True)/\a.length+b.length<=Je/\Q (.tup (a++b)) M):=rfl
theorem vJ:dH (.ref a) (.ref b) M Q = ∃ xs ys,M a=some (.lst xs)/\M b=some (.lst ys)/\xs.length+ys.length<=Je /\ ∀ p,M p=none->Q (.ref p) (af M p (.lst (xs++ys))):=rfl
theorem Gr:nW (.int i) (.int j) M Q=Q (.int (i - j)) M:=rfl
theorem Gs:gK (.int i) (.int j) M Q=(MulOk i j/\Q (.int (i*j)) M):=rfl
theorem Gu {k:Int}:gK (.tup ds) (.int k) M Q=(-(2 ^ 63)<=k/\k<2 ^ 63/\ds.length*k.toNat<=Je/\Q (.tup (Jj k.toNat ds).flatten) M):=rfl
theorem CW {k:Int}:gK (.ref a) (.int k) M Q = ∃ xs,M a=some (.lst xs) /\ -(2 ^ 63)<=k/\k<2 ^ 63/\xs.length*k.toNat<=Je /\ ∀ p,M p=none->Q (.ref p) (af M p (.lst (Jj k.toNat xs).flatten)):=rfl
theorem FJ:jp (.int i) (.int j) M Q=(0<j/\j<2 ^ 256/\Q (.int (i / j)) M):=rfl
theorem Gv:nX (.int i) (.int j) M Q=(0<j/\Q (.int (i % j)) M):=rfl
theorem Gw:nY (.int i) (.int j) M Q=(0<=j/\j<=1000000/\i.natAbs<2 ^ 64/\Q (.int (i ^ j.toNat)) M):=rfl
theorem Hw:wLt (.int i) (.int j) M Q=Q (.bl (decide (i<j))) M:=rfl
theorem Hx:wLe (.int i) (.int j) M Q=Q (.bl (decide (i<=j))) M:=rfl
theorem Ea:wGt (.int i) (.int j) M Q=Q (.bl (decide (j<i))) M:=rfl
theorem Hy:wGe (.int i) (.int j) M Q=Q (.bl (decide (j<=i))) M:=rfl
theorem FK:jz (.int i) (.int j) M Q=Q (.int (i+j)) M:=rfl
theorem FL:jA (.int i) (.int j) M Q=Q (.int (i - j)) M:=rfl
theorem FM:jB (.int i) (.int j) M Q=(MulOk i j/\Q (.int (i*j)) M):=rfl
theorem Gy:og (.int i) M Q=Q (.int (-i)) M:=rfl
theorem Gz:ku [.int i] M Q=Q (.int (if i<0 then -i else i)) M:=by simp[ku]
theorem FN:jq [.int i,.int j] M Q=Q (.int (if j > i then j else i)) M:=by
 apply propext;constructor
 ·rintro⟨a,b,e,q⟩;cases e;exact q
 ·exact λq=>⟨i,j,rfl,q⟩
theorem FO:jr [.int i,.int j] M Q=Q (.int (if j<i then j else i)) M:=by
 apply propext;constructor
 ·rintro⟨a,b,e,q⟩;cases e;exact q
 ·exact λq=>⟨i,j,rfl,q⟩
theorem GA:fV [.con ds] M Q=Q (.int ds.length) M:=by simp[fV,oj]
theorem GB:fV [.tup ds] M Q=Q (.int ds.length) M:=by simp[fV,oj]
theorem pj:aO M (.tup ds)=some ds:=rfl
theorem GC:aO M (.con ds)=some ds:=rfl
theorem Hz {α:Sort _}{a b : α}:(if true=true then a else b)=a:=rfl
theorem HA {α:Sort _}{a b : α}:(if false=true then a else b)=b:=rfl
theorem FP {ta tb:TEd}{R:List D->(Mem->Prop)->Mem->Prop}:kz ta tb ρ M R=ta ρ M λx z=>tb ρ z λy j=>∃ xs ys,aO j x=some xs/\aO j y=some ys/\R (PZ ig xs ys) (λM=>aO M x=some xs/\aO M y=some ys) j:=by
 unfold kz aN;congr 1;funext x z;unfold bA;congr 1;funext y j;apply propext;constructor
 ·rintro⟨x',y',xs,ys,e,q⟩
  cases e;exact⟨xs,ys,q⟩
 ·rintro⟨xs,ys,q⟩;exact⟨x,y,xs,ys,rfl,q⟩
theorem HB:fmD (.str y) M Q=(y.length<=Je/\Q (.str y) M):=rfl
theorem HC:fmD (.int i) M Q=(i.natAbs.log2<1920/\Q (.str (Ko i)) M):=rfl
theorem GD:dH (.str x) (.str y) M Q=(x.length+y.length<=Je/\Q (.str (x++y)) M):=rfl
theorem GE {i}:wE Φ (.var i)=iN i:=rfl
theorem GF {i}:wE Φ (.int i)=wC (.int i):=rfl
theorem HD {b}:wE Φ (.bl b)=wC (.bl b):=rfl
theorem GG:wE Φ (.non)=wC .non:=rfl
theorem GH {x}:wE Φ (.str x)=wC (.str x):=rfl
theorem GI {op}{a}{b}:wE Φ (.bin op a b)=wOp (opB op) (wE Φ a) (wE Φ b):=rfl
theorem GJ {a}:wE Φ (.neg a)=wUn og (wE Φ a):=rfl
theorem GK {op}{a}{b}:wE Φ (.cmp op a b)=wOp (opC op) (wE Φ a) (wE Φ b):=rfl
theorem GL {es}:wE Φ (.and es)=wAnds Φ es:=rfl
theorem HE {es}:wE Φ (.or es)=wOrs Φ es:=rfl
theorem GM {a}:wE Φ (.not a)=mF (wE Φ a):=rfl
theorem GN {c}{a}{b}:wE Φ (.ite c a b)=wIf (wT Φ c) (wE Φ a) (wE Φ b):=rfl
theorem GO {es}:wE Φ (.tup es)=wAr se (wA Φ es):=rfl
theorem GP {es}:wE Φ (.lst es)=wAr sf (wA Φ es):=rfl
theorem HF {a}{b}:wE Φ (.ix a b)=wOp wIx (wE Φ a) (wE Φ b):=rfl
theorem HG {a}{lo}{hi}:wE Φ (.sl a lo hi)=wSl (wE Φ a) (wO Φ lo) (wO Φ hi):=rfl
theorem FQ {f}{es}:wE Φ (.call f es)=wAr (Φ f) (wA Φ es):=rfl
theorem GQ {f}{es}:wE Φ (.blt f es)=wAr (opF f) (wA Φ es):=rfl
theorem FR {a}{T}:wE Φ (.isin a T)=mG T (wE Φ a):=rfl
theorem Fg {op}{op'}{a}{b}{c}:wE Φ (.chain op op' a b c)=ci (opC op) (opC op') (wE Φ a) (wE Φ b) (wE Φ c):=rfl
theorem FS {u1}{d}:wE Φ (.glob u1 d)=wC d:=rfl
theorem FT {m}{o}{a}:wE Φ (.meth m o a)=wBM (opM m) (wE Φ o) (aN (wE Φ a) bA):=rfl
theorem FU {fr}{u1}{c}:wE Φ (.comp fr u1 c)=wCmp Φ fr c:=rfl
theorem FV {es}:wE Φ (.fstr es)=wFs Φ es Kb:=rfl
theorem GR {a}:wE Φ (.fmt a)=sU (wE Φ a):=rfl
theorem FW {o}{a}:wE Φ (.join o a)=mR (wE Φ o) (wE Φ a):=rfl
theorem Fh {m}{o}{a}:wE Φ (.smeth m o a)=wSM (oJ m) (wE Φ o) (wE Φ a):=rfl
theorem GT {a}{b}:wE Φ (.ixS a b)=wOp sY (wE Φ a) (wE Φ b):=rfl
theorem GU {a}{lo}:wE Φ (.slS a lo)=sZ (wE Φ a) (wO Φ lo):=rfl
theorem GW {a}{hi}:wE Φ (.slT a hi)=tm (wE Φ a) (wO Φ hi):=rfl
theorem FX {a}{j}:wE Φ (.revS a j)=mU (wE Φ a) (ib (wE Φ j)):=rfl
theorem GX {a}{b}:wE Φ (.orL a b)=sW (wE Φ a) (wE Φ b):=rfl
theorem FY:wA Φ (.nil)=bA:=rfl
theorem Fi {e}{r}:wA Φ (.cons e r)=aN (wE Φ e) (wA Φ r):=rfl
theorem Fj:wTl Φ (.nil)=[]:=rfl
theorem Ew {t}{r}:wTl Φ (.cons t r)=wT Φ t::wTl Φ r:=rfl
theorem GY {e}:wI Φ (.seq e)=sr (wE Φ e):=rfl
theorem FZ {a}:wI Φ (.rng1 a)=mH (aN (wE Φ a) bA):=rfl
theorem GZ {a}{b}:wI Φ (.zip a b)=kz (wE Φ a) (wE Φ b):=rfl
theorem G0 {a}:wI Φ (.enum a)=mJ (wE Φ a):=rfl
theorem Fk {a}:wI Φ (.enum1 a)=jI (wE Φ a):=rfl
theorem Fl {a}:wI Φ (.chars a)=jH (wE Φ a):=rfl
theorem Ex {src}{g}{ifs}{elt}:wCl Φ (.last src g ifs elt)=eJ (wI Φ src) (bG g) (bo (wTl Φ ifs) (fh (wE Φ elt))):=rfl
theorem Ey {src}{g}{ifs}{rest}:wCl Φ (.more src g ifs rest)=eJ (wI Φ src) (bG g) (bo (wTl Φ ifs) (wCl Φ rest)):=rfl
theorem Eb {fr:List (Option Nat)}{src}{g}{ifs}{elt}:wCmp Φ fr (.last src g ifs elt)=ij fr (wI Φ src) (bG g) (bo (wTl Φ ifs) (fh (wE Φ elt))):=rfl
theorem Ec {fr:List (Option Nat)}{src}{g}{ifs}{rest}:wCmp Φ fr (.more src g ifs rest)=ij fr (wI Φ src) (bG g) (bo (wTl Φ ifs) (wCl Φ rest)):=rfl
theorem H8 {g}{e}:wS Φ (.asg g e)=gP (wE Φ e) (bG g):=rfl
theorem H9 {i}{j}{a}{b}:wS Φ (.par i j a b)=su (aN (wE Φ a) (aN (wE Φ b) bA)) (cr (cq i) (cr (cq j) iR)):=rfl
theorem Ha {o}{i}{e}:wS Φ (.put o i e)=sK (wE Φ e) (wE Φ o) (wE Φ i):=rfl
theorem Hb {i}{op}{e}:wS Φ (.aug i op e)=sL i (opI op) (wE Φ e):=rfl
theorem G2 {e}:wS Φ (.drop e)=mL (wE Φ e):=rfl
theorem Hc {e}:wS Φ (.ret e)=iT (wE Φ e):=rfl
theorem Hd {c}{a}{b}:wS Φ (.ite c a b)=sIf (wT Φ c) (wSs Φ a) (wSs Φ b):=rfl
theorem He {g}{src}{b}:wS Φ (.for g src b)=kA (wI Φ src) (bG g) (wSs Φ b):=rfl
theorem Fn {c}{b}:wS Φ (.while c b)=jx (wT Φ c) (wSs Φ b):=rfl
theorem Hf:wS Φ (.bot)=λ_ _ _=>False:=rfl
theorem G3:wS Φ (.pass)=fX:=rfl
theorem Hg:wS Φ (.brk)=jw:=rfl
theorem Hh:wS Φ (.cnt)=mK:=rfl
theorem Hi {e}:wT Φ (.tru e)=sj (wE Φ e):=rfl
theorem Hj {op}{a}{b}:wT Φ (.cmp op a b)=dG (wOp (opC op) (wE Φ a) (wE Φ b)):=rfl
theorem Fo {op}{op'}{a}{b}{c}:wT Φ (.chain op op' a b c)=dG (ci (opC op) (opC op') (wE Φ a) (wE Φ b) (wE Φ c)):=rfl
theorem Hk {ts}:wT Φ (.and ts)=wAndTs Φ ts:=rfl
theorem HH {ts}:wT Φ (.or ts)=wOrTs Φ ts:=rfl
theorem Hl {t}:wT Φ (.not t)=mz (wT Φ t):=rfl
theorem De:wAndTs Φ (.nil)=λ_ _ _=>False:=rfl
theorem CY {e}:wAndTs Φ (.cons e .nil)=wT Φ e:=rfl
theorem CZ {e}{f}{r}:wAndTs Φ (.cons e (.cons f r))=mC (wT Φ e) (wAndTs Φ (.cons f r)):=rfl
theorem Ed:wOrTs Φ (.nil)=λ_ _ _=>False:=rfl
theorem Df {e}:wOrTs Φ (.cons e .nil)=wT Φ e:=rfl
theorem Dg {e}{f}{r}:wOrTs Φ (.cons e (.cons f r))=sk (wT Φ e) (wOrTs Φ (.cons f r)):=rfl
theorem Ee:wAnds Φ (.nil)=λ_ _ _=>False:=rfl
theorem Dh {e}:wAnds Φ (.cons e .nil)=wE Φ e:=rfl
theorem Di {e}{f}{r}:wAnds Φ (.cons e (.cons f r))=mD (wE Φ e) (wAnds Φ (.cons f r)):=rfl
theorem Ez:wOrs Φ (.nil)=λ_ _ _=>False:=rfl
theorem Ef {e}:wOrs Φ (.cons e .nil)=wE Φ e:=rfl
theorem Eg {e}{f}{r}:wOrs Φ (.cons e (.cons f r))=sm (wE Φ e) (wOrs Φ (.cons f r)):=rfl
theorem Fp {i}:bG (.name i)=cq i:=rfl
theorem G4 {gs}:bG (.tup gs)=xk (bGs gs):=rfl
theorem Fq:bGs (.nil)=iR:=rfl
theorem EA {g}{r}:bGs (.cons g r)=cr (bG g) (bGs r):=rfl
theorem Fr:wO Φ (.none)=ia:=rfl
theorem Fs {e}:wO Φ (.some e)=ib (wE Φ e):=rfl
theorem Ft:wFs Φ (.nil)=mM:=rfl
theorem EB {e}{r}:wFs Φ (.cons e r)=mP (wE Φ e) (wFs Φ r):=rfl
theorem G5:opB (.add)=dH:=rfl
theorem G6:opB (.sub)=nW:=rfl
theorem G7:opB (.mul)=gK:=rfl
theorem Fu:opB (.fdiv)=jp:=rfl
theorem G8:opB (.mod)=nX:=rfl
theorem G9:opB (.pow)=nY:=rfl
theorem Ga:opB (.ext)=dH:=rfl
theorem Hm:opC (.eq)=wEq:=rfl
theorem Hn:opC (.ne)=wNe:=rfl
theorem Ho:opC (.lt)=wLt:=rfl
theorem Hq:opC (.le)=wLe:=rfl
theorem Hr:opC (.gt)=wGt:=rfl
theorem Hs:opC (.ge)=wGe:=rfl
theorem Ht:opC (.is)=wIs:=rfl
theorem Gb:opC (.isn)=sM:=rfl
theorem EC:opC (.inStr)=jF:=rfl
theorem ED:opC (.inNon)=jG:=rfl
theorem Eh:opC (.ninStr)=il:=rfl
theorem Gc:opF (.len)=fV:=rfl
theorem Fv:opF (.intS)=mW:=rfl
theorem Fw:opF (.lenS)=mX:=rfl
theorem Gd:opF (.abs)=ku:=rfl
theorem Fy:opF (.max2)=jq:=rfl
theorem Fz:opF (.min2)=jr:=rfl
theorem Gf:opF (.int)=kx:=rfl
theorem EE:opF (.tuple)=jt:=rfl
theorem Gg:opF (.all)=sN:=rfl
theorem Gh:opF (.any)=sP:=rfl
theorem Gi:opF (.str)=mQ:=rfl
theorem Ei:opM (.append)=ic:=rfl
theorem EF:opM (.count)=jK:=rfl
theorem Ej:opM (.indexS)=im:=rfl
theorem Gj:opI (.add)=jz:=rfl
theorem Gk:opI (.sub)=jA:=rfl
theorem Gm:opI (.mul)=jB:=rfl
theorem Gn:opI (.ext)=mV:=rfl
local macro_rules|`(tactic| walk_at "wp")=>do
 let f:=fun(n:Lean.Name)(s:String)=>(s.splitOn " ").toArray.map fun x=>(⟨(Lean.mkIdent (n++x.toName)).raw⟩:Lean.Term)
 let a:=f `_root_.L2.Mi "sd iN wC wOp wUn bA aN wAr dG se sf sj mz mC sk mD sm mF wIf ia ib wSl mG wBM cq iR cr xk sr mH mJ fh bo eJ ij fX gO jw mK mL iT sIf gP su kA jx sK sL ci mM mP sU mR mU sW oJ wSM sY sZ mW mX jF jG jH jI il tm FF FG FH Go Gp Hu Hv CV Gq Gr Gs Gu FJ Gv Gw Hw Hx Ea Hy FK FL FM Gy Gz FN FO GA GB pj GC Hz HA FP HB HC GD GE GF HD GG GH GI GJ GK GL HE GM GN GO GP HF HG FQ GQ FR Fg FS FT FU FV GR FW Fh GT GU GW FX GX FY Fi Fj Ew GY FZ GZ G0 Fk Fl Ex Ey Eb Ec H8 H9 Ha Hb G2 Hc Hd He Fn Hf G3 Hg Hh Hi Hj Fo Hk HH Hl De CY CZ Ed Df Dg Ee Dh Di Ez Ef Eg Fp G4 Fq EA Fr Fs Ft EB G5 G6 G7 Fu G8 G9 Ga Hm Hn Ho Hq Hr Hs Ht Gb EC ED Eh Gc Fv Fw Gd Fy Fz Gf EE Gg Gh Gi Ei EF Ej Gj Gk Gm Gn"
 let b1:=a++f .anonymous "Nm Po Rp Rq Lj Lx Su Sv Sw Jp KO Jr Kq"
 let b2:=a++f .anonymous "LY if_false if_true Nm Po Rp Rq RV exists_eq_left' exists_eq_left exists_eq_right exists_and_left exists_and_right D.bl.injEq D.int.injEq D.ref.injEq D.tup.injEq Lj Lx Su Sv Sw Jp KO decide_eq_true_eq SU and_true true_and Jr Kq"
 `(tactic| ((try dsimp only[$[$b1:term],*]);(try simp only[$[$b2:term],*])))
local macro_rules|`(tactic| walk_at "st")=>`(tactic| ((first|rw[gh]|(dsimp only;rw[gh]));walk_at "wp"))
def Ge (M M':Mem):Prop:=∀ a o,M a=some o->M' a=some o
theorem Ge.refl:Ge M M:=λ_ _ h=>h
theorem Ge.trans (h:Ge M M')(g:Ge M' M''):Ge M M'':=λ_ _ e=>g _ _ (h _ _ e)
theorem Ge.new {p:Addr}{o:O}(h:M p=none):Ge M (af M p o):=λa o' e=>by
 rw[ax (λz=>by rw[z,h]at e;cases e)];exact e
def Box (b:Addr) (M:Mem):Prop:=∃ x y z:Int,M b=some (.lst [.int x,.int y,.int z])
structure Bx (b:Addr) (M M':Mem):Prop where
 box:Box b M'
 keep:∀ a o,a≠b->M a=some o->M' a=some o
theorem Bx.refl (h:Box b M):Bx b M M:=⟨h,λ_ _ _ e=>e⟩
theorem Bx.trans (h:Bx b M M')(g:Bx b M' M''):Bx b M M'':=⟨g.box,λa o n e=>g.keep a o n (h.keep a o n e)⟩
theorem Bx.ge (h:Bx b M M')(g:Ge M' M''):Bx b M M'':=⟨by obtain⟨x,y,z,e⟩:=h.box;exact⟨x,y,z,g _ _ e⟩,λa o n e=>g _ _ (h.keep a o n e)⟩
theorem Bx.put {x y z:Int}:Bx b M (af M b (.lst [.int x,.int y,.int z])):=⟨⟨x,y,z,aa⟩,λa o n e=>by rw[ax n];exact e⟩
theorem Bx.of (h:Box b M)(g:Ge M M'):Bx b M M':=(Bx.refl h).ge g
theorem vK {b:BT}{tb:TCd}{chk:Mem->Prop}{N:NC}(I:List D->am->Mem->List D->Prop){acc:List D}(h0:I [] ρ M acc)(F:∀ l ρ M acc,I l ρ M acc->chk M)(J:∀ l x r ρ M acc,xs=l++x::r->I l ρ M acc -> ∃ ρ',b x ρ = some ρ' /\ ∀ N':NC,(∀ ρ2 z j,I (l++[x]) ρ2 z j->N' ρ2 z j)->tb ρ' M acc N')(L:∀ ρ M acc,I xs ρ M acc->N ρ M acc):bZ b tb chk N xs ρ M acc:=by
 have g:∀ (r l:List D) (ρ:am) (M:Mem) (acc:List D),xs=l++r->I l ρ M acc->bZ b tb chk N r ρ M acc:=by
  intro r
  induction r with
  |nil=>intro l ρ M acc e i;rw[Kp]at e;subst e;exact⟨F _ _ _ _ i,L _ _ _ i⟩
  | cons x r ih =>
    intro l ρ M acc e i;obtain⟨ρ',O,h⟩:=J l x r ρ M acc e i;exact⟨F _ _ _ _ i,ρ',O,h _ λρ2 z j U=>ih (l++[x]) ρ2 z j (by rw[e];simp) U⟩
 exact g xs [] ρ M acc rfl h0
theorem yo {b:BT}{tb:TSd}{chk:Mem->Prop}(I:List D->am->Mem->Prop)(h0:I [] ρ M)(z:∀ l ρ M,I l ρ M->chk M)(J:∀ l x r ρ M,xs=l++x::r->I l ρ M -> ∃ ρ',b x ρ = some ρ' /\ ∀ F:am->Mem->Prop,(∀ ρ2 j,I (l++[x]) ρ2 j->F ρ2 j)->tb { E with nx:=F,ct:=F,bk:=E.nx } ρ' M)(L:∀ ρ M,I xs ρ M->E.nx ρ M):bj b tb chk E xs ρ M:=by
 have g:∀ (r l:List D) (ρ:am) (M:Mem),xs=l++r->I l ρ M->bj b tb chk E r ρ M:=by
  intro r
  induction r with
  |nil=>intro l ρ M e i;rw[Kp]at e;subst e;exact⟨z _ _ _ i,L _ _ i⟩
  | cons x r ih =>
    intro l ρ M e i;obtain⟨ρ',O,h⟩:=J l x r ρ M e i;exact⟨z _ _ _ i,ρ',O,h _ λρ2 j U=>ih (l++[x]) ρ2 j (by rw[e];simp) U⟩
 exact g xs [] ρ M rfl h0
section
variable {T:List FD}
noncomputable def jV (s:Stmt):FD:=⟨"_law_cell_at",s,["_law_script","_law_k"],2,
 (.cons (.ite (.cmp .lt (.var 1) (.blt .len (.cons (.var 0) .nil))) (.cons (.ret (.ix (.var 0) (.var 1)))
 .nil) .nil)
 (.cons (.ret (.int 0))
 .nil))⟩
theorem j4 {α:Type}{xs:List α}(h0 : 0<=i)(h1:i<xs.length):∃ x,atI xs i=some x/\xs[i.toNat]? = some x:=by
 have:i.toNat<xs.length:=by lia
 refine⟨xs[i.toNat],?_,Jh this⟩;unfold atI ixN;simp[h0,h1,Jh this]
theorem AQ (hf:T[f]? = some (jV s))(z : 1<=n){k:Int}(h0 : 0<=k)(q:∀ i,Q (.int i) M):phi T n f [.con (ns.map D.int),.int k] M Q:=by
 refine ao z hf rfl (ρ:=[some _,some _]) rfl ?_;unfold jV;walk_at "st"
 split
 ·next h =>
  walk_at "st";obtain⟨x,e,j⟩:=j4 (xs:=ns.map D.int) h0 h;rw[JF]at j
  cases e3:ns[k.toNat]? with
  |none=>rw[e3]at j;cases j
  |some y=>rw[e3]at j;cases j;exact⟨_,e,q y⟩
 ·walk_at "st";exact q 0
theorem D0 (h : -(2 ^ 64)<i/\i<2 ^ 64):MulOk i j:=.inl h
theorem pv (h : -(2 ^ 64)<j/\j<2 ^ 64):MulOk i j:=.inr (.inl h)
noncomputable def kK (s:Stmt):FD:=⟨"_law_mixed",s,["_law_number_here","_law_k","_law_once","_law_twice"],2,
 (.cons (.asg (.name 2) (.bin .mod (.bin .mul (.bin .add (.bin .add (.bin .mod (.var 0) (.int 1000000007)) (.bin .mul (.int 7) (.var 1))) (.int 1)) (.int 48271)) (.int 2147483647)))
 (.cons (.asg (.name 3) (.bin .mod (.bin .mul (.var 2) (.bin .add (.bin .add (.bin .mod (.var 2) (.int 1009)) (.var 1)) (.int 3))) (.int 998244353)))
 (.cons (.ret (.bin .fdiv (.bin .mod (.bin .add (.bin .mul (.var 3) (.int 39373)) (.var 2)) (.int 2147483629)) (.int 64)))
 .nil)))⟩
theorem pw (hf:T[f]? = some (kK s))(j : 1<=n){x k:Int}(q:∀ i,Q (.int i) M):phi T n f [.int x,.int k] M Q:=by
 refine ao j hf rfl (ρ:=[some _,some _,none,none]) rfl ?_;unfold kK;walk_at "st";refine⟨by decide,D0 (by decide),pv (by decide),by decide,?_⟩
 walk_at "st";refine⟨by decide,D0 ?_,by decide,?_⟩
 ·have h1:=O9 ((x % 1000000007+7*k+1)*48271) (b:=2147483647) (by decide)
  have h2:=Ng ((x % 1000000007+7*k+1)*48271) (b:=2147483647) (by decide)
  lia
 walk_at "st";refine⟨pv (by decide),by decide,by decide,by decide,?_⟩
 exact q _
noncomputable def tN (s:Stmt) (fc fm:Nat):FD:=⟨"_law_box",s,["_law_script","_law_k","_law_cell"],2,
 (.cons (.asg (.name 2) (.call fc (.cons (.var 0) (.cons (.var 1) .nil))))
 (.cons (.ret (.lst (.cons (.bin .mul (.blt .abs (.cons (.var 2) .nil)) (.blt .int (.cons (.cmp .ge (.blt .abs (.cons (.var 2) .nil)) (.bin .pow (.int 10) (.int 18))) .nil))) (.cons (.call fm (.cons (.var 2) (.cons (.bin .add (.int 900) (.var 1)) .nil))) (.cons (.int 0) .nil)))))
 .nil))⟩
theorem D1 {fc fm:Nat}{sc:Stmt}(hf:T[f]? = some (tN s fc fm))(z:T[fc]? = some (jV sc))(F:∀ {x k:Int} {M:Mem} {Q:QD},(∀ i,Q (.int i) M)->phi T (n - 1) fm [.int x,.int k] M Q)(L : 2<=n){k:Int}(h0 : 0<=k)(q:∀ p x y,M p=none->Q (.ref p) (af M p (.lst [.int x,.int y,.int 0]))):phi T n f [.con (ns.map D.int),.int k] M Q:=by
 refine ao (by lia) hf rfl (ρ:=[some _,some _,none]) rfl ?_
 unfold tN;walk_at "st";refine AQ z (by lia) h0 λi=>?_
 walk_at "st";refine⟨by decide,by decide,by decide,pv ?_,?_⟩
 ·split <;> lia
 refine F λj=>?_;exact⟨by rw[td];lia,λp J=>q p _ _ J⟩
noncomputable def pz (s:Stmt) (fm:Nat):FD:=⟨"_law_take",s,["_law_box_here","_law_many","_law_found","_law_reach"],2,
 (.cons (.ite (.cmp .gt (.ix (.var 0) (.int 0)) (.int 0)) (.cons (.asg (.name 2) (.bin .mod (.ix (.var 0) (.int 0)) (.var 1)))
 (.cons (.put (.var 0) (.int 0) (.bin .fdiv (.ix (.var 0) (.int 0)) (.var 1)))
 (.cons (.ret (.var 2))
 .nil))) .nil)
 (.cons (.asg (.tup (.cons (.name 2) (.cons (.name 3) .nil))) (.tup (.cons (.int 0) (.cons (.int 1) .nil))))
 (.cons (.while (.cmp .lt (.var 3) (.var 1)) (.cons (.put (.var 0) (.int 2) (.bin .add (.ix (.var 0) (.int 2)) (.int 1)))
 (.cons (.asg (.name 2) (.bin .add (.bin .mul (.var 2) (.int 33554432)) (.call fm (.cons (.ix (.var 0) (.int 1)) (.cons (.ix (.var 0) (.int 2)) .nil)))))
 (.cons (.asg (.name 3) (.bin .mul (.var 3) (.int 33554432)))
 .nil))))
 (.cons (.ret (.bin .mod (.var 2) (.var 1)))
 .nil))))⟩
def Ek (T:List FD) (n fm:Nat):Prop:=∀ {x k:Int} {M:Mem} {Q:QD},(∀ i,Q (.int i) M)->phi T n fm [.int x,.int k] M Q
theorem AR {fm:Nat}(hf:T[f]? = some (pz s fm))(O:Ek T (n - 1) fm)(Y : 2<=n){m:Int}(U:Box b M)(h1 : 0<m)(h2:m<=2 ^ 140)(q:∀ r M',0<=r->r<m->Bx b M M'->Q (.int r) M'):phi T n f [.ref b,.int m] M Q:=by
 refine ao (by lia) hf rfl (ρ:=[some _,some _,none,none]) rfl ?_
 unfold pz;obtain⟨x,y,z,L⟩:=U;walk_at "st";refine aE L (d:=.int x) rfl ?_;simp only[Ea];walk_at "wp"
 split
 ·next hx =>
  walk_at "st";refine aE L (d:=.int x) rfl ?_;walk_at "wp";refine⟨h1,?_⟩;walk_at "st";refine aE L (d:=.int x) rfl ?_;walk_at "wp";refine⟨h1,by lia,?_⟩
  refine bP L (j:=0) rfl ?_;walk_at "st";exact q _ _ (O9 _ (by lia)) (Ng _ h1) Bx.put
 ·next hx =>
  walk_at "st";refine⟨by rw[td];lia,?_⟩
  walk_at "st";refine⟨7,?_⟩;have go:∀ (f:Nat) (found reach z:Int) (M':Mem),m<=reach*33554432 ^ f->M' b=some (.lst [.int x,.int y,.int z])->Bx b M M' ->
   ba (dG (wOp wLt (iN 3) (iN 1))) (wSs (phi T (n - 1)) (MSs.cons (MS.put (ME.var 0) (ME.int 2) (ME.bin BOp.add ((ME.var 0).ix (ME.int 2)) (ME.int 1)))
    (MSs.cons (MS.asg (MG.name 2) (ME.bin BOp.add (ME.bin BOp.mul (ME.var 2) (ME.int 33554432)) (ME.call fm (MEs.cons ((ME.var 0).ix (ME.int 1)) (MEs.cons ((ME.var 0).ix (ME.int 2)) MEs.nil)))))
      (MSs.cons (MS.asg (MG.name 3) (ME.bin BOp.mul (ME.var 3) (ME.int 33554432))) MSs.nil))))
    { nx:=wSs (phi T (n - 1)) (MSs.cons (MS.ret (ME.bin BOp.mod (ME.var 2) (ME.var 1))) MSs.nil) { nx:=λx M'=>Q D.non M',rt:=Q },rt:=Q } (f+1) [some (.ref b),some (.int m),some (.int found),some (.int reach)] M':=by
   intro f
   induction f with
   | zero =>
     intro found reach z M' hm J F;simp only[ba];walk_at "wp";rw[if_neg (by lia)]
     walk_at "st";exact⟨h1,q _ _ (O9 _ (by lia)) (Ng _ h1) F⟩
   | succ f ih =>
     intro found reach z M' hm J F;rw[ba];walk_at "wp"
     split
     ·next hr =>
      walk_at "st";refine aE J (d:=.int z) rfl ?_;walk_at "wp";refine bP J (j:=2) rfl ?_;walk_at "st";refine⟨pv (by decide),?_⟩
      refine aE aa (d:=.int y) rfl ?_;refine aE aa (d:=.int (z+1)) rfl ?_;refine O λi=>?_;walk_at "wp";walk_at "st";refine⟨pv (by decide),?_⟩
      exact ih _ _ (z+1) _ (by rw[Int.mul_assoc,<- Int.pow_succ'];exact hm) aa (F.trans Bx.put)
     ·walk_at "st";exact⟨h1,q _ _ (O9 _ (by lia)) (Ng _ h1) F⟩
  exact go 6 0 1 z M (by lia) L (Bx.refl ⟨x,y,z,L⟩)
def pA (T:List FD) (n f:Nat):Prop:=∀ {b:Addr} {m:Int} {M:Mem} {Q:QD},Box b M->0<m->m<=2 ^ 140->(∀ r M',0<=r->r<m->Bx b M M'->Q (.int r) M')->phi T n f [.ref b,.int m] M Q
noncomputable def j5 (s:Stmt) (ft:Nat):FD:=⟨"_law_number",s,["_law_box_here","_law_way"],1,
 (.cons (.asg (.name 1) (.call ft (.cons (.var 0) (.cons (.int 9) .nil))))
 (.cons (.ite (.cmp .eq (.var 1) (.int 0)) (.cons (.ret (.bin .sub (.call ft (.cons (.var 0) (.cons (.int 2001) .nil))) (.int 1000)))
 .nil) .nil)
 (.cons (.ret (.ix (.lst (.cons (.int 0) (.cons (.int 0) (.cons (.int 0) (.cons (.int 1) (.cons (.int 1) (.cons (.int 1) (.cons (.neg (.int 1)) (.cons (.neg (.int 1)) (.cons (.int 2) .nil)))))))))) (.var 1)))
 .nil)))⟩
theorem vL {ft:Nat}(hf:T[f]? = some (j5 s ft))(j:pA T (n - 1) ft)(Y : 1<=n)(J:Box b M)(q:∀ r M',-1000<=r->r<=1000->Bx b M M'->Q (.int r) M'):phi T n f [.ref b] M Q:=by
 refine ao (by lia) hf rfl (ρ:=[some _,none]) rfl ?_
 unfold j5;walk_at "st";refine j J (by decide) (by decide) λr Z h0 h1 F=>?_
 walk_at "st"
 split
 ·walk_at "st";refine j F.box (by decide) (by decide) λr2 M2 h0 h1 L=>?_
  walk_at "wp";exact q _ _ (by lia) (by lia) (F.trans L)
 ·next hr =>
  walk_at "st";refine⟨by rw[td];lia,λp O=>?_⟩
  have hr:r=1∨r=2∨r=3∨r=4∨r=5∨r=6∨r=7∨r=8:=by
   have:r≠0:=λz=>hr (by rw[z];rfl)
   lia
  have U:=F.ge (Ge.new (o:=.lst [.int 0,.int 0,.int 0,.int 1,.int 1,.int 1,.int (-1),.int (-1),.int 2]) O)
  rcases hr with rfl|rfl|rfl|rfl|rfl|rfl|rfl|rfl <;> exact aE aa rfl (q _ _ (by decide) (by decide) U)
end
section
variable {T:List FD}
def pB (T:List FD) (n f:Nat):Prop:=∀ {b:Addr} {M:Mem} {Q:QD},Box b M->(∀ r M',-1000<=r->r<=1000->Bx b M M'->Q (.int r) M')->phi T n f [.ref b] M Q
def bI (ns:List Int):Prop:=∀ x∈ns,-1000<=x/\x<=1000
theorem eg:(cO lo n).length=n:=by simp[cO]
theorem aD {α:Type}{xs l r:List α}{x : α}(e:xs=l++x::r):l.length<xs.length:=by rw[e];simp
noncomputable def pC (s:Stmt) (fn:Nat):FD:=⟨"_law_part",s,["_law_box_here","_law_length"],2,
 (.cons (.ret (.blt .tuple (.cons (.comp [none,(some 0)] ["_law_k","_law_box_here"] (.last (.rng1 (.var 1)) (.name 0) .nil (.call fn (.cons (.var 1) .nil)))) .nil)))
 .nil)⟩
theorem AS {fn:Nat}(hf:T[f]? = some (pC s fn))(F:pB T (n - 1) fn)(hn : 1<=n){L:Nat}(hL:L<=1000)(O:Box b M)(q:∀ (ns:List Int) M',ns.length=L->bI ns->Bx b M M'->Q (.tup (ns.map .int)) M'):phi T n f [.ref b,.int L] M Q:=by
 refine ao (by lia) hf rfl (ρ:=[some _,some _]) rfl ?_
 unfold pC;walk_at "st";refine⟨by lia,by lia,?_⟩
 refine vK (I:=λl ρ M' acc=>∃ (ns:List Int) (x:Option D),acc=ns.map .int/\ns.length=l.length/\bI ns/\Bx b M M' /\ ρ = [x,some (.ref b)]) ⟨[],none,rfl,rfl,λ_ h=>by simp at h,Bx.refl O,rfl⟩ (λ_ _ _ _ _=>trivial) ?_ ?_
 ·rintro l x r ρ M1 acc e ⟨ns,o,rfl,j,J,z,rfl⟩;refine⟨_,rfl,λN' U=>?_⟩;walk_at "wp";refine F z.box λv M2 h1 h2 Y=>?_;have:=aD e;rw[eg]at this;refine⟨by rw[Jc,j,td];lia,U _ _ _ ⟨ns++[v],_,by simp,by simp[j],?_,z.trans Y,rfl⟩⟩
  intro y Z
  rcases Jz.mp Z with h|h
  ·exact J y h
  ·simp at h;subst h;exact⟨h1,h2⟩
 ·rintro ρ M1 acc ⟨ns,o,rfl,j,J,z,rfl⟩ p hp;rw[eg]at j;refine⟨_,ns.map .int,rfl,ah aa,q ns _ (by lia) J (z.ge (Ge.new hp))⟩
noncomputable abbrev Pr:=List Int×List Int×List Int
noncomputable def prD (p:Pr):D:=.tup [.tup (p.1.map .int),.tup (p.2.1.map .int),.tup (p.2.2.map .int)]
noncomputable def yp (p:Pr):T9:=.tuple [.tuple (p.1.map .int),.tuple (p.2.1.map .int),.tuple (p.2.2.map .int)]
structure di (L0 L1 L2:Nat) (p:Pr):Prop where
 l0:p.1.length=L0
 l1:p.2.1.length=L1
 l2:p.2.2.length=L2
 s0:bI p.1
 s1:bI p.2.1
 s2:bI p.2.2
theorem qY {k:Nat}{M:Mem}:∀ ns:List Int,aH (rb k M) (ns.map D.int)=some (ns.map PyData.int)
 |[]=>rfl
 | x::r=>by
   have e:rb k M (.int x)=some (.int x):=by cases k <;> rfl
   simp[aH,e,qY r]
theorem El {k:Nat}(p:Pr):rb (k+2) M (prD p)=some (yp p):=by
 simp[rb,prD,yp,aH,qY]
theorem vM {k:Nat}{M:Mem}:∀ ps:List Pr,aH (rb (k+2) M) (ps.map prD)=some (ps.map yp)
 |[]=>rfl
 |p::r=>by simp[aH,El,vM r]
theorem pD {k:Nat}(h:M a=some (.lst ds)):rb (k+1) M (.ref a)=(aH (rb k M) ds).map SG:=by
 simp only[rb,h]
theorem dj {s:MS}{r:MSs}(I:am->Mem->Prop)(h1:∀ R:am->Mem->Prop,(∀ ρ M,I ρ M->R ρ M)->wS Φ s { E with nx:=R } ρ M)(h2:∀ ρ M,I ρ M->wSs Φ r E ρ M):wSs Φ (.cons s r) E ρ M:=by
 rw[gh];exact h1 _ h2
theorem Bx.upd {q:Addr}{o:O}(h:Bx b M M')(F:M q=none)(j:q≠b):Bx b M (af M' q o) :=
 ⟨by obtain ⟨x,y,z,e⟩:=h.box;exact ⟨x,y,z,by rw [ax j.symm];exact e⟩,fun u o' nu eu=>by
   rw[ax (λz=>by rw[z,F]at eu;cases eu)];exact h.keep u o' nu eu⟩
theorem Bx.none {q:Addr}(h:Bx b M M')(z:M' q=none)(j:q≠b):M q=none:=by
 cases e:M q with
 |none=>rfl
 |some o=>rw[h.keep q o j e]at z;cases z
noncomputable def prL (p:Pr):List D:=[.tup (p.1.map .int),.tup (p.2.1.map .int),.tup (p.2.2.map .int)]
theorem dB {k:Nat}:bI (Jj k 0):=λx h=>by
 rw[(OH.mp h).2];decide
theorem yq {k:Nat}:(Jj k [D.int 0]).flatten=(Jj k (0:Int)).map D.int:=by
 induction k with
 |zero=>rfl
 |succ k ih=>rw[Kj,Ld,ih];rfl
def vN (T:List FD) (n f:Nat):Prop:=∀ {b:Addr} {L:Nat} {M:Mem} {Q:QD},L<=1000->Box b M->(∀ (ns:List Int) M',ns.length=L->bI ns->Bx b M M'->Q (.tup (ns.map .int)) M')->phi T n f [.ref b,.int L] M Q
end
section
theorem aT {α:Type}{f : α -> D}{b:BT}{tb:TCd}{chk:Mem->Prop}{N:NC}(I:List α -> am->Mem->List D->Prop){ys:List α}(hx:xs=ys.map f){acc:List D}(h0:I [] ρ M acc)(F:∀ l ρ M acc,I l ρ M acc->chk M)(J:∀ l x r ρ M acc,ys=l++x::r->I l ρ M acc -> ∃ ρ',b (f x) ρ = some ρ' /\ ∀ N':NC,(∀ ρ2 z j,I (l++[x]) ρ2 z j->N' ρ2 z j)->tb ρ' M acc N')(L:∀ ρ M acc,I ys ρ M acc->N ρ M acc):bZ b tb chk N xs ρ M acc:=by
 subst hx;have g:∀ (r l:List α) (ρ:am) (M:Mem) (acc:List D),ys=l++r->I l ρ M acc->bZ b tb chk N (r.map f) ρ M acc:=by
  intro r
  induction r with
  |nil=>intro l ρ M acc e i;rw[Kp]at e;subst e;exact⟨F _ _ _ _ i,L _ _ _ i⟩
  | cons x r ih =>
    intro l ρ M acc e i;obtain⟨ρ',O,h⟩:=J l x r ρ M acc e i;exact⟨F _ _ _ _ i,ρ',O,h _ λρ2 z j U=>ih (l++[x]) ρ2 z j (by rw[e];simp) U⟩
 exact g ys [] ρ M acc rfl h0
theorem bE {α:Type}{f : α -> D}{b:BT}{tb:TSd}{chk:Mem->Prop}(I:List α -> am->Mem->Prop){ys:List α}(hx:xs=ys.map f)(h0:I [] ρ M)(z:∀ l ρ M,I l ρ M->chk M)(J:∀ l x r ρ M,ys=l++x::r->I l ρ M -> ∃ ρ',b (f x) ρ = some ρ' /\ ∀ F:am->Mem->Prop,(∀ ρ2 j,I (l++[x]) ρ2 j->F ρ2 j)->tb { E with nx:=F,ct:=F,bk:=E.nx } ρ' M)(L:∀ ρ M,I ys ρ M->E.nx ρ M):bj b tb chk E xs ρ M:=by
 subst hx;have g:∀ (r l:List α) (ρ:am) (M:Mem),ys=l++r->I l ρ M->bj b tb chk E (r.map f) ρ M:=by
  intro r
  induction r with
  |nil=>intro l ρ M e i;rw[Kp]at e;subst e;exact⟨z _ _ _ i,L _ _ i⟩
  | cons x r ih =>
    intro l ρ M e i;obtain⟨ρ',O,h⟩:=J l x r ρ M e i;exact⟨z _ _ _ i,ρ',O,h _ λρ2 j U=>ih (l++[x]) ρ2 j (by rw[e];simp) U⟩
 exact g ys [] ρ M rfl h0
theorem eh:cO 0 n=(KZ n).map λi=>D.int (i:Nat):=by simp[cO]
end
section
variable {T:List FD}
noncomputable def gW (x:Str) (s:Stmt) (ft fp:Nat):FD:=⟨"_law_scheme",s,["_law_box_here",x,"_law_count","_law_products","_law_k","_law_product","_law_way","_law_side"],3,
 (.cons (.asg (.name 3) (.lst .nil))
 (.cons (.for (.name 4) (.rng1 (.var 2)) (.cons (.asg (.name 5) (.comp [none,(some 0)] ["_law_length","_law_box_here"] (.last (.seq (.var 1)) (.name 0) .nil (.call fp (.cons (.var 1) (.cons (.var 0) .nil))))))
 (.cons (.asg (.name 6) (.call ft (.cons (.var 0) (.cons (.int 8) .nil))))
 (.cons (.ite (.and (.cons (.cmp .lt (.var 6) (.int 3)) (.cons (.cmp .ne (.var 3) (.lst .nil)) .nil))) (.cons (.put (.var 5) (.var 6) (.ix (.ix (.var 3) (.call ft (.cons (.var 0) (.cons (.blt .len (.cons (.var 3) .nil)) .nil)))) (.var 6)))
 .nil) .nil)
 (.cons (.ite (.cmp .eq (.var 6) (.int 3)) (.cons (.asg (.name 7) (.call ft (.cons (.var 0) (.cons (.int 3) .nil))))
 (.cons (.put (.var 5) (.var 7) (.bin .mul (.tup (.cons (.int 0) .nil)) (.ix (.var 1) (.var 7))))
 .nil)) .nil)
 (.cons (.drop (.meth .append (.var 3) (.blt .tuple (.cons (.var 5) .nil))))
 .nil))))))
 (.cons (.ret (.bin .add (.blt .tuple (.cons (.var 1) .nil)) (.tup (.cons (.var 3) .nil))))
 .nil)))⟩
theorem tO {ft fp:Nat}(hf:T[f]? = some (gW x s ft fp))(HW:pA T (n - 1) ft)(HX:vN T (n - 1) fp)(hn : 1<=n){L0 L1 L2:Nat}(h0:L0<=1000)(h1:L1<=1000)(h2:L2<=1000)(hc:c<=1000)(hb:Box b M)(HL:a≠b)(ha:M a=some (.lst [.int L0,.int L1,.int L2]))(q:∀ (ps:List Pr) pr M',ps.length=c->(∀ p∈ps,di L0 L1 L2 p)->Bx b M M'->M pr=none->M' pr=some (.lst (ps.map prD))->Q (.tup [.int L0,.int L1,.int L2,.ref pr]) M'):phi T n f [.ref b,.ref a,.int c] M Q:=by
 refine ao (by lia) hf rfl (ρ:=[some _,some _,some _,none,none,none,none,none]) rfl ?_
 unfold gW;walk_at "st";refine⟨by lia,λpr HN=>?_⟩
 have Z:pr≠b:=λz=>by obtain⟨x,y,w,e⟩:=hb;rw[<- z,HN]at e;cases e
 have Il:pr≠a:=λz=>by rw[<- z,HN]at ha;cases ha
 walk_at "st";refine⟨by lia,by lia,?_⟩
 refine yo (I:=λl ρ M'=>∃ (ps:List Pr) (o4 o5 o6 o7:Option D),ρ = [some (.ref b),some (.ref a),some (.int c),some (.ref pr),o4,o5,o6,o7]/\ps.length=l.length/\(∀ p∈ps,di L0 L1 L2 p)/\Bx b M M'/\M' pr=some (.lst (ps.map prD)))
  ⟨[],none,none,none,none,rfl,rfl,λ_ h=>by simp at h,Bx.of hb (Ge.new HN),aa⟩ (λ_ _ _ _=>trivial) ?_ ?_
 ·rintro l x r ρ M1 e ⟨ps,o4,o5,o6,o7,rfl,hl,hp,x1,HY⟩;have Ic:=aD e;rw[eg]at Ic;refine⟨_,rfl,λF hF=>?_⟩;walk_at "wp";have HP:=x1.keep a _ HL ha;rw[gh];walk_at "wp";refine⟨_,ah HP,?_⟩;simp only[bZ];refine⟨ah HP,_,rfl,?_⟩;walk_at "wp";refine HX h0 x1.box λn0 M2 l0 s0 x2=>?_;have HZ:=x2.keep a _ HL HP;refine⟨by simp[td],ah HZ,?_⟩
  refine HX h1 x2.box λn1 M3 l1 s1 x3=>?_;have I0:=x3.keep a _ HL HZ;refine⟨by simp[td],ah I0,?_⟩
  refine HX h2 x3.box λn2 M4 l2 s2 x4=>?_;have HS:=x4.keep a _ HL I0;refine⟨by simp[td],ah HS,λpq HM=>?_⟩
  have HK:=x4.keep pr _ Z (x3.keep pr _ Z (x2.keep pr _ Z HY));have x5:=((x1.trans x2).trans (x3.trans x4)).ge (Ge.new (o:=.lst ([]++[D.tup (Mf D.int n0)]++[D.tup (Mf D.int n1)]++[D.tup (Mf D.int n2)])) HM);have O:pq≠b:=λz=>by obtain⟨x,y,w,e⟩:=x4.box;rw[<- z,HM]at e;cases e
  have U:M pq=none:=((x1.trans x2).trans (x3.trans x4)).none HM O;have HI:pr≠pq:=λz=>by rw[z,HM]at HK;cases HK
  have Im:a≠pq:=λz=>by rw[z,HM]at HS;cases HS
  have HU:af M4 pq (.lst ([]++[D.tup (Mf D.int n0)]++[D.tup (Mf D.int n1)]++[D.tup (Mf D.int n2)])) pr=some (.lst (ps.map prD)):=by rw[ax HI];exact HK
  have I8:af M4 pq (.lst ([]++[D.tup (Mf D.int n0)]++[D.tup (Mf D.int n1)]++[D.tup (Mf D.int n2)])) pq=some (.lst (prL (n0,n1,n2))):=aa;have hok:di L0 L1 L2 (n0,n1,n2):=⟨l0,l1,l2,s0,s1,s2⟩;generalize af M4 pq (.lst ([]++[D.tup (Mf D.int n0)]++[D.tup (Mf D.int n1)]++[D.tup (Mf D.int n2)]))=M5 at x5 HU I8;generalize hP:(n0,n1,n2)=p0 at hok I8;clear HM HK x4 HS x3 I0 x2 HZ hP;walk_at "st";refine HW x5.box (by decide) (by decide) λway M6 w0 w1 x6=>?_
  have HQ:=x6.keep pr _ Z HU;have Ia:=x6.keep pq _ O I8;have Ib:=x5.trans x6;refine dj (I:=λρ' M'=>ρ'=[some (.ref b),some (.ref a),some (.int c),some (.ref pr),some x,some (.ref pq),some (.int way),o7] /\ ∃ p:Pr,di L0 L1 L2 p/\Bx b M M'/\M' pr=some (.lst (ps.map prD))/\M' pq=some (.lst (prL p))) (λR hR=>?_) ?_
  ·walk_at "wp"
   split
   ·next hw =>
    refine⟨by lia,λpe Id=>?_⟩
    have g:=Ge.new (o:=.lst []) Id;refine⟨_,_,pD (g _ _ HQ) |>.trans (by rw[vM];rfl),pD aa,?_⟩
    walk_at "wp";have x7:=Ib.ge g;have Y:=g _ _ HQ;have HR:=g _ _ Ia
    split
    ·next Ie =>
     have Ik : 0<ps.length:=by
      cases ps with
      |nil=>simp[KQ,R0]at Ie
      |cons p r=>simp
     walk_at "st";refine dh Y ?_;refine HW x7.box (by rw[Jc];lia) (by rw[Jc];lia) λr M8 r0 r1 x8=>?_
     have L:=x8.keep pr _ Z Y;have HJ:=x8.keep pq _ O HR;obtain⟨d,e1,e2⟩:=j4 r0 r1;refine aE L e1 ?_;rw[JF]at e2
     cases e3:ps[r.toNat]? with
     |none=>rw[e3]at e2;cases e2
     | some pp =>
       rw[e3]at e2;cases e2;have ho:=hp pp (KD e3);have Ig:way=0∨way=1∨way=2:=by lia
       have x9:=x7.trans x8
       rcases Ig with rfl|rfl|rfl
       ·refine⟨_,_,rfl,rfl,bP HJ (j:=0) rfl ?_⟩;exact hR _ _ ⟨rfl,(pp.1,p0.2.1,p0.2.2),⟨ho.l0,hok.l1,hok.l2,ho.s0,hok.s1,hok.s2⟩,x9.upd U O,by rw[ax HI];exact L,aa⟩
       ·refine⟨_,_,rfl,rfl,bP HJ (j:=1) rfl ?_⟩;exact hR _ _ ⟨rfl,(p0.1,pp.2.1,p0.2.2),⟨hok.l0,ho.l1,hok.l2,hok.s0,ho.s1,hok.s2⟩,x9.upd U O,by rw[ax HI];exact L,aa⟩
       ·refine⟨_,_,rfl,rfl,bP HJ (j:=2) rfl ?_⟩;exact hR _ _ ⟨rfl,(p0.1,p0.2.1,pp.2.2),⟨hok.l0,hok.l1,ho.l2,hok.s0,hok.s1,ho.s2⟩,x9.upd U O,by rw[ax HI];exact L,aa⟩
    ·exact hR _ _ ⟨rfl,p0,hok,x7,Y,HR⟩
   ·exact hR _ _ ⟨rfl,p0,hok,Ib,HQ,Ia⟩
  ·rintro ρ M7 ⟨rfl,p,J,x7,Y,HR⟩;refine dj (I:=λρ' M'=>∃ (o7:Option D),ρ'=[some (.ref b),some (.ref a),some (.int c),some (.ref pr),some x,some (.ref pq),some (.int way),o7] /\ ∃ p:Pr,di L0 L1 L2 p/\Bx b M M'/\M' pr=some (.lst (ps.map prD))/\M' pq=some (.lst (prL p))) (λR hR=>?_) ?_
   ·walk_at "wp"
    split
    ·walk_at "st";refine HW x7.box (by decide) (by decide) λside M8 d0 d1 x8=>?_
     have L:=x8.keep pr _ Z Y;have HJ:=x8.keep pq _ O HR;have x9:=x7.trans x8;have I9:=x9.keep a _ HL ha;walk_at "st";refine⟨by rw[td];lia,?_⟩
     have Ih:side=0∨side=1∨side=2:=by lia
     rcases Ih with rfl|rfl|rfl
     ·refine aE I9 (d:=.int L0) rfl ?_;walk_at "wp";refine⟨by lia,by lia,by rw[td];lia,bP HJ (j:=0) rfl ?_⟩
      rw[yq];exact hR _ _ ⟨_,rfl,(Jj (L0:Int).toNat 0,p.2.1,p.2.2),⟨by simp,J.l1,J.l2,dB,J.s1,J.s2⟩,x9.upd U O,by rw[ax HI];exact L,aa⟩
     ·refine aE I9 (d:=.int L1) rfl ?_;walk_at "wp";refine⟨by lia,by lia,by rw[td];lia,bP HJ (j:=1) rfl ?_⟩
      rw[yq];exact hR _ _ ⟨_,rfl,(p.1,Jj (L1:Int).toNat 0,p.2.2),⟨J.l0,by simp,J.l2,J.s0,dB,J.s2⟩,x9.upd U O,by rw[ax HI];exact L,aa⟩
     ·refine aE I9 (d:=.int L2) rfl ?_;walk_at "wp";refine⟨by lia,by lia,by rw[td];lia,bP HJ (j:=2) rfl ?_⟩
      rw[yq];exact hR _ _ ⟨_,rfl,(p.1,p.2.1,Jj (L2:Int).toNat 0),⟨J.l0,J.l1,by simp,J.s0,J.s1,dB⟩,x9.upd U O,by rw[ax HI];exact L,aa⟩
    ·exact hR _ _ ⟨_,rfl,p,J,x7,Y,HR⟩
   ·rintro ρ M9 ⟨Io,rfl,p,J,x9,HV,Ii⟩;walk_at "st";refine⟨⟨_,HV⟩,_,_,rfl,ah Ii,_,_,_,rfl,rfl,HV,by rw[Jc,td];lia,?_⟩
    walk_at "wp";exact hF _ _ ⟨ps++[p],_,_,_,_,rfl,by simp[hl],λp' Ij=>(Jz.mp Ij).elim (hp p') λz=>by simp at z;subst z;exact J,x9.upd HN Z,by rw[aa];simp[prD,prL]⟩
 ·rintro ρ M1 ⟨ps,o4,o5,o6,o7,rfl,hl,hp,x1,HY⟩;have HP:=x1.keep a _ HL ha;dsimp only;walk_at "st";refine⟨_,_,rfl,ah HP,by rw[td];lia,?_⟩
  walk_at "wp";rw[eg]at hl;exact⟨by simp,by rw[td];lia,q ps pr M1 (by lia) hp x1 HN HY⟩
end
section
noncomputable def tx (i:Int):Str:=gV (Ko i)
theorem aX (h:i.natAbs<10 ^ 4):(tx i).length<=5:=by
 have e:=int_text_length_le10 (k:=4) (by decide) h
 unfold tx;rw[Ja];lia
theorem cJ (h:i.natAbs<10 ^ 4):i.natAbs.log2<1920:=by
 by_cases z:i.natAbs=0
 ·rw[z];decide
 ·exact(Qo z).mpr (Ju (Ju h (show 10 ^ 4<=2 ^ 14 by decide)) (Qv (by decide) (by decide)))
theorem fv (a b:String):gV (a++b)=gV a++gV b:=by
 apply Str.ext';show (Rr 0 0 (a++b).toByteArray.data.toList).toArray=(Rr 0 0 a.toByteArray.data.toList).toArray++(Rr 0 0 b.toByteArray.data.toList).toArray;rw[Nx,Nx,Nx,String.toList_append,Jv];simp
theorem vO (h:i<0):gV "-" ++ tx (-i)=tx i:=by
 cases i with
 |ofNat m=>exact absurd h (by simp)
 |negSucc m=>exact(fv "-" (Nat.repr (m+1))).symm
theorem bp (a:String):JW (gV a)=true:=by
 unfold JW;show (Rr 0 0 a.toByteArray.data.toList).toArray.all _=true;rw[Nx];simp only[List.all_toArray,Om,JK];intro c _;have h:=c.valid;simp only[UInt32.isValidChar,Nat.isValidChar]at h;simp only[Function.comp,decide_eq_true_eq,Nh];lia
theorem eZ {s:Str}{B:Nat}:∀ {ts:List Str},(∀ t∈ts,t.length<=B)->(JH s ts).length<=ts.length*(B+s.length)
 |[],_=>by simp[JH,Kb,Rc]
 |[x],h=>by have:=h x (by simp);simp only[JH,Jr,Kq];lia
 | x::y::r,h=>by
   have h1:=h x (by simp)
   have h2:=eZ (s:=s) (ts:=y::r) λt j=>h t (Ji _ j);show (x++s++JH s (y::r)).length<=_;rw[Jf,Jf,Jr,RG];lia
theorem fM {B:Nat}:∀ {ts:List Str},(∀ t∈ts,t.length<=B)->(ts.map (·.length)).sum<=ts.length*B
 |[],_=>by simp
 | x::r,h=>by
   have h1:=h x (by simp)
   have h2:=fM (ts:=r) λt j=>h t (Ji _ j);rw[Jp,NT,Jr,RG];lia
noncomputable def fl (ns:List Int):List (Int×Nat):=ns.zipIdx.filter λp=>p.1 != 0
noncomputable def bv (p:Int×Nat):Str:=tx p.1++gV ":" ++ tx (p.2:Nat)
noncomputable def bb (ns:List Int):Str:=if (fl ns).isEmpty=true then gV "-" else JH (gV " ") ((fl ns).map bv)
noncomputable def aU (p:Pr):Str:=bb p.1++gV " * " ++ bb p.2.1++gV " > " ++ bb p.2.2
noncomputable def az (a b c:Nat):Str:=gV "scheme " ++ tx a++gV " " ++ tx b++gV " " ++ tx c
theorem yr (a b c:Nat):gV "scheme " ++ JH (gV " ") [tx a,tx b,tx c]=az a b c:=by
 unfold az;simp only[JH,Pp]
theorem gX (ns:List Int):(fl ns).length<=ns.length:=K7 (NB _ _) (by simp)
theorem pE {p:Int×Nat}(h:p∈fl ns):p.1∈ns/\p.2<ns.length:=by
 have h1:=Oa.mp (NX.mp h).1;exact⟨KD h1,(Jw.mp h1).1⟩
theorem gj (j:bI ns)(z:ns.length<=1000){p:Int×Nat}(h:p∈fl ns):(bv p).length<=11:=by
 obtain⟨h1,h2⟩:=pE h;have:=j _ h1;have a:=aX (i:=p.1) (by lia)
 have b:=aX (i:=(p.2:Int)) (by lia)
 have c:(gV ":").length=1:=by rw[Ja];rfl
 unfold bv;rw[Jf,Jf];lia
theorem bQ (j:bI ns)(z:ns.length<=1000):(bb ns).length<=12000:=by
 unfold bb
 split
 ·rw[Ja];decide
 ·have h:=eZ (s:=gV " ") (B:=11) (ts:=(fl ns).map bv) (by
   intro t F;obtain⟨p,J,rfl⟩:=K1.mp F;exact gj j z J)
  have c:(gV " ").length=1:=by rw[Ja];rfl
  have:=gX ns;rw[c,Jc]at h;lia
theorem yt {j z L2:Nat}{p:Pr}(h:di j z L2 p)(h0:j<=1000)(h1:z<=1000)(h2:L2<=1000):(aU p).length<=36006:=by
 have a:=bQ h.s0 (by rw[h.l0];exact h0)
 have b:=bQ h.s1 (by rw[h.l1];exact h1)
 have c:=bQ h.s2 (by rw[h.l2];exact h2)
 have d:(gV " * ").length=3:=by rw[Ja];rfl
 have e:(gV " > ").length=3:=by rw[Ja];rfl
 unfold aU;simp only[Jf];lia
theorem pF (ns:List Int):dX (ns.map .int)=ns.zipIdx.map λp=>.tup [.int (p.2:Nat),.int p.1]:=by
 unfold dX;apply OX;intro i;rw[LC,JF,JF,Mt]
 cases ns[i]? <;> simp
end
section
noncomputable def cl (s:Str):List Nat:=s.cps.toList
theorem cj {a b:Str}(h:cl a=cl b):a=b:=by
 apply Str.ext';exact Array.toList_inj.mp h
theorem aF (a b:Str):cl (a++b)=cl a++cl b:=by unfold cl;rw[Str.cps_append];simp
theorem ay (a:Str):(cl a).length=a.length:=by simp[cl,Rc]
theorem ck (c:Nat):cl ⟨#[c]⟩=[c]:=rfl
noncomputable def jl (c:Nat):List (List Nat)->List Nat
 |[]=>[]
 |[x]=>x
 |x::y::r=>x++c::jl c (y::r)
theorem aM (c:Nat):∀ ys:List Str,cl (JH ⟨#[c]⟩ ys)=jl c (ys.map cl)
 |[]=>rfl
 |[x]=>rfl
 | x::y::r=>by
   show cl (x++⟨#[c]⟩++JH ⟨#[c]⟩ (y::r))=_;rw[aF,aF,aM c (y::r),ck];simp[jl]
theorem vP {c:Nat}:∀ {x y s t:List Nat},c∉x->c∉y->x++c::s=y++c::t->x=y/\s=t
 |[],[],_,_,_,_,h=>by simpa using h
 |[],b::y,_,_,_,h2,h=>by simp at h h2;exact absurd h.1 h2.1
 |a::x,[],_,_,h1,_,h=>by simp at h h1;exact absurd h.1.symm h1.1
 | a::x,b::y,s,t,h1,h2,h=>by
   simp only[NJ,SU]at h;simp only[Jl,not_or]at h1 h2;obtain⟨j,z⟩:=vP h1.2 h2.2 h.2;exact⟨by rw[h.1,j],z⟩
theorem vQ {c:Nat}:∀ {xs ys:List (List Nat)},xs≠[]->ys≠[]->(∀ x∈xs,c∉x)->(∀ y∈ys,c∉y)->jl c xs=jl c ys->xs=ys
 |[],_,h,_,_,_,_=>absurd rfl h
 |_,[],_,h,_,_,_=>absurd rfl h
 |[x],[y],_,_,_,_,h=>by rw[show x=y from h]
 |[x],y::z::r,_,_,h1,_,h=>by
  have:c∈x:=by rw[show x=y++c::jl c (z::r) from h];simp
  exact absurd this (h1 x (by simp))
 | x::u::r,[y],_,_,_,h2,h=>by
   have:c∈y:=by rw[<- show x++c::jl c (u::r)=y from h];simp
   exact absurd this (h2 y (by simp))
 | x::u::r,y::z::r',_,_,h1,h2,h=>by
   obtain⟨j,F⟩:=vP (h1 x (by simp)) (h2 y (by simp)) (show x++c::jl c (u::r)=y++c::jl c (z::r') from h)
   rw[j,vQ (by simp) (by simp) (λw hw=>h1 w (Ji _ hw)) (λw hw=>h2 w (Ji _ hw)) F]
theorem gk {ys:List Str}(h:ys≠[])(hf:∀ y∈ys,c∉cl y):Jb (JH ⟨#[c]⟩ ys) ⟨#[c]⟩=ys:=by
 have e:=JT (JH ⟨#[c]⟩ ys) ⟨#[c]⟩;have F:=congrArg cl e;rw[aM,aM]at F;have j:=Pq (JH ⟨#[c]⟩ ys) ⟨#[c]⟩;have J:=vQ (c:=c) (xs:=(Jb (JH ⟨#[c]⟩ ys) ⟨#[c]⟩).map cl) (ys:=ys.map cl) (by intro z;rw[QQ]at z;rw[z]at j;simp at j) (by simpa using h)
  (λx hx=>by obtain⟨p,j,rfl⟩:=K1.mp hx;exact Ni _ c p j) (λx hx=>by obtain⟨p,j,rfl⟩:=K1.mp hx;exact hf p j) F
 exact(List.map_inj_right (λa b=>cj)).mp J
theorem fN (x:Str)(i j:Nat):cl (Ma x i j)=((cl x).drop i).take (j - i):=StrLaws.strSub_toList x i j
theorem gY (x y:Str)(k:Nat):Q0 x y x.length k↔k+y.length<=x.length/\((cl x).drop k).take y.length=cl y:=by
 unfold Q0;rw[StrLaws.subAt_eq,beq_iff_eq];exact RT
theorem AT {a b:Str}(z:∀ k,k<a.length -> ¬ Q0 (a++y++b) y (a++y++b).length k):dY (a++y++b) y=[a,y,b]:=by
 have j:Q0 (a++y++b) y (a++y++b).length a.length:=by
  rw[gY,aF,aF,Jf,Jf];refine⟨by lia,?_⟩
  rw[<- ay,<- ay,Ku,Ny,Nz]
 have key:∀ i r,Km (a++y++b) y 0 (a++y++b).length 1=i::r->i=a.length->dY (a++y++b) y=[a,y,b]:=by
  intro i r e ei;subst ei;unfold dY JN;rw[e];have F:Ma (a++y++b) 0 a.length=a:=cj (by rw[fN,aF,aF,<- ay,Mu,Nat.sub_zero,Ku,Nz])
  have J:Ma (a++y++b) (a.length+y.length) (a++y++b).length=b:=cj (by
   rw[fN,Jf,Jf,aF,aF,<- ay,<- ay,<- Jq,Ny,<- ay,Nat.add_sub_cancel_left,Pt])
  dsimp only;rw[F,J]
 rcases Pu (a++y++b) y 1 (Jg 1) with⟨_,h0⟩|⟨i,r,h0,hi,hk⟩
 ·exact absurd j (h0 _)
 ·refine key i r h0 ?_
  by_cases h1:i<a.length
  ·exact absurd hi (z i h1)
  ·by_cases h2:a.length<i
   ·exact absurd j (hk _ h2)
   ·lia
theorem yu {a b:Str}(h:c∉cl a):dY (a++⟨#[c]⟩++b) ⟨#[c]⟩=[a,⟨#[c]⟩,b]:=AT λk hk F=>by
 have e:=(gY _ _ _).mp F;have J:(⟨#[c]⟩:Str).length=1:=rfl;rw[J,aF,aF,Ku,List.drop_append_of_le_length (by rw[ay];lia),ck]at e
 have j:(cl a).drop k≠[]:=by intro z;rw[List.drop_eq_nil_iff,ay]at z;lia
 obtain⟨d,l,ed⟩:=OI j;rw[ed]at e;have hd:d=c:=by simpa using e.2
 refine h (JE (i:=k) ?_);rw[ed,hd];simp
theorem jW (x:Str)(c:Nat):Nu x ⟨#[c]⟩=decide ((cl x)[0]? = some c):=by
 unfold Nu;have:=StrLaws.subAt_one x c 0;rw[Bool.eq_iff_iff,decide_eq_true_iff,hX,decide_eq_true_iff];exact this
theorem tP (h : 1<=x.length):cl (Ka x (some 1) none)=(cl x).drop 1:=by
 have e:=slice_closes_from (x:=x) (i:=1) ⟨by decide,by rw[show x.cps.toList.length=x.length from ay x];lia⟩
 have j:=Oq e;rw[j];have z:=ay x;unfold cl at *
 rw[NA]
 ·rfl
 ·simp only[JG];lia
theorem qZ (x:Str)(c:Nat):Txt.contains x ⟨#[c]⟩=decide (c∈cl x):=StrLaws.found_one x c
theorem gZ (n:Nat):cl (tx (n:Nat))=(Ky 10 n).map Nh:=PySem.W.KIN.signs_num n
theorem AU:((KZ 1001).all λn=>let d:=(Ky 10 n).map Nh;decide (1<=d.length)&&decide (d.length<=4)&&(decide (100<=n) || decide (d.length<=2))&&(!(d.head? == some 48) || decide (d.length<=1))&&d.all λc=>decide (48<=c)&&decide (c<=57))=true:=by decide +kernel
theorem pG (h:n<=1000) : 1<=(tx (n:Nat)).length/\(tx (n:Nat)).length<=4/\(n<100->(tx (n:Nat)).length<=2)/\((cl (tx (n:Nat))).head? = some 48->(tx (n:Nat)).length<=1) /\ ∀ c∈cl (tx (n:Nat)),48<=c/\c<=57:=by
 have h1:=JK.mp AU n (Ot.mpr (by lia))
 simp only[hX,MY,decide_eq_true_eq,JD,JK]at h1;rw[<- ay,gZ];obtain⟨⟨⟨⟨a,b⟩,c⟩,d⟩,e⟩:=h1;refine⟨a,b,λz=>c.resolve_left (by lia),λz=>d.resolve_left λw=>?_,e⟩
 rw[z]at w;exact absurd w (by decide)
theorem ir {k:Nat}(hk:k≠45/\(k<48∨57<k))(i:Int):k∉cl (tx i):=int_text_free' k hk i
theorem r6:cl (gV "0123456789")=[48,49,50,51,52,53,54,55,56,57]:=by decide +kernel
theorem mk1:gV " " = ⟨#[32]⟩/\gV ":" = ⟨#[58]⟩/\gV "-" = ⟨#[45]⟩/\gV "\n" = ⟨#[10]⟩/\gV "0" = ⟨#[48]⟩:=by decide +kernel
theorem mk3:gV " * " = ⟨#[32,42,32]⟩/\gV " > " = ⟨#[32,62,32]⟩:=by decide +kernel
theorem AV (p:Int×Nat):cl (bv p)=cl (tx p.1)++58::cl (tx (p.2:Nat)):=by
 unfold bv;rw[mk1.2.1,aF,aF,ck];simp
theorem vR {k:Nat}(hk:k≠45/\(k<48∨57<k))(h2:k≠58)(p:Int×Nat):k∉cl (bv p):=by
 rw[AV,Jz,Jl,not_or,not_or];exact⟨ir hk _,h2,ir hk _⟩
theorem kL {c k:Nat}(h:k≠c):∀ {ys:List (List Nat)},(∀ y∈ys,k∉y)->k∉jl c ys
 |[],_=>by simp[jl]
 |[x],h1=>h1 x (by simp)
 | x::y::r,h1=>by
   have:=kL h (ys:=y::r) λw hw=>h1 w (Ji _ hw);show k∉x++c::jl c (y::r);rw[Jz,Jl,not_or,not_or];exact⟨h1 x (by simp),h,this⟩
theorem lZ {k:Nat}(hk:k≠45/\(k<48∨57<k))(h2:k≠58)(z:k≠32)(ns:List Int):k∉cl (bb ns):=by
 unfold bb
 split
 ·rw[mk1.2.2.1,ck];simp;exact hk.1
 ·rw [mk1.1,aM];exact kL z fun y j=>by
   rw[S1]at j;obtain⟨p,_,rfl⟩:=K1.mp j;exact vR hk h2 p
theorem AW (p:Pr):cl (aU p)=cl (bb p.1)++[32,42,32]++cl (bb p.2.1)++[32,62,32]++cl (bb p.2.2):=by
 unfold aU;rw[mk3.1,mk3.2,aF,aF,aF,aF];rfl
theorem m3 (p:Pr) : 10∉cl (aU p):=by
 rw[AW];have h:=λns=>lZ (k:=10) ⟨by decide,by decide⟩ (by decide) (by decide) ns
 simp[h]
theorem jX (a b c:Nat):az a b c=JH (gV " ") [gV "scheme",tx a,tx b,tx c]:=by
 unfold az;have e:gV "scheme " = gV "scheme" ++ gV " ":=fv "scheme" " ";rw[e];simp only[JH,Pp]
theorem AX:cl (gV "scheme")=[115,99,104,101,109,101]:=by decide +kernel
theorem jY (a b c:Nat) : 10∉cl (az a b c):=by
 rw[jX,mk1.1,aM];refine kL (by decide) λy j=>?_
 simp only[Jp,KO,Jl,JB,or_false]at j
 rcases j with rfl|rfl|rfl|rfl
 ·rw[AX];decide
 all_goals exact ir ⟨by decide,by decide⟩ _
theorem tQ (a b c:Nat)(ps:List Pr):Jb (JH (gV "\n") (az a b c::ps.map aU)) (gV "\n")=az a b c::ps.map aU:=by
 rw[mk1.2.2.2.1];refine gk (by simp) λy j=>?_
 rcases Jl.mp j with rfl|j
 ·exact jY a b c
 ·obtain⟨p,_,rfl⟩:=K1.mp j;exact m3 p
end
section
noncomputable def dg (c:Nat):Bool:=decide (c∈[48,49,50,51,52,53,54,55,56,57])
theorem dg_iff:dg c=true↔48<=c/\c<=57:=by
 unfold dg;rw[decide_eq_true_iff];simp only[Jl,JB,or_false];omega
noncomputable def cf (w:Str):Bool:=(cl w).all dg
noncomputable def nv (w:Str):Nat:=JO (cl w)
noncomputable def dq (w:Str):Bool:=!(decide ((cl w).head? = some 48)&&decide (1<w.length))
theorem gm (h:cf w=true):PySem.NumText.AllDigits (cl w):=λc j=>dg_iff.mp (JK.mp h c j)
theorem n9 (h:cf w=true)(h1 : 1<=w.length)(h2:w.length<=600):Qp w=some ((nv w:Nat):Int) :=
 PySem.intText_digits (gm h) (λe=>by have:=ay w;unfold cl at this;rw[e]at this;simp at this;omega) (by omega)
theorem yv:∀ n:Nat,((Ky 10 n).map Nh).head? = some 48->n=0:=by
 intro n
 induction n using Nat.strongRecOn with
 | _ m ih =>
   intro h
   by_cases hm:m<10
   ·rw[LP hm]at h;have z:∀ d:Nat,d<10->(Nat.digitChar d).toNat=48->d=0:=by decide
    exact z m hm (by simpa using h)
   ·have t:Ky 10 (m / 10)++Ky 10 (m % 10)=Ky 10 (10*(m / 10)+m % 10):=Ob (by decide) (by omega) (Nat.mod_lt m (by decide))
    rw[Nat.div_add_mod]at t;rw[<- t,Jv,S4]at h;have e:=ih (m / 10) (by omega)
    cases hq:((Ky 10 (m / 10)).map Nh).head? with
    | none =>
      rw[List.head?_eq_none_iff,QQ]at hq;have:=PySem.W.KIN.val_back (m / 10);rw[hq]at this;have z:JO ([]:List Nat)=0:=rfl;rw[KO,z]at this;omega
    | some c =>
      rw[hq]at h;have j:c=48:=by simpa using h
      have:=e (by rw[hq,j])
      omega
theorem D2:∀ (k:Nat) (ds:List Nat),ds.length=k->(∀ c∈ds,48<=c/\c<=57)->ds≠[]->(ds.head? = some 48->ds.length=1)->(Ky 10 (JO ds)).map Nh=ds:=by
 intro k
 induction k with
 |zero=>intro ds h _ J;exact absurd (Kn.mp h) J
 | succ k ih =>
   intro ds hk hd J L;have one:∀ d:Nat,48<=d/\d<=57->(Ky 10 (d - 48)).map Nh=[d]:=λd hd=>by
    rw[LP (by omega)]
    have z:∀ e:Nat,e<10->(Nat.digitChar e).toNat=e+48:=by decide
    rw[Jp,KO,z _ (by omega)]
    congr 1;omega
   obtain⟨init,d,rfl⟩:∃ init d,ds=init++[d]:=⟨ds.dropLast,ds.getLast J,(List.dropLast_concat_getLast J).symm⟩;have j:=hd d (by simp)
   by_cases hi:init=[]
   ·subst hi;rw[Md];have:JO [d]=d - 48:=by show 0*10+(d - 48)=d - 48;omega
    rw[this];exact one d j
   ·have O:init.length=k:=by rw[Jq]at hk;simpa using hk
    have h0:init.head? ≠ some 48:=λe=>by
     have h2:=L (by rw[S4,e];rfl)
     rw[Jq,JP]at h2;exact hi (Kn.mp (by omega))
    have e:=ih init O (λc U=>hd c (by simp[U])) hi λz=>absurd z h0
    have F : 0<JO init:=by
     rcases OJ (JO init) with z|z
     ·rw[z,LP (by decide)]at e
      rw[<- e]at h0;exact absurd rfl h0
     ·exact z
    have t:Ky 10 (JO init)++Ky 10 (d - 48)=Ky 10 (10*JO init+(d - 48)):=Ob (by decide) F (by omega)
    have s:JO (init++[d])=10*JO init+(d - 48):=by
     unfold JO;rw[List.foldl_append,O0,List.foldl_nil,PU]
    rw[s,<- t,Jv,e,one d j]
theorem fw (h:cf w=true)(h1 : 1<=w.length):tx (nv w:Nat)=w↔dq w=true:=by
 have F:=ay w;have L:cl w≠[]:=λe=>by rw[e]at F;simp at F;omega
 constructor
 ·intro e;have O:(Ky 10 (nv w)).map Nh=cl w:=by rw[<- gZ,e]
  unfold dq;rw[JD,Bool.and_eq_false_iff]
  by_cases J:(cl w).head? = some 48
  ·refine .inr (decide_eq_false λj=>?_);have z:=yv (nv w) (by rw[O];exact J)
   rw[z,LP (by decide)]at O
   rw[<- F,<- O]at j;simp at j
  ·exact .inl (decide_eq_false J)
 ·intro e;refine cj ?_;rw[gZ];refine D2 _ _ rfl (gm h) L λJ=>?_;unfold dq at e;rw[decide_eq_true J,LM,JD,decide_eq_false_iff_not]at e;rw[F];omega
noncomputable def av (w:Str) (most:Nat):Option Nat:=if (1<=w.length/\w.length<=most)/\cf w=true/\dq w=true then some (nv w) else none
noncomputable def aw (w:Str) (lo hi:Int):Bool:=decide (1<=w.length/\w.length<=5)&&cf w&&decide (tx (nv w:Nat)=w)&&decide (lo<=(nv w:Nat)/\((nv w:Nat):Int)<=hi)
theorem plainB_iff:aw w lo hi=true↔(1<=w.length/\w.length<=5)/\cf w=true/\dq w=true/\lo<=(nv w:Nat)/\((nv w:Nat):Int)<=hi:=by
 unfold aw;simp only[hX,decide_eq_true_iff];constructor
 ·rintro⟨⟨⟨h1,h2⟩,z⟩,j⟩;exact⟨h1,h2,(fw h2 h1.1).mp z,j.1,j.2⟩
 ·rintro⟨h1,h2,z,j,F⟩;exact⟨⟨⟨h1,h2⟩,(fw h2 h1.1).mpr z⟩,j,F⟩
theorem m4 {most:Nat}(hm:most<=5)(J:hi<=1000)(L:∀ k:Nat,(k:Int)<=hi->(tx (k:Nat)).length<=most):aw w lo hi=true ↔ ∃ i:Nat,av w most=some i/\lo<=(i:Nat)/\(i:Int)<=hi:=by
 rw[plainB_iff];constructor
 ·rintro⟨h1,h2,F,z,j⟩;refine⟨nv w,?_,z,j⟩;have e:=(fw h2 h1.1).mpr F;have:=L (nv w) j;rw[e]at this;unfold av;rw[if_pos ⟨⟨h1.1,this⟩,h2,F⟩]
 ·rintro⟨i,e,z,j⟩;unfold av at e
  split at e
  ·next h =>
   cases e
   exact⟨⟨h.1.1,by omega⟩,h.2.1,h.2.2,z,j⟩
  ·cases e
theorem D3:aw w lo 1000=true ↔ ∃ i:Nat,av w 4=some i/\lo<=(i:Nat)/\(i:Int)<=1000:=m4 (by omega) (by omega) λk hk=>(pG (by omega)).2.1
theorem vS (h:hi<100):aw w lo hi=true ↔ ∃ i:Nat,av w 2=some i/\lo<=(i:Nat)/\(i:Int)<=hi:=m4 (by omega) (by omega) λk hk=>(pG (by omega)).2.2.1 (by omega)
theorem zh:∀ (ds:List Nat) (a:Nat),(∀ c∈ds,48<=c/\c<=57)->ds.foldl (λacc c=>acc*10+(c - 48)) a<(a+1)*10 ^ ds.length
 |[],a,_=>by simp
 | d::r,a,h=>by
   rw[O0,Jr,Nat.pow_succ];have h1:=zh r (a*10+(d - 48)) λc j=>h c (Ji _ j);have hd:=h d (by simp)
   refine Ju h1 ?_;have:(a*10+(d - 48)+1)<=(a+1)*10:=by omega
   calc (a*10+(d - 48)+1)*10 ^ r.length<=((a+1)*10)*10 ^ r.length:=Nat.mul_le_mul_right _ this
    _=(a+1)*(10 ^ r.length*10):=by rw[Nat.mul_assoc,PU 10]
theorem Em (h:cf w=true)(j:w.length<=5):nv w<100000:=by
 have:=zh (cl w) 0 (gm h);rw[ay]at this;refine Ju this ?_;rw[Nat.zero_add,Nat.one_mul];exact Qv (by decide) j
theorem vT {c:Nat}:∀ {xs:List (List Nat)} {x:List Nat},x∈xs->x.length<=(jl c xs).length
 |[y],x,h=>by rw[L7.mp h];exact Jg _
 | y::z::r,x,h=>by
   show x.length<=(y++c::jl c (z::r)).length;rw[Jq,Jr]
   rcases Jl.mp h with rfl|h
   ·omega
   ·have:=vT (c:=c) h;omega
theorem dC {t:Str}(h:w∈Jb t ⟨#[c]⟩):w.length<=t.length:=by
 have e:=congrArg cl (JT t ⟨#[c]⟩);rw[aM]at e;rw[<- ay,<- ay t,<- e];exact vT (K1.mpr ⟨w,h,rfl⟩)
theorem vU {c:Nat}:∀ xs:List (List Nat),xs.length<=(jl c xs).length+1
 |[]=>Kk _
 |[x]=>by simp
 | x::y::r=>by
   have:=vU (c:=c) (y::r);show (y::r).length+1<=(x++c::jl c (y::r)).length+1;rw[Jq,Jr (a:=c)];omega
theorem vV (t:Str)(c:Nat):(Jb t ⟨#[c]⟩).length<=t.length+1:=by
 have e:=congrArg cl (JT t ⟨#[c]⟩);rw[aM]at e;have:=vU (c:=c) ((Jb t ⟨#[c]⟩).map cl);rw[e,Jc,ay]at this;exact this
theorem r8 (x:Str)(i j:Nat):(Ma x i j).length<=x.length:=by
 rw[<- ay,fN,Jx,JG,ay];omega
noncomputable def pa1 (x y:Str):Str:=(JN x y).1
noncomputable def pa2 (x y:Str):Str:=(JN x y).2.1
noncomputable def pa3 (x y:Str):Str:=(JN x y).2.2
theorem gp (x y:Str):dY x y=[pa1 x y,pa2 x y,pa3 x y]:=rfl
theorem kM (x y:Str):(pa1 x y).length<=x.length:=by
 unfold pa1 JN
 split
 ·exact r8 _ _ _
 ·exact Jg _
theorem kN (x y:Str):(pa3 x y).length<=x.length:=by
 unfold pa3 JN
 split
 ·exact r8 _ _ _
 ·exact Kk _
end
section
namespace K54
noncomputable def al (i:Nat):Stmt:=PySem.Challenge.pw_fewtimes_k54_texts_of_no_scheme.main.body.getD i (.Pass ⟨0,0,0,0⟩)
noncomputable def b0:MSs :=
 (.cons (.ret (.comp [none,none] ["at","x"] (.last (.enum (.var 0)) (.tup (.cons (.name 0) (.cons (.name 1) .nil))) (.cons (.cmp .ne (.var 1) (.int 0)) .nil) (.tup (.cons (.var 0) (.cons (.var 1) .nil))))))
 .nil)
noncomputable def d0:FD:=⟨"filled",al 6,["part"],1,b0⟩
noncomputable def b1:MSs :=
 (.cons (.par 1 2 (.blt .abs (.cons (.var 0) .nil)) (.lst .nil))
 (.cons (.while (.cmp .ge (.var 1) (.bin .pow (.int 10) (.int 50))) (.cons .bot (.cons .bot .nil)))
 (.cons (.drop (.meth .append (.var 2) (.blt .str (.cons (.var 1) .nil))))
 (.cons (.ret (.bin .add (.ite (.cmp .lt (.var 0) (.int 0)) (.str (gV "-")) (.str (gV ""))) (.join (.str (gV "")) (.revS (.var 2) (.neg (.int 1))))))
 .nil))))
noncomputable def d1:FD:=⟨"number_text",al 10,["number","rest","words","last"],1,b1⟩
noncomputable def b2:MSs :=
 (.cons (.ret (.ite (.tru (.blt .any (.cons (.var 0) .nil))) (.join (.str (gV " ")) (.comp [none,none] ["at","c"] (.last (.seq (.call 0 (.cons (.var 0) .nil))) (.tup (.cons (.name 0) (.cons (.name 1) .nil))) .nil (.fstr (.cons (.fmt (.call 1 (.cons (.var 1) .nil))) (.cons (.str (gV ":")) (.cons (.fmt (.var 0)) .nil))))))) (.str (gV "-"))))
 .nil)
noncomputable def d2:FD:=⟨"sum_text",al 11,["part"],1,b2⟩
noncomputable def b3:MSs :=
 (.cons (.asg (.tup (.cons (.name 1) (.cons (.name 2) (.cons (.name 3) (.cons (.name 4) .nil))))) (.var 0))
 (.cons (.asg (.name 5) (.lst (.cons (.fstr (.cons (.str (gV "scheme ")) (.cons (.fmt (.var 1)) (.cons (.str (gV " ")) (.cons (.fmt (.var 2)) (.cons (.str (gV " ")) (.cons (.fmt (.var 3)) .nil))))))) .nil)))
 (.cons (.aug 5 .ext (.comp [none,none,none] ["l","r","o"] (.last (.seq (.var 4)) (.tup (.cons (.name 0) (.cons (.name 1) (.cons (.name 2) .nil)))) .nil (.fstr (.cons (.fmt (.call 2 (.cons (.var 0) .nil))) (.cons (.str (gV " * ")) (.cons (.fmt (.call 2 (.cons (.var 1) .nil))) (.cons (.str (gV " > ")) (.cons (.fmt (.call 2 (.cons (.var 2) .nil))) .nil)))))))))
 (.cons (.ret (.join (.str (gV "\n")) (.var 5)))
 .nil))))
noncomputable def d3:FD:=⟨"scheme_text",al 12,["scheme","left","right","many","products","rows"],1,b3⟩
noncomputable def b4:MSs :=
 (.cons (.ite (.or (.cons (.not (.chain .le .le (.int 1) (.blt .lenS (.cons (.var 0) .nil)) (.var 1))) (.cons (.not (.tru (.blt .all (.cons (.comp [none] ["sign"] (.last (.chars (.var 0)) (.name 0) .nil (.cmp .inStr (.var 0) (.glob "FIGURES" (.str (gV "0123456789")))))) .nil)))) .nil))) (.cons (.ret .non)
 .nil) .nil)
 (.cons (.ite (.and (.cons (.cmp .eq (.ixS (.var 0) (.int 0)) (.str (gV "0"))) (.cons (.cmp .gt (.blt .lenS (.cons (.var 0) .nil)) (.int 1)) .nil))) (.cons (.ret .non)
 .nil) .nil)
 (.cons (.ret (.blt .intS (.cons (.var 0) .nil)))
 .nil)))
noncomputable def d4:FD:=⟨"number_from",al 13,["word","most"],2,b4⟩
noncomputable def b5:MSs :=
 (.cons (.asg (.name 1) (.smeth .starts (.var 0) (.str (gV "-"))))
 (.cons (.asg (.name 2) (.call 4 (.cons (.ite (.tru (.var 1)) (.slS (.var 0) (.some (.int 1))) (.var 0)) (.cons (.blt .lenS (.cons (.blt .str (.cons (.glob "GREATEST_FACTOR" (.int 1000)) .nil)) .nil)) .nil))))
 (.cons (.ite (.or (.cons (.cmp .is (.var 2) .non) (.cons (.not (.chain .le .le (.int 1) (.var 2) (.glob "GREATEST_FACTOR" (.int 1000)))) .nil))) (.cons (.ret .non)
 .nil) .nil)
 (.cons (.ret (.ite (.tru (.var 1)) (.neg (.var 2)) (.var 2)))
 .nil))))
noncomputable def d5:FD:=⟨"factor_from",al 14,["word","is_below","size"],1,b5⟩
noncomputable def b6:MSs :=
 (.cons (.par 2 3 (.bin .mul (.lst (.cons (.int 0) .nil)) (.var 1)) (.neg (.int 1)))
 (.cons (.ite (.cmp .eq (.var 0) (.str (gV "-"))) (.cons (.ret (.blt .tuple (.cons (.var 2) .nil)))
 .nil) .nil)
 (.cons (.for (.name 4) (.seq (.smeth .split (.var 0) (.str (gV " ")))) (.cons (.asg (.tup (.cons (.name 5) (.cons (.name 6) (.cons (.name 7) .nil)))) (.smeth .part (.var 4) (.str (gV ":"))))
 (.cons (.par 8 9 (.call 5 (.cons (.var 5) .nil)) (.call 4 (.cons (.var 7) (.cons (.blt .lenS (.cons (.blt .str (.cons (.glob "LONGEST" (.int 81)) .nil)) .nil)) .nil))))
 (.cons (.ite (.or (.cons (.cmp .is (.var 8) .non) (.cons (.cmp .is (.var 9) .non) (.cons (.not (.chain .lt .lt (.var 3) (.var 9) (.var 1))) .nil)))) (.cons (.ret .non)
 .nil) .nil)
 (.cons (.put (.var 2) (.var 9) (.var 8))
 (.cons (.asg (.name 3) (.var 9))
 .nil))))))
 (.cons (.ret (.blt .tuple (.cons (.var 2) .nil)))
 .nil))))
noncomputable def d6:FD:=⟨"sum_from",al 15,["text","length","part","ahead","word","first","colon","second","c","at"],2,b6⟩
noncomputable def b7:MSs :=
 (.cons (.asg (.tup (.cons (.name 2) (.cons (.name 3) (.cons (.name 4) .nil)))) (.smeth .part (.var 0) (.str (gV " * "))))
 (.cons (.asg (.tup (.cons (.name 5) (.cons (.name 6) (.cons (.name 7) .nil)))) (.smeth .part (.var 4) (.str (gV " > "))))
 (.cons (.asg (.name 8) (.comp [none,none] ["text","length"] (.last (.zip (.lst (.cons (.var 2) (.cons (.var 5) (.cons (.var 7) .nil)))) (.var 1)) (.tup (.cons (.name 0) (.cons (.name 1) .nil))) .nil (.call 6 (.cons (.var 0) (.cons (.var 1) .nil))))))
 (.cons (.ret (.ite (.cmp .inNon .non (.var 8)) .non (.blt .tuple (.cons (.var 8) .nil))))
 .nil))))
noncomputable def d7:FD:=⟨"product_from",al 16,["row","lengths","first","star","rest","second","sign","third","parts"],2,b7⟩
noncomputable def b8:MSs :=
 (.cons (.asg (.name 1) (.smeth .split (.var 0) (.str (gV " "))))
 (.cons (.ite (.or (.cons (.cmp .ne (.blt .len (.cons (.var 1) .nil)) (.int 4)) (.cons (.cmp .ne (.ix (.var 1) (.int 0)) (.str (gV "scheme"))) .nil))) (.cons (.ret .non)
 .nil) .nil)
 (.cons (.asg (.name 2) (.comp [none] ["word"] (.last (.seq (.sl (.var 1) (.some (.int 1)) .none)) (.name 0) .nil (.call 4 (.cons (.var 0) (.cons (.blt .lenS (.cons (.blt .str (.cons (.glob "LONGEST" (.int 81)) .nil)) .nil)) .nil))))))
 (.cons (.ite (.not (.tru (.blt .all (.cons (.comp [none] ["length"] (.last (.seq (.var 2)) (.name 0) .nil (.and (.cons (.cmp .isn (.var 0) .non) (.cons (.chain .le .le (.int 1) (.var 0) (.glob "LONGEST" (.int 81))) .nil))))) .nil)))) (.cons (.ret .non)
 .nil) .nil)
 (.cons (.ret (.blt .tuple (.cons (.var 2) .nil)))
 .nil)))))
noncomputable def d8:FD:=⟨"lengths_from",al 17,["row","words","lengths"],1,b8⟩
noncomputable def b9:MSs :=
 (.cons (.asg (.name 1) (.smeth .split (.var 0) (.str (gV "\n"))))
 (.cons (.asg (.name 2) (.call 8 (.cons (.ix (.var 1) (.int 0)) .nil)))
 (.cons (.ite (.cmp .is (.var 2) .non) (.cons .bot
 .nil) .nil)
 (.cons (.asg (.name 3) (.lst .nil))
 (.cons (.for (.tup (.cons (.name 4) (.cons (.name 5) .nil))) (.enum1 (.sl (.var 1) (.some (.int 1)) .none)) (.cons (.asg (.name 6) (.call 7 (.cons (.var 5) (.cons (.var 2) .nil))))
 (.cons (.ite (.or (.cons (.cmp .is (.var 6) .non) (.cons (.cmp .gt (.var 4) (.glob "MOST_PRODUCTS" (.int 400))) .nil))) (.cons .bot
 .nil) .nil)
 (.cons (.drop (.meth .append (.var 3) (.var 6)))
 .nil))))
 (.cons (.ret (.bin .add (.var 2) (.tup (.cons (.var 3) .nil))))
 .nil))))))
noncomputable def d9:FD:=⟨"scheme_from",al 18,["text","rows","lengths","products","at","row","product"],1,b9⟩
noncomputable def d10:FD:=jV (al 20)
noncomputable def d11:FD:=kK (al 21)
noncomputable def d12:FD:=tN (al 22) 10 11
noncomputable def d13:FD:=pz (al 23) 11
noncomputable def d14:FD:=j5 (al 24) 13
noncomputable def d15:FD:=pC (al 25) 14
noncomputable def d16:FD:=gW "_law_lengths_here" (al 26) 13 15
noncomputable def b17:MSs :=
 (.cons (.ret (.comp [none,(some 0),(some 1)] ["_law_side","_law_box_here","_law_most"] (.last (.rng1 (.int 3)) (.name 0) .nil (.bin .add (.int 1) (.call 13 (.cons (.var 1) (.cons (.var 2) .nil)))))))
 .nil)
noncomputable def d17:FD:=⟨"_law_lengths",al 27,["_law_box_here","_law_most"],2,b17⟩
noncomputable def b18:MSs :=
 (.cons (.asg (.name 1) (.lst .nil))
 (.cons (.for (.tup (.cons (.name 2) (.cons (.name 3) .nil))) (.enum (.var 0)) (.cons (.ite (.cmp .ne (.var 3) (.int 0)) (.cons (.drop (.meth .append (.var 1) (.bin .add (.bin .add (.blt .str (.cons (.var 3) .nil)) (.str (gV ":"))) (.blt .str (.cons (.var 2) .nil)))))
 .nil) .nil)
 .nil))
 (.cons (.ret (.join (.str (gV " ")) (.orL (.var 1) (.lst (.cons (.str (gV "-")) .nil)))))
 .nil)))
noncomputable def d18:FD:=⟨"_law_sum",al 28,["_law_part_here","_law_words","_law_place","_law_number_here"],1,b18⟩
noncomputable def b19:MSs :=
 (.cons (.asg (.name 1) (.lst (.cons (.bin .add (.str (gV "scheme ")) (.join (.str (gV " ")) (.comp [none] ["_law_length"] (.last (.seq (.sl (.var 0) .none (.some (.int 3)))) (.name 0) .nil (.blt .str (.cons (.var 0) .nil)))))) .nil)))
 (.cons (.for (.tup (.cons (.name 2) (.cons (.name 3) (.cons (.name 4) .nil)))) (.seq (.ix (.var 0) (.int 3))) (.cons (.drop (.meth .append (.var 1) (.bin .add (.bin .add (.bin .add (.bin .add (.call 18 (.cons (.var 2) .nil)) (.str (gV " * "))) (.call 18 (.cons (.var 3) .nil))) (.str (gV " > "))) (.call 18 (.cons (.var 4) .nil)))))
 .nil))
 (.cons (.ret (.join (.str (gV "\n")) (.var 1)))
 .nil)))
noncomputable def d19:FD:=⟨"_law_text",al 29,["_law_scheme_here","_law_rows","_law_l","_law_r","_law_o"],1,b19⟩
noncomputable def b20:MSs :=
 (.cons (.ite (.or (.cons (.cmp .eq (.var 0) (.str (gV ""))) (.cons (.cmp .gt (.blt .lenS (.cons (.var 0) .nil)) (.int 5)) (.cons (.tru (.blt .any (.cons (.comp [none] ["_law_sign"] (.last (.chars (.var 0)) (.name 0) .nil (.cmp .ninStr (.var 0) (.str (gV "0123456789"))))) .nil))) .nil)))) (.cons (.ret (.bl false))
 .nil) .nil)
 (.cons (.ret (.and (.cons (.cmp .eq (.blt .str (.cons (.blt .intS (.cons (.var 0) .nil)) .nil)) (.var 0)) (.cons (.chain .le .le (.var 1) (.blt .intS (.cons (.var 0) .nil)) (.var 2)) .nil))))
 .nil))
noncomputable def d20:FD:=⟨"_law_plain",al 30,["_law_word","_law_least","_law_most"],3,b20⟩
noncomputable def b21:MSs :=
 (.cons (.ite (.cmp .eq (.var 0) (.lst (.cons (.str (gV "-")) .nil))) (.cons (.ret (.bl true))
 .nil) .nil)
 (.cons (.asg (.name 2) (.neg (.int 1)))
 (.cons (.for (.name 3) (.seq (.var 0)) (.cons (.asg (.name 4) (.smeth .split (.var 3) (.str (gV ":"))))
 (.cons (.ite (.or (.cons (.cmp .ne (.blt .len (.cons (.var 4) .nil)) (.int 2)) (.cons (.not (.tru (.call 20 (.cons (.ix (.var 4) (.int 1)) (.cons (.bin .add (.var 2) (.int 1)) (.cons (.bin .sub (.var 1) (.int 1)) .nil)))))) .nil))) (.cons (.ret (.bl false))
 .nil) .nil)
 (.cons (.asg (.name 5) (.ite (.cmp .eq (.slT (.ix (.var 4) (.int 0)) (.some (.int 1))) (.str (gV "-"))) (.slS (.ix (.var 4) (.int 0)) (.some (.int 1))) (.ix (.var 4) (.int 0))))
 (.cons (.ite (.not (.tru (.call 20 (.cons (.var 5) (.cons (.int 1) (.cons (.int 1000) .nil)))))) (.cons (.ret (.bl false))
 .nil) .nil)
 (.cons (.asg (.name 2) (.blt .intS (.cons (.ix (.var 4) (.int 1)) .nil)))
 .nil))))))
 (.cons (.ret (.cmp .ne (.var 0) (.lst .nil)))
 .nil))))
noncomputable def d21:FD:=⟨"_law_sum_fits",al 31,["_law_words","_law_length","_law_last","_law_word","_law_halves","_law_number_here"],2,b21⟩
noncomputable def b22:MSs :=
 (.cons (.asg (.name 2) (.smeth .split (.var 0) (.str (gV " "))))
 (.cons (.ite (.or (.cons (.cmp .ne (.meth .count (.var 2) (.str (gV "*"))) (.int 1)) (.cons (.cmp .ne (.meth .count (.var 2) (.str (gV ">"))) (.int 1)) (.cons (.cmp .gt (.meth .indexS (.var 2) (.str (gV "*"))) (.meth .indexS (.var 2) (.str (gV ">")))) .nil)))) (.cons (.ret (.bl false))
 .nil) .nil)
 (.cons (.par 3 4 (.meth .indexS (.var 2) (.str (gV "*"))) (.meth .indexS (.var 2) (.str (gV ">"))))
 (.cons (.asg (.name 5) (.lst (.cons (.sl (.var 2) .none (.some (.var 3))) (.cons (.sl (.var 2) (.some (.bin .add (.var 3) (.int 1))) (.some (.var 4))) (.cons (.sl (.var 2) (.some (.bin .add (.var 4) (.int 1))) .none) .nil)))))
 (.cons (.ret (.blt .all (.cons (.comp [none,none] ["_law_part_here","_law_length"] (.last (.zip (.var 5) (.var 1)) (.tup (.cons (.name 0) (.cons (.name 1) .nil))) .nil (.call 21 (.cons (.var 0) (.cons (.var 1) .nil))))) .nil)))
 .nil)))))
noncomputable def d22:FD:=⟨"_law_product_fits",al 32,["_law_row","_law_lengths_here","_law_words","_law_star","_law_arrow","_law_parts"],2,b22⟩
noncomputable def b23:MSs :=
 (.cons (.asg (.name 1) (.smeth .split (.var 0) (.str (gV "\n"))))
 (.cons (.asg (.name 2) (.smeth .split (.ix (.var 1) (.int 0)) (.str (gV " "))))
 (.cons (.ite (.or (.cons (.cmp .ne (.blt .len (.cons (.var 2) .nil)) (.int 4)) (.cons (.cmp .ne (.ix (.var 2) (.int 0)) (.str (gV "scheme"))) (.cons (.not (.tru (.blt .all (.cons (.comp [none] ["_law_word"] (.last (.seq (.sl (.var 2) (.some (.int 1)) .none)) (.name 0) .nil (.call 20 (.cons (.var 0) (.cons (.int 1) (.cons (.int 81) .nil)))))) .nil)))) .nil)))) (.cons (.ret (.int 0))
 .nil) .nil)
 (.cons (.asg (.name 3) (.comp [none] ["_law_word"] (.last (.seq (.sl (.var 2) (.some (.int 1)) .none)) (.name 0) .nil (.blt .intS (.cons (.var 0) .nil)))))
 (.cons (.for (.tup (.cons (.name 4) (.cons (.name 5) .nil))) (.enum (.sl (.var 1) (.some (.int 1)) .none)) (.cons (.ite (.or (.cons (.cmp .gt (.var 4) (.int 399)) (.cons (.not (.tru (.call 22 (.cons (.var 5) (.cons (.var 3) .nil))))) .nil))) (.cons (.ret (.bin .add (.var 4) (.int 1)))
 .nil) .nil)
 .nil))
 (.cons (.ret .non)
 .nil))))))
noncomputable def d23:FD:=⟨"_law_first_bad",al 33,["_law_text_here","_law_rows","_law_words","_law_lengths_here","_law_number_here","_law_row"],1,b23⟩
noncomputable def b24:MSs :=
 (.cons (.asg (.name 1) .non) (.cons (.asg (.name 1) (.call 29 (.cons (.var 0) .nil))) (.cons (.ite (.cmp .is (.var 1) .non) (.cons (.ret .non) .nil) .nil) (.cons (.asg (.tup (.cons (.name 1) .nil)) (.var 1)) (.cons (.ret (.var 1)) .nil)))))
noncomputable def d24:FD:=⟨"_law_refused",al 34,["_law_text_here","_law_error","e"],1,b24⟩
noncomputable def b25:MSs :=
 (.cons (.ite (.or (.cons (.cmp .is (.var 1) .non) (.cons (.cmp .is (.var 0) .non) .nil))) (.cons (.ret (.and (.cons (.cmp .is (.var 0) .non) (.cons (.cmp .is (.var 1) .non) .nil))))
 .nil) .nil)
 (.cons (.ret (.and (.cons (.isin (.var 0) "int") (.cons (.not (.isin (.var 0) "bool")) (.cons (.cmp .eq (.var 0) (.var 1)) .nil)))))
 .nil))
noncomputable def d25:FD:=⟨"_law_same_number",al 35,["_law_found","_law_due"],2,b25⟩
noncomputable def b26:MSs :=
 (.cons (.asg (.name 2) (.lst (.cons (.bin .add (.var 1) (.str (gV "0"))) (.cons (.bin .add (.str (gV "0")) (.var 1)) (.cons (.bin .add (.str (gV "-")) (.var 1)) (.cons (.bin .add (.var 1) (.str (gV ":"))) (.cons (.bin .add (.str (gV ":")) (.var 1)) (.cons (.slT (.var 1) (.some (.neg (.int 1)))) (.cons (.str (gV "")) (.cons (.bin .add (.str (gV "+")) (.var 1)) (.cons (.bin .add (.bin .add (.var 1) (.str (gV " "))) (.var 1)) .nil)))))))))))
 (.cons (.asg (.name 2) (.bin .add (.var 2) (.lst (.cons (.str (gV "1:0")) (.cons (.str (gV "0:0")) (.cons (.str (gV "-0:1")) (.cons (.str (gV "1:9")) (.cons (.str (gV "2:01")) (.cons (.str (gV "-")) (.cons (.str (gV "*")) (.cons (.str (gV ">")) (.cons (.str (gV "x")) (.cons (.str (gV "1.0:0")) (.cons (.str (gV "1:-1")) (.cons (.bin .add (.str (gV " ")) (.var 1)) (.cons (.bin .add (.var 1) (.str (gV "1:1"))) .nil))))))))))))))))
 (.cons (.ret (.ix (.var 2) (.call 13 (.cons (.var 0) (.cons (.blt .len (.cons (.var 2) .nil)) .nil)))))
 .nil)))
noncomputable def d26:FD:=⟨"_law_bent_word",al 36,["_law_box_here","_law_word","_law_some"],2,b26⟩
noncomputable def b27:MSs :=
 (.cons (.asg (.name 2) (.call 13 (.cons (.var 0) (.cons (.blt .len (.cons (.var 1) .nil)) .nil))))
 (.cons (.asg (.name 3) (.smeth .split (.ix (.var 1) (.var 2)) (.str (gV " "))))
 (.cons (.asg (.name 4) (.call 13 (.cons (.var 0) (.cons (.blt .len (.cons (.var 3) .nil)) .nil))))
 (.cons (.asg (.name 5) (.call 13 (.cons (.var 0) (.cons (.int 10) .nil))))
 (.cons (.ite (.cmp .lt (.var 5) (.int 5)) (.cons (.asg (.name 3) (.bin .add (.bin .add (.sl (.var 3) .none (.some (.var 4))) (.lst (.cons (.call 26 (.cons (.var 0) (.cons (.ix (.var 3) (.var 4)) .nil))) .nil))) (.sl (.var 3) (.some (.bin .add (.var 4) (.int 1))) .none)))
 .nil) .nil)
 (.cons (.ite (.cmp .eq (.var 5) (.int 5)) (.cons (.asg (.name 3) (.bin .add (.sl (.var 3) .none (.some (.var 4))) (.sl (.var 3) (.some (.bin .add (.var 4) (.int 1))) .none)))
 .nil) .nil)
 (.cons (.ite (.cmp .eq (.var 5) (.int 6)) (.cons (.asg (.name 3) (.bin .add (.sl (.var 3) .none (.some (.bin .add (.var 4) (.int 1)))) (.sl (.var 3) (.some (.var 4)) .none)))
 .nil) .nil)
 (.cons (.ite (.cmp .eq (.var 5) (.int 7)) (.cons (.asg (.name 3) (.bin .add (.sl (.var 3) .none (.some (.var 4))) (.revS (.sl (.var 3) (.some (.var 4)) .none) (.neg (.int 1)))))
 .nil) .nil)
 (.cons (.ite (.cmp .lt (.var 5) (.int 8)) (.cons (.ret (.bin .add (.bin .add (.sl (.var 1) .none (.some (.var 2))) (.lst (.cons (.join (.str (gV " ")) (.var 3)) .nil))) (.sl (.var 1) (.some (.bin .add (.var 2) (.int 1))) .none)))
 .nil) .nil)
 (.cons (.ret (.ix (.lst (.cons (.bin .add (.sl (.var 1) .none (.some (.var 2))) (.sl (.var 1) (.some (.bin .add (.var 2) (.int 1))) .none)) (.cons (.bin .add (.bin .add (.sl (.var 1) .none (.some (.var 2))) (.lst (.cons (.ix (.lst (.cons (.str (gV "")) (.cons (.str (gV "-")) (.cons (.str (gV "- * - > -")) (.cons (.ix (.var 1) (.var 2)) .nil))))) (.bin .mod (.var 4) (.int 4))) .nil))) (.sl (.var 1) (.some (.var 2)) .none)) .nil))) (.bin .sub (.var 5) (.int 8))))
 .nil))))))))))
noncomputable def d27:FD:=⟨"_law_bent",al 37,["_law_box_here","_law_rows","_law_at","_law_words","_law_spot","_law_way"],2,b27⟩
noncomputable def b28:MSs :=
 (.cons (.for (.name 1) (.rng1 (.blt .max2 (.cons (.int 8) (.cons (.blt .min2 (.cons (.blt .len (.cons (.var 0) .nil)) (.cons (.int 40) .nil))) .nil)))) (.cons (.asg (.name 2) (.call 12 (.cons (.var 0) (.cons (.var 1) .nil))))
 (.cons (.asg (.name 3) (.call 16 (.cons (.var 2) (.cons (.call 17 (.cons (.var 2) (.cons (.int 5) .nil))) (.cons (.call 13 (.cons (.var 2) (.cons (.int 7) .nil))) .nil)))))
 (.cons (.for (.name 4) (.rng1 (.int 2)) (.cons (.asg (.name 5) (.smeth .split (.call 19 (.cons (.var 3) .nil)) (.str (gV "\n"))))
 (.cons (.for (.name 6) (.rng1 (.bin .add (.int 1) (.call 13 (.cons (.var 2) (.cons (.int 2) .nil))))) (.cons (.asg (.name 5) (.orL (.call 27 (.cons (.var 2) (.cons (.var 5) .nil))) (.lst (.cons (.str (gV "")) .nil))))
 .nil))
 (.cons (.asg (.name 7) (.join (.str (gV "\n")) (.var 5)))
 (.cons (.asg (.name 8) (.call 23 (.cons (.var 7) .nil)))
 (.cons (.ite (.not (.tru (.call 25 (.cons (.call 24 (.cons (.var 7) .nil)) (.cons (.var 8) .nil))))) (.cons (.ret (.bl false))
 .nil) .nil)
 (.cons (.ite (.and (.cons (.cmp .is (.var 8) .non) (.cons (.cmp .ne (.call 3 (.cons (.call 9 (.cons (.var 7) .nil)) .nil)) (.var 7)) .nil))) (.cons (.ret (.bl false))
 .nil) .nil)
 .nil)))))))
 .nil))))
 (.cons (.ret (.bl true))
 .nil))
noncomputable def d28:FD:=⟨"law",al 38,["_law_script","_law_k","_law_box_here","_law_scheme_here","_law_turn","_law_rows","_law_more","_law_text_here","_law_due"],1,b28⟩
noncomputable def b29:MSs :=
 (.cons (.asg (.name 1) (.smeth .split (.var 0) (.str (gV "\n"))))
 (.cons (.asg (.name 2) (.call 8 (.cons (.ix (.var 1) (.int 0)) .nil)))
 (.cons (.ite (.cmp .is (.var 2) .non) (.cons (.ite (.chain .le .le (.int 0) (.int 0) (.int 1000)) (.cons (.ret (.tup (.cons (.int 0) .nil))) .nil) (.cons .bot .nil)) .nil) .nil)
 (.cons (.asg (.name 3) (.lst .nil))
 (.cons (.for (.tup (.cons (.name 4) (.cons (.name 5) .nil))) (.enum1 (.sl (.var 1) (.some (.int 1)) .none)) (.cons (.asg (.name 6) (.call 7 (.cons (.var 5) (.cons (.var 2) .nil))))
 (.cons (.ite (.or (.cons (.cmp .is (.var 6) .non) (.cons (.cmp .gt (.var 4) (.glob "MOST_PRODUCTS" (.int 400))) .nil))) (.cons (.ite (.chain .le .le (.int 0) (.var 4) (.int 1000)) (.cons (.ret (.tup (.cons (.var 4) .nil))) .nil) (.cons .bot .nil)) .nil) .nil)
 (.cons (.drop (.meth .append (.var 3) (.var 6)))
 .nil))))
 (.cons (.asg (.name 6) (.bin .add (.var 2) (.tup (.cons (.var 3) .nil)))) (.cons (.ret .non) .nil)))))))
noncomputable def d29:FD:=⟨"scheme_from",al 18,["text","rows","lengths","products","at","row","product"],1,b29⟩
noncomputable def tab:List FD:=[d0,d1,d2,d3,d4,d5,d6,d7,d8,d9,d10,d11,d12,d13,d14,d15,d16,d17,d18,d19,d20,d21,d22,d23,d24,d25,d26,d27,d28,d29]
noncomputable def pH:List (Str×D):=[("LONGEST",(.int 81)),("MOST_PRODUCTS",(.int 400)),("FIGURES",(.str (gV "0123456789"))),("GREATEST_FACTOR",(.int 1000))]
noncomputable def xsF:List XL:=[.one (.pl (.asg (.name 1) (.smeth .split (.var 0) (.str (gV "\n"))))),
 .one (.pl (.asg (.name 2) (.call 8 (.cons (.ix (.var 1) (.int 0)) .nil)))),
 .one (.rs (.cmp .is (.var 2) .non) (.int 0)),
 .one (.pl (.asg (.name 3) (.lst .nil))),
 .loop (.tup (.cons (.name 4) (.cons (.name 5) .nil))) (.enum1 (.sl (.var 1) (.some (.int 1)) .none)) [.pl (.asg (.name 6) (.call 7 (.cons (.var 5) (.cons (.var 2) .nil)))),
 .rs (.or (.cons (.cmp .is (.var 6) .non) (.cons (.cmp .gt (.var 4) (.glob "MOST_PRODUCTS" (.int 400))) .nil))) (.var 4),
 .pl (.drop (.meth .append (.var 3) (.var 6)))]]
noncomputable def vF:ME:=(.bin .add (.var 2) (.tup (.cons (.var 3) .nil)))
noncomputable def stI:Stmt:=CT (al 2) 0
end K54
end
section
namespace K54
theorem D4:((KZ 29).all λi=>i==24 || (tab[i]?).all (kG ((tab.take 29).map (·.name)) pH))=true:=by decide +kernel
noncomputable abbrev PA (K:Frag) (x:Str) (f:Addr):Prop:=Lg K K6 x=some (some (.ref f))
noncomputable abbrev PL (K:Frag) (f:Addr) (x:Str) (s:Stmt) (oc:hW) (od:Option Addr) (kV dc pm:hW) (an:Option Addr) (cd ct:hW) (sl:Array (Option hW)):Prop:=K.lookup f=some ⟨oc,od,.func (LA x x (cZ s) (bq s) (aj s) .none kV dc pm an cd ct),sl⟩
noncomputable abbrev PC (K:Frag) (c:hW) (x:Str):Prop:=Oy K c x=true
noncomputable abbrev PK (K:Frag) (f:Addr):Prop:=KN K (.ref f)=true
noncomputable abbrev PLI (K:Frag) (f:Addr) (x q:Str) (s:Stmt) (oc:hW) (od:Option Addr) (kV dc pm:hW) (an:Option Addr) (cd ct:hW) (sl:Array (Option hW)):Prop:=K.lookup f=some ⟨oc,od,.func (LA x q (cZ s) (bq s) (aj s) .none kV dc pm an cd ct),sl⟩
theorem all_mk {l:Q3}{w:JQ}{K:Frag}{h:Heap}{mg:Str->Option hW}{fa:Addr}(X:K.In h)(G:h.Ns K6 mg)(hfa:mg "law" = some (.ref fa))(z:∀ x∈bltNames,Lg K K6 x=some none)(a0:PA K "filled" f0)(l0:PL K f0 "filled" (al 6) oc0 od0 kV0 dc0 pm0 an0 cd0 ct0 sl0)(c0:PC K cd0 "filled")(k0:PK K f0)(a1:PA K "number_text" f1)(l1:PL K f1 "number_text" (al 10) oc1 od1 kV1 dc1 pm1 an1 cd1 ct1 sl1)(c1:PC K cd1 "number_text")(k1:PK K f1)(a2:PA K "sum_text" f2)(l2:PL K f2 "sum_text" (al 11) oc2 od2 kV2 dc2 pm2 an2 cd2 ct2 sl2)(c2:PC K cd2 "sum_text")(k2:PK K f2)(a3:PA K "scheme_text" f3)(l3:PL K f3 "scheme_text" (al 12) oc3 od3 kV3 dc3 pm3 an3 cd3 ct3 sl3)(c3:PC K cd3 "scheme_text")(k3:PK K f3)(a4:PA K "number_from" f4)(l4:PL K f4 "number_from" (al 13) oc4 od4 kV4 dc4 pm4 an4 cd4 ct4 sl4)(c4:PC K cd4 "number_from")(k4:PK K f4)(a5:PA K "factor_from" f5)(l5:PL K f5 "factor_from" (al 14) oc5 od5 kV5 dc5 pm5 an5 cd5 ct5 sl5)(c5:PC K cd5 "factor_from")(k5:PK K f5)(a6:PA K "sum_from" f6)(l6:PL K f6 "sum_from" (al 15) oc6 od6 kV6 dc6 pm6 an6 cd6 ct6 sl6)(c6:PC K cd6 "sum_from")(k6:PK K f6)(a7:PA K "product_from" f7)(l7:PL K f7 "product_from" (al 16) oc7 od7 kV7 dc7 pm7 an7 cd7 ct7 sl7)(c7:PC K cd7 "product_from")(k7:PK K f7)(a8:PA K "lengths_from" f8)(l8:PL K f8 "lengths_from" (al 17) oc8 od8 kV8 dc8 pm8 an8 cd8 ct8 sl8)(c8:PC K cd8 "lengths_from")(k8:PK K f8)(a9:PA K "scheme_from" f9)(l9:PL K f9 "scheme_from" (al 18) oc9 od9 kV9 dc9 pm9 an9 cd9 ct9 sl9)(c9:PC K cd9 "scheme_from")(k9:PK K f9)(a10:PA K "_law_cell_at" f10)(l10:PL K f10 "_law_cell_at" (al 20) oc10 od10 kV10 dc10 pm10 an10 cd10 ct10 sl10)(c10:PC K cd10 "_law_cell_at")(k10:PK K f10)(a11:PA K "_law_mixed" f11)(l11:PL K f11 "_law_mixed" (al 21) oc11 od11 kV11 dc11 pm11 an11 cd11 ct11 sl11)(c11:PC K cd11 "_law_mixed")(k11:PK K f11)(a12:PA K "_law_box" f12)(l12:PL K f12 "_law_box" (al 22) oc12 od12 kV12 dc12 pm12 an12 cd12 ct12 sl12)(c12:PC K cd12 "_law_box")(k12:PK K f12)(a13:PA K "_law_take" f13)(l13:PL K f13 "_law_take" (al 23) oc13 od13 kV13 dc13 pm13 an13 cd13 ct13 sl13)(c13:PC K cd13 "_law_take")(k13:PK K f13)(a14:PA K "_law_number" f14)(l14:PL K f14 "_law_number" (al 24) oc14 od14 kV14 dc14 pm14 an14 cd14 ct14 sl14)(c14:PC K cd14 "_law_number")(k14:PK K f14)(a15:PA K "_law_part" f15)(l15:PL K f15 "_law_part" (al 25) oc15 od15 kV15 dc15 pm15 an15 cd15 ct15 sl15)(c15:PC K cd15 "_law_part")(k15:PK K f15)(a16:PA K "_law_scheme" f16)(l16:PL K f16 "_law_scheme" (al 26) oc16 od16 kV16 dc16 pm16 an16 cd16 ct16 sl16)(c16:PC K cd16 "_law_scheme")(k16:PK K f16)(a17:PA K "_law_lengths" f17)(l17:PL K f17 "_law_lengths" (al 27) oc17 od17 kV17 dc17 pm17 an17 cd17 ct17 sl17)(c17:PC K cd17 "_law_lengths")(k17:PK K f17)(a18:PA K "_law_sum" f18)(l18:PL K f18 "_law_sum" (al 28) oc18 od18 kV18 dc18 pm18 an18 cd18 ct18 sl18)(c18:PC K cd18 "_law_sum")(k18:PK K f18)(a19:PA K "_law_text" f19)(l19:PL K f19 "_law_text" (al 29) oc19 od19 kV19 dc19 pm19 an19 cd19 ct19 sl19)(c19:PC K cd19 "_law_text")(k19:PK K f19)(a20:PA K "_law_plain" f20)(l20:PL K f20 "_law_plain" (al 30) oc20 od20 kV20 dc20 pm20 an20 cd20 ct20 sl20)(c20:PC K cd20 "_law_plain")(k20:PK K f20)(a21:PA K "_law_sum_fits" f21)(l21:PL K f21 "_law_sum_fits" (al 31) oc21 od21 kV21 dc21 pm21 an21 cd21 ct21 sl21)(c21:PC K cd21 "_law_sum_fits")(k21:PK K f21)(a22:PA K "_law_product_fits" f22)(l22:PL K f22 "_law_product_fits" (al 32) oc22 od22 kV22 dc22 pm22 an22 cd22 ct22 sl22)(c22:PC K cd22 "_law_product_fits")(k22:PK K f22)(a23:PA K "_law_first_bad" f23)(l23:PL K f23 "_law_first_bad" (al 33) oc23 od23 kV23 dc23 pm23 an23 cd23 ct23 sl23)(c23:PC K cd23 "_law_first_bad")(k23:PK K f23)(a24:PA K "_law_refused" f24)(l24:PL K f24 "_law_refused" (al 34) oc24 od24 kV24 dc24 pm24 an24 cd24 ct24 sl24)(c24:PC K cd24 "_law_refused")(k24:PK K f24)(a25:PA K "_law_same_number" f25)(l25:PL K f25 "_law_same_number" (al 35) oc25 od25 kV25 dc25 pm25 an25 cd25 ct25 sl25)(c25:PC K cd25 "_law_same_number")(k25:PK K f25)(a26:PA K "_law_bent_word" f26)(l26:PL K f26 "_law_bent_word" (al 36) oc26 od26 kV26 dc26 pm26 an26 cd26 ct26 sl26)(c26:PC K cd26 "_law_bent_word")(k26:PK K f26)(a27:PA K "_law_bent" f27)(l27:PL K f27 "_law_bent" (al 37) oc27 od27 kV27 dc27 pm27 an27 cd27 ct27 sl27)(c27:PC K cd27 "_law_bent")(k27:PK K f27)(a28:PA K "law" f28)(l28:PL K f28 "law" (al 38) oc28 od28 kV28 dc28 pm28 an28 cd28 ct28 sl28)(c28:PC K cd28 "law")(k28:PK K f28)(gcst0:Lg K K6 "LONGEST" = some (some (.int 81 ut0)))(gcst1:Lg K K6 "MOST_PRODUCTS" = some (some (.int 400 ut1)))(gcst2:Lg K K6 "FIGURES" = some (some (.str (gV "0123456789") ut2)))(gcst3:Lg K K6 "GREATEST_FACTOR" = some (some (.int 1000 ut3)))(uC:PA K "BadRow" fC)(uD:PA K "TimesError" fD)(lC:K.lookup fC=some ⟨.type "type",ddC,.cls cdC,slC⟩)(hC:kJ fC fD cdC slC=true)(lN:K.lookup cdC.ns=some oNC)(hN:j3 oNC=true)(iC:Lg K cdC.ns "__init__" = some (some (.ref fI)))(lI:PLI K fI "__init__" "BadRow.__init__" stI ocI odI kVI dcI pmI anI cdI ctI slI)(cI:PC K cdI "BadRow.__init__")(kI:PK K fI)(gI:PySem.W.isFn K (.ref fI)=true)(x2:P1 K fD [.type "ValueError",.type "Exception",.type "BaseException",.type "object"] "ValueError.__new__" = true)(x3:NR K (.ref fC) (.ref fD)=some true)(z1:Kf K (.ref fC) "__setattr__" = some (some (.builtin "object.__setattr__")))(z2:Kf K (.ref fC) "row" = some none)(z3:OP K (.ref fD) "__getattribute__" = some (some (.builtin "type.__getattribute__")))(z4:PySem.W.readsIn K fD (.type "type")=true)(z5:PySem.W.findCls K (.ref fD) (.type "type") "__init__" = some (.val (.builtin "ValueError.__init__")))(y1:Kf K (.ref fC) "__getattribute__" = some (some (.builtin "BaseException.__getattribute__")))(y2:Kf K (.ref fC) "__getattr__" = some none)(y3:Kf K (.ref fC) "__class__" = some (some (.builtin "object.__class__")))(y7:OP K (.builtin "object.__class__") "__get__" = some (some (.builtin "getset_descriptor.__get__")))(y8:SN K (.builtin "object.__class__")=some true)(y4:NN K fC (.type "object")=some true)(y5:NR K (.ref fC) (.type "BaseException")=some true)(y6:PySem.W.isClsIn K fC=true)
 : ∃ fd:KW,(∀ (s:z0) (v:hW),QB s fd ⟨[v],[]⟩ [("_law_script",v)]) /\ ∀ base:Heap,K.In base->base.Ns K6 mg->br l.prog w K mg base CX0 40 fa fd ["_law_script"] (lSp K (phi tab 38 28)):=by
 have e:=hfa.symm.trans (Js X G a28)
 cases e
 have O:CS K mg tab 29 24 pH:=by
  refine⟨λx hx=>PySem.W.mg_none_of X G (z x hx),?_,E8 D4,?_⟩
  ·intro i d hd
   match i,hd with
   |0,hd=>cases hd;exact⟨_,_,ag l0 c0 k0,Js X G a0,a0,(ag l0 c0 k0).binds λ_ _ _ _ _ _ us hl=>by obtain⟨u0,rfl⟩:=bO us hl;rfl⟩
   |1,hd=>cases hd;exact⟨_,_,ag l1 c1 k1,Js X G a1,a1,(ag l1 c1 k1).binds λ_ _ _ _ _ _ us hl=>by obtain⟨u0,rfl⟩:=bO us hl;rfl⟩
   |2,hd=>cases hd;exact⟨_,_,ag l2 c2 k2,Js X G a2,a2,(ag l2 c2 k2).binds λ_ _ _ _ _ _ us hl=>by obtain⟨u0,rfl⟩:=bO us hl;rfl⟩
   |3,hd=>cases hd;exact⟨_,_,ag l3 c3 k3,Js X G a3,a3,(ag l3 c3 k3).binds λ_ _ _ _ _ _ us hl=>by obtain⟨u0,rfl⟩:=bO us hl;rfl⟩
   |4,hd=>cases hd;exact⟨_,_,ag l4 c4 k4,Js X G a4,a4,(ag l4 c4 k4).binds λ_ _ _ _ _ _ us hl=>by obtain⟨u0,u1,rfl⟩:=bH us hl;rfl⟩
   |5,hd=>cases hd;exact⟨_,_,ag l5 c5 k5,Js X G a5,a5,(ag l5 c5 k5).binds λ_ _ _ _ _ _ us hl=>by obtain⟨u0,rfl⟩:=bO us hl;rfl⟩
   |6,hd=>cases hd;exact⟨_,_,ag l6 c6 k6,Js X G a6,a6,(ag l6 c6 k6).binds λ_ _ _ _ _ _ us hl=>by obtain⟨u0,u1,rfl⟩:=bH us hl;rfl⟩
   |7,hd=>cases hd;exact⟨_,_,ag l7 c7 k7,Js X G a7,a7,(ag l7 c7 k7).binds λ_ _ _ _ _ _ us hl=>by obtain⟨u0,u1,rfl⟩:=bH us hl;rfl⟩
   |8,hd=>cases hd;exact⟨_,_,ag l8 c8 k8,Js X G a8,a8,(ag l8 c8 k8).binds λ_ _ _ _ _ _ us hl=>by obtain⟨u0,rfl⟩:=bO us hl;rfl⟩
   |9,hd=>cases hd;exact⟨_,_,ag l9 c9 k9,Js X G a9,a9,(ag l9 c9 k9).binds λ_ _ _ _ _ _ us hl=>by obtain⟨u0,rfl⟩:=bO us hl;rfl⟩
   |10,hd=>cases hd;exact⟨_,_,ag l10 c10 k10,Js X G a10,a10,(ag l10 c10 k10).binds λ_ _ _ _ _ _ us hl=>by obtain⟨u0,u1,rfl⟩:=bH us hl;rfl⟩
   |11,hd=>cases hd;exact⟨_,_,ag l11 c11 k11,Js X G a11,a11,(ag l11 c11 k11).binds λ_ _ _ _ _ _ us hl=>by obtain⟨u0,u1,rfl⟩:=bH us hl;rfl⟩
   |12,hd=>cases hd;exact⟨_,_,ag l12 c12 k12,Js X G a12,a12,(ag l12 c12 k12).binds λ_ _ _ _ _ _ us hl=>by obtain⟨u0,u1,rfl⟩:=bH us hl;rfl⟩
   |13,hd=>cases hd;exact⟨_,_,ag l13 c13 k13,Js X G a13,a13,(ag l13 c13 k13).binds λ_ _ _ _ _ _ us hl=>by obtain⟨u0,u1,rfl⟩:=bH us hl;rfl⟩
   |14,hd=>cases hd;exact⟨_,_,ag l14 c14 k14,Js X G a14,a14,(ag l14 c14 k14).binds λ_ _ _ _ _ _ us hl=>by obtain⟨u0,rfl⟩:=bO us hl;rfl⟩
   |15,hd=>cases hd;exact⟨_,_,ag l15 c15 k15,Js X G a15,a15,(ag l15 c15 k15).binds λ_ _ _ _ _ _ us hl=>by obtain⟨u0,u1,rfl⟩:=bH us hl;rfl⟩
   |16,hd=>cases hd;exact⟨_,_,ag l16 c16 k16,Js X G a16,a16,(ag l16 c16 k16).binds λ_ _ _ _ _ _ us hl=>by obtain⟨u0,u1,u2,rfl⟩:=zc us hl;rfl⟩
   |17,hd=>cases hd;exact⟨_,_,ag l17 c17 k17,Js X G a17,a17,(ag l17 c17 k17).binds λ_ _ _ _ _ _ us hl=>by obtain⟨u0,u1,rfl⟩:=bH us hl;rfl⟩
   |18,hd=>cases hd;exact⟨_,_,ag l18 c18 k18,Js X G a18,a18,(ag l18 c18 k18).binds λ_ _ _ _ _ _ us hl=>by obtain⟨u0,rfl⟩:=bO us hl;rfl⟩
   |19,hd=>cases hd;exact⟨_,_,ag l19 c19 k19,Js X G a19,a19,(ag l19 c19 k19).binds λ_ _ _ _ _ _ us hl=>by obtain⟨u0,rfl⟩:=bO us hl;rfl⟩
   |20,hd=>cases hd;exact⟨_,_,ag l20 c20 k20,Js X G a20,a20,(ag l20 c20 k20).binds λ_ _ _ _ _ _ us hl=>by obtain⟨u0,u1,u2,rfl⟩:=zc us hl;rfl⟩
   |21,hd=>cases hd;exact⟨_,_,ag l21 c21 k21,Js X G a21,a21,(ag l21 c21 k21).binds λ_ _ _ _ _ _ us hl=>by obtain⟨u0,u1,rfl⟩:=bH us hl;rfl⟩
   |22,hd=>cases hd;exact⟨_,_,ag l22 c22 k22,Js X G a22,a22,(ag l22 c22 k22).binds λ_ _ _ _ _ _ us hl=>by obtain⟨u0,u1,rfl⟩:=bH us hl;rfl⟩
   |23,hd=>cases hd;exact⟨_,_,ag l23 c23 k23,Js X G a23,a23,(ag l23 c23 k23).binds λ_ _ _ _ _ _ us hl=>by obtain⟨u0,rfl⟩:=bO us hl;rfl⟩
   |24,hd=>cases hd;exact⟨_,_,ag l24 c24 k24,Js X G a24,a24,(ag l24 c24 k24).binds λ_ _ _ _ _ _ us hl=>by obtain⟨u0,rfl⟩:=bO us hl;rfl⟩
   |25,hd=>cases hd;exact⟨_,_,ag l25 c25 k25,Js X G a25,a25,(ag l25 c25 k25).binds λ_ _ _ _ _ _ us hl=>by obtain⟨u0,u1,rfl⟩:=bH us hl;rfl⟩
   |26,hd=>cases hd;exact⟨_,_,ag l26 c26 k26,Js X G a26,a26,(ag l26 c26 k26).binds λ_ _ _ _ _ _ us hl=>by obtain⟨u0,u1,rfl⟩:=bH us hl;rfl⟩
   |27,hd=>cases hd;exact⟨_,_,ag l27 c27 k27,Js X G a27,a27,(ag l27 c27 k27).binds λ_ _ _ _ _ _ us hl=>by obtain⟨u0,u1,rfl⟩:=bH us hl;rfl⟩
   |28,hd=>cases hd;exact⟨_,_,ag l28 c28 k28,Js X G a28,a28,(ag l28 c28 k28).binds λ_ _ _ _ _ _ us hl=>by obtain⟨u0,rfl⟩:=bO us hl;rfl⟩
   |29,hd=>cases hd;exact⟨_,_,ag l9 c9 k9,Js X G a9,a9,(ag l9 c9 k9).binds λ_ _ _ _ _ _ us hl=>by obtain⟨u0,rfl⟩:=bO us hl;rfl⟩
   |i+30,hd=>simp[tab]at hd
  ·intro x i hx;simp only[pH,Jl,JB,or_false,Prod.mk.injEq]at hx
   rcases hx with⟨rfl,rfl⟩|⟨rfl,rfl⟩|⟨rfl,rfl⟩|⟨rfl,rfl⟩
   ·exact⟨_,Js X G gcst0,GV.ints⟩
   ·exact⟨_,Js X G gcst1,GV.ints⟩
   ·exact⟨_,Js X G gcst2,GV.strs⟩
   ·exact⟨_,Js X G gcst3,GV.ints⟩
 refine⟨LA "law" "law" (cZ (al 38)) (bq (al 38)) (aj (al 38)) .none kV28 dc28 pm28 an28 cd28 ct28,λs v=>.of_eq rfl,λbase _ _=>?_⟩;obtain⟨Sm,hm,_⟩:=gf (Γ:=[]) (cs:=[]) (d:={ d29 with body:=.cons .bot (.cons .bot (.cons .bot (.cons .bot (.cons .bot (.cons .bot .nil))))) }) (by decide +kernel)
 obtain⟨Sr,hr,_⟩:=gf (Γ:=[]) (cs:=[]) (d:={ d24 with body:=.cons .bot (.cons .bot (.cons .bot (.cons .bot .nil))) }) (by decide +kernel)
 obtain⟨SI,_,_⟩:=gf (Γ:=[]) (cs:=[]) (d:={ name:="__init__",st:=stI,N:=["self","row"],np:=2,body:=.cons .bot (.cons .bot .nil) }) (by decide +kernel)
 obtain⟨fm,fdm,Fm,mm,_,bm⟩:=O.fns 29 d29 rfl;have ZO:=AO (fld:="row") lC hC lN hN iC x2 z1 z2 z3 z4 z5 gI;have ZC:=AM y1 y2 y3 y7 y8 y4 y5 y6;have FI:=AB (P:=l.prog) (w:=w) (mg:=mg) (base:=base) (k:=0) (slf:="self") (row:="row") (a:="row ") (b:=" can't stand there") (xD:="TimesError") (ag lI cI kI) SI ZO.1 rfl (by decide +kernel) (Js X G uD) (by decide) (by decide) (by decide) (by decide) (by decide) (by decide +kernel) (by decide +kernel) (λ_=>rfl) (λ_=>rfl) (λ_=>rfl)
 have BI:=(ag lI cI kI).binds (ps:=["self","row"]) λ_ _ _ _ _ _ us hl=>by obtain⟨u0,u1,rfl⟩:=bH us hl;rfl
 refine(qX (m:=29) (r:=24) (dm:=d29) (dr:=d24) (C:=fC) (fld:="row") O rfl Sm.nd Sr.nd (λk f fd Gx F=>?_) (λk f fd Gx Fx F=>?_) 38).1 28 d28 _ _ rfl (by decide) (ag l28 c28 k28)
 ·exact CQ (kk:=k+2) (d:=d29) rfl F Sm hm (λcdv A outer s H E M0 hr=>sX (xr:="BadRow") (Gx f cdv A outer s H E hr) Sm.kind (λe e1 np cpos pos a1 a2 a3=>AK (E9 a3) (sE e (Gx f cdv A outer s H E hr) e1 a2) (by decide +kernel) (Js X G uC) ZO.1 FI (hr.mono (by omega)) BI (by decide) (by decide) (pi a1) (vI a1)) PassesOwn.leaving rfl 6 vF xsF _ (by decide +kernel))
 ·exact AL (kk:=k+2) (d:=d24) (d1:=d29) (m:=29) (i0:=24) (ie:=2) (i:=1) (C:=fC) (D:=fD) (n:="e") (xD:="TimesError") (x:="_law_error") (fld:="row") rfl rfl rfl F Sr hr (fun cdv A outer s H E hr=>Gx f cdv A outer s H E hr)
   (λY e1 e2 e3=>⟨by show Y.env.scope.names.lookup _=_;rw[e3];decide +kernel,by rw[e1];exact Js X G uD,by decide,by rw[e2];exact x2,by rw[e2];exact x3⟩)
   (λY e1 e2 e3 e4 _=>ym (by rw[e4];rfl) (by rw[e3];decide +kernel) (by decide) (by decide) (by show Y.env.scope.names.lookup _=_;rw[e3];decide +kernel) (by rw[e1];exact O.blt _ (by decide)) (by show Y.env.scope.names.lookup _=_;rw[e3];decide +kernel) (by rw[e1];exact Js X G uC) (by decide) (by rw[e2];exact ZC) (by rw[e2];exact ZO.2) (by rw[e2];exact z2) rfl)
   rfl (by decide +kernel) rfl (by decide +kernel) (by decide) (by decide) (by decide) (Fx fm fdm Fm) (by decide +kernel) mm Fm.kp bm (by decide +kernel) (by decide) (λ_=>rfl) (λ_=>rfl) (λ_=>rfl)
theorem walk {l:Q3}{q:Jy}{loose:List Str}{XP:(Str->Option hW)->Heap->Prop}{YP:JQ->Heap->Prop}{d:DefRec}{K:Params->Frag}(hn:l.most=some 63)(hdf:d.params.defaults=[])(hlaw:∀ ns:List Int,ns.length<=63->phi tab 38 28 [.con (ns.map D.int)] (fun _=>none) fun d _=>d = .bl true)(hY:∀ (w:JQ) (h:Heap),YP w h->(K w.params).In h)(F:∀ (w:JQ) (mg:Str->Option hW) (fa:Addr) (h:Heap),(K w.params).In h->h.Ns K6 mg->mg d.name=some (.ref fa) ->
   ∃ fd:KW,(∀ (s:z0) (u:hW),QB s fd ⟨[u],[]⟩ [("_law_script",u)]) /\ ∀ base:Heap,(K w.params).In base->base.Ns K6 mg->br l.prog w (K w.params) mg base CX0 40 fa fd ["_law_script"] (lSp (K w.params) (phi tab 38 28))) :
 PySem.W.WalkO q loose XP YP l.row.toRowW d [] (λf vs=>T6 f vs) :=
 L2.walk_of (n:=63) (k:=40) (x:="_law_script") (CX:=λ_=>CX0) (sp:=λw=>lSp (K w.params) (phi tab 38 28)) hn (by decide) hdf ⟨rfl,by decide,by decide⟩ hY F (λw H a ns hl hO hS=>CP hO hS (hlaw ns hl)) λ_ _ _ _ _ z=>z
end K54
end
section
namespace K54
variable {a:Str}{M:Mem}{Q:QD}
theorem hG {b:Str}(j:JW a=true)(z:JW b=true)(q:Q (.bl (decide (a=b))) M):wEq (.str a) (.str b) M Q:=by
 refine⟨.str a,.str b,by simp only[rb,j,if_true],by simp only[rb,z,if_true],?_⟩
 have:KQ (.str a) (.str b)=decide (a=b):=by simp only[KQ];by_cases h:a=b <;> simp[h]
 rw[this];exact q
theorem pI {b:Str}(j:JW a=true)(z:JW b=true)(q:Q (.bl (!decide (a=b))) M):wNe (.str a) (.str b) M Q:=by
 refine⟨.str a,.str b,by simp only[rb,j,if_true],by simp only[rb,z,if_true],?_⟩
 have:KQ (.str a) (.str b)=decide (a=b):=by simp only[KQ];by_cases h:a=b <;> simp[h]
 rw[this];exact q
variable {c:Nat}
theorem yw (h:c<128):JW ⟨#[c]⟩=true:=by simp[JW];omega
theorem r9 (f:Nat->Bool):∀ l:List Nat,aH iU (l.map λc=>D.bl (f c))=some (l.map f)
 |[]=>rfl
 |x::r=>by rw[Jp,aH,r9 f r];rfl
theorem FA {l:List Nat}(h : 1<=l.length):∃ c,atI l 0=some c/\l.head? = some c:=by
 cases l with
 |nil=>simp at h
 |cons a r=>exact⟨a,by simp[atI,ixN],rfl⟩
noncomputable def dO:Option Nat->D
 |none=>.non
 |some i=>.int (i:Nat)
variable {n:Nat}{w:Str}
theorem nh (hn : 1<=n){most:Nat}(hw:w.length<=600)(q:∀ M',Ge M M'->Q (dO (av w most)) M'):phi tab n 4 [.str w,.int (most:Nat)] M Q:=by
 refine ao hn rfl rfl (ρ:=[some _,some _]) rfl ?_;unfold d4 b4;have J:w.length<=Je:=by rw[td];first|decide|omega
 have no:∀ {F:Mem},Ge M F->av w most=none->Q .non F:=λg e=>by have:=q _ g;rw[e]at this;exact this
 have nn : ¬ ((1<=w.length/\w.length<=most)/\cf w=true/\dq w=true)->av w most=none:=λh=>if_neg h;walk_at "st";refine⟨_,rfl,J,?_⟩
 by_cases h1 : ¬ 1<=w.length
 ·rw[if_neg (by omega)]
  exact no (λ_ _ e=>e) (nn λz=>h1 z.1.1)
 have h1 : 1<=w.length:=by omega
 rw[if_pos (by omega)]
 by_cases h2 : ¬ w.length<=most
 ·rw[if_pos (by simp;omega)]
  walk_at "st";exact no (λ_ _ e=>e) (nn λz=>h2 z.1.2)
 rw[if_neg (by simp;omega)]
 refine⟨w,rfl,?_⟩;refine aT (I:=λl ρ M' acc=>(∃ o,ρ = [o])/\M'=M/\acc=l.map λc=>.bl (dg c)) (ys:=cl w) (f:=λc=>.str ⟨#[c]⟩) rfl ⟨⟨_,rfl⟩,rfl,rfl⟩ (λ_ _ _ _ _=>trivial) ?_ ?_
 ·rintro l x r ρ Y acc ee ⟨⟨o,rfl⟩,rfl,rfl⟩;have L:=aD ee;rw[ay]at L;refine⟨_,rfl,λN hN=>?_⟩;walk_at "wp";refine⟨_,_,rfl,rfl,?_⟩;rw[qZ,r6];refine⟨by rw[Jc,td];omega,hN _ _ _ ⟨⟨_,rfl⟩,rfl,?_⟩⟩
  rw[Jv];rfl
 ·rintro ρ Y acc ⟨_,rfl,rfl⟩ p hp;have g1:=Ge.new (o:=.lst ((cl w).map λc=>D.bl (dg c))) hp;refine⟨_,_,_,rfl,ah aa,r9 dg _,cf w,by rw[Om];rfl,?_⟩
  generalize af Y p (.lst ((cl w).map λc=>D.bl (dg c)))=F at g1
  by_cases j : ¬ cf w=true
  ·rw[if_pos (by simpa using j)]
   walk_at "st";exact no g1 (nn λz=>j z.2.1)
  have j:cf w=true:=by simpa using j
  rw[if_neg (by simp[j])]
  walk_at "st";obtain⟨c,hc,Z⟩:=FA (l:=cl w) (by rw[ay];exact h1)
  refine⟨_,rfl,J,c,hc,?_⟩;have O:c∈cl w:=List.mem_of_mem_head? Z;have HI:=gm j c O;refine hG (yw (by omega)) (bp _) ⟨_,rfl,?_⟩
  have ec:(⟨#[c]⟩:Str)=gV "0" ↔ (cl w).head? = some 48:=by
   rw[Z,mk1.2.2.2.2];constructor
   ·intro e;have:=congrArg cl e;rw[ck,ck]at this;simpa using this
   ·intro e
    cases e
    rfl
  have fin:dq w=true->wSs (phi tab (n - 1)) (MSs.cons (MS.ret (ME.blt BF.intS (MEs.cons (ME.var 0) MEs.nil))) MSs.nil) { nx:=λx M'=>Q D.non M',rt:=Q } [some (D.str w),some (D.int most)] F:=λh4=>by
   walk_at "st";refine⟨w,rfl,_,n9 j h1 hw,by omega,?_⟩
   have:=q _ g1;unfold av at this;rw[if_pos ⟨⟨h1,by omega⟩,j,h4⟩]at this
   exact this
  split
  ·next h =>
   have e:=ec.mp (of_decide_eq_true h);refine⟨w,rfl,J,?_⟩
   split
   ·next h5 =>
    walk_at "st";refine no g1 (nn λz=>?_);have U:=z.2.2;unfold dq at U;rw[decide_eq_true e,decide_eq_true (by omega : 1<w.length)]at U
    cases U
   ·next h5 =>
    refine fin ?_;unfold dq;rw[decide_eq_false (by omega : ¬ 1<w.length),Bool.and_false]
    rfl
  ·next h =>
   refine fin ?_;unfold dq;rw[decide_eq_false (λz=>h (decide_eq_true (ec.mpr z))),LN];rfl
noncomputable def dI:Option Int->D
 |none=>.non
 |some i=>.int i
noncomputable def du (w:Str):Bool:=Nu w (gV "-")
noncomputable def rest (w:Str):Str:=if du w then Ka w (some 1) none else w
noncomputable def dk (w:Str):Option Int:=match av (rest w) 4 with
 |some i=>if (1:Int)<=(i:Nat)/\((i:Nat):Int)<=1000 then some (if du w then -((i:Nat):Int) else (i:Nat)) else none
 |none=>none
theorem yx (w:Str):(rest w).length<=w.length:=by
 unfold rest
 split
 ·exact Nv w _ _
 ·exact Jg _
theorem Eo (U : 2<=n)(hw:w.length<=600)(q:∀ M',Ge M M'->Q (dI (dk w)) M'):phi tab n 5 [.str w] M Q:=by
 refine ao (by omega) rfl rfl (ρ:=[some _,none,none]) rfl ?_
 unfold d5 b5;have lz:w.length<=Je:=by rw[td];first|decide|omega
 have L:(gV (Ko (1000:Int))).length=4:=by decide +kernel
 have O:Nat.log2 (Int.natAbs 1000)<1920:=by decide
 have hr:=yx w;have Y:((4:Nat):Int)=4:=rfl;have tl:∀ {F:Mem},Ge M F -> ∀ b,b=du w->wSs (phi tab (n - 1)) (.cons (.ite (.or (.cons (.cmp .is (.var 2) .non) (.cons (.not (.chain .le .le (.int 1) (.var 2) (.glob "GREATEST_FACTOR" (.int 1000)))) .nil))) (.cons (.ret .non) .nil) .nil)
  (.cons (.ret (.ite (.tru (.var 1)) (.neg (.var 2)) (.var 2))) .nil)) { nx:=λ_ M'=>Q .non M',rt:=Q } [some (.str w),some (.bl b),some (dO (av (rest w) 4))] F:=λ{F} g1 b eb=>by
  subst eb;have j:=q _ g1;unfold dk at j
  cases hx:av (rest w) 4 with
  | none =>
    rw[hx]at j;unfold dO;walk_at "st";exact⟨true,rfl,by walk_at "st";exact j⟩
  | some i =>
    rw[hx]at j;unfold dO;dsimp only at j ⊢;walk_at "st";refine⟨false,rfl,?_⟩;dsimp only;refine⟨false,rfl,?_⟩;rw[if_neg J9];have ret : ¬ ((1:Int)<=(i:Nat)/\((i:Nat):Int)<=1000)->Q .non F:=λh=>by rw[if_neg h]at j;exact j
    by_cases h1:(1:Int)<=(i:Nat)
    ·rw[if_pos h1]
     by_cases h2:((i:Nat):Int)<=1000
     ·rw[if_neg (by simp;omega)]
      rw[if_pos ⟨h1,h2⟩]at j;walk_at "st";refine⟨_,rfl,?_⟩
      cases hb:du w with
      |true=>rw[hb]at j;rw[if_pos rfl];exact j
      |false=>rw[hb]at j;rw[if_neg J9];exact j
     ·rw[if_pos (by simp;omega)]
      walk_at "st";exact ret λz=>h2 z.2
    ·rw[if_neg h1,if_pos (by decide)]
     walk_at "st";exact ret λz=>h1 z.1
 walk_at "st";refine⟨⟨_,rfl⟩,_,rfl,_,rfl,?_⟩;show wSs _ _ _ [some (D.str w),some (D.bl (du w)),none] M;have J:(rest w).length<=600:=by omega
 cases hb:du w with
 | true =>
   have er:Ka w (some 1) none=rest w:=by unfold rest;rw[hb,if_pos rfl]
   walk_at "st";refine⟨true,rfl,?_⟩;rw[if_pos rfl];refine⟨_,rfl,lz,_,rfl,O,_,rfl,by rw[L,td];omega,?_⟩
   rw[er,L];exact nh (by omega) J λF g1=>tl g1 _ hb.symm
 | false =>
   have er:w=rest w:=by unfold rest;rw[hb,if_neg J9]
   walk_at "st";refine⟨false,rfl,?_⟩;rw[if_neg J9];refine⟨_,rfl,O,_,rfl,by rw[L,td];omega,?_⟩
   rw[L];have z:=nh (n:=n - 1) (most:=4) (by omega) (w:=rest w) J (M:=M) (Q:=λx F=>wSs (phi tab (n - 1)) (.cons (.ite (.or (.cons (.cmp .is (.var 2) .non) (.cons (.not (.chain .le .le (.int 1) (.var 2) (.glob "GREATEST_FACTOR" (.int 1000)))) .nil))) (.cons (.ret .non) .nil) .nil)
    (.cons (.ret (.ite (.tru (.var 1)) (.neg (.var 2)) (.var 2))) .nil)) { nx:=λ_ M'=>Q .non M',rt:=Q } [some (.str w),some (.bl false),some x] F) λF g1=>tl g1 _ hb.symm
   rw[<- er]at z;exact z
noncomputable def aA:Str:=gV ":"
noncomputable def fH (L:Nat):List Str->List Int->Int->Option (List Int)
 |[],p,_=>some p
 | w::r,p,a=>match dk (pa1 w aA),av (pa3 w aA) 2 with
   |some c,some i=>if a<(i:Nat)/\((i:Nat):Int)<(L:Nat) then fH L r (p.set i c) (i:Nat) else none
   |_,_=>none
noncomputable def aR (t:Str) (L:Nat):Option (List Int):=if t=gV "-" then some (Jj L 0) else fH L (Jb t (gV " ")) (Jj L 0) (-1)
noncomputable def dT:Option (List Int)->D
 |none=>.non
 |some ns=>.tup (ns.map .int)
variable {L:Nat}
theorem Ep (hn : 3<=n){t:Str}(ht:t.length<=600)(ok:JW t=true)(hl:L<=81)(q:∀ M',Ge M M'->Q (dT (aR t L)) M'):phi tab n 6 [.str t,.int (L:Nat)] M Q:=by
 refine ao (by omega) rfl rfl (ρ:=[some _,some _,none,none,none,none,none,none,none,none]) rfl ?_
 unfold d6 b6;walk_at "st";refine⟨by rw[td];first|decide|omega,λp0 Z=>?_⟩
 rw[CW];refine⟨[.int 0],aa,by omega,by omega,by rw[td];simp;omega,λp hp=>?_⟩
 have HK:M p=none:=by
  cases e:M p with
  |none=>rfl
  |some o=>rw[Ge.new (o:=.lst [.int 0]) Z _ _ e]at hp;cases hp
 have e1:af (af M p0 (.lst [.int 0])) p (.lst (Jj (L:Int).toNat [D.int 0]).flatten) p=some (.lst ((Jj L (0:Int)).map .int)):=by
  rw[aa];rw[Mh,List.map_replicate];simp
 have g1:Ge M (af (af M p0 (.lst [.int 0])) p (.lst (Jj (L:Int).toNat [D.int 0]).flatten)):=(Ge.new Z).trans (Ge.new hp);generalize af (af M p0 (.lst [.int 0])) p (.lst (Jj (L:Int).toNat [D.int 0]).flatten)=M1 at e1 g1;walk_at "st";refine hG ok (bp _) ⟨_,rfl,?_⟩
 by_cases hx:t=gV "-"
 ·rw[if_pos (decide_eq_true hx)];walk_at "st";refine⟨_,_,rfl,ah e1,?_⟩;have:=q _ g1;unfold aR at this;rw[if_pos hx]at this;exact this
 ·rw[if_neg (by rw[decide_eq_false hx];decide)]
  walk_at "st";refine⟨⟨_,rfl⟩,_,rfl,_,rfl,by rw[Ja];rfl,by rw[td];first|decide|omega,λp2 Y=>?_⟩
  have hw:∀ w∈Jb t (gV " "),w.length<=t.length:=λw h=>by rw[mk1.1]at h;exact dC h
  have eS:aR t L=fH L (Jb t (gV " ")) (Jj L 0) (-1):=if_neg hx;generalize Jb t (gV " ")=ws at hw eS ⊢;have e2:af M1 p2 (.lst (ws.map .str)) p2=some (.lst (ws.map .str)):=aa;have g2:=Ge.new (o:=.lst (ws.map .str)) Y;have HL:p2≠p:=λz=>by subst z;rw[e1]at Y;cases Y
  have e3:=g2 _ _ e1;have g3:=g1.trans g2;generalize af M1 p2 (.lst (ws.map .str))=M2 at e2 g2 e3 g3;refine⟨_,ah e2,?_⟩;refine bE (I:=λl ρ M'=>∃ (ns:List Int) (a:Int),(∃ o4 o5 o6 o7 o8 o9,ρ = [some (.str t),some (.int (L:Nat)),some (.ref p),some (.int a),o4,o5,o6,o7,o8,o9])/\Ge M M'/\M' p=some (.lst (ns.map .int))/\M' p2=some (.lst (ws.map .str))/\ns.length=L /\ -1<=a /\ ∀ r,ws=l++r->aR t L=fH L r ns a) (ys:=ws) (f:=λx=>.str x) rfl ⟨_,_,⟨_,_,_,_,_,_,rfl⟩,g3,e3,e2,Lr,by omega,λr h=>by rw[eS,h];rfl⟩ (λ_ _ _ hI=>by obtain⟨ns,a,_,_,_,h,_⟩:=hI;exact ah h) ?_ ?_
  ·rintro l x r ρ M3 ee ⟨ns,a,⟨o4,o5,o6,o7,o8,o9,rfl⟩,g4,e4,e5,hL,ha,J⟩;have HM:=hw x (by rw[ee];simp)
   have J:=J _ ee;refine⟨_,rfl,λF hF=>?_⟩;walk_at "st";refine⟨⟨_,rfl⟩,_,rfl,_,rfl,by rw[Ja];rfl,by rw[td];first|decide|omega,?_⟩
   rw[gp];refine⟨_,rfl,?_⟩;have l1:=kM x aA;have l3:=kN x aA;show wSs _ _ _ [_,_,_,_,_,some (D.str (pa1 x aA)),some (D.str (pa2 x aA)),some (D.str (pa3 x aA)),_,_] M3;walk_at "st";refine Eo (by omega) (by omega) λM4 g5=>?_
   walk_at "wp";have l4:(gV (Ko (81:Int))).length=2:=by decide +kernel
   refine⟨_,rfl,by decide,_,rfl,by rw[l4,td];omega,?_⟩
   rw[l4];refine nh (by omega) (by omega) λM5 g6=>?_
   walk_at "wp";have gg:=g5.trans g6;have e6:=gg _ _ e4;have e7:=gg _ _ e5;have gA:=g4.trans gg;unfold fH at J;have bad:aR t L=none->Q .non M5:=λe=>by have:=q _ gA;rw[e]at this;exact this
   cases hc:dk (pa1 x aA) with
   | none =>
     rw[hc]at J;unfold dI;walk_at "st";refine⟨true,rfl,true,rfl,?_⟩;rw[if_pos rfl];walk_at "st";exact bad J
   | some c =>
     cases hi:av (pa3 x aA) 2 with
     | none =>
       rw[hc,hi]at J;unfold dI dO;walk_at "st";refine⟨false,rfl,false,rfl,?_⟩;rw[if_neg J9];refine⟨true,rfl,true,rfl,?_⟩;rw[if_pos rfl];walk_at "st";exact bad J
     | some i =>
       rw[hc,hi]at J;unfold dI dO;dsimp only at J ⊢;walk_at "st";refine⟨false,rfl,false,rfl,?_⟩;rw[if_neg J9];refine⟨false,rfl,false,rfl,?_⟩;rw[if_neg J9]
       by_cases U:a<((i:Nat):Int)
       ·rw[if_pos U]
        by_cases HI:((i:Nat):Int)<(L:Nat)
        ·rw[if_pos ⟨U,HI⟩]at J;rw[if_neg (by simp;omega)]
         walk_at "st";refine bP e6 (j:=i) (by rw[Jc,hL];unfold ixN;rw[if_pos (by omega),if_pos (by omega),Mh]) ?_
         have HJ:∀ {o:O},af M5 p o p2=M5 p2:=λ{o}=>ax HL;have ab:∀ o,Ge M (af M5 p o):=λo a o' ea=>by rw[ax (λz=>by rw[z,HK]at ea;cases ea)];exact gg _ _ (g4 _ _ ea)
         walk_at "st";refine hF _ _ ⟨ns.set i c,(i:Nat),⟨_,_,_,_,_,_,rfl⟩,ab _,by rw[aa,List.map_set],by rw[HJ];exact e7,by rw[NZ];exact hL,by omega,λr' h'=>?_⟩
         have er:r'=r:=by
          rw[ee,Ku]at h';have:=Pw h';exact(MB.inj this).2.symm
         rw[er,J]
        ·rw[if_pos (by simp;omega)]
         rw[if_neg (λz=>HI z.2)]at J;walk_at "st";exact bad J
       ·rw[if_neg U,if_pos (by decide)]
        rw[if_neg (λz=>U z.1)]at J;walk_at "st";exact bad J
  ·rintro ρ M3 ⟨ns,a,⟨o4,o5,o6,o7,o8,o9,rfl⟩,g4,e4,e5,hL,ha,J⟩;walk_at "st";refine⟨_,_,rfl,ah e4,?_⟩;have:=q _ g4;rw[J [] (by simp)]at this
   exact this
def asc (w:Str):Prop:=∀ c∈cl w,c<128
theorem bS (h:asc w):JW w=true:=by
 unfold JW;rw[Array.all_eq_true'];intro c j;exact decide_eq_true (PX (h c (Mm.mpr j)) (by decide))
variable {x:Str}
theorem rg (h:asc x)(i j:Nat):asc (Ma x i j):=λc z=>by
 rw[fN]at z;exact h c (JE (JZ z))
theorem vW (y:Str)(h:asc x):asc (pa1 x y):=by
 unfold pa1 JN
 split
 ·exact rg h _ _
 ·exact h
theorem vX (y:Str)(h:asc x):asc (pa3 x y):=by
 unfold pa3 JN
 split
 ·exact rg h _ _
 ·intro c j;cases j
theorem pJ {c:Nat}:∀ {xs:List (List Nat)} {x:List Nat},x∈xs -> ∀ a∈x,a∈jl c xs
 |[y],x,h,a,j=>by rw[L7.mp h]at j;exact j
 | y::z::r,x,h,a,j=>by
   show a∈y++c::jl c (z::r)
   rcases Jl.mp h with rfl|h
   ·exact NV _ j
   ·exact JC _ (Ji _ (pJ h a j))
theorem bW {t:Str}(h:asc t)(hw:w∈Jb t ⟨#[c]⟩):asc w:=λa j=>by
 have e:=congrArg cl (JT t ⟨#[c]⟩);rw[aM]at e;exact h a (by rw[<- e];exact pJ (K1.mpr ⟨w,hw,rfl⟩) a j)
noncomputable def aq:Str:=gV " * "
noncomputable def arr:Str:=gV " > "
noncomputable def bx (row:Str) (L0 L1 L2:Nat):Option Pr:=match aR (pa1 row aq) L0,aR (pa1 (pa3 row aq) arr) L1,aR (pa3 (pa3 row aq) arr) L2 with
 |some x,some y,some z=>some (x,y,z)
 |_,_,_=>none
noncomputable def dP:Option Pr->D
 |none=>.non
 |some p=>prD p
theorem FB (o:Option (List Int)):oM (dT o)=true:=by cases o <;> rfl
theorem isN (o:Option (List Int)):mY (dT o)=o.isNone:=by cases o <;> rfl
variable {row:Str}{j F L2:Nat}
theorem zi (hn : 4<=n)(hr:row.length<=600)(Y:asc row)(h0:j<=81)(h1:F<=81)(h2:L2<=81)(q:∀ M',Ge M M'->Q (dP (bx row j F L2)) M'):phi tab n 7 [.str row,.tup [.int (j:Nat),.int (F:Nat),.int (L2:Nat)]] M Q:=by
 refine ao (by omega) rfl rfl (ρ:=[some _,some _,none,none,none,none,none,none,none]) rfl ?_
 unfold d7 b7;have l1:=kM row aq;have l3:=kN row aq;have l4:=kM (pa3 row aq) arr;have l5:=kN (pa3 row aq) arr;have a1:=vW aq Y;have Z:=vX aq Y;have a4:=vW arr Z;have a5:=vX arr Z;walk_at "st";refine⟨⟨_,rfl⟩,_,rfl,_,rfl,by rw[Ja];rfl,by rw[td];first|decide|omega,?_⟩
 rw[gp];refine⟨_,rfl,?_⟩;show wSs _ _ _ [_,_,some (D.str (pa1 row aq)),some (D.str (pa2 row aq)),some (D.str (pa3 row aq)),_,_,_,_] _;walk_at "st";refine⟨⟨_,rfl⟩,_,rfl,_,rfl,by rw[Ja];rfl,by rw[td];first|decide|omega,?_⟩
 rw[gp];refine⟨_,rfl,?_⟩;show wSs _ _ _ [_,_,_,_,_,some (D.str (pa1 (pa3 row aq) arr)),some (D.str (pa2 (pa3 row aq) arr)),some (D.str (pa3 (pa3 row aq) arr)),_] _;unfold bx at q;generalize pa1 row aq=A at *
 generalize pa1 (pa3 row aq) arr=B at *
 generalize pa3 (pa3 row aq) arr=C at *
 walk_at "st";refine⟨by rw[td];first|decide|omega,λL O=>⟨_,ah aa,?_⟩⟩
 have g1:=Ge.new (o:=.lst [.str A,.str B,.str C]) O;have e1:af M L (.lst [.str A,.str B,.str C]) L=some (.lst [.str A,.str B,.str C]):=aa;generalize af M L (.lst [.str A,.str B,.str C])=M1 at g1 e1;refine aT (I:=λl ρ M' acc=>(∃ o1 o2,ρ = [o1,o2])/\Ge M1 M'/\acc=l.map λx:Str×Nat=>dT (aR x.1 x.2)) (ys:=[(A,j),(B,F),(C,L2)]) (f:=λx=>ig (.str x.1) (.int (x.2:Nat))) rfl ⟨⟨_,_,rfl⟩,Ge.refl,rfl⟩ (λ_ _ _ _ hI=>ah (hI.2.1 _ _ e1)) ?_ ?_
 ·rintro l x r ρ M2 acc ee ⟨⟨o1,o2,rfl⟩,g2,rfl⟩;have hm:x∈[(A,j),(B,F),(C,L2)]:=by rw[ee];simp
  have U:=aD ee;have hx:x.1.length<=600/\JW x.1=true/\x.2<=81:=by
   simp only[Jl,JB,or_false]at hm
   rcases hm with rfl|rfl|rfl
   ·exact⟨by dsimp only;omega,bS a1,h0⟩
   ·exact⟨by dsimp only;omega,bS a4,h1⟩
   ·exact⟨by dsimp only;omega,bS a5,h2⟩
  refine⟨_,rfl,λN hN=>?_⟩;walk_at "wp";refine Ep (by omega) hx.1 hx.2.1 hx.2.2 λM3 g3=>?_
  walk_at "wp";refine⟨by rw[Jc,td];simp only[Jr,Kq]at U;omega,hN _ _ _ ⟨⟨_,_,rfl⟩,g2.trans g3,?_⟩⟩
  rw[Jv];rfl
 ·rintro ρ M2 acc ⟨_,g2,rfl⟩ p2 hp2;have g3:=(g1.trans g2).trans (Ge.new (o:=.lst ([(A,j),(B,F),(C,L2)].map λx:Str×Nat=>dT (aR x.1 x.2))) hp2);have J:=q (af M2 p2 (.lst [dT (aR A j),dT (aR B F),dT (aR C L2)])) g3;walk_at "st";refine⟨_,aa,by simp[FB],?_⟩
  have f0:List.any [dT (aR A j),dT (aR B F),dT (aR C L2)] mY=((aR A j).isNone || ((aR B F).isNone || ((aR C L2).isNone || false))):=by
   simp only[Li,List.any_nil,isN]
  rw[f0]
  cases hA:aR A j with
  |none=>rw[hA]at J;rw[if_pos (by simp)];exact J
  | some x =>
    rw[hA]at J
    cases hB:aR B F with
    |none=>rw[hB]at J;rw[if_pos (by simp)];exact J
    | some y =>
      rw[hB]at J
      cases hC:aR C L2 with
      |none=>rw[hC]at J;rw[if_pos (by simp)];exact J
      | some z =>
        rw[hC]at J;rw[if_neg (by simp)]
        exact⟨_,_,rfl,ah aa,J⟩
noncomputable def okL (o:Option Nat):Bool:=match o with
 |none=>false
 |some i=>decide (1<=i)&&decide (i<=81)
noncomputable def cR (row:Str):Option (List Nat):=let ws:=Jb row (gV " ")
 if ws.length=4/\ws.head? = some (gV "scheme") then (if (ws.drop 1).all (λw=>okL (av w 2))=true then some ((ws.drop 1).map nv) else none) else none
noncomputable def dL:Option (List Nat)->D
 |none=>.non
 |some ls=>.tup (ls.map λx=>.int (x:Nat))
theorem jZ {α:Type}(f : α -> Bool):∀ l:List α,aH iU (l.map λc=>D.bl (f c))=some (l.map f)
 |[]=>rfl
 |x::r=>by rw[Jp,aH,jZ f r];rfl
theorem fO {d:D}{ds:List D}:cA (d::ds) (some 1) none=ds:=by
 unfold cA;rw[HT.sIx_none,show (some (1:Int))=some ((1:Nat):Int) from rfl,HT.sIx_nat];have:min 1 (d::ds).length=1:=by rw[Jr];omega
 rw[this,MK,Mu,Jr,Nat.add_sub_cancel,Pt]
theorem hU {a b:Int}(q:Q (.bl (!decide (a=b))) M):wNe (.int a) (.int b) M Q:=by
 refine⟨.int a,.int b,rfl,rfl,?_⟩;have:KQ (.int a) (.int b)=decide (a=b):=by simp only[KQ];by_cases h:a=b <;> simp[h]
 rw[this];exact q
theorem pK (h:okL (av w 2)=true):av w 2=some (nv w):=by
 unfold av at h ⊢
 split
 ·rfl
 ·next h1=>rw[if_neg h1]at h;cases h
theorem zj (hn : 2<=n)(hr:row.length<=600)(ha:asc row)(q:∀ M',Ge M M'->Q (dL (cR row)) M'):phi tab n 8 [.str row] M Q:=by
 refine ao (by omega) rfl rfl (ρ:=[some _,none,none]) rfl ?_
 unfold d8 b8;walk_at "st";refine⟨⟨_,rfl⟩,_,rfl,_,rfl,by rw[Ja];rfl,by rw[td];first|decide|omega,λp hp=>?_⟩
 have hw:∀ w∈Jb row (gV " "),w.length<=600/\JW w=true:=λw h=>by
  rw[mk1.1]at h;have:=dC h;exact⟨by omega,bS (bW ha h)⟩
 unfold cR at q;generalize Jb row (gV " ")=ws at *
 dsimp only at q;have g1:=Ge.new (o:=.lst (ws.map .str)) hp;have O:af M p (.lst (ws.map .str)) p=some (.lst (ws.map .str)):=aa;generalize af M p (.lst (ws.map .str))=M1 at g1 O;have no:∀ {M':Mem},Ge M M' -> ¬ ((ws.length=4/\ws.head? = some (gV "scheme"))/\(ws.drop 1).all (λw=>okL (av w 2))=true)->Q .non M':=λg h=>by
  have:=q _ g
  split at this
  ·next h1 =>
   rw[if_neg (λz=>h ⟨h1,z⟩)]at this;exact this
  ·exact this
 walk_at "st";refine dh O ?_;rw[Jc];refine hU ⟨_,rfl,?_⟩
 by_cases F : ¬ ws.length=4
 ·rw[if_pos (by simp;omega)]
  walk_at "st";exact no g1 λz=>F z.1.1
 have F:ws.length=4:=by omega
 rw[if_neg (by simp[F])]
 obtain⟨w,tl,rfl⟩:∃ w tl,ws=w::tl:=by
  cases ws with
  |nil=>cases F
  |cons w tl=>exact⟨w,tl,rfl⟩
 have h3:tl.length=3:=by rw[Jr]at F;omega
 refine aE O (d:=.str w) (by simp[atI,ixN]) ?_
 refine pI (hw w (by simp)).2 (bp _) ⟨_,rfl,?_⟩
 by_cases J : ¬ w=gV "scheme"
 ·rw[if_pos (by rw[decide_eq_false J];rfl)]
  walk_at "st";refine no g1 λz=>J ?_;have:=z.1.2;simpa using this
 have J:w=gV "scheme":=Kv.mp J;rw[if_neg (by rw[decide_eq_true J];decide)]
 rw[MK,Mu]at no q;have hd:((w::tl).length=4/\(w::tl).head? = some (gV "scheme")):=⟨F,by rw[J];rfl⟩
 rw[if_pos hd]at q;walk_at "st";refine⟨_,O,λp2 Y=>⟨_,ah aa,?_⟩⟩;rw[Jp,fO];have g2:=g1.trans (Ge.new (o:=.lst (tl.map .str)) Y);have e2:af M1 p2 (.lst (tl.map .str)) p2=some (.lst (tl.map .str)):=aa;generalize af M1 p2 (.lst (tl.map .str))=M2 at g2 e2;have l4:(gV (Ko (81:Int))).length=2:=by decide +kernel
 refine aT (I:=λl ρ M' acc=>(∃ Z,ρ = [Z])/\Ge M2 M'/\acc=l.map λx:Str=>dO (av x 2)) (ys:=tl) (f:=λx:Str=>.str x) rfl ⟨⟨_,rfl⟩,Ge.refl,rfl⟩ (λ_ _ _ _ hI=>ah (hI.2.1 _ _ e2)) ?_ ?_
 ·rintro l x r ρ M3 acc ee ⟨⟨Z,rfl⟩,g3,rfl⟩;have HI:=aD ee;have hx:=hw x (by rw[ee];simp)
  refine⟨_,rfl,λN hN=>?_⟩;walk_at "wp";refine⟨_,rfl,by decide,_,rfl,by rw[l4,td];omega,?_⟩
  rw[l4];refine nh (by omega) hx.1 λM4 L=>?_
  walk_at "wp";refine⟨by rw[Jc,td];omega,hN _ _ _ ⟨⟨_,rfl⟩,g3.trans L,by rw[Jv];rfl⟩⟩
 ·rintro ρ M3 acc ⟨_,g3,rfl⟩ p3 hp3;have L:=(g2.trans g3).trans (Ge.new (o:=.lst (tl.map λx:Str=>dO (av x 2))) hp3);have U:af M3 p3 (.lst (tl.map λx:Str=>dO (av x 2))) p3=some (.lst (tl.map λx:Str=>dO (av x 2))):=aa;generalize af M3 p3 (.lst (tl.map λx:Str=>dO (av x 2)))=M4 at L U;walk_at "st";refine⟨_,ah U,?_⟩;refine aT (I:=λl ρ M' acc=>(∃ o,ρ = [o])/\M'=M4/\acc=l.map λx:Str=>.bl (okL (av x 2))) (ys:=tl) (f:=λx:Str=>dO (av x 2)) rfl ⟨⟨_,rfl⟩,rfl,rfl⟩ (λ_ _ _ _ hI=>by rw[hI.2.1];exact ah U) ?_ ?_
  ·rintro l x r ρ M5 acc ee ⟨⟨Z,rfl⟩,rfl,rfl⟩;have HI:=aD ee;refine⟨_,rfl,λN hN=>?_⟩;have fin:∀ b,b=okL (av x 2)->(l.map λx:Str=>D.bl (okL (av x 2))).length<Je/\N [some (dO (av x 2))] M5 ((l.map λx:Str=>D.bl (okL (av x 2)))++[.bl b]):=λb e=>⟨by rw[Jc,td];omega,hN _ _ _ ⟨⟨_,rfl⟩,rfl,by rw[e,Jv];rfl⟩⟩
   cases hx:av x 2 with
   | none =>
     rw[hx]at fin;unfold dO;walk_at "wp";refine⟨true,rfl,false,rfl,?_⟩;rw[if_neg J9];exact fin false rfl
   | some i =>
     rw[hx]at fin;unfold dO;walk_at "wp";refine⟨false,rfl,true,rfl,?_⟩;rw[if_pos rfl]
     by_cases h1:(1:Int)<=(i:Nat)
     ·rw[if_pos h1];refine fin _ ?_;unfold okL;dsimp only;rw[decide_eq_true (show 1<=i by omega),LM]
      exact decide_eq_decide.mpr (by omega)
     ·rw[if_neg h1];refine fin _ ?_;unfold okL;dsimp only;rw[decide_eq_false (show ¬ 1<=i by omega)]
      rfl
  ·rintro ρ M5 acc ⟨_,rfl,rfl⟩ p4 hp4;have g5:=Ge.new (o:=.lst (tl.map λx:Str=>D.bl (okL (av x 2)))) hp4;refine⟨_,_,_,rfl,ah aa,jZ _ _,tl.all λx=>okL (av x 2),by rw[Om];rfl,?_⟩
   by_cases j : ¬ (tl.all λx=>okL (av x 2))=true
   ·rw[if_pos (by simpa using j)]
    walk_at "st";exact no (L.trans g5) λz=>j z.2
   have j:(tl.all λx=>okL (av x 2))=true:=Kv.mp j;rw[if_neg (by rw[j];decide)]
   walk_at "st";refine⟨_,_,rfl,ah (g5 _ _ U),?_⟩;have q5:=q _ (L.trans g5);rw[if_pos j]at q5;have em:tl.map (λx:Str=>dO (av x 2))=(tl.map nv).map λx=>.int (x:Nat):=by
    rw[S1];refine List.map_congr_left λx hx=>?_;rw[pK (JK.mp j x hx)];rfl
   rw[em];exact q5
noncomputable def dw (L0 L1 L2:Nat):List Str->Nat->Option Nat
 |[],_=>none
 |r::rs,k=>if (bx r L0 L1 L2).isNone=true∨400<k then some k else dw L0 L1 L2 rs (k+1)
noncomputable def nl:Str:=gV "\n"
noncomputable def hV (t:Str):Option Nat:=match Jb t nl with
 |[]=>none
 | h::rs=>match cR h with
   |some [L0,L1,L2]=>dw L0 L1 L2 rs 1
   |_=>some 0
noncomputable def dR:Option Nat->D
 |none=>.non
 |some k=>.tup [.int (k:Nat)]
variable {h:Str}
theorem fE {ls:List Nat}(e:cR h=some ls):∃ a b c,ls=[a,b,c]/\(1<=a/\a<=81)/\(1<=b/\b<=81)/\(1<=c/\c<=81):=by
 unfold cR at e;dsimp only at e
 split at e
 ·next h1 =>
  split at e
  ·next h2 =>
   cases e
   obtain⟨F,_⟩:=h1;generalize Jb h (gV " ")=ws at *
   match ws,F with
   |[w,x,y,z],_ =>
    have ok:∀ v,v∈[x,y,z]->1<=nv v/\nv v<=81:=λv J=>by
     have j:=JK.mp h2 v J;have L:=pK j;rw[L]at j;unfold okL at j;simpa using j
    exact⟨nv x,nv y,nv z,rfl,ok x (by simp),ok y (by simp),ok z (by simp)⟩
  ·cases e
 ·cases e
theorem m6 (rs:List Str):eV (rs.map .str)=rs.zipIdx.map λx=>.tup [.int ((x.2:Nat)+1),.str x.1]:=by
 unfold eV;apply OX;intro i;rw[LC,JF,JF,Mt]
 cases rs[i]? <;> simp
theorem pL {rs:List Str}{l r:List (Str×Nat)}{x:Str×Nat}(ee:rs.zipIdx=l++x::r):x.2=l.length/\rs.drop l.length=x.1::rs.drop (l.length+1):=by
 have h:rs.zipIdx[l.length]? = (l++x::r)[l.length]?:=by rw[ee]
 rw[Mt,Mo (Jg _),Nat.sub_self,Nm]at h
 cases e:rs[l.length]? with
 |none=>rw[e]at h;cases h
 | some v =>
   rw[e]at h;have h2:x=(v,l.length):=by simpa using h.symm
   refine⟨by rw[h2],?_⟩
   obtain⟨j,z⟩:=Jw.mp e;rw[K5 j,z,h2]
theorem AY (hn : 5<=n){t:Str}(ht:t.length<=100000)(ha:asc t)(j:∀ w∈Jb t nl,w.length<=600)(hc:(Jb t nl).length<=900)(q:∀ M',Ge M M'->Q (dR (hV t)) M'):phi tab n 29 [.str t] M Q:=by
 refine ao (by omega) rfl rfl (ρ:=[some _,none,none,none,none,none,none]) rfl ?_
 unfold d29 b29;walk_at "st";refine⟨⟨_,rfl⟩,_,rfl,_,rfl,by rw[Ja];rfl,by rw[td];first|decide|omega,λp HK=>?_⟩
 have Z:∀ w∈Jb t nl,asc w:=λw h=>by unfold nl at h;rw[mk1.2.2.2.1]at h;exact bW ha h
 have HI:(Jb t nl)≠[]:=λe=>by have:=Pq t nl;rw[e]at this;simp at this
 unfold hV at q;show wSs _ _ _ [_,some _,_,_,_,_,_] (af M p (.lst ((Jb t nl).map .str)));generalize Jb t nl=ws at *
 obtain⟨h,rs,rfl⟩:∃ h rs,ws=h::rs:=by
  cases ws with
  |nil=>exact absurd rfl HI
  |cons h rs=>exact⟨h,rs,rfl⟩
 dsimp only at q;have g1:=Ge.new (o:=.lst ((h::rs).map .str)) HK;have e1:af M p (.lst ((h::rs).map .str)) p=some (.lst (.str h::rs.map .str)):=aa;generalize af M p (.lst ((h::rs).map .str))=M1 at g1 e1;walk_at "st";refine aE e1 (d:=.str h) (by simp[atI,ixN]) ?_
 refine zj (by omega) (j h (by simp)) (Z h (by simp)) λM2 g2=>?_
 cases hl:cR h with
 | none =>
   rw[hl]at q;unfold dL;walk_at "st";refine⟨true,rfl,true,rfl,?_⟩;rw[if_pos rfl];walk_at "st";rw[if_pos (by omega),if_pos (by omega)]
   walk_at "st";exact⟨by rw[td];first|decide|omega,q _ (g1.trans g2)⟩
 | some ls =>
   obtain⟨L0,L1,L2,rfl,h0,h1,h2⟩:=fE hl;rw[hl]at q;dsimp only at q;unfold dL;walk_at "st";refine⟨false,rfl,false,rfl,?_⟩;rw[if_neg J9];walk_at "st";refine⟨Kk _,λp2 O=>?_⟩;have HL:M p2=none:=by
    cases e:M p2 with
    |none=>rfl
    |some o=>rw[g2 _ _ (g1 _ _ e)]at O;cases O
   have e2:af M2 p2 (.lst []) p2=some (.lst []):=aa;have e3:=Ge.new (o:=.lst []) O _ _ (g2 _ _ e1);have g3:=(g1.trans g2).trans (Ge.new (o:=.lst []) O);generalize af M2 p2 (.lst [])=M3 at e2 e3 g3;walk_at "st";refine⟨_,e3,λp3 Y=>?_⟩;rw[fO];have HM:p3≠p2:=λz=>by subst z;rw[e2]at Y;cases Y
   have e4:af M3 p3 (.lst (rs.map .str)) p3=some (.lst (rs.map .str)):=aa;have g4:=Ge.new (o:=.lst (rs.map .str)) Y;have e5:=g4 _ _ e2;have g5:=g3.trans g4;generalize af M3 p3 (.lst (rs.map .str))=M4 at e4 g4 e5 g5;refine⟨_,rfl,_,e4,?_⟩;rw[m6];rw[Jr]at hc;refine bE (I:=λl ρ M'=>(∃ o4 o5 o6,ρ = [some (.str t),some (.ref p),some (.tup [.int (L0:Nat),.int (L1:Nat),.int (L2:Nat)]),some (.ref p2),o4,o5,o6])/\Ge M M'/\(∃ acc,M' p2=some (.lst acc)/\acc.length=l.length)/\M' p3=some (.lst (rs.map .str))/\dw L0 L1 L2 rs 1=dw L0 L1 L2 (rs.drop l.length) (l.length+1)) (ys:=rs.zipIdx) (f:=λx=>.tup [.int ((x.2:Nat)+1),.str x.1]) rfl ⟨⟨_,_,_,rfl⟩,g5,⟨_,e5,rfl⟩,e4,rfl⟩ (λ_ _ _ hI=>ah hI.2.2.2.1) ?_ ?_
   ·rintro l x r ρ M5 ee ⟨⟨o4,o5,o6,rfl⟩,g6,⟨acc,e6,J⟩,e7,L⟩;have HN:=aD ee;rw[KA]at HN;obtain⟨HP,HJ⟩:=pL ee;have U:x.1∈rs:=JE (i:=l.length) (by rw[HJ];simp)
    rw[HJ,dw]at L;refine⟨_,rfl,λF hF=>?_⟩;walk_at "st";refine zi (by omega) (j x.1 (by simp[U])) (Z x.1 (by simp[U])) h0.2 h1.2 h2.2 λM6 g7=>?_
    have e8:=g7 _ _ e6;have e9:=g7 _ _ e7;have bad:dw L0 L1 L2 rs 1=some (l.length+1)->(if 0<=((x.2:Nat):Int)+1 then if ((x.2:Nat):Int)+1<=1000 then True else True else True)->Q (.tup [.int ((x.2:Nat)+1)]) M6:=λe _=>by
     have:=q _ (g6.trans g7);rw[e]at this;rw[HP];exact this
    cases hP:bx x.1 L0 L1 L2 with
    | none =>
      rw[hP,if_pos (.inl rfl)]at L;unfold dP;walk_at "st";refine⟨true,rfl,true,rfl,?_⟩;rw[if_pos rfl];walk_at "st";rw[if_pos (by omega),if_pos (by omega)]
      walk_at "st";exact⟨by rw[td];first|decide|omega,bad L (by simp)⟩
    | some pr =>
      unfold dP;walk_at "st";refine⟨false,rfl,false,rfl,?_⟩;rw[if_neg J9]
      by_cases h400 : 400<l.length+1
      ·rw[if_pos (.inr h400)]at L;rw[if_pos (by omega)]
       walk_at "st";rw[if_pos (by omega),if_pos (by omega)]
       walk_at "st";exact⟨by rw[td];first|decide|omega,bad L (by simp)⟩
      ·rw[if_neg (by rw[hP];simp;omega)]at L
       rw[if_neg (by omega)]
       walk_at "st";refine⟨⟨_,e8⟩,_,_,_,rfl,rfl,e8,by rw[J,td];omega,?_⟩
       refine hF _ _ ⟨⟨_,_,_,rfl⟩,λa o ea=>?_,⟨_,aa,by rw[Jq,Jq,J];rfl⟩,by rw[ax HM];exact e9,by rw[L,Jq];rfl⟩
       rw[ax (λz=>by rw[z,HL]at ea;cases ea)];exact g7 _ _ (g6 _ _ ea)
   ·rintro ρ M5 ⟨⟨o4,o5,o6,rfl⟩,g6,⟨acc,e6,J⟩,e7,L⟩;rw[KA,MA]at L;have q6:=q _ g6;rw[L]at q6;walk_at "st";exact⟨by rw[td];first|decide|omega,.inr trivial,by rw[td];first|decide|omega,q6⟩
theorem AZ (O : 6<=n){t:Str}(F:t.length<=100000)(J:asc t)(j:∀ w∈Jb t nl,w.length<=600)(L:(Jb t nl).length<=900)(q:∀ M',Ge M M'->Q (dO (hV t)) M'):phi tab n 24 [.str t] M Q:=by
 refine ao (by omega) rfl rfl (ρ:=[some _,none,none]) rfl ?_
 unfold d24 b24;walk_at "st";walk_at "st";refine AY (n:=n - 1) (by omega) F J j L λU g1=>?_
 have z:=q _ g1
 cases hR:hV t with
 | none =>
   rw[hR]at z;unfold dR;walk_at "st";refine⟨true,rfl,true,rfl,?_⟩;rw[if_pos rfl];walk_at "st";exact z
 | some k =>
   rw[hR]at z;unfold dR;walk_at "st";refine⟨false,rfl,false,rfl,?_⟩;rw[if_neg J9];walk_at "st";exact⟨_,rfl,z⟩
theorem j6 (hn : 1<=n){lo hi:Int}(hw:w.length<=600)(ok:JW w=true)(q:∀ M',Ge M M'->Q (.bl (aw w lo hi)) M'):phi tab n 20 [.str w,.int lo,.int hi] M Q:=by
 refine ao (by omega) rfl rfl (ρ:=[some _,some _,some _]) rfl ?_
 unfold d20 b20;have Z:w.length<=Je:=by rw[td];first|decide|omega
 have no:∀ {L:Mem},Ge M L -> ¬ ((1<=w.length/\w.length<=5)/\cf w=true)->Q (.bl false) L:=λg h=>by
  have:=q _ g;have e:aw w lo hi=false:=Mk.mpr λz=>h ⟨(plainB_iff.mp z).1,(plainB_iff.mp z).2.1⟩;rw[e]at this;exact this
 walk_at "st";refine hG ok (bp _) ⟨_,rfl,?_⟩;have ee:w=gV "" ↔ w.length=0:=by
  constructor
  ·intro e;rw[e,Ja];rfl
  ·intro e;have:cl w=[]:=Kn.mp (by rw[ay];exact e)
   exact cj (by rw[this];rfl)
 by_cases h1:w=gV ""
 ·rw[if_pos (decide_eq_true h1)];walk_at "st";exact no (λ_ _ e=>e) λz=>by have:=ee.mp h1;omega
 rw[if_neg (by rw[decide_eq_false h1];decide)]
 have O : 1<=w.length:=by
  rcases OJ w.length with z|z
  ·exact absurd (ee.mpr z) h1
  ·exact z
 refine⟨_,rfl,Z,?_⟩
 by_cases h5 : 5<w.length
 ·rw[if_pos (by omega)]
  walk_at "st";exact no (λ_ _ e=>e) λz=>by omega
 rw[if_neg (by omega)]
 refine⟨w,rfl,?_⟩;refine aT (I:=λl ρ M' acc=>(∃ o,ρ = [o])/\M'=M/\acc=l.map λc=>.bl (!dg c)) (ys:=cl w) (f:=λc=>.str ⟨#[c]⟩) rfl ⟨⟨_,rfl⟩,rfl,rfl⟩ (λ_ _ _ _ _=>trivial) ?_ ?_
 ·rintro l x r ρ Y acc ee ⟨⟨o,rfl⟩,rfl,rfl⟩;have U:=aD ee;rw[ay]at U;refine⟨_,rfl,λN hN=>?_⟩;walk_at "wp";refine⟨_,_,rfl,rfl,?_⟩;rw[qZ,r6];refine⟨by rw[Jc,td];omega,hN _ _ _ ⟨⟨_,rfl⟩,rfl,?_⟩⟩
  rw[Jv];rfl
 ·rintro ρ Y acc ⟨_,rfl,rfl⟩ p hp;have g1:=Ge.new (o:=.lst ((cl w).map λc=>D.bl (!dg c))) hp;refine⟨_,_,_,rfl,ah aa,jZ (λc=>!dg c) _,!cf w,?_,?_⟩
  ·rw[List.any_map];unfold cf;rw[List.not_all_eq_any_not];rfl
  generalize af Y p (.lst ((cl w).map λc=>D.bl (!dg c)))=L at g1
  by_cases F : ¬ cf w=true
  ·rw[if_pos (by simpa using F)]
   walk_at "st";exact no g1 λz=>F z.2
  have F:cf w=true:=by simpa using F
  rw[if_neg (by simp[F])]
  have hr:=n9 F O hw;have j:=q _ g1;walk_at "st";have hv:=Em F (by omega)
  have hl:Nat.log2 (Int.natAbs ((nv w:Nat):Int))<1920:=by
   rw[Rn]
   by_cases h0:nv w=0
   ·rw[h0];decide
   ·exact PX ((Qo (k:=17) h0).mpr (by omega)) (by decide)
  refine⟨w,rfl,_,hr,by omega,_,rfl,hl,?_⟩
  refine hG (bp _) ok ⟨_,rfl,?_⟩;unfold aw at j;rw[decide_eq_true (show 1<=w.length/\w.length<=5 by omega),F,LM,LM]at j
  by_cases h6:tx (nv w:Nat)=w
  ·rw[decide_eq_true h6,LM]at j;rw[if_pos (decide_eq_true (show gV (Ko ((nv w:Nat):Int))=w from h6))];refine⟨w,rfl,_,hr,by omega,?_⟩
   by_cases J:lo<=((nv w:Nat):Int)
   ·rw[if_pos J];rw[decide_eq_decide.mpr (show (lo<=((nv w:Nat):Int)/\((nv w:Nat):Int)<=hi)↔((nv w:Nat):Int)<=hi from⟨λz=>z.2,λz=>⟨J,z⟩⟩)]at j;exact j
   ·rw[if_neg J];rw[decide_eq_false (λz=>J z.1)]at j;exact j
  ·rw[decide_eq_false h6,LN]at j;rw[if_neg (by rw[decide_eq_false (show ¬ gV (Ko ((nv w:Nat):Int))=w from h6)];decide)]
   exact j
noncomputable def cS:Str:=gV "-"
noncomputable def bU (h:Str):Str:=if Ka h none (some 1)=cS then Ka h (some 1) none else h
noncomputable def cT (L:Nat):List Str->Int->Bool
 |[],_=>true
 | w::r,last=>match Jb w aA with
   |[h0,h1]=>aw h1 (last+1) ((L:Nat) - 1)&&aw (bU h0) 1 1000&&cT L r (nv h1:Nat)
   |_=>false
noncomputable def bK (ws:List Str) (L:Nat):Bool:=if ws=[cS] then true else cT L ws (-1) && !ws.isEmpty
theorem j7:∀ xs ys:List Str,R0 (xs.map .str) (ys.map .str)=decide (xs=ys)
 |[],[]=>rfl
 |[],y::ys=>rfl
 |x::xs,[]=>rfl
 | x::xs,y::ys=>by
   rw[Jp,Jp,R0,j7 xs ys];simp only[KQ]
   by_cases h:x=y <;> by_cases h2:xs=ys <;> simp[h,h2]
theorem m7 {k:Nat}{M:Mem}:∀ {ws:List Str},(∀ w∈ws,JW w=true)->aH (rb k M) (ws.map .str)=some (ws.map .str)
 |[],_=>rfl
 | w::r,h=>by
   rw[Jp,aH,m7 λv j=>h v (Ji _ j)];have:rb k M (.str w)=some (.str w):=by simp only[rb,h w (by simp),if_true]
   rw[this];rfl
variable {ws:List Str}
theorem iu {k:Nat}{a:Addr}(h:M a=some (.lst (ws.map .str)))(ok:∀ w∈ws,JW w=true):rb (k+1) M (.ref a)=some (.list (ws.map .str)):=by
 rw[pD h,m7 ok];rfl
variable {b:Addr}{xs ys:List Str}
theorem B0 {a:Addr}(j:M a=some (.lst (xs.map .str)))(z:M b=some (.lst (ys.map .str)))(ox:∀ w∈xs,JW w=true)(oy:∀ w∈ys,JW w=true)(q:Q (.bl (decide (xs=ys))) M):wEq (.ref a) (.ref b) M Q:=by
 refine⟨_,_,iu j ox,iu z oy,?_⟩;have:KQ (.list (xs.map .str)) (.list (ys.map .str))=decide (xs=ys):=by rw[KQ,j7]
 rw[this];exact q
theorem B1 {a:Addr}(j:M a=some (.lst (xs.map .str)))(z:M b=some (.lst (ys.map .str)))(ox:∀ w∈xs,JW w=true)(oy:∀ w∈ys,JW w=true)(q:Q (.bl (!decide (xs=ys))) M):wNe (.ref a) (.ref b) M Q:=by
 refine⟨_,_,iu j ox,iu z oy,?_⟩;have:KQ (.list (xs.map .str)) (.list (ys.map .str))=decide (xs=ys):=by rw[KQ,j7]
 rw[this];exact q
theorem m8 (h:asc x)(i j:Option Int):asc (Ka x i j):=by
 intro c z;unfold Ka at z
 split at z
 ·exact h c z
 ·have F:c∈(Oo i j 1 x.length).filterMap (x.cps[·]?):=by simpa[cl]using z
  obtain⟨k,_,hk⟩:=N0.mp F;exact h c (Mm.mpr (Q8 hk))
theorem B2 (hn : 2<=n){a:Addr}(hw:∀ w∈ws,w.length<=600/\asc w)(hc:ws.length<=1000)(hM:M a=some (.lst (ws.map .str)))(q:∀ M',Ge M M'->Q (.bl (bK ws L)) M'):phi tab n 21 [.ref a,.int (L:Nat)] M Q:=by
 refine ao (by omega) rfl rfl (ρ:=[some _,some _,none,none,none,none]) rfl ?_
 unfold d21 b21;have oks:∀ w∈ws,JW w=true:=λw h=>bS (hw w h).2;walk_at "st";refine⟨by rw[td];first|decide|omega,λp hp=>?_⟩
 have g1:=Ge.new (o:=.lst [.str cS]) hp;have e1:af M p (.lst [.str cS]) p=some (.lst ([cS].map .str)):=aa;have Y:=g1 _ _ hM;show wEq (.ref a) (.ref p) (af M p (.lst [.str cS])) _;generalize af M p (.lst [.str cS])=M1 at g1 e1 Y;refine B0 Y e1 oks (λw h=>by rw[L7.mp h];exact bp _) ⟨_,rfl,?_⟩
 unfold bK at q
 by_cases hd:ws=[cS]
 ·rw[if_pos (decide_eq_true hd)];rw[if_pos hd]at q;walk_at "st";exact q _ g1
 rw[if_neg (by rw[decide_eq_false hd];decide)]
 rw[if_neg hd]at q;walk_at "st";walk_at "st";refine⟨_,ah Y,?_⟩;have cz:∀ w∈ws,∀ h∈Jb w aA,h.length<=600/\asc h:=λw HL h hh=>by
  unfold aA at hh;rw[mk1.2.1]at hh;have h1:=hw w HL;have:=dC hh;exact⟨by omega,bW h1.2 hh⟩
 refine bE (I:=λl ρ M'=>∃ (z:Int),(∃ o3 o4 o5,ρ = [some (.ref a),some (.int (L:Nat)),some (.int z),o3,o4,o5])/\Ge M M' /\ ∀ r,ws=l++r->cT L ws (-1)=cT L r z) (ys:=ws) (f:=λx=>.str x) rfl ⟨_,⟨_,_,_,rfl⟩,g1,λr h=>by rw[h];rfl⟩ (λ_ _ _ hI=>by obtain⟨z,_,g,_⟩:=hI;exact ah (g _ _ hM)) ?_ ?_
 ·rintro l x r ρ M2 ee ⟨z,⟨o3,o4,o5,rfl⟩,g2,j⟩;have hx:x∈ws:=by rw[ee];simp
  have HN:=hw x hx;have j:=j _ ee;rw[cT]at j;have J:=cz x hx;refine⟨_,rfl,λF hF=>?_⟩;walk_at "st";refine⟨⟨_,rfl⟩,_,rfl,_,rfl,by rw[Ja];rfl,by rw[td];first|decide|omega,λp2 HM=>?_⟩
  show wSs _ _ _ _ (af M2 p2 (.lst ((Jb x aA).map .str)));generalize Jb x aA=hs at *
  have g3:=g2.trans (Ge.new (o:=.lst (hs.map .str)) HM);have U:af M2 p2 (.lst (hs.map .str)) p2=some (.lst (hs.map .str)):=aa;generalize af M2 p2 (.lst (hs.map .str))=M3 at g3 U;have bad:∀ {M':Mem},Ge M M'->cT L ws (-1)=false->Q (.bl false) M':=λg e=>by have:=q _ g;rw[e,LN]at this;exact this
  walk_at "st";refine dh U ?_;rw[Jc];refine hU ⟨_,rfl,?_⟩
  match hs,j,J,U with
  |[],j,J,U=>rw[if_pos (by simp)];walk_at "st";exact bad g3 j
  |[h0],j,J,U=>rw[if_pos (by simp)];walk_at "st";exact bad g3 j
  |h0::h1::h2::t,j,J,U=>rw[if_pos (by simp;omega)];walk_at "st";exact bad g3 j
  |[h0,h1],j,J,U =>
   rw[if_neg (by simp)]
   have c0:=J h0 (by simp)
   have c1:=J h1 (by simp)
   dsimp only at j;refine aE U (d:=.str h1) (by simp[atI,ixN]) ?_
   refine j6 (by omega) c1.1 (bS c1.2) λM4 g4=>⟨_,rfl,?_⟩
   have e4:=g4 _ _ U;have gA:=g3.trans g4
   by_cases Z : ¬ aw h1 (z+1) ((L:Nat) - 1)=true
   ·have hf:aw h1 (z+1) ((L:Nat) - 1)=false:=by simpa using Z
    rw[hf,LN,LN]at j;rw[if_pos (by rw[hf];rfl)]
    walk_at "st";exact bad gA j
   have Z:aw h1 (z+1) ((L:Nat) - 1)=true:=Kv.mp Z;rw[Z,LM]at j;rw[if_neg (by rw[Z];decide)]
   walk_at "st";have cn:(bU h0).length<=600/\asc (bU h0):=by
    unfold bU
    split
    ·exact⟨K7 (Nv _ _ _) c0.1,m8 c0.2 _ _⟩
    ·exact c0
   have tl:∀ B,wSs (phi tab (n - 1)) (.cons (.ite (.not (.tru (.call 20 (.cons (.var 5) (.cons (.int 1) (.cons (.int 1000) .nil)))))) (.cons (.ret (.bl false)) .nil) .nil) (.cons (.asg (.name 2) (.blt .intS (.cons (.ix (.var 4) (.int 1)) .nil))) .nil))
    { nx:=F,rt:=Q,bk:=B,ct:=F } [some (.ref a),some (.int (L:Nat)),some (.int z),some (.str x),some (.ref p2),some (.str (bU h0))] M4:=λB=>by
    walk_at "st";refine j6 (by omega) cn.1 (bS cn.2) λM5 g5=>⟨_,rfl,?_⟩
    have e5:=g5 _ _ e4;have gB:=gA.trans g5
    by_cases O : ¬ aw (bU h0) 1 1000=true
    ·have hf:aw (bU h0) 1 1000=false:=by simpa using O
     rw[hf,LN]at j;rw[if_pos (by rw[hf];rfl)]
     walk_at "st";exact bad gB j
    have O:aw (bU h0) 1 1000=true:=Kv.mp O;rw[O,LM]at j;rw[if_neg (by rw[O];decide)]
    walk_at "st";refine aE e5 (d:=.str h1) (by simp[atI,ixN]) ?_
    have HI:=plainB_iff.mp Z;refine⟨h1,rfl,_,n9 HI.2.1 HI.1.1 c1.1,by omega,?_⟩
    refine hF _ _ ⟨(nv h1:Nat),⟨_,_,_,rfl⟩,gB,λr' h'=>?_⟩;have er:r'=r:=by
     rw[ee,Ku]at h';have:=Pw h';exact(MB.inj this).2.symm
    rw[er,j]
   refine aE e4 (d:=.str h0) (by simp[atI,ixN]) ?_
   have HJ:h0.length<=Je:=by rw[td];first|decide|omega
   refine⟨h0,rfl,HJ,hG (bS (m8 c0.2 _ _)) (bp _) ⟨_,rfl,?_⟩⟩
   by_cases hn0:Ka h0 none (some 1)=cS
   ·rw[if_pos (decide_eq_true (show Ka h0 none (some 1)=gV "-" from hn0))];refine aE e4 (d:=.str h0) (by simp[atI,ixN]) ⟨h0,rfl,HJ,?_⟩
    have en:bU h0=Ka h0 (some 1) none:=by unfold bU;rw[if_pos hn0]
    rw[<- en];exact tl _
   ·rw[if_neg (by rw[decide_eq_false (show ¬ Ka h0 none (some 1)=gV "-" from hn0)];decide)]
    refine aE e4 (d:=.str h0) (by simp[atI,ixN]) ?_
    have en:bU h0=h0:=by unfold bU;rw[if_neg hn0]
    have t2:=tl;rw[en]at t2;exact t2 _
 ·rintro ρ M2 ⟨z,⟨o3,o4,o5,rfl⟩,g2,j⟩;have hE:=j [] (by simp)
  rw[cT]at hE;walk_at "st";refine⟨Kk _,λp3 HK=>?_⟩;have g3:=g2.trans (Ge.new (o:=.lst []) HK);refine B1 (xs:=ws) (ys:=[]) ((Ge.new (o:=.lst []) HK) _ _ (g2 _ _ hM)) aa oks (λw h=>by cases h) ?_
  have:=q _ g3;rw[hE,LM]at this;rw[show (!decide (ws=[])) = !ws.isEmpty from by cases ws <;> rfl]
  exact this
noncomputable def sta:Str:=gV "*"
noncomputable def gt:Str:=gV ">"
noncomputable def bC (row:Str) (L0 L1 L2:Nat):Bool:=let ws:=Jb row (gV " ")
 if ws.count sta=1/\ws.count gt=1/\ws.idxOf sta<=ws.idxOf gt then bK (ws.take (ws.idxOf sta)) L0&&(bK ((ws.drop (ws.idxOf sta+1)).take (ws.idxOf gt - (ws.idxOf sta+1))) L1&&bK (ws.drop (ws.idxOf gt+1)) L2) else false
theorem m9 {xs:List D}(h:n<=xs.length):cA xs none (some (n:Int))=xs.take n:=by
 unfold cA;rw[HT.sIx_none,HT.sIx_nat,Oc h];simp
theorem md {xs:List D}(h:n<=xs.length):cA xs (some (n:Int)) none=xs.drop n:=by
 unfold cA;rw[HT.sIx_none,HT.sIx_nat,Oc h];exact NA (by simp)
theorem yz {xs:List D}{a b:Nat}(h:a<=b)(j:b<=xs.length):cA xs (some (a:Int)) (some (b:Int))=(xs.drop a).take (b - a):=by
 unfold cA;rw[HT.sIx_nat,HT.sIx_nat,Oc j,Oc (K7 h j)]
theorem Er (hn : 3<=n)(hr:row.length<=600)(ha:asc row)(hM:M b=some (.lst [.int (F:Nat),.int (L:Nat),.int (L2:Nat)]))(q:∀ M',Ge M M'->Q (.bl (bC row F L L2)) M'):phi tab n 22 [.str row,.ref b] M Q:=by
 refine ao (by omega) rfl rfl (ρ:=[some _,some _,none,none,none,none]) rfl ?_
 unfold d22 b22;walk_at "st";refine⟨⟨_,rfl⟩,_,rfl,_,rfl,by rw[Ja];rfl,by rw[td];first|decide|omega,λp hp=>?_⟩
 have hw:∀ w∈Jb row (gV " "),w.length<=600/\asc w:=λw h=>by
  rw[mk1.1]at h;have:=dC h;exact⟨by omega,bW ha h⟩
 have HM:(Jb row (gV " ")).length<=601:=by
  rw[mk1.1];have:=vV row 32;omega
 unfold bC at q;generalize Jb row (gV " ")=ws at *
 dsimp only at q;have g1:=Ge.new (o:=.lst (ws.map .str)) hp;have j:af M p (.lst (ws.map .str)) p=some (.lst (ws.map .str)):=aa;generalize af M p (.lst (ws.map .str))=M1 at g1 j;walk_at "st";have no:∀ {M':Mem},Ge M M' -> ¬ (ws.count sta=1/\ws.count gt=1/\ws.idxOf sta<=ws.idxOf gt)->Q (.bl false) M':=λg h=>by
  have:=q _ g;rw[if_neg h]at this;exact this
 refine⟨⟨_,j⟩,_,ws,sta,rfl,rfl,j,?_⟩;refine hU ⟨_,rfl,?_⟩
 by_cases h1 : ¬ ws.count sta=1
 ·rw[if_pos (by simp;omega)]
  walk_at "st";exact no g1 λz=>h1 z.1
 have h1:ws.count sta=1:=Kv.mp h1;rw[if_neg (by simp[h1])]
 refine⟨⟨_,j⟩,_,ws,gt,rfl,rfl,j,?_⟩;refine hU ⟨_,rfl,?_⟩
 by_cases h2 : ¬ ws.count gt=1
 ·rw[if_pos (by simp;omega)]
  walk_at "st";exact no g1 λz=>h2 z.2.1
 have h2:ws.count gt=1:=Kv.mp h2;rw[if_neg (by simp[h2])]
 have m1:sta∈ws:=Lq.mp (by omega)
 have m2:gt∈ws:=Lq.mp (by omega)
 refine⟨⟨_,j⟩,_,ws,sta,rfl,rfl,j,m1,?_⟩;refine⟨⟨_,j⟩,_,ws,gt,rfl,rfl,j,m2,?_⟩;have i1:ws.idxOf sta<ws.length:=MR.mpr m1;have i2:ws.idxOf gt<ws.length:=MR.mpr m2
 by_cases Y : ¬ ws.idxOf sta<=ws.idxOf gt
 ·refine⟨_,rfl,?_⟩;rw[if_pos (decide_eq_true (by omega))]
  walk_at "st";exact no g1 λz=>Y z.2.2
 have Y:ws.idxOf sta<=ws.idxOf gt:=Kv.mp Y;rw[if_pos ⟨h1,h2,Y⟩]at q;have HN:ws.idxOf sta≠ws.idxOf gt:=λe=>by
  have a1:=L6 i1;have a2:=L6 i2;have:sta=gt:=by
   have a3:ws[ws.idxOf sta]=ws[ws.idxOf gt]:=by congr 1
   rw[a1,a2]at a3;exact a3
  exact absurd (congrArg cl this) (by decide +kernel)
 refine⟨_,rfl,?_⟩;rw[if_neg (by simp;omega)]
 walk_at "st";refine⟨⟨_,j⟩,_,ws,sta,rfl,rfl,j,m1,?_⟩;refine⟨⟨_,j⟩,_,ws,gt,rfl,rfl,j,m2,?_⟩;generalize ws.idxOf sta=I at *
 generalize ws.idxOf gt=J at *
 walk_at "st";have c1:((I:Nat):Int)+1=((I+1:Nat):Int):=by push_cast;rfl
 have c2:((J:Nat):Int)+1=((J+1:Nat):Int):=by push_cast;rfl
 refine⟨_,j,λpa O=>?_⟩;rw[m9 (by rw[Jc];omega),<- R1]
 have f1:af M1 pa (.lst ((ws.take I).map .str)) pa=some (.lst ((ws.take I).map .str)):=aa;have g2:=g1.trans (Ge.new (o:=.lst ((ws.take I).map .str)) O);have e2:=Ge.new (o:=.lst ((ws.take I).map .str)) O _ _ j;generalize af M1 pa (.lst ((ws.take I).map .str))=M2 at f1 g2 e2;refine⟨_,e2,λpb HI=>?_⟩;rw[c1,yz (by omega) (by rw[Jc];omega),<- R4,<- R1]
 have f2:af M2 pb (.lst (((ws.drop (I+1)).take (J - (I+1))).map .str)) pb=some (.lst (((ws.drop (I+1)).take (J - (I+1))).map .str)):=aa;have n2:=Ge.new (o:=.lst (((ws.drop (I+1)).take (J - (I+1))).map .str)) HI;have f1:=n2 _ _ f1;have e3:=n2 _ _ e2;have g3:=g2.trans n2;generalize af M2 pb (.lst (((ws.drop (I+1)).take (J - (I+1))).map .str))=M3 at f1 f2 g3 e3;refine⟨_,e3,λpc HJ=>?_⟩;rw[c2,md (by rw[Jc];omega),<- R4]
 have U:af M3 pc (.lst ((ws.drop (J+1)).map .str)) pc=some (.lst ((ws.drop (J+1)).map .str)):=aa;have n3:=Ge.new (o:=.lst ((ws.drop (J+1)).map .str)) HJ;have f1:=n3 _ _ f1;have f2:=n3 _ _ f2;have g4:=g3.trans n3;generalize af M3 pc (.lst ((ws.drop (J+1)).map .str))=M4 at f1 f2 U g4;refine⟨by rw[td];first|decide|omega,λpp HK=>?_⟩
 have Z:=Ge.new (o:=.lst [D.ref pa,.ref pb,.ref pc]) HK;have f1:=Z _ _ f1;have f2:=Z _ _ f2;have U:=Z _ _ U;have g5:=g4.trans Z;have f4:af M4 pp (.lst [D.ref pa,.ref pb,.ref pc]) pp=some (.lst [D.ref pa,.ref pb,.ref pc]):=aa;generalize af M4 pp (.lst [D.ref pa,.ref pb,.ref pc])=M5 at f1 f2 U f4 g5;have wT:∀ w∈ws.take I,w.length<=600/\asc w:=λw h=>hw w (JZ h);have wM:∀ w∈(ws.drop (I+1)).take (J - (I+1)),w.length<=600/\asc w:=λw h=>hw w (JE (JZ h));have wD:∀ w∈ws.drop (J+1),w.length<=600/\asc w:=λw h=>hw w (JE h);have lT:(ws.take I).length<=ws.length:=by rw[Jx];omega
 have lM:((ws.drop (I+1)).take (J - (I+1))).length<=ws.length:=by rw[Jx,JG];omega
 have lD:(ws.drop (J+1)).length<=ws.length:=by rw[JG];omega
 generalize ws.take I=A at *
 generalize (ws.drop (I+1)).take (J - (I+1))=B at *
 generalize ws.drop (J+1)=C at *
 walk_at "st";refine⟨_,ah f4,_,ah (g5 _ _ hM),?_⟩;refine aT (I:=λl ρ M' acc=>(∃ o1 o2,ρ = [o1,o2])/\Ge M5 M'/\acc=l.map λx:List Str×Addr×Nat=>.bl (bK x.1 x.2.2)) (ys:=[(A,pa,F),(B,pb,L),(C,pc,L2)]) (f:=λx=>ig (.ref x.2.1) (.int (x.2.2:Nat))) rfl ⟨⟨_,_,rfl⟩,Ge.refl,rfl⟩ (λ_ _ _ _ hI=>Pe (ah (hI.2.1 _ _ f4)) (ah (hI.2.1 _ _ (g5 _ _ hM)))) ?_ ?_
 ·rintro l x r ρ M6 acc ee ⟨⟨o1,o2,rfl⟩,g6,rfl⟩;have hm:x∈[(A,pa,F),(B,pb,L),(C,pc,L2)]:=by rw[ee];simp
  have HL:=aD ee;have hx:(∀ w∈x.1,w.length<=600/\asc w)/\x.1.length<=1000/\M5 x.2.1=some (.lst (x.1.map .str)):=by
   simp only[Jl,JB,or_false]at hm
   rcases hm with rfl|rfl|rfl
   ·exact⟨wT,by dsimp only;omega,f1⟩
   ·exact⟨wM,by dsimp only;omega,f2⟩
   ·exact⟨wD,by dsimp only;omega,U⟩
  refine⟨_,rfl,λN hN=>?_⟩;walk_at "wp";refine B2 (by omega) hx.1 hx.2.1 (g6 _ _ hx.2.2) λM7 g7=>?_
  walk_at "wp";refine⟨by rw[Jc,td];simp only[Jr,Kq]at HL;omega,hN _ _ _ ⟨⟨_,_,rfl⟩,g6.trans g7,?_⟩⟩
  rw[Jv];rfl
 ·rintro ρ M6 acc ⟨_,g6,rfl⟩ p4 hp4;have g7:=Ge.new (o:=.lst ([(A,pa,F),(B,pb,L),(C,pc,L2)].map λx:List Str×Addr×Nat=>D.bl (bK x.1 x.2.2))) hp4;refine⟨_,_,_,rfl,ah aa,jZ (λx:List Str×Addr×Nat=>bK x.1 x.2.2) _,?_⟩;have:=q _ ((g5.trans g6).trans g7);simpa using this
noncomputable def hZ (L0 L1 L2:Nat):List Str->Nat->Option Nat
 |[],_=>none
 |r::rs,k=>if 399<k∨bC r L0 L1 L2=false then some (k+1) else hZ L0 L1 L2 rs (k+1)
noncomputable def kb (row:Str):Option (List Nat):=let ws:=Jb row (gV " ")
 if ws.length=4/\ws.head? = some (gV "scheme") then (if (ws.drop 1).all (λw=>aw w 1 81)=true then some ((ws.drop 1).map nv) else none) else none
noncomputable def fbO (t:Str):Option Nat:=match Jb t nl with
 |[]=>none
 | h::rs=>match kb h with
   |some [a,b,c]=>hZ a b c rs 0
   |_=>some 0
theorem yA (rs:List Str):dX (rs.map .str)=rs.zipIdx.map λx=>.tup [.int (x.2:Nat),.str x.1]:=by
 unfold dX;apply OX;intro i;rw[LC,JF,JF,Mt]
 cases rs[i]? <;> simp
theorem first {n:Nat}(hn : 4<=n){t:Str}(ht:t.length<=100000)(ha:asc t)(L:∀ w∈Jb t nl,w.length<=600)(hc:(Jb t nl).length<=900){M:Mem}{Q:QD}(q:∀ M',Ge M M'->Q (dO (fbO t)) M'):phi tab n 23 [.str t] M Q:=by
 refine ao (by omega) rfl rfl (ρ:=[some _,none,none,none,none,none]) rfl ?_
 unfold d23 b23;walk_at "st";refine⟨⟨_,rfl⟩,_,rfl,_,rfl,by rw[Ja];rfl,by rw[td];first|decide|omega,λp HQ=>?_⟩
 have HI:∀ w∈Jb t nl,asc w:=λw h=>by unfold nl at h;rw[mk1.2.2.2.1]at h;exact bW ha h
 have HJ:(Jb t nl)≠[]:=λe=>by have:=Pq t nl;rw[e]at this;simp at this
 unfold fbO at q;show wSs _ _ _ [_,some _,_,_,_,_] (af M p (.lst ((Jb t nl).map .str)));generalize Jb t nl=ws at *
 obtain⟨h,rs,rfl⟩:∃ h rs,ws=h::rs:=by
  cases ws with
  |nil=>exact absurd rfl HJ
  |cons h rs=>exact⟨h,rs,rfl⟩
 dsimp only at q;have g1:=Ge.new (o:=.lst ((h::rs).map .str)) HQ;have j:af M p (.lst ((h::rs).map .str)) p=some (.lst (.str h::rs.map .str)):=aa;generalize af M p (.lst ((h::rs).map .str))=M1 at g1 j;have hh:=L h (by simp)
 have HR:=HI h (by simp)
 walk_at "st";refine aE j (d:=.str h) (by simp[atI,ixN]) ?_
 refine⟨⟨_,rfl⟩,_,rfl,_,rfl,by rw[Ja];rfl,by rw[td];first|decide|omega,λp2 HK=>?_⟩
 have hw:∀ w∈Jb h (gV " "),w.length<=600/\asc w:=λw hw=>by
  rw[mk1.1]at hw;have:=dC hw;exact⟨by omega,bW HR hw⟩
 have no:∀ {M':Mem},Ge M M'->kb h=none->Q (.int 0) M':=λg e=>by
  have:=q _ g;rw[e]at this;exact this
 unfold kb at no q;generalize Jb h (gV " ")=ws at *
 dsimp only at no q;have g2:=g1.trans (Ge.new (o:=.lst (ws.map .str)) HK);have O:af M1 p2 (.lst (ws.map .str)) p2=some (.lst (ws.map .str)):=aa;have j:=(Ge.new (o:=.lst (ws.map .str)) HK) _ _ j;generalize af M1 p2 (.lst (ws.map .str))=M2 at g2 O j;walk_at "st";refine dh O ?_;rw[Jc];refine hU ⟨_,rfl,?_⟩
 by_cases h4 : ¬ ws.length=4
 ·rw[if_pos (by simp;omega)]
  walk_at "st";exact no g2 (if_neg λz=>h4 z.1)
 have h4:ws.length=4:=by omega
 rw[if_neg (by simp[h4])]
 obtain⟨w,tl,rfl⟩:∃ w tl,ws=w::tl:=by
  cases ws with
  |nil=>cases h4
  |cons w tl=>exact⟨w,tl,rfl⟩
 have h3:tl.length=3:=by rw[Jr]at h4;omega
 refine aE O (d:=.str w) (by simp[atI,ixN]) ?_
 refine pI (bS (hw w (by simp)).2) (bp _) ⟨_,rfl,?_⟩
 by_cases hs : ¬ w=gV "scheme"
 ·rw[if_pos (by rw[decide_eq_false hs];rfl)]
  walk_at "st";refine no g2 (if_neg λz=>hs ?_);have:=z.2;simpa using this
 have hs:w=gV "scheme":=Kv.mp hs;rw[if_neg (by rw[decide_eq_true hs];decide)]
 have hd:((w::tl).length=4/\(w::tl).head? = some (gV "scheme")):=⟨h4,by rw[hs];rfl⟩
 rw[if_pos hd,MK,Mu]at no;rw[if_pos hd,MK,Mu]at q;have HL:∀ x∈tl,x.length<=600/\asc x:=λx hx=>hw x (Ji _ hx);refine⟨_,O,λp3 HS=>⟨_,ah aa,?_⟩⟩;rw[Jp,fO];have n3:=Ge.new (o:=.lst (tl.map .str)) HS;have g3:=g2.trans n3;have e3:af M2 p3 (.lst (tl.map .str)) p3=some (.lst (tl.map .str)):=aa;have j:=n3 _ _ j;have O:=n3 _ _ O;generalize af M2 p3 (.lst (tl.map .str))=M3 at g3 e3 j O;refine aT (I:=λl ρ M' acc=>(∃ o1,ρ = [o1])/\Ge M3 M'/\acc=l.map λx:Str=>.bl (aw x 1 81)) (ys:=tl) (f:=λx:Str=>.str x) rfl ⟨⟨_,rfl⟩,Ge.refl,rfl⟩ (λ_ _ _ _ hI=>ah (hI.2.1 _ _ e3)) ?_ ?_
 ·rintro l x r ρ M4 acc ee ⟨⟨o1,rfl⟩,g4,rfl⟩;have Z:=aD ee;have hx:=HL x (by rw[ee];simp)
  refine⟨_,rfl,λN hN=>?_⟩;walk_at "wp";refine j6 (by omega) hx.1 (bS hx.2) λM5 g5=>?_
  walk_at "wp";refine⟨by rw[Jc,td];omega,hN _ _ _ ⟨⟨_,rfl⟩,g4.trans g5,by rw[Jv];rfl⟩⟩
 ·rintro ρ M4 acc ⟨_,g4,rfl⟩ p4 hp4;have n4:=Ge.new (o:=.lst (tl.map λx:Str=>D.bl (aw x 1 81))) hp4;refine⟨_,_,_,rfl,ah aa,jZ _ _,tl.all λx=>aw x 1 81,by rw[Om];rfl,?_⟩
  have gA:=(g3.trans g4).trans n4;have j:=n4 _ _ (g4 _ _ j);have O:=n4 _ _ (g4 _ _ O);generalize af M4 p4 (.lst (tl.map λx:Str=>D.bl (aw x 1 81)))=M5 at gA j O
  by_cases h5 : ¬ (tl.all λx=>aw x 1 81)=true
  ·rw[if_pos (by simpa using h5)]
   walk_at "st";exact no gA (if_neg h5)
  have h5:(tl.all λx=>aw x 1 81)=true:=Kv.mp h5;rw[if_neg (by rw[h5];decide)]
  rw[if_pos h5]at q;clear no;have HU:=λx hx=>plainB_iff.mp (JK.mp h5 x hx);walk_at "st";refine⟨_,O,λp5 HV=>⟨_,ah aa,?_⟩⟩;rw[Jp,fO];have n5:=Ge.new (o:=.lst (tl.map .str)) HV;have gB:=gA.trans n5;have e5:af M5 p5 (.lst (tl.map .str)) p5=some (.lst (tl.map .str)):=aa;have j:=n5 _ _ j;generalize af M5 p5 (.lst (tl.map .str))=M6 at gB e5 j;refine aT (I:=λl ρ M' acc=>(∃ o1,ρ = [o1])/\M'=M6/\acc=l.map λx:Str=>.int (nv x:Nat)) (ys:=tl) (f:=λx:Str=>.str x) rfl ⟨⟨_,rfl⟩,rfl,rfl⟩ (λ_ _ _ _ hI=>by rw[hI.2.1];exact ah e5) ?_ ?_
  ·rintro l x r ρ M7 acc ee ⟨⟨o1,rfl⟩,rfl,rfl⟩;have Z:=aD ee;have HM:x∈tl:=by rw[ee];simp
   have hx:=HL x HM;have hp:=HU x HM;refine⟨_,rfl,λN hN=>?_⟩;walk_at "wp";refine⟨x,rfl,_,n9 hp.2.1 hp.1.1 hx.1,by omega,by rw[Jc,td];omega,hN _ _ _ ⟨⟨_,rfl⟩,rfl,by rw[Jv];rfl⟩⟩
  ·rintro ρ M7 acc ⟨_,rfl,rfl⟩ p6 hp6;have n6:=Ge.new (o:=.lst (tl.map fun x:Str=>D.int (nv x:Nat))) hp6;have gC:=gB.trans n6;have e6:af M7 p6 (.lst (tl.map fun x:Str=>D.int (nv x:Nat))) p6=some (.lst (tl.map fun x:Str=>D.int (nv x:Nat))):=aa;have j:=n6 _ _ j;generalize af M7 p6 (.lst (tl.map fun x:Str=>D.int (nv x:Nat)))=M8 at gC e6 j;obtain ⟨a,b,c,rfl⟩:∃ a b c,tl=[a,b,c]:=by
    match tl,h3 with
    |[a,b,c],_=>exact⟨a,b,c,rfl⟩
   rw[Jp,Jp,Jp,KO]at q;rw[Jp,Jp,Jp,KO]at e6;dsimp only at q;generalize nv a=L0 at *
   generalize nv b=L1 at *
   generalize nv c=L2 at *
   walk_at "st";refine⟨_,j,λp7 HW=>?_⟩;rw[fO];have n7:=Ge.new (o:=.lst (rs.map .str)) HW;have gD:=gC.trans n7;have e7:af M8 p7 (.lst (rs.map .str)) p7=some (.lst (rs.map .str)):=aa;have e6:=n7 _ _ e6;generalize af M8 p7 (.lst (rs.map .str))=M9 at gD e7 e6;refine⟨_,ah e7,?_⟩;rw[yA];rw[Jr]at hc;refine bE (I:=λl ρ M'=>(∃ o4 o5,ρ = [some (.str t),some (.ref p),some (.ref p2),some (.ref p6),o4,o5])/\Ge M9 M'/\hZ L0 L1 L2 rs 0=hZ L0 L1 L2 (rs.drop l.length) l.length) (ys:=rs.zipIdx) (f:=λx=>.tup [.int (x.2:Nat),.str x.1]) rfl ⟨⟨_,_,rfl⟩,Ge.refl,rfl⟩ (λ_ _ _ hI=>ah (hI.2.1 _ _ e7)) ?_ ?_
   ·rintro l x r ρ M10 ee ⟨⟨o4,o5,rfl⟩,J,U⟩;have Z:=aD ee;rw[KA]at Z;obtain⟨HX,HN⟩:=pL ee;have Y:x.1∈rs:=JE (i:=l.length) (by rw[HN];simp)
    rw[HN,hZ]at U;have bad:∀ {M':Mem},Ge M M'->hZ L0 L1 L2 rs 0=some (l.length+1)->Q (.int ((x.2:Nat)+1)) M':=λg e=>by
     have:=q _ g;rw[e]at this;rw[HX];exact this
    refine⟨_,rfl,λF hF=>?_⟩;walk_at "st"
    by_cases h399 : 399<l.length
    ·rw[if_pos (.inl h399)]at U;rw[if_pos (by omega)]
     walk_at "st";exact bad (gD.trans J) U
    rw[if_neg (by omega)]
    refine Er (by omega) (L x.1 (by simp[Y])) (HI x.1 (by simp[Y])) (J _ _ e6) λHY HP=>⟨_,rfl,?_⟩
    have gE:=(gD.trans J).trans HP
    cases hP:bC x.1 L0 L1 L2 with
    | false =>
      rw[hP,if_pos (.inr rfl)]at U;rw[if_pos (by decide)]
      walk_at "st";exact bad gE U
    | true =>
      rw[hP,if_neg (by simp;omega)]at U
      rw[if_neg (by decide)]
      exact hF _ _ ⟨⟨_,_,rfl⟩,J.trans HP,by rw[U,Jq];rfl⟩
   ·rintro ρ M10 ⟨⟨o4,o5,rfl⟩,J,U⟩;rw[KA,MA]at U;have q6:=q _ (gD.trans J);rw[U]at q6;walk_at "st";exact q6
theorem vY (w:Str):okL (av w 2)=aw w 1 81:=by
 have h:=vS (w:=w) (lo:=1) (hi:=81) (by omega)
 cases e:av w 2 with
 | none =>
   rw[e]at h;unfold okL;refine(Mk.mpr λz=>?_).symm;obtain⟨i,hi,_⟩:=h.mp z
   cases hi
 | some i =>
   rw[e]at h;unfold okL;dsimp only
   by_cases hb:aw w 1 81=true
   ·obtain⟨j,F,h1,h2⟩:=h.mp hb
    cases F
    rw[hb,decide_eq_true (show 1<=i by omega),decide_eq_true (show i<=81 by omega)];rfl
   ·have hf:aw w 1 81=false:=by simpa using hb
    rw[hf];refine Mk.mpr λz=>hb (h.mpr ⟨i,rfl,?_⟩);rw[hX,decide_eq_true_iff,decide_eq_true_iff]at z;omega
theorem B3 (row:Str):kb row=cR row:=by
 unfold kb cR;simp only[vY]
theorem B4 (h:c∉cl w):pa1 w ⟨#[c]⟩=w/\pa3 w ⟨#[c]⟩=Kb:=by
 rcases Pu w ⟨#[c]⟩ 1 (Jg 1) with⟨h0,_⟩|⟨i,r,h0,hi,hk⟩
 ·unfold pa1 pa3 JN;rw[h0];exact⟨rfl,rfl⟩
 ·have h1:=(gY _ _ _).mp hi;have h2:((cl w).drop i).take 1=[c]:=h1.2;exact absurd (JE (JZ (by rw[h2];simp:c∈((cl w).drop i).take 1))) h
theorem pM {b:Str}(h:c∉cl a):pa1 (a++⟨#[c]⟩++b) ⟨#[c]⟩=a/\pa3 (a++⟨#[c]⟩++b) ⟨#[c]⟩=b:=by
 have e:=yu (b:=b) h;rw[gp]at e;exact⟨(MB.inj e).1,(MB.inj (MB.inj (MB.inj e).2).2).1⟩
theorem cD:aA=⟨#[58]⟩:=mk1.2.1
noncomputable def ni (L:Nat) (w:Str) (a:Int):Option Nat:=match Jb w aA with
 |[h0,h1]=>if aw h1 (a+1) ((L:Nat) - 1)=true/\aw (bU h0) 1 1000=true then some (nv h1) else none
 |_=>none
theorem yB (h : 1<=x.length):cl (Ka x none (some 1))=(cl x).take 1:=by
 have e:=slice_closes_to (x:=x) (j:=1) ⟨by decide,by rw[show x.cps.toList.length=x.length from ay x];omega⟩
 have z:=Oq e;rw[z];rfl
theorem kO:cS=⟨#[45]⟩:=mk1.2.2.1
theorem vZ (x:Str):bU x=rest x:=by
 unfold bU rest du;rw[mk1.2.2.1,jW];have key:Ka x none (some 1)=cS↔(cl x)[0]? = some 45:=by
  rcases OJ x.length with z|z
  ·have h1:=Nv x none (some 1);have hx:cl x=[]:=Kn.mp (by rw[ay];exact z)
   rw[hx];constructor
   ·intro e;rw[e,kO]at h1;have:(1:Nat)<=x.length:=h1;omega
   ·intro e;cases e
  ·have h1:=yB (x:=x) z;have j:cl x≠[]:=λe=>by have:=ay x;rw[e]at this;simp at this;omega
   obtain⟨a,r,e⟩:∃ a r,cl x=a::r:=by
    cases h:cl x with
    |nil=>exact absurd h j
    |cons a r=>exact⟨a,r,rfl⟩
   rw[e]at h1 ⊢;constructor
   ·intro h;rw[h,kO,ck]at h1;have : 45=a:=by simpa using h1
    rw[<- this];rfl
   ·intro h;have F:a=45:=by simpa using h
    refine cj ?_;rw[h1,kO,ck,F];rfl
 by_cases h:Ka x none (some 1)=cS
 ·rw[if_pos h,if_pos (decide_eq_true (key.mp h))]
 ·rw[if_neg h,if_neg (by rw[decide_eq_false (λz=>h (key.mpr z))];decide)]
theorem w5 (x:Str):(∃ c,dk x=some c)↔aw (bU x) 1 1000=true:=by
 rw[vZ,D3];unfold dk
 cases e:av (rest x) 4 with
 |none=>exact⟨λz=>(by obtain⟨c,F⟩:=z;cases F),λz=>(by obtain⟨i,hi,_⟩:=z;cases hi)⟩
 | some i =>
   dsimp only;constructor
   ·rintro⟨c,F⟩
    split at F
    ·next h=>exact⟨i,rfl,h.1,h.2⟩
    ·cases F
   ·rintro⟨j,J,h1,h2⟩
    cases J
    rw[if_pos ⟨h1,h2⟩];exact⟨_,rfl⟩
variable {i:Nat}
theorem D5 {m:Nat}(h:av w m=some i):i=nv w:=by
 unfold av at h
 split at h
 ·exact(Ki.inj h).symm
 ·cases h
theorem B5 (hL:L<=81)(w:Str)(a:Int):(match dk (pa1 w aA),av (pa3 w aA) 2 with
 |some _,some i=>if a<(i:Nat)/\((i:Nat):Int)<(L:Nat) then some i else none
 |_,_=>none)=ni L w a:=by
 unfold ni;have O:=JT w aA;have hf:∀ x∈Jb w aA,58∉cl x:=λx hx=>by rw[cD]at hx;exact Ni _ 58 x hx
 have F:=Pq w aA;rw[cD]at O;rw[show JH ⟨#[58]⟩ (Jb w ⟨#[58]⟩)=JH ⟨#[58]⟩ (Jb w aA) from by rw[cD]]at O
 generalize Jb w aA=hs at *
 have J : 58∈cl (pa3 w aA)∨(pa3 w aA)=Kb->av (pa3 w aA) 2=none:=λh=>by
  unfold av;refine if_neg λz=>?_
  rcases h with h|h
  ·have:=JK.mp z.2.1 58 h;exact absurd this (by decide)
  ·rw[h]at z;exact absurd z.1.1 (by decide)
 match hs,O,hf,F with
 |[],O,hf,F=>simp at F
 |[x],O,hf,F =>
  have e:x=w:=O;have U:=(B4 (w:=w) (c:=58) (by rw[<- e];exact hf x (by simp))).2
  rw[<- cD]at U;rw[J (.inr U)]
  cases dk (pa1 w aA) <;> rfl
 | x::y::z::r,O,hf,F =>
   have e:w=x++⟨#[58]⟩++JH ⟨#[58]⟩ (y::z::r):=O.symm;have U:=(pM (b:=JH ⟨#[58]⟩ (y::z::r)) (hf x (by simp))).2
   rw[<- e,<- cD]at U;rw[J (.inl (by rw[U,cD,aM];show 58∈cl y++58::jl 58 ((z::r).map cl);simp))]
   cases dk (pa1 w aA) <;> rfl
 |[x,y],O,hf,F =>
  have e:w=x++⟨#[58]⟩++y:=O.symm;have U:=pM (b:=y) (hf x (by simp))
  rw[<- e,<- cD]at U;rw[U.1,U.2];dsimp only;have f1:=w5 x;have f2:=vS (w:=y) (lo:=a+1) (hi:=(L:Nat) - 1) (by omega)
  cases hc:dk x with
  | none =>
    rw[if_neg];intro z;obtain⟨c,Y⟩:=f1.mpr z.2;rw[hc]at Y
    cases Y
  | some c =>
    cases hi:av y 2 with
    | none =>
      rw[if_neg];intro z;obtain⟨i,Z,_⟩:=f2.mp z.1;rw[hi]at Z
      cases Z
    | some i =>
      have en:=D5 hi;dsimp only
      by_cases hr:a<(i:Nat)/\((i:Nat):Int)<(L:Nat)
      ·rw[if_pos hr,if_pos ⟨f2.mpr ⟨i,hi,by omega,by omega⟩,f1.mp ⟨c,hc⟩⟩,en]
      ·rw[if_neg hr,if_neg];intro z;obtain⟨j,HI,h1,h2⟩:=f2.mp z.1;rw[hi]at HI
       cases HI
       exact hr ⟨by omega,by omega⟩
theorem yC (w:Str)(r:List Str)(a:Int):cT L (w::r) a=(match ni L w a with|some i=>cT L r (i:Nat)|none=>false):=by
 rw[cT];unfold ni;generalize Jb w aA=l
 match l with
 |[]=>rfl
 |[x]=>rfl
 |x::y::z::r=>rfl
 |[x,y] =>
  dsimp only
  by_cases h:aw y (a+1) ((L:Nat) - 1)=true/\aw (bU x) 1 1000=true
  ·rw[if_pos h,h.1,h.2];rfl
  ·rw[if_neg h];have:(aw y (a+1) ((L:Nat) - 1)&&aw (bU x) 1 1000)=false:=Mk.mpr λz=>h (by simpa using z)
   rw[this];rfl
theorem w6 {L:Nat}(j:L<=81):∀ (ws:List Str) (ns:List Int) (a:Int),(fH L ws ns a).isSome=cT L ws a
 |[],ns,a=>rfl
 | w::r,ns,a=>by
   rw[yC,<- B5 j,fH]
   cases dk (pa1 w aA) with
   |none=>rfl
   | some c =>
     cases av (pa3 w aA) 2 with
     |none=>rfl
     | some i =>
       dsimp only
       by_cases hr:a<(i:Nat)/\((i:Nat):Int)<(L:Nat)
       ·rw[if_pos hr,if_pos hr];exact w6 j r (ns.set i c) (i:Nat)
       ·rw[if_neg hr,if_neg hr];rfl
theorem dl (J:L<=81)(t:Str):(aR t L).isSome=bK (Jb t (gV " ")) L:=by
 unfold aR bK;have F:=JT t (gV " ");have j:=Pq t (gV " ")
 by_cases h:t=gV "-"
 ·rw[if_pos h,if_pos (by rw[h];decide +kernel)];rfl
 ·rw[if_neg h,if_neg (λz=>h (by rw[z]at F;exact F.symm)),w6 J]
  have:(Jb t (gV " ")).isEmpty=false:=by
   cases hz:Jb t (gV " ") with
   |nil=>rw[hz]at j;simp at j
   |cons _ _=>rfl
  rw[this];simp
theorem rh:aq=⟨#[32,42,32]⟩:=mk3.1
theorem pN:arr=⟨#[32,62,32]⟩:=mk3.2
theorem w8:sta=⟨#[42]⟩:=by decide +kernel
theorem zk:gt=⟨#[62]⟩:=by decide +kernel
theorem nj:gV " " = ⟨#[32]⟩:=mk1.1
theorem zm {j F L2:Nat}:∀ (rs:List Str) (k:Nat),(∀ r∈rs,(bx r j F L2).isNone = !bC r j F L2)->dw j F L2 rs (k+1)=hZ j F L2 rs k
 |[],k,_=>rfl
 | r::rs,k,h=>by
   rw[dw,hZ,zm rs (k+1) λx hx=>h x (Ji _ hx),h r (by simp)]
   have:((!bC r j F L2)=true∨400<k+1)↔(399<k∨bC r j F L2=false):=by
    cases bC r j F L2 <;> simp <;> omega
   by_cases h9:(!bC r j F L2)=true∨400<k+1
   ·rw[if_pos h9,if_pos (this.mp h9)]
   ·rw[if_neg h9,if_neg (λz=>h9 (this.mpr z))]
variable {ps:List Pr}
theorem D6 (hn : 5<=n){t:Str}{rs:List Str}{U Y:Nat}(e:Jb t nl=h::rs)(hl:cR h=some [U,Y,L2])(Z:rs.map (λr=>bx r U Y L2)=ps.map some)(ht:t.length<=100000)(ha:asc t)(j:∀ w∈h::rs,w.length<=600)(hc:rs.length<=400)(q:∀ pr M',Ge M M'->M pr=none->M' pr=some (.lst (ps.map prD))->Q (.tup [.int (U:Nat),.int (Y:Nat),.int (L2:Nat),.ref pr]) M'):phi tab n 9 [.str t] M Q:=by
 refine ao (by omega) rfl rfl (ρ:=[some _,none,none,none,none,none,none]) rfl ?_
 unfold d9 b9;walk_at "st";refine⟨⟨_,rfl⟩,_,rfl,_,rfl,by rw[Ja];rfl,by rw[td];first|decide|omega,λp HM=>?_⟩
 have HI:∀ w∈h::rs,asc w:=λw hw=>by rw[<- e]at hw;unfold nl at hw;rw[mk1.2.2.2.1]at hw;exact bW ha hw
 show wSs _ _ _ [_,some _,_,_,_,_,_] (af M p (.lst ((Jb t nl).map .str)));rw[e];have g1:=Ge.new (o:=.lst ((h::rs).map .str)) HM;have e1:af M p (.lst ((h::rs).map .str)) p=some (.lst (.str h::rs.map .str)):=aa;generalize af M p (.lst ((h::rs).map .str))=M1 at g1 e1;obtain⟨_,_,_,HN,h0,h1,h2⟩:=fE hl
 cases HN
 walk_at "st";refine aE e1 (d:=.str h) (by simp[atI,ixN]) ?_
 refine zj (by omega) (j h (by simp)) (HI h (by simp)) λM2 g2=>?_
 rw[hl];unfold dL;walk_at "st";refine⟨false,rfl,false,rfl,?_⟩;rw[if_neg J9];walk_at "st";refine⟨Kk _,λp2 J=>?_⟩;have HJ:M p2=none:=by
  cases e:M p2 with
  |none=>rfl
  |some o=>rw[g2 _ _ (g1 _ _ e)]at J;cases J
 have e2:af M2 p2 (.lst []) p2=some (.lst []):=aa;have e3:=Ge.new (o:=.lst []) J _ _ (g2 _ _ e1);have g3:=(g1.trans g2).trans (Ge.new (o:=.lst []) J);generalize af M2 p2 (.lst [])=M3 at e2 e3 g3;walk_at "st";refine⟨_,e3,λp3 O=>?_⟩;rw[fO];have HP:p3≠p2:=λz=>by subst z;rw[e2]at O;cases O
 have e4:af M3 p3 (.lst (rs.map .str)) p3=some (.lst (rs.map .str)):=aa;have g4:=Ge.new (o:=.lst (rs.map .str)) O;have e5:=g4 _ _ e2;have g5:=g3.trans g4;generalize af M3 p3 (.lst (rs.map .str))=M4 at e4 g4 e5 g5;refine⟨_,rfl,_,e4,?_⟩;rw[m6];have HQ:rs.length=ps.length:=by have:=congrArg Sz Z;simpa using this
 refine bE (I:=λl ρ M'=>(∃ o4 o5 o6,ρ = [some (.str t),some (.ref p),some (.tup [.int (U:Nat),.int (Y:Nat),.int (L2:Nat)]),some (.ref p2),o4,o5,o6])/\Ge M M'/\M' p2=some (.lst ((ps.take l.length).map prD))/\M' p3=some (.lst (rs.map .str))) (ys:=rs.zipIdx) (f:=λx=>.tup [.int ((x.2:Nat)+1),.str x.1]) rfl ⟨⟨_,_,_,rfl⟩,g5,e5,e4⟩ (λ_ _ _ hI=>ah hI.2.2.2) ?_ ?_
 ·rintro l x r ρ M5 ee ⟨⟨o4,o5,o6,rfl⟩,g6,e6,e7⟩;have HR:=aD ee;rw[KA]at HR;obtain⟨HU,HK⟩:=pL ee;have L:x.1∈rs:=JE (i:=l.length) (by rw[HK];simp)
  have HS:rs[l.length]? = some x.1:=by
   have:=congrArg (λz=>z.head?) HK;simpa[List.head?_drop]using this
  obtain⟨pr,HL⟩:∃ pr,ps[l.length]? = some pr:=⟨_,Jh (by omega)⟩
  have hP:bx x.1 U Y L2=some pr:=by
   have:=congrArg (λz=>z[l.length]?) Z;simp only[JF,HS,HL,Lx]at this;exact Ki.inj this
  refine⟨_,rfl,λF hF=>?_⟩;walk_at "st";refine zi (by omega) (j x.1 (by simp[L])) (HI x.1 (by simp[L])) h0.2 h1.2 h2.2 λM6 g7=>?_
  rw[hP];unfold dP;have e8:=g7 _ _ e6;have e9:=g7 _ _ e7;walk_at "st";refine⟨false,rfl,false,rfl,?_⟩;rw[if_neg J9,if_neg (by omega)]
  walk_at "st";refine⟨⟨_,e8⟩,_,_,_,rfl,rfl,e8,by rw[Jc,Jx,td];omega,?_⟩
  refine hF _ _ ⟨⟨_,_,_,rfl⟩,λa o ea=>?_,?_,by rw[ax HP];exact e9⟩
  ·rw[ax (λz=>by rw[z,HJ]at ea;cases ea)];exact g7 _ _ (g6 _ _ ea)
  ·rw[aa,Jq,JP,S8,HL,Jv];rfl
 ·rintro ρ M5 ⟨⟨o4,o5,o6,rfl⟩,g6,e6,e7⟩;rw[KA,HQ,Pt]at e6;walk_at "st";exact⟨by rw[td];first|decide|omega,.inr trivial,by rw[td];first|decide|omega,q p2 _ g6 HJ e6⟩
theorem pO {c:Nat}:∀ {xs ys:List (List Nat)},xs≠[]->ys≠[]->jl c (xs++ys)=jl c xs++c::jl c ys
 |[x],y::r,_,_=>by simp only[NJ,Md];rfl
 | x::j::r,ys,_,h=>by
   have e:=pO (c:=c) (xs:=j::r) (ys:=ys) (by simp) h
   show x++c::jl c ((j::r)++ys)=(x++c::jl c (j::r))++c::jl c ys;rw[e];simp
theorem cU (t:Str)(c:Nat):Jb t ⟨#[c]⟩≠[]:=λh=>by
 have:=Pq t ⟨#[c]⟩;rw[h]at this;simp at this
theorem ke {A B:Str}{g:Nat}(L:g≠32):Jb (A++⟨#[32,g,32]⟩++B) ⟨#[32]⟩=Jb A ⟨#[32]⟩++⟨#[g]⟩::Jb B ⟨#[32]⟩:=by
 have z:=congrArg cl (JT A ⟨#[32]⟩);have j:=congrArg cl (JT B ⟨#[32]⟩);rw[aM]at z j;have e:A++⟨#[32,g,32]⟩++B=JH ⟨#[32]⟩ (Jb A ⟨#[32]⟩++⟨#[g]⟩::Jb B ⟨#[32]⟩):=by
  refine cj ?_;rw[aM,Jv,Jp,pO (by simp[cU]) (by simp),z,aF,aF]
  obtain⟨b,r,F⟩:∃ b r,Jb B ⟨#[32]⟩=b::r:=by
   cases h:Jb B ⟨#[32]⟩ with
   |nil=>exact absurd h (cU B 32)
   |cons b r=>exact⟨b,r,rfl⟩
  rw[F]at j ⊢;rw[Jp]at j ⊢;show cl A++[32,g,32]++cl B=cl A++32::([g]++32::jl 32 (cl b::r.map cl));rw[j];simp
 rw[e];refine gk (by simp) λy J=>?_
 rcases Jz.mp J with h|h
 ·exact Ni _ 32 y h
 ·rcases Jl.mp h with rfl|h
  ·rw[ck];simp;omega
  ·exact Ni _ 32 y h
theorem fF (x y:Str):(pa1 x y=x/\pa3 x y=Kb /\ ∀ i,¬ Q0 x y x.length i)∨x=pa1 x y++y++pa3 x y:=by
 rcases Pu x y 1 (Jg 1) with⟨h0,j⟩|⟨i,r,h0,hi,hk⟩
 ·refine .inl ?_;unfold pa1 pa3 JN;rw[h0];exact⟨rfl,rfl,j⟩
 ·refine .inr ?_;obtain⟨F,he⟩:=(gY _ _ _).mp hi;unfold pa1 pa3 JN;rw[h0];dsimp only;refine cj ?_;rw[aF,aF,fN,fN,<- he,Nat.sub_zero,Mu];have z:((cl x).drop (i+y.length)).take (x.length - (i+y.length))=(cl x).drop (i+y.length):=NA (by rw[JG,ay];exact Jg _)
  rw[z,<- Ms,Ku,Kw,Kw]
theorem kf {y b:Str}:(a++y++b)=pa1 (a++y++b) y++y++pa3 (a++y++b) y:=by
 rcases fF (a++y++b) y with⟨_,_,h⟩|h
 ·refine absurd ?_ (h a.length);rw[gY,aF,aF,Jf,Jf];refine⟨by omega,?_⟩
  rw[<- ay,<- ay,Ku,Ny,Nz]
 ·exact h
theorem j8 {α:Type}{s : α}:∀ {a b c d:List α},a++s::b=c++s::d->s∉a->s∉c->a=c/\b=d
 |[],b,[],d,h,_,_=>⟨rfl,(MB.inj h).2⟩
 |[],b,x::c,d,h,_,j=>absurd (by rw[(MB.inj h).1];exact K0) j
 |x::a,b,[],d,h,F,_=>absurd (by rw[<- (MB.inj h).1];exact K0) F
 | x::a,b,y::c,d,h,F,j=>by
   obtain⟨J,L⟩:=MB.inj h;obtain⟨O,U⟩:=j8 L (λz=>F (Ji _ z)) (λz=>j (Ji _ z));exact⟨by rw[J,O],U⟩
theorem sign_split:Jb sta aA=[sta]/\Jb gt aA=[gt]:=by decide +kernel
theorem sign_ne:sta≠cS/\gt≠cS:=by decide +kernel
theorem rj {L:Nat}:∀ {ws:List Str} {a:Int},cT L ws a=true->sta∉ws/\gt∉ws
 |[],_,_=>⟨by simp,by simp⟩
 | w::r,a,h=>by
   rw[cT]at h
   split at h
   ·rename_i h0 h1 e;obtain⟨j,F⟩:=rj (hX _ _ ▸ h).2;refine⟨λz=>?_,λz=>?_⟩
    ·rcases Jl.mp z with rfl|z
     ·rw[sign_split.1]at e;simp at e
     ·exact j z
    ·rcases Jl.mp z with rfl|z
     ·rw[sign_split.2]at e;simp at e
     ·exact F z
   ·cases h
theorem fP (h:bK ws L=true):ws≠[]/\sta∉ws/\gt∉ws:=by
 unfold bK at h
 split at h
 ·rename_i e;subst e;exact⟨by simp,by simpa using sign_ne.1,by simpa using sign_ne.2⟩
 ·obtain⟨h1,h2⟩:=hX _ _ ▸ h;refine⟨λz=>by rw[z]at h2;simp at h2,rj h1⟩
theorem fb:sta≠gt:=by decide +kernel
theorem pP {s:Str}:∀ {xs ys:List Str},s∉xs->Th s (xs++s::ys)=xs.length
 |[],ys,_=>by simp[Q6]
 | x::r,ys,h=>by
   have h1:x≠s:=λz=>h (by rw[z];exact K0)
   rw[NJ,Q6,beq_false_of_ne h1,pP (xs:=r) (ys:=ys) λz=>h (Ji _ z)];rfl
variable {z:Nat}
theorem tR {zs:List Str}(e:Jb row (gV " ")=xs++sta::(ys++gt::zs))(sx:sta∉xs)(sy:sta∉ys)(sz:sta∉zs)(gx:gt∉xs)(gy:gt∉ys)(gz:gt∉zs) :
 bC row j z L2=(bK xs j&&(bK ys z&&bK zs L2)):=by
 unfold bC;rw[e];have F:Th sta (xs++sta::(ys++gt::zs))=xs.length:=pP sx;have ea:xs++sta::(ys++gt::zs)=(xs++sta::ys)++gt::zs:=by simp
 have ng:gt∉xs++sta::ys:=by simp[gx,gy,Ne.symm fb]
 have J:Th gt (xs++sta::(ys++gt::zs))=xs.length+(ys.length+1):=by
  rw[ea,pP ng,Jq,Jr]
 have L:Rt sta (xs++sta::(ys++gt::zs))=1:=by
  simp[LD,MZ,JA sx,JA sy,JA sz,beq_false_of_ne (Ne.symm fb),Ne.symm fb]
 have O:Rt gt (xs++sta::(ys++gt::zs))=1:=by
  simp[LD,MZ,JA gx,JA gy,JA gz,fb]
 dsimp only;rw[L,O,F,J,if_pos ⟨rfl,rfl,by omega⟩]
 have t1:(xs++sta::(ys++gt::zs)).take xs.length=xs:=Nz;have d1:(xs++sta::(ys++gt::zs)).drop (xs.length+1)=ys++gt::zs:=by
  rw[<- Ms,Ny];rfl
 have d2:(xs++sta::(ys++gt::zs)).drop (xs.length+(ys.length+1)+1)=zs:=by
  rw[show xs.length+(ys.length+1)+1=(xs.length+1)+(ys.length+1) by omega,<- Ms,d1,<- Ms,Ny];rfl
 rw[t1,d1,d2,show xs.length+(ys.length+1) - (xs.length+1)=ys.length by omega,Nz]
theorem wa (j:L<=81):aR Kb L=none:=by
 have h:=dl j Kb;have e:Jb Kb (gV " ")=[Kb]:=by decide +kernel
 have z:Jb Kb aA=[Kb]:=by decide +kernel
 have F:bK [Kb] L=false:=by
  unfold bK;rw[if_neg (by decide +kernel),cT,z]
  rfl
 rw[e,F]at h
 cases hs:aR Kb L with
 |none=>rfl
 |some x=>rw[hs]at h;cases h
theorem kg (A B:Str):Jb (A++aq++B) (gV " ")=Jb A (gV " ")++sta::Jb B (gV " "):=by
 rw[nj,rh,w8];exact ke (by decide)
theorem mf (A B:Str):Jb (A++arr++B) (gV " ")=Jb A (gV " ")++gt::Jb B (gV " "):=by
 rw[nj,pN,zk];exact ke (by decide)
theorem wb (h0:j<=81)(h1:F<=81)(h2:L2<=81)(h:(bx row j F L2).isSome=true) :
 bC row j F L2=true/\row=pa1 row aq++aq++(pa1 (pa3 row aq) arr++arr++pa3 (pa3 row aq) arr):=by
 unfold bx at h;have fA:=dl h0 (pa1 row aq);have fB:=dl h1 (pa1 (pa3 row aq) arr);have fC:=dl h2 (pa3 (pa3 row aq) arr)
 cases hA:aR (pa1 row aq) j with
 |none=>rw[hA]at h;cases h
 |some x =>
 cases L:aR (pa1 (pa3 row aq) arr) F with
 |none=>rw[hA,L]at h;cases h
 |some y =>
 cases J:aR (pa3 (pa3 row aq) arr) L2 with
 |none=>rw[hA,L,J]at h;cases h
 |some z =>
 rw[hA]at fA;rw[L]at fB;rw[J]at fC;have O:pa3 row aq=pa1 (pa3 row aq) arr++arr++pa3 (pa3 row aq) arr:=by
  rcases fF (pa3 row aq) arr with⟨_,e,_⟩|e
  ·rw[e,wa h2]at J;cases J
  ·exact e
 have Y:row=pa1 row aq++aq++pa3 row aq:=by
  rcases fF row aq with⟨_,e,_⟩|e
  ·rw[e]at O;have:=congrArg Rc O;rw[Jf,Jf,pN]at this;have Z:Str.empty.length=0:=rfl;have z3:(⟨#[32,62,32]⟩:Str).length=3:=rfl;omega
  ·exact e
 have U:=Y;rw[O]at U;obtain⟨_,sA,gA⟩:=fP fA.symm;obtain⟨_,sB,gB⟩:=fP fB.symm;obtain⟨_,sC,gC⟩:=fP fC.symm;refine⟨?_,U⟩;have ew:Jb row (gV " ")=Jb (pa1 row aq) (gV " ")++sta::(Jb (pa1 (pa3 row aq) arr) (gV " ")++gt::Jb (pa3 (pa3 row aq) arr) (gV " ")):=by
  rw[<- mf,<- kg,<- U]
 rw[tR ew sA sB sC gA gB gC,<- fA,<- fB,<- fC];rfl
theorem rl {s:Str}(h:s∈ws):ws=ws.take (ws.idxOf s)++s::ws.drop (ws.idxOf s+1):=by
 have j:=Ml h
 conv=>lhs;rw[<- Kw (ws.idxOf s) ws]
 rw[K5 j,L6]
theorem wc (h:bC row j F L2=true) :
 ∃ xs ys zs,Jb row (gV " ")=xs++sta::(ys++gt::zs)/\bK xs j=true/\bK ys F=true/\bK zs L2=true:=by
 unfold bC at h;dsimp only at h;generalize Jb row (gV " ")=ws at h
 split at h
 ·rename_i O;obtain⟨Z,c2,c3⟩:=O;have J:sta∈ws:=Lq.mp (by omega)
  have L:gt∈ws:=Lq.mp (by omega)
  have U:=rl J;have e2:=rl L;have l1:=Ml J;have l2:=Ml L;have Y:ws.idxOf sta≠ws.idxOf gt:=λz=>by
   have g1:ws[ws.idxOf sta]=sta:=L6 l1;have g2:ws[ws.idxOf gt]=gt:=L6 l2;simp only[z]at g1;exact fb (g1.symm.trans g2)
  rw[hX,hX]at h;refine⟨_,(ws.drop (ws.idxOf sta+1)).take (ws.idxOf gt - (ws.idxOf sta+1)),ws.drop (ws.idxOf gt+1),?_,h.1,h.2.1,h.2.2⟩
  conv=>lhs;rw[U]
  congr 2
  conv=>lhs;rw[<- Kw (ws.idxOf gt - (ws.idxOf sta+1)) (ws.drop (ws.idxOf sta+1))]
  rw[Ms,show ws.idxOf sta+1+(ws.idxOf gt - (ws.idxOf sta+1))=ws.idxOf gt by omega,K5 l2,L6]
 ·cases h
theorem mj {g:Nat}(hx:xs≠[])(j:ys≠[]):JH ⟨#[32]⟩ (xs++⟨#[g]⟩::ys)=JH ⟨#[32]⟩ xs++⟨#[32,g,32]⟩++JH ⟨#[32]⟩ ys:=by
 refine cj ?_;rw[aM,Jv,Jp,pO (by simpa using hx) (by simp),aF,aF,aM,aM]
 obtain⟨b,r,rfl⟩:=OI j;show _++32::([g]++32::jl 32 (cl b::r.map cl))=_++[32,g,32]++jl 32 (cl b::r.map cl);simp
theorem yD (h0:j<=81)(h1:F<=81)(h2:L2<=81)(h:bC row j F L2=true):(bx row j F L2).isSome=true:=by
 obtain⟨xs,ys,zs,e,fx,fy,fz⟩:=wc h;obtain⟨nx,sx,gx⟩:=fP fx;obtain⟨ny,sy,gy⟩:=fP fy;obtain⟨nz,sz,gz⟩:=fP fz;have J:=JT row (gV " ");rw[e,nj,w8,mj nx (by simp),<- rh]at J
 have L:=kf (a:=JH ⟨#[32]⟩ xs) (y:=aq) (b:=JH ⟨#[32]⟩ (ys++gt::zs));rw[J]at L;have O:Jb (pa1 row aq) (gV " ")++sta::Jb (pa3 row aq) (gV " ")=xs++sta::(ys++gt::zs):=by
  rw[<- kg,<- L,e]
 have cn:Rt sta (xs++sta::(ys++gt::zs))=1:=by
  simp[LD,MZ,JA sx,JA sy,JA sz,beq_false_of_ne (Ne.symm fb),Ne.symm fb]
 have na:sta∉Jb (pa1 row aq) (gV " "):=λz=>by
  have:=Lq.mpr z;rw[<- O,LD,Qw]at cn;omega
 obtain⟨eA,eR⟩:=j8 O na sx;have hr:=JT (pa3 row aq) (gV " ");rw[eR,nj,zk,mj ny nz,<- pN]at hr;have p2:=kf (a:=JH ⟨#[32]⟩ ys) (y:=arr) (b:=JH ⟨#[32]⟩ zs);rw[hr]at p2;have U:Jb (pa1 (pa3 row aq) arr) (gV " ")++gt::Jb (pa3 (pa3 row aq) arr) (gV " ")=ys++gt::zs:=by
  rw[<- mf,<- p2,eR]
 have cg:Rt gt (ys++gt::zs)=1:=by
  simp[LD,MZ,JA gy,JA gz]
 have nb:gt∉Jb (pa1 (pa3 row aq) arr) (gV " "):=λz=>by
  have:=Lq.mpr z;rw[<- U,LD,Qw]at cg;omega
 obtain⟨eB,eC⟩:=j8 U nb gy;have fA:=dl h0 (pa1 row aq);have fB:=dl h1 (pa1 (pa3 row aq) arr);have fC:=dl h2 (pa3 (pa3 row aq) arr);rw[eA,fx]at fA;rw[eB,fy]at fB;rw[eC,fz]at fC;unfold bx;obtain⟨x,hx⟩:=K8.mp fA;obtain⟨y,Y⟩:=K8.mp fB;obtain⟨z,Z⟩:=K8.mp fC;rw[hx,Y,Z];rfl
theorem B6 (h0:j<=81)(h1:z<=81)(h2:L2<=81):(bx row j z L2).isNone = !bC row j z L2:=by
 cases hp:bx row j z L2 with
 |some x=>rw[(wb h0 h1 h2 (by rw[hp];rfl)).1];rfl
 | none =>
   cases hf:bC row j z L2 with
   |false=>rfl
   |true=>have:=yD h0 h1 h2 hf;rw[hp]at this;cases this
theorem rp (t:Str):hV t=fbO t:=by
 unfold hV fbO
 cases e:Jb t nl with
 |nil=>rfl
 | cons h rs =>
   dsimp only;rw[B3]
   cases hl:cR h with
   |none=>rfl
   | some ls =>
     obtain⟨a,b,c,rfl,h0,h1,h2⟩:=fE hl;exact zm rs 0 λr j=>B6 h0.2 h1.2 h2.2
theorem pQ {m:Nat}(h:av w m=some i):w=tx (i:Nat)/\i=nv w:=by
 unfold av at h
 split at h
 ·rename_i j;obtain⟨⟨l1,_⟩,hd,hk⟩:=j
  cases h
  exact⟨((fw hd l1).mpr hk).symm,rfl⟩
 ·cases h
theorem B7 {a b:Nat}(e:cR h=some [a,b,c]):h=az a b c:=by
 unfold cR at e;have O:=JT h (gV " ");dsimp only at e;generalize Jb h (gV " ")=ws at e O
 split at e
 ·rename_i Y;obtain⟨Z,J⟩:=Y
  split at e
  ·rename_i ha
   match ws,Z,J with
   |[w0,j,z,F],_,J =>
    have h0:w0=gV "scheme":=by simpa using J
    have he : [nv j,nv z,nv F]=[a,b,c]:=by simpa using e
    have L:∀ w∈[j,z,F],okL (av w 2)=true:=JK.mp ha;have t:∀ w∈[j,z,F],w=tx (nv w:Nat):=λw hw=>(pQ (pK (L w hw))).1;have t1:=t j (by simp);have U:=t z (by simp);have t3:=t F (by simp)
    injection he with e1 e;injection e with e2 e;injection e with e3 e
    rw[e1]at t1;rw[e2]at U;rw[e3]at t3;rw[jX,<- O,h0,<- t1,<- U,<- t3]
  ·cases e
 ·cases e
theorem bR (j : 2<=n):pA tab n 13:=λz h1 h2 q=>AR (s:=al 23) (fm:=11) rfl (λq=>pw (s:=al 21) rfl (by omega) q) j z h1 h2 q
theorem tS (z : 3<=n):pB tab n 14:=λj q=>vL (s:=al 24) (ft:=13) rfl (bR (by omega)) (by omega) j q
theorem yE (F : 4<=n):vN tab n 15:=λj z q=>AS (s:=al 25) (fn:=14) rfl (tS (by omega)) (by omega) j z q
theorem tj (s:Str)(ts:List Str):Ta s ts=JH s ts:=StrLaws.glued_eq_join s ts
theorem D7 {a b c d:D}(q:Q (.tup [a,b,c]) M):dy (.tup [a,b,c,d]) none (some 3) M Q:=q
variable {ns:List Int}
theorem D8 (L : 1<=n)(U:ns.length<=1000)(q:∀ p,M p=none->Q (.ref p) (af M p (.lst ((fl ns).map λx=>.tup [.int (x.2:Nat),.int x.1])))):phi tab n 0 [.tup (ns.map .int)] M Q:=by
 refine ao L rfl rfl (ρ:=[some _]) rfl ?_;unfold d0 b0;walk_at "st";rw[pF];refine aT (I:=λl ρ M' acc=>(∃ z F,ρ = [z,F])/\M'=M/\acc=(l.filter λp=>p.1 != 0).map λx=>.tup [.int (x.2:Nat),.int x.1]) (ys:=ns.zipIdx) (f:=λp=>.tup [.int (p.2:Nat),.int p.1]) rfl ⟨⟨_,_,rfl⟩,rfl,rfl⟩ (λ_ _ _ _ _=>trivial) ?_ ?_
 ·rintro l x r ρ M1 acc e ⟨⟨z,F,rfl⟩,rfl,rfl⟩;have j:=aD e;rw[KA]at j;refine⟨_,rfl,λN J=>?_⟩;walk_at "wp";have O:=NB (λp:Int×Nat=>p.1 != 0) l
  split
  ·next hx =>
   exact⟨by rw[td];first|decide|omega,by rw[Jc,td];omega,J _ _ _ ⟨⟨_,_,rfl⟩,rfl,by rw[Mb,Jv,LQ (p:=λp:Int×Nat=>p.1 != 0) (a:=x) hx];rfl⟩⟩
  ·next hx=>exact J _ _ _ ⟨⟨_,_,rfl⟩,rfl,by rw[Mb,LR (p:=λp:Int×Nat=>p.1 != 0) (a:=x) hx];simp⟩
 ·rintro ρ M1 acc ⟨_,rfl,rfl⟩ p hp;exact q p hp
theorem Es (hn : 1<=n){c:Int}(hc : -1000<=c/\c<=1000)(q:∀ M',Ge M M'->Q (.str (tx c)) M'):phi tab n 1 [.int c] M Q:=by
 refine ao hn rfl rfl (ρ:=[some _,none,none,none]) rfl ?_;unfold d1 b1;walk_at "st";refine⟨Kk _,λp Z=>?_⟩;have j:(if c<0 then -c else c).natAbs<10 ^ 4:=by split <;> omega
 have J : ¬ ((if c<0 then -c else c)≥(10:Int) ^ 50):=by
  have:(10:Int) ^ 50 > 1000:=by decide
  split <;> omega
 generalize L:(if c<0 then -c else c)=a at j J
 walk_at "st";refine⟨1,?_⟩;unfold ba;walk_at "wp";refine⟨by decide,by decide,by decide,?_⟩
 rw[if_neg (by exact J)]
 have U:af M p (.lst []) p=some (.lst []):=aa;have g1:=Ge.new (o:=.lst []) Z;generalize af M p (.lst [])=Y at U g1;have ab:∀ o,Ge M (af Y p o):=λo a o' ea=>by rw[ax (λz=>by rw[z,Z]at ea;cases ea)];exact g1 _ _ ea
 walk_at "st";refine⟨⟨_,U⟩,_,rfl,cJ j,_,_,_,rfl,rfl,U,by rw[td];decide,?_⟩
 walk_at "st";have hl:=aX j;have l0:(gV "").length=0:=by rw[Ja];rfl
 have l1:(gV "-").length=1:=by rw[Ja];rfl
 have fin:∀ p2,af Y p (.lst ([]++[.str (tx a)])) p2=none->Ge M (af (af Y p (.lst ([]++[.str (tx a)]))) p2 (.lst [.str (tx a)])):=λp2 h2=>(ab _).trans (Ge.new h2);have O:Ta (gV "") [tx a]=tx a:=tj _ _;have hs:(Mf (λx=>x.length) [tx a]).sum+[tx a].length*(gV "").length<=16777216:=by
  simp only[Jp,KO,NT,S9,l0];omega
 split
 ·next h =>
  refine⟨⟨_,rfl⟩,_,aa,λp2 F=>⟨_,rfl,[tx a],aa,hs,?_⟩⟩;refine⟨by rw[O,l1,td];omega,?_⟩
  rw[O];have e:=q _ (fin p2 F);have ec:gV "-" ++ tx a=tx c:=by rw[if_pos h]at L;rw[<- L];exact vO h
  rw[ec];exact e
 ·next h =>
  refine⟨⟨_,rfl⟩,_,aa,λp2 F=>⟨_,rfl,[tx a],aa,hs,?_⟩⟩;refine⟨by rw[O,l0,td];omega,?_⟩
  rw[O];have e:=q _ (fin p2 F);have ec:gV "" ++ tx a=tx c:=by rw[if_neg h]at L;rw[<- L];exact NL _
  rw[ec];exact e
theorem pR:∀ ns:List Int,aH iU (ns.map .int)=some (ns.map λx=>x != 0)
 |[]=>rfl
 |x::r=>by rw[Jp,aH,pR r];rfl
theorem D9:(ns.map λx=>x != 0).any id = !(fl ns).isEmpty:=by
 have:∀ (l:List Int) (k:Nat),(l.map λx=>x != 0).any id = !((l.zipIdx k).filter λp=>p.1 != 0).isEmpty:=by
  intro l
  induction l with
  |nil=>intro k;rfl
  | cons x r ih =>
    intro k;rw[Mz,Jp,Li,ih (k+1)]
    cases hx:(x != 0) with
    |true=>rw[LQ (by exact hx)];rfl
    |false=>rw[LR (by rw[hx];decide)];rfl
 exact this ns 0
theorem tT (hn : 2<=n)(z:bI ns)(F:ns.length<=1000)(q:∀ M',Ge M M'->Q (.str (bb ns)) M'):phi tab n 2 [.tup (ns.map .int)] M Q:=by
 refine ao (by omega) rfl rfl (ρ:=[some _]) rfl ?_
 unfold d2 b2;walk_at "st";refine⟨_,_,_,rfl,pj,pR ns,?_⟩;refine⟨_,rfl,?_⟩;rw[D9]
 cases hx:(fl ns).isEmpty with
 | true =>
   have:bb ns=gV "-":=by unfold bb;rw[if_pos hx]
   rw[<- this];exact q _ Ge.refl
 | false =>
   have j:bb ns=JH (gV " ") ((fl ns).map bv):=by unfold bb;rw[if_neg (by rw[hx];decide)]
   refine(if_pos (by decide)).mpr ⟨⟨_,rfl⟩,?_⟩
   refine D8 (by omega) F λp hp=>?_
   have g1:=Ge.new (o:=.lst ((fl ns).map λx=>.tup [.int (x.2:Nat),.int x.1])) hp;have J:af M p (.lst ((fl ns).map λx=>.tup [.int (x.2:Nat),.int x.1])) p=some (.lst ((fl ns).map λx=>.tup [.int (x.2:Nat),.int x.1])):=aa;generalize af M p (.lst ((fl ns).map λx=>.tup [.int (x.2:Nat),.int x.1]))=M1 at g1 J;refine⟨_,ah J,?_⟩;refine aT (I:=λl ρ M' acc=>(∃ U Y,ρ = [U,Y])/\Ge M1 M'/\acc=(l.map bv).map .str) (ys:=fl ns) (f:=λx=>.tup [.int (x.2:Nat),.int x.1]) rfl ⟨⟨_,_,rfl⟩,Ge.refl,rfl⟩ (λ_ _ _ _ h=>ah (h.2.1 _ _ J)) ?_ ?_
   ·rintro l x r ρ M2 acc e ⟨⟨U,Y,rfl⟩,g2,rfl⟩;have HI:=aD e;have hm:x∈fl ns:=by rw[e];simp
    have L:=gX ns;obtain⟨h1,h2⟩:=pE hm;have O:=z _ h1;have la:=aX (i:=x.1) (by omega)
    have lb:=aX (i:=(x.2:Int)) (by omega)
    have lc:(gV ":").length=1:=by rw[Ja];rfl
    refine⟨_,rfl,λN hN=>?_⟩;walk_at "wp";refine Es (by omega) O λM3 g3=>?_
    have le:(Kb:Str).length=0:=rfl;have hw:Kb++tx x.1++gV ":" ++ tx (x.2:Nat)=bv x:=by unfold bv;rw[NL]
    have HJ:=gj z F hm;refine⟨by rw[td];first|decide|omega,_,rfl,by rw[Jf,le,td];omega,_,rfl,by rw[Jf,Jf,le,lc,td];omega,cJ (by omega),_,rfl,?_⟩
    have Z:(Kb++tx x.1++gV ":" ++ tx (x.2:Nat)).length<=Je:=by rw[hw,td];omega
    refine⟨Z,Z,by rw[Jc,Jc,td];omega,hN _ _ _ ⟨⟨_,_,rfl⟩,g2.trans g3,?_⟩⟩
    rw[Jv,Jv,Jp,Jp,<- hw];rfl
   ·rintro ρ M2 acc ⟨_,g2,rfl⟩ p2 hp2;have hB:∀ t∈(fl ns).map bv,t.length<=11:=by
     intro t ht;obtain⟨y,hy,rfl⟩:=K1.mp ht;exact gj z F hy
    have ls:=fM hB;have L:=gX ns;have lsep:(gV " ").length=1:=by rw[Ja];rfl
    refine⟨_,rfl,(fl ns).map bv,aa,by rw[lsep];rw[Jc]at ls ⊢;omega,?_⟩
    rw[tj,<- j];exact q _ ((g1.trans g2).trans (Ge.new hp2))
noncomputable def iw (a b c:Nat) (ps:List Pr):Str:=JH (gV "\n") (az a b c::ps.map aU)
theorem pS (L:∀ p∈ps,di j z L2 p)(h0:j<=100)(h1:z<=100)(h2:L2<=100)(U:ps.length<=100) :
 ((az j z L2::ps.map aU).map (·.length)).sum+(az j z L2::ps.map aU).length*(gV "\n").length<=16777216:=by
 have O:∀ t∈az j z L2::ps.map aU,t.length<=36006:=by
  intro t F
  rcases Jl.mp F with rfl|F
  ·have a:=aX (i:=(j:Int)) (by omega)
   have b:=aX (i:=(z:Int)) (by omega)
   have c:=aX (i:=(L2:Int)) (by omega)
   have d:(gV "scheme ").length=7:=by rw[Ja];rfl
   have e:(gV " ").length=1:=by rw[Ja];rfl
   unfold az;simp only[Jf];omega
  ·obtain⟨p,J,rfl⟩:=K1.mp F;exact yt (L p J) (by omega) (by omega) (by omega)
 have ls:=fM O;have e:(gV "\n").length=1:=by rw[Ja];rfl
 rw[e];rw[Jr,Jc]at ls ⊢;omega
theorem Da (hn : 3<=n){J:Nat}{pr:Addr}(Z:∀ p∈ps,di F J L2 p)(h0:F<=100)(h1:J<=100)(h2:L2<=100)(hc:ps.length<=100)(h:M pr=some (.lst (ps.map prD)))(q:∀ M',Ge M M'->Q (.str (iw F J L2 ps)) M'):phi tab n 3 [.tup [.int F,.int J,.int L2,.ref pr]] M Q:=by
 refine ao (by omega) rfl rfl (ρ:=[some _,none,none,none,none,none]) rfl ?_
 unfold d3 b3;have a:(gV (Ko (F:Int))).length<=5:=aX (i:=(F:Int)) (by omega)
 have b:(gV (Ko (J:Int))).length<=5:=aX (i:=(J:Int)) (by omega)
 have c:(gV (Ko (L2:Int))).length<=5:=aX (i:=(L2:Int)) (by omega)
 have d:(gV "scheme ").length=7:=by rw[Ja];rfl
 have e:(gV " ").length=1:=by rw[Ja];rfl
 have le:(Kb:Str).length=0:=rfl;walk_at "st";walk_at "st";refine⟨_,rfl,by simp only[Jf,le,d,td];omega,cJ (by omega),_,rfl,by simp only[Jf,le,d,td];omega,
  _,rfl,by simp only[Jf,le,d,e,td];omega,cJ (by omega),_,rfl,by simp only[Jf,le,d,e,td];omega,
  _,rfl,by simp only[Jf,le,d,e,td];omega,cJ (by omega),_,rfl,by simp only[Jf,le,d,e,td];omega,by simp only[Jf,le,d,e,td];omega,by rw[td];first|decide|omega,λp L=>?_⟩
 have hh:Kb++gV "scheme " ++ gV (Ko (F:Int))++gV " " ++ gV (Ko (J:Int))++gV " " ++ gV (Ko (L2:Int))=az F J L2:=by rw[NL];rfl
 rw[hh];have g1:=Ge.new (o:=.lst [.str (az F J L2)]) L;have e1:af M p (.lst [.str (az F J L2)]) p=some (.lst [.str (az F J L2)]):=aa;generalize af M p (.lst [.str (az F J L2)])=M1 at g1 e1;have U:M p=none:=L;have ab:∀ O o,Ge M1 O->Ge M (af O p o):=λO o g2 x o' ea=>by rw[ax (λz=>by rw[z,U]at ea;cases ea)];exact g2 _ _ (g1 _ _ ea)
 walk_at "st";refine⟨_,ah (g1 _ _ h),?_⟩;refine aT (I:=λl ρ M' acc=>(∃ o1 o2 o3,ρ = [o1,o2,o3])/\Ge M1 M'/\acc=(l.map aU).map .str) (ys:=ps) (f:=prD) rfl ⟨⟨_,_,_,rfl⟩,Ge.refl,rfl⟩ (λ_ _ _ _ hI=>ah (hI.2.1 _ _ (g1 _ _ h))) ?_ ?_
 ·rintro l x r ρ O acc ee ⟨⟨o1,o2,o3,rfl⟩,g2,rfl⟩;have HI:=aD ee;have j:=Z x (by rw[ee];simp)
  have s0:=bQ j.s0 (by rw[j.l0];omega)
  have s1:=bQ j.s1 (by rw[j.l1];omega)
  have s2:=bQ j.s2 (by rw[j.l2];omega)
  have t1:(gV " * ").length=3:=by rw[Ja];rfl
  have Y:(gV " > ").length=3:=by rw[Ja];rfl
  refine⟨_,rfl,λN hN=>?_⟩;walk_at "wp";refine tT (by omega) j.s0 (by rw[j.l0];omega) λM3 g3=>?_
  walk_at "wp";refine⟨by rw[td];first|decide|omega,_,rfl,by simp only[Jf,le,td];omega,_,rfl,by simp only[Jf,le,t1,td];omega,?_⟩
  refine tT (by omega) j.s1 (by rw[j.l1];omega) λM4 g4=>?_
  walk_at "wp";refine⟨by rw[td];first|decide|omega,_,rfl,by simp only[Jf,le,t1,td];omega,_,rfl,by simp only[Jf,le,t1,Y,td];omega,?_⟩
  refine tT (by omega) j.s2 (by rw[j.l2];omega) λM5 g5=>?_
  walk_at "wp";refine⟨by rw[td];first|decide|omega,_,rfl,by simp only[Jf,le,t1,Y,td];omega,by simp only[Jf,le,t1,Y,td];omega,by rw[Jc,Jc,td];omega,hN _ _ _ ⟨⟨_,_,_,rfl⟩,((g2.trans g3).trans g4).trans g5,?_⟩⟩
  rw[Jv,Jv,Jp,Jp,NL];rfl
 ·rintro ρ O acc ⟨_,g2,rfl⟩ p2 hp2;walk_at "wp";have g3:=Ge.new (o:=.lst ((ps.map aU).map .str)) hp2;refine⟨p,p2,_,_,rfl,rfl,g3 _ _ (g2 _ _ e1),aa,by simp[td];omega,?_⟩
  walk_at "st";refine⟨⟨_,rfl⟩,_,rfl,az F J L2::ps.map aU,aa,pS Z h0 h1 h2 hc,?_⟩;rw[tj];exact q _ (ab _ _ (g2.trans g3))
theorem yF (hn : 1<=n)(hs:bI ns)(hl:ns.length<=1000)(q:∀ M',Ge M M'->Q (.str (bb ns)) M'):phi tab n 18 [.tup (ns.map .int)] M Q:=by
 refine ao (by omega) rfl rfl (ρ:=[some _,none,none,none]) rfl ?_
 unfold d18 b18;walk_at "st";refine⟨Kk _,λp hp=>?_⟩;have g1:=Ge.new (o:=.lst []) hp;have e1:af M p (.lst []) p=some (.lst []):=aa;generalize af M p (.lst [])=M1 at g1 e1;walk_at "st";rw[pF];refine bE (I:=λl ρ M'=>(∃ L O,ρ = [some (.tup (ns.map .int)),some (.ref p),L,O])/\Ge M M'/\M' p=some (.lst (((l.filter λx=>x.1 != 0).map bv).map .str))) (ys:=ns.zipIdx) (f:=λx=>.tup [.int (x.2:Nat),.int x.1]) rfl ⟨⟨_,_,rfl⟩,g1,e1⟩ (λ_ _ _ _=>trivial) ?_ ?_
 ·rintro l x r ρ M2 e ⟨⟨L,O,rfl⟩,g2,j⟩;have U:=aD e;rw[KA]at U;have hm:x∈ns.zipIdx:=by rw[e];simp
  refine⟨_,rfl,λF hF=>?_⟩;walk_at "st";have hz:=Oa.mp hm;have HJ:=hs _ (KD hz);have hi:=(Jw.mp hz).1;have la:(gV (Ko x.1)).length<=5:=aX (i:=x.1) (by omega)
  have lb:(gV (Ko (x.2:Int))).length<=5:=aX (i:=(x.2:Int)) (by omega)
  have lc:(gV ":").length=1:=by rw[Ja];rfl
  have Y:=NB (λp:Int×Nat=>p.1 != 0) l
  split
  ·next hx =>
   walk_at "st";refine⟨⟨_,j⟩,_,rfl,cJ (by omega),by rw[lc,td];omega,_,rfl,cJ (by omega),by rw[Jf,lc,td];omega,_,_,_,rfl,rfl,j,by rw[Jc,Jc,td];omega,?_⟩
   walk_at "wp";refine hF _ _ ⟨⟨_,_,rfl⟩,λa o ea=>?_,?_⟩
   ·rw[ax (λz=>by rw[z,hp]at ea;cases ea)];exact g2 _ _ ea
   ·rw[aa,Mb,LQ (p:=λp:Int×Nat=>p.1 != 0) (a:=x) hx,Jv,Jv];rfl
  ·next hx =>
   refine hF _ _ ⟨⟨_,_,rfl⟩,g2,?_⟩;rw[j,Mb,LR (p:=λp:Int×Nat=>p.1 != 0) (a:=x) hx];simp
 ·rintro ρ M2 ⟨⟨L,O,rfl⟩,g2,j⟩;have e3:M2 p=some (.lst (((fl ns).map bv).map .str)):=j;have lsep:(gV " ").length=1:=by rw[Ja];rfl
  walk_at "st";refine⟨⟨_,rfl⟩,_,e3,?_⟩;have Z:((((fl ns).map bv).map D.str).isEmpty)=(fl ns).isEmpty:=by cases fl ns <;> rfl
  rw[Z]
  cases hx:(fl ns).isEmpty with
  | true =>
    have hd:bb ns=gV "-":=by unfold bb;rw[if_pos hx]
    have l1:(gV "-").length=1:=by rw[Ja];rfl
    rw[if_pos rfl];refine⟨by rw[td];first|decide|omega,λp2 HI=>⟨_,rfl,[gV "-"],aa,?_,?_⟩⟩
    ·simp only[Jp,KO,NT,S9,Jr,Kq,l1,lsep];omega
    ·rw[tj];have:=q _ (g2.trans (Ge.new (o:=.lst [.str (gV "-")]) HI));rw[hd]at this;exact this
  | false =>
    have J:bb ns=JH (gV " ") ((fl ns).map bv):=by unfold bb;rw[if_neg (by rw[hx];decide)]
    have hB:∀ t∈(fl ns).map bv,t.length<=11:=by
     intro t ht;obtain⟨y,hy,rfl⟩:=K1.mp ht;exact gj hs hl hy
    have ls:=fM hB;have Y:=gX ns;rw[if_neg J9];refine⟨_,rfl,(fl ns).map bv,e3,by rw[lsep];rw[Jc]at ls ⊢;omega,?_⟩
    rw[tj,<- J];exact q _ g2
theorem Et (hn : 2<=n){J:Nat}{pr:Addr}(hp:∀ p∈ps,di J L L2 p)(h0:J<=100)(h1:L<=100)(h2:L2<=100)(hc:ps.length<=100)(h:M pr=some (.lst (ps.map prD)))(q:∀ M',Ge M M'->Q (.str (iw J L L2 ps)) M'):phi tab n 19 [.tup [.int J,.int L,.int L2,.ref pr]] M Q:=by
 refine ao (by omega) rfl rfl (ρ:=[some _,none,none,none,none]) rfl ?_
 unfold d19 b19;have a:(gV (Ko (J:Int))).length<=5:=aX (i:=(J:Int)) (by omega)
 have b:(gV (Ko (L:Int))).length<=5:=aX (i:=(L:Int)) (by omega)
 have c:(gV (Ko (L2:Int))).length<=5:=aX (i:=(L2:Int)) (by omega)
 have d:(gV "scheme ").length=7:=by rw[Ja];rfl
 have e:(gV " ").length=1:=by rw[Ja];rfl
 walk_at "st";refine⟨⟨_,rfl⟩,D7 ?_⟩;refine⟨_,pj,?_⟩;refine aT (I:=λl ρ M' acc=>(∃ o1,ρ = [o1])/\M'=M/\acc=(l.map λx:Nat=>tx x).map .str) (ys:=[J,L,L2]) (f:=λx=>.int (x:Nat)) rfl ⟨⟨_,rfl⟩,rfl,rfl⟩ (λ_ _ _ _ _=>pj) ?_ ?_
 ·rintro l x r ρ U acc ee ⟨⟨o1,rfl⟩,rfl,rfl⟩;have Y:=aD ee;have hm:x∈[J,L,L2]:=by rw[ee];simp
  have hx:x<=100:=by
   simp only[Jl,JB,or_false]at hm;omega
  refine⟨_,rfl,λN hN=>?_⟩;walk_at "wp";refine⟨_,rfl,cJ (by omega),by rw[Jc,Jc,td];simp only[Jr,Kq]at Y;omega,hN _ _ _ ⟨⟨_,rfl⟩,rfl,?_⟩⟩
  rw[Jv,Jv];rfl
 ·rintro ρ U acc ⟨_,rfl,rfl⟩ p hp1;have l3:(JH (gV " ") [tx J,tx L,tx L2]).length<=17:=by
   simp only[JH,Jf,e];unfold tx;omega
  refine⟨_,rfl,[tx J,tx L,tx L2],aa,?_,?_,by rw[td];first|decide|omega,λp2 O=>?_⟩
  ·simp only[Jp,KO,NT,S9,Jr,Kq,e];unfold tx;omega
  ·rw[tj,d,td];omega
  rw[tj,yr];have g0:=Ge.new (o:=.lst (([J,L,L2].map λx:Nat=>tx x).map .str)) hp1;have g1:=g0.trans (Ge.new (o:=.lst [.str (az J L L2)]) O);have HI:U p2=none:=by
   cases ex:U p2 with
   |none=>rfl
   |some o=>rw[g0 _ _ ex]at O;cases O
  have e1:af (af U p (.lst (([J,L,L2].map λx:Nat=>tx x).map .str))) p2 (.lst [.str (az J L L2)]) p2=some (.lst [.str (az J L L2)]):=aa;generalize af (af U p (.lst (([J,L,L2].map λx:Nat=>tx x).map .str))) p2 (.lst [.str (az J L L2)])=M1 at g1 e1;walk_at "st";refine⟨_,rfl,_,ah (g1 _ _ h),?_⟩;refine bE (I:=λl ρ M'=>(∃ o2 o3 o4,ρ = [some (.tup [.int J,.int L,.int L2,.ref pr]),some (.ref p2),o2,o3,o4])/\Ge U M'/\M' p2=some (.lst ((az J L L2::l.map aU).map .str))) (ys:=ps) (f:=prD) rfl ⟨⟨_,_,_,rfl⟩,g1,e1⟩ (λ_ _ _ hI=>ah (hI.2.1 _ _ h)) ?_ ?_
  ·rintro l x r ρ M3 ee ⟨⟨o2,o3,o4,rfl⟩,g3,Z⟩;have Y:=aD ee;have j:=hp x (by rw[ee];simp)
   have s0:=bQ j.s0 (by rw[j.l0];omega)
   have s1:=bQ j.s1 (by rw[j.l1];omega)
   have s2:=bQ j.s2 (by rw[j.l2];omega)
   have t1:(gV " * ").length=3:=by rw[Ja];rfl
   have t2:(gV " > ").length=3:=by rw[Ja];rfl
   refine⟨_,rfl,λF hF=>?_⟩;walk_at "st";refine⟨⟨_,Z⟩,?_⟩;refine yF (by omega) j.s0 (by rw[j.l0];omega) λM4 g4=>?_
   walk_at "wp";refine⟨by rw[t1,td];omega,?_⟩
   refine yF (by omega) j.s1 (by rw[j.l1];omega) λM5 g5=>?_
   walk_at "wp";refine⟨by simp only[Jf,t1,td];omega,by simp only[Jf,t1,t2,td];omega,?_⟩
   refine yF (by omega) j.s2 (by rw[j.l2];omega) λM6 g6=>?_
   walk_at "wp";have gg:=(g4.trans g5).trans g6;refine⟨by simp only[Jf,t1,t2,td];omega,_,_,_,rfl,rfl,gg _ _ Z,by simp[td];omega,?_⟩
   walk_at "wp";refine hF _ _ ⟨⟨_,_,_,rfl⟩,λa o ea=>?_,?_⟩
   ·rw[ax (λz=>by rw[z,HI]at ea;cases ea)];exact gg _ _ (g3 _ _ ea)
   ·rw[aa];simp[aU]
  ·rintro ρ M3 ⟨⟨o2,o3,o4,rfl⟩,g3,Z⟩;walk_at "st";refine⟨⟨_,rfl⟩,_,rfl,az J L L2::ps.map aU,Z,pS hp h0 h1 h2 hc,?_⟩;rw[tj];exact q _ g3
theorem tU (hn : 3<=n){most:Int}(hb:Box b M)(m0 : 0<most)(m1:most<=81)(q:∀ (J L L2:Nat) a M',(1<=J/\1<=L/\1<=L2)->(J:Int)<=most->(L:Int)<=most->(L2:Int)<=most->Bx b M M'->a≠b->M' a=some (.lst [.int J,.int L,.int L2])->Q (.ref a) M'):phi tab n 17 [.ref b,.int most] M Q:=by
 refine ao (by omega) rfl rfl (ρ:=[some _,some _]) rfl ?_
 unfold d17 b17;walk_at "st";refine⟨by omega,by omega,?_⟩
 refine aT (I:=λl ρ M' acc=>(∃ o,ρ = [o,some (.ref b),some (.int most)])/\Bx b M M' /\ ∃ ls:List Nat,ls.length=l.length/\(∀ x∈ls,1<=x/\(x:Int)<=most)/\acc=ls.map λx=>.int (x:Nat)) (ys:=KZ 3) (f:=λi=>.int (i:Nat)) (by rw[eh];simp) ⟨⟨_,rfl⟩,Bx.refl hb,[],rfl,by simp,rfl⟩ (λ_ _ _ _ hI=>trivial) ?_ ?_
 ·rintro l k r ρ M3 acc e ⟨⟨o1,rfl⟩,Z,ls,F,O,rfl⟩;refine⟨_,rfl,λN hN=>?_⟩;walk_at "wp";have U:=aD e;rw[OY]at U;refine bR (by omega) Z.box m0 (by omega) λr M5 r0 r1 x5=>?_
  walk_at "wp";refine⟨by simp[td,F];omega,hN _ _ _ ⟨⟨_,rfl⟩,Z.trans x5,ls++[(1+r).toNat],by simp[F],?_,?_⟩⟩
  ·intro y hy
   rcases Jz.mp hy with h|h
   ·exact O y h
   ·simp at h;omega
  ·simp;omega
 ·rintro ρ M2 acc ⟨_,x2,ls,F,j,rfl⟩ a ha
  match ls,F,j with
  |[J,L,L2],_,j =>
  have HI:=j J (by simp)
  have HJ:=j L (by simp)
  have HK:=j L2 (by simp)
  have Y:a≠b:=λz=>by obtain⟨x,y,w,e⟩:=x2.box;rw[<- z,ha]at e;cases e
  exact q J L L2 a _ (by omega) (by omega) (by omega) (by omega) (x2.ge (Ge.new ha)) Y aa
theorem wd (h:du w=true):w=gV "-" ++ rest w:=by
 unfold rest;rw[if_pos h];unfold du at h;rw[mk1.2.2.1,jW,decide_eq_true_eq]at h;have j : 1<=w.length:=by
  rw[<- ay]
  cases e:cl w with
  |nil=>rw[e]at h;cases h
  |cons a r=>simp
 refine cj ?_;rw[mk1.2.2.1,aF,ck,tP j]
 cases e:cl w with
 |nil=>rw[e]at h;cases h
 | cons a r =>
   rw[e]at h;have:a=45:=by simpa using h
   rw[this];rfl
theorem Db {c:Int}(h:dk w=some c):w=tx c/\c≠0 /\ -1000<=c/\c<=1000:=by
 unfold dk at h
 split at h
 ·rename_i i hi
  split at h
  ·rename_i hr;obtain⟨e,_⟩:=pQ hi
   cases hn:du w with
   | true =>
     rw[hn,if_pos rfl]at h
     cases h
     have j:=wd hn;refine⟨?_,by omega,by omega,by omega⟩
     rw[j,e,<- vO (i:=-((i:Nat):Int)) (by omega),Int.neg_neg]
   | false =>
     rw[hn,if_neg (by decide)]at h
     cases h
     have j:rest w=w:=by unfold rest;rw[if_neg (by rw[hn];decide)]
     refine⟨by rw[<- j];exact e,by omega,by omega,by omega⟩
  ·cases h
 ·cases h
noncomputable def flk (k:Nat) (ns:List Int):List (Int×Nat):=(ns.zipIdx k).filter λp=>p.1 != 0
theorem rq (k:Nat)(a b:List Int):flk k (a++b)=flk k a++flk (k+a.length) b:=by
 unfold flk;rw[List.zipIdx_append,Mb]
theorem eo:∀ (ns:List Int) (k:Nat),(∀ x∈ns,x=0)->flk k ns=[]
 |[],_,_=>rfl
 | x::r,k,h=>by
   have:=eo r (k+1) λy j=>h y (Ji _ j);unfold flk at this ⊢;rw[Mz,LR (by rw[h x (by simp)];simp),this]
theorem Dc {p:List Int}{c:Int}(J:c≠0)(hi:i<p.length)(L:∀ j,i<=j -> ∀ x,p[j]? = some x->x=0):fl (p.set i c)=fl p++[(c,i)]:=by
 have zd:∀ j,i<=j -> ∀ x∈p.drop j,x=0:=λj U x hx=>by
  obtain⟨k,hk,e⟩:=Qx.mp hx;rw[List.getElem_drop]at e;exact L (j+k) (by omega) x (by rw[Jh (by rw[JG]at hk;omega),e])
 have O:p.set i c=p.take i++c::p.drop (i+1):=by rw[List.set_eq_take_append_cons_drop,if_pos hi]
 have F:(p.take i).length=i:=by rw[Jx];omega
 show flk 0 (p.set i c)=flk 0 p++_;rw[O,rq,F]
 conv=>rhs;rw[<- Kw i p,rq,F,eo (p.drop i) _ (zd i (Jg _)),Kp]
 have:flk (0+i) (c::p.drop (i+1))=[(c,i)]:=by
  have z:=eo (p.drop (i+1)) (0+i+1) (zd (i+1) (by omega))
  unfold flk at z ⊢;rw[Mz,LQ (by simpa using J),z,Nat.zero_add]
 rw[this]
theorem we (m:Nat):av Kb m=none:=by
 unfold av;rw[if_neg];rintro⟨⟨h,_⟩,_⟩;exact absurd h (by decide)
theorem pT {L:Nat}:∀ {ws:List Str} {p ns:List Int} {a:Int},fH L ws p a=some ns->p.length=L -> -1<=a->bI p->(∀ j:Nat,a<(j:Int) -> ∀ x,p[j]? = some x->x=0) ->
 ns.length=L/\bI ns /\ ∃ qs:List (Int×Nat),fl ns=fl p++qs/\qs.map bv=ws
 |[],p,ns,a,h,z,U,F,J=>by
  rw[fH]at h;cases h;exact⟨z,F,[],by simp,rfl⟩
 | w::r,p,ns,a,h,z,U,F,J=>by
   rw[fH]at h
   split at h
   ·rename_i c i Y hi
    split at h
    ·rename_i hr;obtain ⟨ec,Z,c1,c2⟩:=Db Y;obtain ⟨ei,_⟩:=pQ hi;have hw:w=bv (c,i):=by
      rcases fF w aA with⟨_,e,_⟩|e
      ·rw[e,we]at hi;cases hi
      ·rw[e,ec,ei];rfl
     have O:bI (p.set i c):=λx hx=>by
      rcases List.mem_or_eq_of_mem_set hx with h|h
      ·exact F x h
      ·rw[h];exact⟨c1,c2⟩
     obtain⟨l1,s1,qs,e1,e2⟩:=pT h (by rw[NZ];exact z) (by omega) O λj hj x hx=>by
      rw[La (by omega)]at hx
      exact J j (by omega) x hx
     refine⟨l1,s1,(c,i)::qs,?_,by rw[Jp,e2,hw]⟩
     rw[e1,Dc Z (by omega) λj hj x hx=>J j (by omega) x hx,Ku];rfl
    ·cases h
   ·cases h
theorem kP {t:Str}(h:aR t L=some ns):t=bb ns/\ns.length=L/\bI ns:=by
 unfold aR at h;have f0:fl (Jj L (0:Int))=[]:=eo _ 0 λx hx=>(OH.mp hx).2
 split at h
 ·rename_i U
  cases h
  refine⟨?_,Lr,dB⟩;unfold bb;rw[f0,U];rfl
 ·obtain⟨l,s,qs,O,F⟩:=pT h Lr (by omega) dB λj _ x hx=>(OH.mp (KD hx)).2
  refine⟨?_,l,s⟩;rw[f0,Md]at O;have Y:=JT t (gV " ");have J:Jb t (gV " ")≠[]:=by rw[mk1.1];exact cU t 32
  unfold bb;rw[O,if_neg,F,Y];intro z;rw[Pj]at z;rw[z]at F;exact J F.symm
theorem yG {p:Pr}(h0:j<=81)(h1:F<=81)(h2:L2<=81)(h:bx row j F L2=some p):row=aU p/\di j F L2 p:=by
 have e:=(wb h0 h1 h2 (by rw[h];rfl)).2
 unfold bx at h
 split at h
 ·rename_i x y z hx J L
  cases h
  obtain⟨a1,a2,O⟩:=kP hx;obtain⟨b1,b2,b3⟩:=kP J;obtain⟨U,Y,Z⟩:=kP L;refine⟨?_,⟨a2,b2,Y,O,b3,Z⟩⟩;rw[e,a1,b1,U];unfold aU aq arr;simp only[Pp]
 ·cases h
theorem pU {j F L2:Nat}:∀ {rs:List Str} {k:Nat},dw j F L2 rs k=none->k+rs.length<=401+(if rs=[] then k else 0) /\ ∃ ps:List Pr,rs.map (λr=>bx r j F L2)=ps.map some
 |[],k,_=>by rw[if_pos rfl];exact⟨by simp,[],rfl⟩
 | r::rs,k,h=>by
   rw[dw]at h
   split at h
   ·cases h
   ·rename_i J;obtain⟨hk,ps,L⟩:=pU h
    cases O:bx r j F L2 with
    |none=>rw[O]at J;exact absurd (.inl rfl) J
    | some p =>
      refine⟨?_,p::ps,by rw[Jp,Jp,O,L]⟩
      rw[if_neg (by simp),Jr]
      have : ¬ 400<k:=λz=>J (.inr z)
      split at hk
      ·rename_i hr;rw[hr];simp;omega
      ·omega
theorem B8 {t:Str}(h:hV t=none):∃ hd rs F J L2 ps,Jb t nl=hd::rs/\cR hd=some [F,J,L2]/\(F<=81/\J<=81/\L2<=81)/\rs.map (λr=>bx r F J L2)=ps.map some/\(∀ p∈ps,di F J L2 p)/\t=iw F J L2 ps/\rs.length=ps.length:=by
 unfold hV at h
 cases e:Jb t nl with
 |nil=>rw[show nl=⟨#[10]⟩ from mk1.2.2.2.1]at e;exact absurd e (cU t 10)
 | cons hd rs =>
   rw[e]at h;dsimp only at h
   cases L:cR hd with
   |none=>rw[L]at h;cases h
   | some ls =>
     obtain⟨a,b,c,rfl,h0,h1,h2⟩:=fE L;rw[L]at h;dsimp only at h;obtain⟨_,ps,j⟩:=pU h;have hlen:rs.length=ps.length:=by have:=congrArg Sz j;simpa using this
     have key:∀ i (hi:i<rs.length),∃ p,ps[i]? = some p/\rs[i]=aU p/\di a b c p:=λi hi=>by
      have O:=congrArg (λz=>z[i]?) j;simp only[JF,Jh hi,Lx]at O
      cases Y:ps[i]? with
      |none=>rw[Y]at O;cases O
      | some p =>
        rw[Y]at O;obtain⟨k1,k2⟩:=yG h0.2 h1.2 h2.2 (Ki.inj O);exact⟨p,rfl,k1,k2⟩
     refine⟨hd,rs,a,b,c,ps,rfl,L,⟨h0.2,h1.2,h2.2⟩,j,?_,?_,hlen⟩
     ·intro p Y;obtain⟨i,hi,Z⟩:=Qx.mp Y;obtain⟨p',U,_,e5⟩:=key i (by omega)
      rw[Jh hi,Z]at U
      cases U;exact e5
     ·have Z:rs=ps.map aU:=by
       apply So
       ·rw[Jc];exact hlen
       ·intro i hi HI;obtain⟨p',U,e5,_⟩:=key i hi;rw[e5,List.getElem_map];rw[Jh (by omega)]at U
        rw[Ki.inj U]
      have hj:=JT t nl;rw[e,B7 L,Z]at hj;exact hj.symm
structure Rw (B:Nat) (w:Str):Prop where
 a:asc w
 n : 10∉cl w
 l:w.length<=B
variable {B:Nat}
theorem Rw.mono {C:Nat}(h:Rw B w)(j:B<=C):Rw C w:=⟨h.a,h.n,by have:=h.l;omega⟩
theorem Rw.app {C:Nat}{v:Str}(h:Rw B v)(k:Rw C w):Rw (B+C) (v++w):=by
 refine⟨λc j=>?_,λj=>?_,by rw[Jf];have:=h.l;have:=k.l;omega⟩
 ·rw[aF]at j
  rcases Jz.mp j with z|z
  ·exact h.a c z
  ·exact k.a c z
 ·rw[aF]at j
  rcases Jz.mp j with z|z
  ·exact h.n z
  ·exact k.n z
noncomputable def rwB (B:Nat) (w:Str):Bool:=(cl w).all (λc=>decide (c<128)&&decide (c≠10))&&decide (w.length<=B)
theorem dD (h:rwB B w=true):Rw B w:=by
 unfold rwB at h;simp only[hX,JK,decide_eq_true_eq]at h;exact⟨λc j=>(h.1 c j).1,λj=>(h.1 10 j).2 rfl,h.2⟩
theorem zn {ds:List Str}{r:Int}(h0 : 0<=r)(h1:r<ds.length):∃ v,v∈ds/\atI (ds.map D.str) r=some (.str v):=by
 obtain⟨x,hx,j⟩:=j4 (xs:=ds.map D.str) h0 (by rw[Jc];exact h1)
 obtain⟨v,z,rfl⟩:=K1.mp (KD j);exact⟨v,z,hx⟩
theorem pV {i j:Option Int}(z:c∈cl (Ka x i j)):c∈cl x:=by
 unfold Ka at z
 split at z
 ·exact z
 ·have F:c∈(Oo i j 1 x.length).filterMap (x.cps[·]?):=by simpa[cl]using z
  obtain⟨k,_,hk⟩:=N0.mp F;exact Mm.mpr (Q8 hk)
theorem Rw.slice (h:Rw B w)(i j:Option Int):Rw B (Ka w i j):=⟨λc z=>h.a c (pV z),λz=>h.n (pV z),K7 (Nv _ _ _) h.l⟩
noncomputable def eE (w:Str):List Str:=[w++gV "0",gV "0" ++ w,gV "-" ++ w,w++gV ":",gV ":" ++ w,Ka w none (some (-1)),gV "",gV "+" ++ w,w++gV " " ++ w] ++
 [gV "1:0",gV "0:0",gV "-0:1",gV "1:9",gV "2:01",gV "-",gV "*",gV ">",gV "x",gV "1.0:0",gV "1:-1",gV " " ++ w,w++gV "1:1"]
theorem yH (h:Rw B w):∀ v∈eE w,Rw (2*B+8) v:=by
 intro v j;have d:∀ {x:Str},rwB 5 x=true->Rw (2*B+8) x:=λe=>(dD e).mono (by omega)
 have r:∀ {x:Str},rwB 5 x=true->Rw (2*B+8) (w++x):=λe=>(h.app (dD e)).mono (by omega)
 have l:∀ {x:Str},rwB 5 x=true->Rw (2*B+8) (x++w):=λe=>((dD e).app h).mono (by omega)
 unfold eE at j;simp only[NJ,Md,Jl,JB,or_false]at j
 rcases j with rfl|rfl|rfl|rfl|rfl|rfl|rfl|rfl|rfl|rfl|rfl|rfl|rfl|rfl|rfl|rfl|rfl|rfl|rfl|rfl|rfl|rfl
 ·exact r (by decide +kernel)
 ·exact l (by decide +kernel)
 ·exact l (by decide +kernel)
 ·exact r (by decide +kernel)
 ·exact l (by decide +kernel)
 ·exact(h.slice _ _).mono (by omega)
 ·exact d (by decide +kernel)
 ·exact l (by decide +kernel)
 ·exact((h.app (dD (B:=1) (w:=gV " ") (by decide +kernel))).app h).mono (by omega)
 all_goals first|exact d (by decide +kernel)|exact l (by decide +kernel)|exact r (by decide +kernel)
theorem Eu (hn : 3<=n)(hw:Rw B w)(hB:B<=600)(Z:Box b M)(q:∀ v M',Rw (2*B+8) v->Bx b M M'->Q (.str v) M'):phi tab n 26 [.ref b,.str w] M Q:=by
 refine ao (by omega) rfl rfl (ρ:=[some _,some _,none]) rfl ?_
 unfold d26 b26;have hl:=hw.l;have l1:∀ s:String,s.length<=5->(gV s).length<=5:=λs h=>by rw[Ja];exact h
 have a0:=l1 "0" (by decide)
 have a1:=l1 "-" (by decide)
 have a2:=l1 ":" (by decide)
 have a3:=l1 "+" (by decide)
 have a4:=l1 " " (by decide)
 have a5:=l1 "1:1" (by decide)
 walk_at "st";refine⟨by rw[td];first|decide|omega,by rw[td];first|decide|omega,by rw[td];first|decide|omega,by rw[td];first|decide|omega,by rw[td];first|decide|omega,_,rfl,by rw[td];first|decide|omega,by rw[td];first|decide|omega,by rw[td];first|decide|omega,by rw[Jf,td];omega,by rw[td];first|decide|omega,λp hp=>?_⟩
 have g1:=Ge.new (o:=.lst [D.str (w++gV "0"),D.str (gV "0" ++ w),D.str (gV "-" ++ w),D.str (w++gV ":"),D.str (gV ":" ++ w),D.str (Ka w none (some (-1))),D.str (gV ""),D.str (gV "+" ++ w),D.str (w++gV " " ++ w)]) hp;have e1:=aa (M:=M) (a:=p) (o:=.lst [D.str (w++gV "0"),D.str (gV "0" ++ w),D.str (gV "-" ++ w),D.str (w++gV ":"),D.str (gV ":" ++ w),D.str (Ka w none (some (-1))),D.str (gV ""),D.str (gV "+" ++ w),D.str (w++gV " " ++ w)]);generalize af M p (.lst [D.str (w++gV "0"),D.str (gV "0" ++ w),D.str (gV "-" ++ w),D.str (w++gV ":"),D.str (gV ":" ++ w),D.str (Ka w none (some (-1))),D.str (gV ""),D.str (gV "+" ++ w),D.str (w++gV " " ++ w)])=M1 at g1 e1;walk_at "st";refine⟨by rw[td];first|decide|omega,by rw[td];first|decide|omega,by rw[td];first|decide|omega,λp2 F=>?_⟩
 have e2:=(Ge.new (o:=.lst [D.str (gV "1:0"),D.str (gV "0:0"),D.str (gV "-0:1"),D.str (gV "1:9"),D.str (gV "2:01"),D.str (gV "-"),D.str (gV "*"),D.str (gV ">"),D.str (gV "x"),D.str (gV "1.0:0"),D.str (gV "1:-1"),D.str (gV " " ++ w),D.str (w++gV "1:1")]) F) _ _ e1;have e3:=aa (M:=M1) (a:=p2) (o:=.lst [D.str (gV "1:0"),D.str (gV "0:0"),D.str (gV "-0:1"),D.str (gV "1:9"),D.str (gV "2:01"),D.str (gV "-"),D.str (gV "*"),D.str (gV ">"),D.str (gV "x"),D.str (gV "1.0:0"),D.str (gV "1:-1"),D.str (gV " " ++ w),D.str (w++gV "1:1")]);have g2:=g1.trans (Ge.new (o:=.lst [D.str (gV "1:0"),D.str (gV "0:0"),D.str (gV "-0:1"),D.str (gV "1:9"),D.str (gV "2:01"),D.str (gV "-"),D.str (gV "*"),D.str (gV ">"),D.str (gV "x"),D.str (gV "1.0:0"),D.str (gV "1:-1"),D.str (gV " " ++ w),D.str (w++gV "1:1")]) F);generalize af M1 p2 (.lst [D.str (gV "1:0"),D.str (gV "0:0"),D.str (gV "-0:1"),D.str (gV "1:9"),D.str (gV "2:01"),D.str (gV "-"),D.str (gV "*"),D.str (gV ">"),D.str (gV "x"),D.str (gV "1.0:0"),D.str (gV "1:-1"),D.str (gV " " ++ w),D.str (w++gV "1:1")])=L at e2 e3 g2;rw[vJ];refine⟨_,_,e2,e3,by rw[td];simp,λj J=>?_⟩
 have g3:=g2.trans (Ge.new (o:=.lst ((eE w).map .str)) J);have O:af L j (.lst ((eE w).map .str)) j=some (.lst ((eE w).map .str)):=aa;show wSs _ _ _ [_,_,_] (af L j (.lst ((eE w).map .str)));generalize af L j (.lst ((eE w).map .str))=M3 at O g3;have x3:=(Bx.refl Z).ge g3;have U:j≠b:=λz=>by
  obtain⟨x,y,u,e⟩:=Z;rw[<- z]at e;have:=g2 _ _ e;rw[J]at this;cases this
 have hlen:(eE w).length=22:=rfl;walk_at "st";refine dh O ?_;rw[Jc,hlen];refine bR (by omega) x3.box (by decide) (by decide) λr M4 r0 r1 x4=>?_
 obtain⟨v,hv,Y⟩:=zn (ds:=eE w) (r:=r) r0 (by rw[hlen];exact r1)
 exact aE (x4.keep j _ U O) Y (q v M4 (yH hw v hv) (x3.trans x4))
noncomputable def tot (ws:List Str):Nat:=(ws.map (·.length)).sum+ws.length
theorem bT (a b:List Str):tot (a++b)=tot a+tot b:=by
 unfold tot;rw[Jv,List.sum_append,Jq];omega
theorem iy (w:Str):tot [w]=w.length+1:=by simp[tot]
theorem j9 (w:Str)(r:List Str):tot (w::r)=w.length+1+tot r:=by
 rw[<- iy,<- bT];rfl
theorem rz:∀ ws:List Str,tot ws.reverse=tot ws
 |[]=>rfl
 |w::r=>by rw[Mj,bT,rz r,iy,j9];omega
theorem wf {c:Nat}:∀ {xs:List (List Nat)},xs≠[]->(jl c xs).length+1=(xs.map (·.length)).sum+xs.length
 |[x],_=>by simp[jl]
 | x::y::r,_=>by
   have:=wf (c:=c) (xs:=y::r) (by simp)
   show (x++c::jl c (y::r)).length+1=_;rw[Jq,Jr,Jp,NT,Jr];omega
theorem pW (h:ws≠[]):(JH ⟨#[32]⟩ ws).length+1=tot ws:=by
 have e:=wf (c:=32) (xs:=ws.map cl) (by simpa using h)
 rw[<- aM,ay]at e;unfold tot;rw[e,Jc,S1];congr 2
theorem iz {c a:Nat}:∀ {xs:List (List Nat)},a∈jl c xs->a=c∨∃ x∈xs,a∈x
 |[x],h=>.inr ⟨x,by simp,h⟩
 | x::y::r,h=>by
   have h2:a∈x++c::jl c (y::r):=h
   rcases Jz.mp h2 with h|h
   ·exact .inr ⟨x,by simp,h⟩
   ·rcases Jl.mp h with h|h
    ·exact .inl h
    ·rcases iz h with h|⟨z,j,h⟩
     ·exact .inl h
     ·exact .inr ⟨z,Ji _ j,h⟩
structure Ws (T:Nat) (ws:List Str):Prop where
 a:∀ w∈ws,asc w/\10∉cl w
 t:tot ws<=T
variable {T:Nat}
theorem Ws.join (h:Ws (T+1) ws):Rw T (JH (gV " ") ws):=by
 rw[mk1.1];refine⟨λc j=>?_,λj=>?_,?_⟩
 ·rw[aM]at j
  rcases iz j with e|⟨x,hx,e⟩
  ·omega
  ·obtain⟨w,hw,rfl⟩:=K1.mp hx;exact(h.a w hw).1 c e
 ·rw[aM]at j
  rcases iz j with e|⟨x,hx,e⟩
  ·omega
  ·obtain⟨w,hw,rfl⟩:=K1.mp hx;exact(h.a w hw).2 e
 ·cases ws with
  |nil=>exact Kk _
  |cons w r=>have:=pW (ws:=w::r) (by simp);have:=h.t;omega
theorem Rw.split (h:Rw B w):Ws (B+1) (Jb w (gV " "))/\Jb w (gV " ")≠[]:=by
 have j:Jb w (gV " ")≠[]:=by rw[mk1.1];exact cU w 32
 have F:=JT w (gV " ");refine⟨⟨λv J=>?_,?_⟩,j⟩
 ·have:∀ c∈cl v,c∈cl w:=fun c z=>by
   rw[<- F,mk1.1,aM];rw[mk1.1]at J;exact pJ (K1.mpr ⟨v,J,rfl⟩) c z
  exact⟨λc z=>h.a c (this c z),λz=>h.n (this 10 z)⟩
 ·have e:=pW j;rw[<- mk1.1,F]at e;have:=h.l;omega
theorem Ws.cut (h:Ws T ws)(hi:i<ws.length):∃ w,ws[i]? = some w/\(asc w/\10∉cl w)/\tot (ws.take i)+(w.length+1)+tot (ws.drop (i+1))<=T/\ws.drop i=w::ws.drop (i+1):=by
 have e:ws=ws.take i++(ws[i]::ws.drop (i+1)):=by rw[<- K5 hi,Kw]
 refine⟨ws[i],Jh hi,h.a _ (Sx hi),?_,K5 hi⟩;have:=h.t;rw[e,bT,j9]at this;omega
theorem Ws.sub {U:Nat}{vs:List Str}(h:Ws T ws)(j:∀ v∈vs,v∈ws)(z:tot vs<=U):Ws U vs:=⟨λv F=>h.a v (j v F),z⟩
variable {p:Addr}
theorem cb (j:Box b M)(h:M p=some (.lst (ws.map .str))):p≠b:=λz=>by
 obtain⟨x,y,u,e⟩:=j;rw[z,e]at h
 cases ws with
 |nil=>simp at h
 |cons w r=>simp at h
theorem gq {i:Int}(h:M p=some (.lst (ws.map .str)))(hi:i=(j:Nat))(F:j<=ws.length)(q:∀ p2 M',Ge M M'->M' p2=some (.lst ((ws.take j).map .str))->Q (.ref p2) M'):dy (.ref p) none (some i) M Q:=by
 refine⟨_,h,λp2 z=>?_⟩;rw[hi,m9 (by rw[Jc];exact F),<- R1]
 exact q p2 _ (Ge.new z) aa
theorem gr {i:Int}(h:M p=some (.lst (ws.map .str)))(hi:i=(j:Nat))(F:j<=ws.length)(q:∀ p2 M',Ge M M'->M' p2=some (.lst ((ws.drop j).map .str))->Q (.ref p2) M'):dy (.ref p) (some i) none M Q:=by
 refine⟨_,h,λp2 z=>?_⟩;rw[hi,md (by rw[Jc];exact F),<- R4]
 exact q p2 _ (Ge.new z) aa
theorem cm {z:Addr}(h:M p=some (.lst (xs.map .str)))(h1:M z=some (.lst (ys.map .str)))(F:xs.length+ys.length<=5000)(q:∀ p2 M',Ge M M'->M' p2=some (.lst ((xs++ys).map .str))->Q (.ref p2) M'):dH (.ref p) (.ref z) M Q:=by
 rw[vJ];refine⟨_,_,h,h1,by rw[Jc,Jc,td];omega,λp2 j=>?_⟩
 rw[<- Jv];exact q p2 _ (Ge.new j) aa
theorem FC (hn : 4<=n){a:Addr}{rows:List Str}(hr:∀ w∈rows,Rw B w)(hB:B<=290)(Ie : 1<=B)(h0:rows≠[])(hc:rows.length<=50)(hb:Box b M)(HR:a≠b)(ha:M a=some (.lst (rows.map .str)))(q:∀ (rows':List Str) a' M',(∀ w∈rows',Rw (2*B+8) w)->rows'.length<=rows.length+1->Bx b M M'->a'≠b->M' a'=some (.lst (rows'.map .str))->Q (.ref a') M'):phi tab n 27 [.ref b,.ref a] M Q:=by
 refine ao (by omega) rfl rfl (ρ:=[some _,some _,none,none,none,none]) rfl ?_
 unfold d27 b27;have hlen : 1<=rows.length:=by cases rows with|nil=>exact absurd rfl h0|cons x r=>simp
 walk_at "st";refine dh ha ?_;rw[Jc];refine bR (by omega) hb (by omega) (by omega) λHS M1 r0 r1 x1=>?_
 obtain⟨i,hi,ei⟩:∃ i:Nat,HS=(i:Int)/\i<rows.length:=⟨HS.toNat,by omega,by omega⟩
 subst hi;have HZ:=x1.keep a _ HR ha;have Ig:rows[i]? = some rows[i]:=Jh ei;have hR:=hr rows[i] (Sx ei);obtain⟨U,HU⟩:=hR.split;walk_at "st";refine aE HZ (d:=.str rows[i]) (by simp[atI,ixN,ei]) ?_
 walk_at "wp";refine⟨⟨_,rfl⟩,_,rfl,_,rfl,by rw[Ja];rfl,by have:=hR.l;rw[td];first|decide|omega,λp hp=>?_⟩
 have g2:=x1.ge (Ge.new (o:=.lst ((Jb rows[i] (gV " ")).map .str)) hp);have e2:af M1 p (.lst ((Jb rows[i] (gV " ")).map .str)) p=some (.lst ((Jb rows[i] (gV " ")).map .str)):=aa;generalize Jb rows[i] (gV " ")=ws at U HU g2 e2 ⊢;generalize af M1 p (.lst (ws.map .str))=M2 at g2 e2;have Ih : 1<=ws.length:=by cases ws with|nil=>exact absurd rfl HU|cons x r=>simp
 have Ii:ws.length<=600:=by have:=U.t;unfold tot at this;omega
 walk_at "st";refine dh e2 ?_;rw[Jc];refine bR (by omega) g2.box (by omega) (by omega) λspot M3 s0 s1 x3=>?_
 obtain⟨j,hj,ej⟩:∃ j:Nat,spot=(j:Int)/\j<ws.length:=⟨spot.toNat,by omega,by omega⟩
 subst hj;have e3:=x3.keep p _ (cb g2.box e2) e2;have g3:=g2.trans x3;walk_at "st";refine bR (by omega) g3.box (by omega) (by omega) λway M4 w0 w1 x4=>?_
 have e4:=x4.keep p _ (cb g2.box e2) e3;have g4:=g3.trans x4;refine dj (I:=λρ' M'=>∃ p' ws',ρ'=[some (.ref b),some (.ref a),some (.int (i:Nat)),some (.ref p'),some (.int (j:Nat)),some (.int way)]/\Bx b M M'/\M' p'=some (.lst (ws'.map .str))/\((way<5/\Ws (2*B+9) ws')∨(5<=way/\ws'=ws))) (λR J=>?_) ?_
 ·walk_at "wp"
  split
  ·next hw =>
   obtain⟨w,Y,Z,HK,HJ⟩:=U.cut ej;walk_at "st";refine gq e4 rfl (by omega) λq1 N1 h1 f1=>?_
   refine aE (h1 _ _ e4) (d:=.str w) (by rw[Jh ej]at Y;simp[atI,ixN,ej,Ki.inj Y]) ?_
   have y1:=g4.ge h1;have I0:Rw (w.length) w:=⟨Z.1,Z.2,Jg _⟩;refine Eu (by omega) I0 (by have:=U.t;omega) y1.box λv N2 hv y2=>⟨by rw[td];first|decide|omega,λq2 HL=>?_⟩
   have f2:=y2.keep q1 _ (cb y1.box f1) f1;have O:=Ge.new (o:=.lst [.str v]) HL;have f3:af N2 q2 (.lst [.str v]) q2=some (.lst ([v].map .str)):=aa;have e5:=O _ _ (y2.keep p _ (cb g2.box e2) (h1 _ _ e4));have y3:=(y1.trans y2).ge O;refine cm (O _ _ f2) f3 (by rw[Jx,JP];omega) λq3 N4 h4 f4=>?_
   refine gr (j:=j+1) (h4 _ _ e5) (by omega) (by omega) λq4 N5 h5 f5=>?_
   refine cm (h5 _ _ f4) f5 (by simp only[Jq,Jx,JP,JG];omega) λq5 N6 h6 f6=>?_
   refine J _ _ ⟨_,_,rfl,y3.ge ((h4.trans h5).trans h6),f6,.inl ⟨hw,λz F=>?_,?_⟩⟩
   ·rcases Jz.mp F with F|F
    ·rcases Jz.mp F with F|F
     ·exact U.a z (JZ F)
     ·rw[L7.mp F];exact⟨hv.a,hv.n⟩
    ·exact U.a z (JE F)
   ·have:=hv.l;rw[bT,bT,iy];omega
  ·exact J _ _ ⟨_,_,rfl,g4,e4,.inr ⟨by omega,rfl⟩⟩
 ·rintro ρ M5 ⟨p5,Ij,rfl,g5,e5,J5⟩;refine dj (I:=λρ' M'=>∃ p' ws',ρ'=[some (.ref b),some (.ref a),some (.int (i:Nat)),some (.ref p'),some (.int (j:Nat)),some (.int way)]/\Bx b M M'/\M' p'=some (.lst (ws'.map .str))/\((way<6/\Ws (2*B+9) ws')∨(6<=way/\ws'=ws))) (λR J=>?_) ?_
  ·walk_at "wp"
   split
   ·next hw =>
    have h6:way=5:=by simpa using hw
    rcases J5 with⟨h9,_⟩|⟨_,rfl⟩
    ·omega
    obtain⟨w,Y,Z,HK,HJ⟩:=U.cut ej;walk_at "st";refine gq e5 rfl (by omega) λq1 N1 h1 f1=>?_
    refine gr (j:=j+1) (h1 _ _ e5) (by omega) (by omega) λq2 N2 h2 f2=>?_
    refine cm (h2 _ _ f1) f2 (by simp only[Jx,JG];omega) λq3 N3 O f3=>?_
    refine J _ _ ⟨_,_,rfl,g5.ge ((h1.trans h2).trans O),f3,.inl ⟨by omega,U.sub (λz F=>?_) (by rw[bT];omega)⟩⟩
    rcases Jz.mp F with F|F
    ·exact JZ F
    ·exact JE F
   ·next hw =>
    refine J _ _ ⟨_,_,rfl,g5,e5,?_⟩;have HV:way≠5:=λz=>hw (by rw[z];rfl)
    rcases J5 with⟨h9,L⟩|⟨h9,L⟩
    ·exact .inl ⟨by omega,L⟩
    ·exact .inr ⟨by omega,L⟩
  ·rintro ρ M6 ⟨p6,Ik,rfl,g6,e6,J6⟩;refine dj (I:=λρ' M'=>∃ p' ws',ρ'=[some (.ref b),some (.ref a),some (.int (i:Nat)),some (.ref p'),some (.int (j:Nat)),some (.int way)]/\Bx b M M'/\M' p'=some (.lst (ws'.map .str))/\((way<7/\Ws (2*B+9) ws')∨(7<=way/\ws'=ws))) (λR J=>?_) ?_
   ·walk_at "wp"
    split
    ·next hw =>
     rcases J6 with⟨h9,_⟩|⟨_,rfl⟩
     ·have:way=6:=by simpa using hw
      omega
     obtain⟨w,Y,Z,HK,HJ⟩:=U.cut ej;walk_at "st";refine gq (j:=j+1) e6 (by omega) (by omega) λq1 N1 h1 f1=>?_
     refine gr (h1 _ _ e6) rfl (by omega) λq2 N2 h2 f2=>?_
     refine cm (h2 _ _ f1) f2 (by simp only[Jx,JG];omega) λq3 N3 O f3=>?_
     have h6:way=6:=by simpa using hw
     refine J _ _ ⟨_,_,rfl,g6.ge ((h1.trans h2).trans O),f3,.inl ⟨by omega,U.sub (λz F=>?_) ?_⟩⟩
     ·rcases Jz.mp F with F|F
      ·exact JZ F
      ·exact JE F
     ·rw[bT,S8,Y,bT,HJ,j9];show _+tot [w]+_<=_;rw[iy];omega
    ·next hw =>
     refine J _ _ ⟨_,_,rfl,g6,e6,?_⟩;have HV:way≠6:=λz=>hw (by rw[z];rfl)
     rcases J6 with⟨h9,L⟩|⟨h9,L⟩
     ·exact .inl ⟨by omega,L⟩
     ·exact .inr ⟨by omega,L⟩
   ·rintro ρ M7 ⟨p7,I8,rfl,g7,e7,J7⟩;refine dj (I:=λρ' M'=>∃ p' ws',ρ'=[some (.ref b),some (.ref a),some (.int (i:Nat)),some (.ref p'),some (.int (j:Nat)),some (.int way)]/\Bx b M M'/\M' p'=some (.lst (ws'.map .str))/\((way<8/\Ws (2*B+9) ws')∨8<=way)) (λR J=>?_) ?_
    ·walk_at "wp"
     split
     ·next hw =>
      have h6:way=7:=by simpa using hw
      rcases J7 with⟨h9,_⟩|⟨_,rfl⟩
      ·omega
      obtain⟨w,Y,Z,HK,HJ⟩:=U.cut ej;walk_at "st";refine gq e7 rfl (by omega) λq1 N1 h1 f1=>?_
      refine gr (h1 _ _ e7) rfl (by omega) λq2 N2 h2 f2=>?_
      refine⟨_,rfl,_,f2,λq3 I9=>?_⟩;rw[<- List.map_reverse];have O:=Ge.new (o:=.lst ((I8.drop j).reverse.map .str)) I9;refine cm (O _ _ (h2 _ _ f1)) aa (by simp only[Jx,JG,QN];omega) λq4 N4 h4 f4=>?_
      refine J _ _ ⟨_,_,rfl,g7.ge (((h1.trans h2).trans O).trans h4),f4,.inl ⟨by omega,U.sub (λz F=>?_) ?_⟩⟩
      ·rcases Jz.mp F with F|F
       ·exact JZ F
       ·exact JE (List.mem_reverse.mp F)
      ·rw[bT,rz,<- bT,Kw];have:=U.t;omega
     ·next hw =>
      refine J _ _ ⟨_,_,rfl,g7,e7,?_⟩;have HV:way≠7:=λz=>hw (by rw[z];rfl)
      rcases J7 with⟨h9,L⟩|⟨h9,L⟩
      ·exact .inl ⟨by omega,L⟩
      ·exact .inr (by omega)
    ·rintro ρ M8 ⟨p8,HM,rfl,g8,e8,J8⟩;have HI:=g8.keep a _ HR ha;walk_at "st"
     split
     ·next hw =>
      rcases J8 with⟨_,L⟩|L
      ·walk_at "st";refine gq HI rfl (by omega) λq1 N1 h1 f1=>?_
       have hJ:=Ws.join (T:=2*B+8) L;have ht:=L.t;have l1:(gV " ").length=1:=by rw[Ja];rfl
       refine⟨⟨_,rfl⟩,_,rfl,HM,h1 _ _ e8,by rw[l1];unfold tot at ht;omega,by rw[td];first|decide|omega,λq2 HL=>?_⟩
       rw[tj];have h2:=Ge.new (o:=.lst [.str (JH (gV " ") HM)]) HL;refine cm (ys:=[JH (gV " ") HM]) (h2 _ _ f1) aa (by simp only[Jx,JP];omega) λq3 N3 O f3=>?_
       refine gr (j:=i+1) (O _ _ (h2 _ _ (h1 _ _ HI))) (by omega) (by omega) λq4 N4 h4 f4=>?_
       refine cm (h4 _ _ f3) f4 (by simp only[Jq,Jx,JP,JG];omega) λq5 N5 h5 f5=>?_
       have gx:=g8.ge (((h1.trans h2).trans (O.trans h4)).trans h5);refine q _ q5 N5 (λz F=>?_) (by simp only[Jq,Jx,JP,JG];omega) gx (cb gx.box f5) f5
       rcases Jz.mp F with F|F
       ·rcases Jz.mp F with F|F
        ·exact(hr z (JZ F)).mono (by omega)
        ·rw[L7.mp F];exact hJ
       ·exact(hr z (JE F)).mono (by omega)
      ·omega
     ·next hw =>
      walk_at "st";refine gq HI rfl (by omega) λq1 N1 h1 f1=>?_
      refine gr (j:=i+1) (h1 _ _ HI) (by omega) (by omega) λq2 N2 h2 f2=>?_
      refine cm (h2 _ _ f1) f2 (by simp only[Jx,JG];omega) λq3 N3 O f3=>?_
      have HN:=O _ _ (h2 _ _ (h1 _ _ HI));refine gq HN rfl (by omega) λq4 N4 h4 f4=>?_
      refine aE (h4 _ _ HN) (d:=.str rows[i]) (by simp[atI,ixN,ei]) ?_
      refine⟨by rw[td];first|decide|omega,λq5 Ia=>⟨by omega,?_⟩⟩
      have h5:=Ge.new (o:=.lst [D.str (gV ""),D.str (gV "-"),D.str (gV "- * - > -"),D.str rows[i]]) Ia;have f5:af N4 q5 (.lst [D.str (gV ""),D.str (gV "-"),D.str (gV "- * - > -"),D.str rows[i]]) q5=some (.lst ([gV "",gV "-",gV "- * - > -",rows[i]].map .str)):=aa;generalize af N4 q5 (.lst [D.str (gV ""),D.str (gV "-"),D.str (gV "- * - > -"),D.str rows[i]])=N5 at h5 f5;obtain⟨v,hv,Ib⟩:=zn (ds:=[gV "",gV "-",gV "- * - > -",rows[i]]) (r:=(j:Int) % 4) (by omega) (by simp only[Jr,Kq];omega)
      refine aE f5 Ib ?_;have Ic:Rw (2*B+8) v:=by
       simp only[Jl,JB,or_false]at hv
       rcases hv with rfl|rfl|rfl|rfl
       ·exact(dD (B:=9) (by decide +kernel)).mono (by omega)
       ·exact(dD (B:=9) (by decide +kernel)).mono (by omega)
       ·exact(dD (B:=9) (by decide +kernel)).mono (by omega)
       ·exact hR.mono (by omega)
      refine⟨by rw[td];first|decide|omega,λq6 Id=>?_⟩
      have h6:=Ge.new (o:=.lst [.str v]) Id;refine cm (ys:=[v]) (h6 _ _ (h5 _ _ f4)) aa (by simp only[Jx,JP];omega) λq7 N7 h7 f7=>?_
      have HW:=((h4.trans h5).trans h6).trans h7;refine gr (HW _ _ HN) rfl (by omega) λq8 N8 L f8=>?_
      refine cm (L _ _ f7) f8 (by simp only[Jq,Jx,JP,JG];omega) λq9 N9 h9 f9=>?_
      refine⟨by rw[td];first|decide|omega,λHP HX=>?_⟩
      have HY:=Ge.new (o:=.lst [.ref q3,.ref q9]) HX;have gg:=(HW.trans L).trans (h9.trans HY);have gx:=g8.ge (((h1.trans h2).trans O).trans gg);have w3:=gg _ _ f3;have w9:=HY _ _ f9;have HQ:af N9 HP (.lst [.ref q3,.ref q9]) HP=some (.lst [.ref q3,.ref q9]):=aa;generalize af N9 HP (.lst [.ref q3,.ref q9])=N10 at gx w3 w9 HQ ⊢
      rcases (by omega:way=8∨way=9) with rfl|rfl
      ·refine aE HQ (d:=.ref q3) rfl ?_;refine q _ q3 N10 (λz F=>?_) (by simp only[Jq,Jx,JG];omega) gx (cb gx.box w3) w3
       rcases Jz.mp F with F|F
       ·exact(hr z (JZ F)).mono (by omega)
       ·exact(hr z (JE F)).mono (by omega)
      ·refine aE HQ (d:=.ref q9) rfl ?_;refine q _ q9 N10 (λz F=>?_) (by simp only[Jq,Jx,JP,JG];omega) gx (cb gx.box w9) w9
       rcases Jz.mp F with F|F
       ·rcases Jz.mp F with F|F
        ·exact(hr z (JZ F)).mono (by omega)
        ·rw[L7.mp F];exact Ic
       ·exact(hr z (JE F)).mono (by omega)
theorem cc {b:Str}(z:asc a)(F:asc b):asc (a++b):=λc j=>by
 rw[aF]at j
 rcases Jz.mp j with h|h
 ·exact z c h
 ·exact F c h
theorem rA (h:(cl a).all (λc=>decide (c<128))=true):asc a:=λc j=>by simpa using JK.mp h c j
theorem pX (n:Int):asc (tx n):=λc j=>ON λh=>ir (k:=c) ⟨by omega,by omega⟩ n j
theorem ja (ns:List Int):asc (bb ns):=λc j=>ON λh=>lZ (k:=c) ⟨by omega,by omega⟩ (by omega) (by omega) ns j
theorem yI (a b c:Nat):asc (az a b c):=by
 unfold az;refine cc (cc (cc (cc (cc ?_ (pX a)) ?_) (pX b)) ?_) (pX c)
 all_goals exact rA (by decide +kernel)
theorem B9 {a b:Nat}(F:a<=5)(J:b<=5)(L:c<=5):Rw 141 (az a b c):=by
 have lx:∀ x:Nat,x<=5->(tx (x:Nat)).length<=5:=λx hx=>aX (i:=(x:Int)) (by omega)
 have j:(gV " ").length=1:=by rw[Ja];rfl
 have z:(gV "scheme ").length=7:=by rw[Ja];rfl
 have:=lx a F;have:=lx b J;have:=lx c L;refine⟨yI a b c,jY a b c,?_⟩;unfold az;simp only[Jf,j,z];omega
theorem i3 (F:bI ns)(O:ns.length<=5):(bb ns).length<=45:=by
 have j:(gV " ").length=1:=by rw[Ja];rfl
 have z:(gV ":").length=1:=by rw[Ja];rfl
 unfold bb
 split
 ·rw[show (gV "-").length=1 by rw[Ja];rfl];omega
 ·have h:=eZ (s:=gV " ") (B:=8) (ts:=(fl ns).map bv) fun t J=>by
   obtain⟨p,L,rfl⟩:=K1.mp J;obtain⟨h1,h2⟩:=pE L;have:=F _ h1;have a:=aX (i:=p.1) (by omega)
   have b:=(pG (n:=p.2) (by omega)).2.2.1 (by omega)
   unfold bv;simp only[Jf,z];omega
  rw[j,Jc]at h;have:=gX ns;omega
theorem Dd {p:Pr}(h:di j z L2 p)(h0:j<=5)(h1:z<=5)(h2:L2<=5):Rw 141 (aU p):=by
 have a:=i3 h.s0 (by rw[h.l0];exact h0)
 have b:=i3 h.s1 (by rw[h.l1];exact h1)
 have c:=i3 h.s2 (by rw[h.l2];exact h2)
 have l1:(gV " * ").length=3:=by rw[Ja];rfl
 have l2:(gV " > ").length=3:=by rw[Ja];rfl
 refine⟨?_,m3 p,?_⟩
 ·unfold aU;refine cc (cc (cc (cc (ja _) ?_) (ja _)) ?_) (ja _)
  all_goals exact rA (by decide +kernel)
 ·unfold aU;simp only[Jf,l1,l2];omega
noncomputable def Bk:Nat->Nat
 |0=>141
 |k+1=>2*Bk k+8
theorem Ev {k:Nat}(h:k<=1):Bk k<=290/\1<=Bk k/\Bk (k+1)<=588/\Bk k<=Bk (k+1):=by
 rcases (by omega:k=0∨k=1) with rfl|rfl <;> decide
theorem yJ {rows:List Str}(h:∀ w∈rows,Rw B w):asc (JH ⟨#[10]⟩ rows):=λc j=>by
 rw[aM]at j
 rcases iz j with e|⟨x,hx,e⟩
 ·omega
 ·obtain⟨w,hw,rfl⟩:=K1.mp hx;exact(h w hw).a c e
theorem FE (j : 1<=n){o:Option Nat}(q:Q (.bl true) M):phi tab n 25 [dO o,dO o] M Q:=by
 refine ao (by omega) rfl rfl (ρ:=[some _,some _]) rfl ?_
 unfold d25 b25
 cases o with
 | none =>
   unfold dO;walk_at "st";refine⟨true,rfl,true,rfl,?_⟩;rw[if_pos rfl];walk_at "st";refine⟨true,rfl,true,rfl,?_⟩;rw[if_pos rfl];exact⟨true,rfl,q⟩
 | some i =>
   unfold dO;walk_at "st";refine⟨false,rfl,false,rfl,?_⟩;rw[if_neg J9];refine⟨false,rfl,false,rfl,?_⟩;rw[if_neg J9];walk_at "st";refine⟨_,rfl,?_⟩;rw[if_pos (by decide)]
   refine⟨_,rfl,?_⟩;rw[if_pos (by decide),beq_self_eq_true]
   exact q
theorem law_holds (ns:List Int)(hl:ns.length<=63):phi tab 38 28 [.con (ns.map D.int)] (λ_=>none) λd _=>d = .bl true:=by
 refine ao (by omega) rfl rfl (ρ:=[some _,none,none,none,none,none,none,none,none]) rfl ?_
 unfold d28 b28;walk_at "st";rw[Jc];refine⟨by split <;> split <;> omega,by split <;> split <;> omega,?_⟩
 refine bE (I:=λl ρ M'=>∃ o1 o2 o3 o4 o5 o6 o7 o8,ρ = [some (.con (ns.map D.int)),o1,o2,o3,o4,o5,o6,o7,o8]) eh ⟨_,_,_,_,_,_,_,_,rfl⟩ (λ_ _ _ hI=>trivial) ?_ ?_
 ·rintro l k r ρ M8 e ⟨o1,o2,o3,o4,o5,o6,o7,o8,rfl⟩;refine⟨_,rfl,λF hF=>?_⟩;walk_at "st";refine D1 (s:=al 22) (fc:=10) (fm:=11) (sc:=al 20) rfl rfl (λq=>pw (s:=al 21) rfl (by omega) q) (by omega) (by omega) λb x y hp=>?_
  have Ib:Box b (af M8 b (.lst [.int x,.int y,.int 0])):=⟨_,_,_,aa⟩;generalize af M8 b (.lst [.int x,.int y,.int 0])=M1 at Ib;walk_at "st";refine tU (by omega) Ib (by decide) (by decide) λU Y L2 a M2 lp l0 l1 l2 x2 HW ha=>?_
  refine bR (by omega) x2.box (by decide) (by decide) λc0 M3 c1 c2 x3=>?_
  obtain⟨c,rfl⟩:∃ c:Nat,c0=(c:Int):=⟨c0.toNat,(QL c1).symm⟩;refine tO (x:="_law_lengths_here") (s:=al 26) (ft:=13) (fp:=15) rfl (bR (by omega)) (yE (by omega)) (by omega) (by omega) (by omega) (by omega) (by omega) x3.box HW (x3.keep a _ HW ha) λps pr M4 IU Ic x4 HQ Iw=>?_
  have Id:pr≠b:=λz=>by obtain⟨u,v,w,e⟩:=x3.box;rw[<- z,HQ]at e;cases e
  have Ix:=x4.box;clear x4 x3 x2 HQ ha HW hp;walk_at "st";refine⟨by decide,by decide,?_⟩
  refine bE (I:=λl ρ M'=>(∃ o4 o5 o6 o7 o8,ρ = [some (.con (ns.map D.int)),some (.int (k:Nat)),some (.ref b),some (.tup [.int (U:Nat),.int (Y:Nat),.int (L2:Nat),.ref pr]),o4,o5,o6,o7,o8])/\Box b M'/\M' pr=some (.lst (ps.map prD))) eh ⟨⟨_,_,_,_,_,rfl⟩,Ix,Iw⟩ (λ_ _ _ hI=>trivial) ?_ ?_
  ·rintro lt t rt ρ M5 et ⟨⟨Iy,Iz,IA,Ie,Ig,rfl⟩,Ih,Z⟩;refine⟨_,rfl,λF2 Ii=>?_⟩;walk_at "st";refine Et (by omega) Ic (by omega) (by omega) (by omega) (by omega) Z λM6 g6=>?_
   have IB:Jb (iw U Y L2 ps) (gV "\n")=az U Y L2::ps.map aU:=tQ U Y L2 ps;have HX:∀ w∈az U Y L2::ps.map aU,Rw 141 w:=λw hw=>by
    rcases Jl.mp hw with rfl|hw
    ·exact B9 (by omega) (by omega) (by omega)
    ·obtain⟨p',IC,rfl⟩:=K1.mp hw;exact Dd (Ic p' IC) (by omega) (by omega) (by omega)
   have IV:(iw U Y L2 ps).length<=10000:=by
    have h:=eZ (s:=gV "\n") (B:=141) (ts:=az U Y L2::ps.map aU) λt ht=>(HX t ht).l;have l1:(gV "\n").length=1:=by rw[Ja];rfl
    rw[l1,Jr,Jc]at h;unfold iw;omega
   refine⟨⟨_,rfl⟩,_,rfl,_,rfl,by rw[Ja];rfl,by rw[td];first|decide|omega,λp7 ID=>?_⟩
   rw[IB];have HR:(az U Y L2::ps.map aU).length<=7:=by rw[Jr,Jc];omega
   have HS:az U Y L2::ps.map aU≠[]:=by simp
   generalize az U Y L2::ps.map aU=rows0 at HX HR HS ⊢;have g7:=g6.trans (Ge.new (o:=.lst (rows0.map .str)) ID);have e7:af M6 p7 (.lst (rows0.map .str)) p7=some (.lst (rows0.map .str)):=aa;have x7:=(Bx.refl Ih).ge g7;have HU:=g7 _ _ Z;generalize af M6 p7 (.lst (rows0.map .str))=M7 at e7 x7 HU;have Ij:=x7.box;clear g7 g6 x7;walk_at "st";refine bR (by omega) Ij (by decide) (by decide) λmore M9 m0 m1 x9=>?_
   have e9:=x9.keep p7 _ (cb Ij e7) e7;have Ik:=x9.keep pr _ Id HU;have IE:=x9.box;clear x9;rw[CV];refine⟨_,rfl,by omega,by omega,?_⟩
   refine bE (I:=λl ρ M'=>∃ (rows:List Str) (pp:Addr) (o6:Option D),ρ = [some (.con (ns.map D.int)),some (.int (k:Nat)),some (.ref b),some (.tup [.int (U:Nat),.int (Y:Nat),.int (L2:Nat),.ref pr]),some (.int (t:Nat)),some (.ref pp),o6,Ie,Ig]/\Box b M'/\M' pr=some (.lst (ps.map prD))/\M' pp=some (.lst (rows.map .str))/\rows≠[]/\rows.length<=7+l.length /\ ∀ w∈rows,Rw (Bk l.length) w) eh ⟨rows0,p7,_,rfl,IE,Ik,e9,HS,HR,HX⟩ (λ_ _ _ hI=>trivial) ?_ ?_
   ·rintro l2 x2 r2 ρ M10 e2 ⟨rows,pp,o6,rfl,L,J,HN,HY,HZ,HI⟩;have IF:=aD e2;rw[OY]at IF;obtain⟨k1,k2,k3,k4⟩:=Ev (k:=l2.length) (by omega)
    refine⟨_,rfl,λF3 Il=>?_⟩;walk_at "st";refine FC (by omega) HI k1 k2 HY (by omega) L (cb L HN) HN λrows' a' IG Im II I0 IW I8=>?_
    have HJ:=I0.keep pr _ Id J;have I9:l2.length+1=(l2++[x2]).length:=by simp
    refine⟨_,rfl,_,I8,?_⟩
    cases hem:rows' with
    | nil =>
      refine(if_pos rfl).mpr ⟨by rw[td];first|decide|omega,λIJ Io=>?_⟩
      have HP:=Ge.new (o:=.lst [.str (gV "")]) Io;refine Il _ _ ⟨[gV ""],IJ,_,rfl,(I0.ge HP).box,HP _ _ HJ,aa,by simp,by rw[<- I9,JP];omega,λw hw=>?_⟩
      rw[L7.mp hw];exact(dD (B:=0) (by decide +kernel)).mono (by omega)
    | cons w0 r0 =>
      rw[hem]at Im II I8;refine(if_neg (by simp)).mpr ?_
      refine Il _ _ ⟨w0::r0,a',_,rfl,I0.box,HJ,I8,by simp,by rw[<- I9];omega,λw hw=>?_⟩
      rw[<- I9];exact Im w hw
   ·rintro ρ M10 ⟨rows,pp,o6,rfl,L,J,HN,HY,HZ,HI⟩;rw [OY] at HZ HI;have HK:∀ w∈rows,Rw 588 w:=fun w hw=>(HI w hw).mono (by
     rcases (by omega:(1+more).toNat=1∨(1+more).toNat=2) with h|h <;> rw[h] <;> decide)
    have HL:rows.length<=9:=by omega
    clear HI HZ;have Ip:(gV "\n").length=1:=by rw[Ja];rfl
    have Iq:=eZ (s:=gV "\n") (B:=588) (ts:=rows) λt ht=>(HK t ht).l;have IY:=fM (B:=588) (ts:=rows) λt ht=>(HK t ht).l;rw[Ip]at Iq;have O:Jb (JH (gV "\n") rows) nl=rows:=by
     unfold nl;rw[mk1.2.2.2.1];exact gk HY λy hy=>(HK y hy).n
    have j:asc (JH (gV "\n") rows):=by rw[mk1.2.2.2.1];exact yJ HK
    walk_at "st";refine⟨⟨_,rfl⟩,_,rfl,rows,HN,by rw[Ip];omega,?_⟩
    rw[tj];generalize JH (gV "\n") rows=tt at Iq O j ⊢;have hlen:tt.length<=100000:=by have:rows.length*(588+1)<=9*589:=Nat.mul_le_mul HL (Jg _);omega
    have Ia:∀ w∈Jb tt nl,w.length<=600:=λw hw=>by rw[O]at hw;have:=(HK w hw).l;omega
    have Ir:(Jb tt nl).length<=900:=by rw[O];omega
    walk_at "st";refine first (by omega) hlen j Ia Ir λIG IK=>?_
    walk_at "st";refine AZ (by omega) hlen j Ia Ir λIM HP=>?_
    rw[rp tt];refine FE (by omega) ⟨true,rfl,?_⟩
    rw[if_neg (by decide)]
    have Iu:=IK.trans HP;have HV:Box b IM:=((Bx.refl L).ge Iu).box;have HM:=Iu _ _ J
    cases hF0:fbO tt with
    | some i =>
      unfold dO;walk_at "st";refine⟨false,rfl,false,rfl,?_⟩;rw[if_neg J9];exact Ii _ _ ⟨⟨_,_,_,_,_,rfl⟩,HV,HM⟩
    | none =>
      obtain⟨hd,rs,A0,A1,A2,qs,es,el,⟨a0,a1,a2⟩,IN,IO,IP,IZ⟩:=B8 ((rp tt).trans hF0);unfold dO;walk_at "st";refine⟨true,rfl,true,rfl,?_⟩;rw[if_pos rfl];have J0:rs.length+1<=9:=by rw[O]at es;rw[es]at HL;exact HL
      refine D6 (ps:=qs) (by omega) es el IN hlen j (by rw[<- es];exact Ia) (by omega) λJ1 J2 IQ IT IR=>?_
      refine Da (by omega) IO (by omega) (by omega) (by omega) (by omega) IR λJ3 IS=>?_
      rw[<- IP];refine pI (bS j) (bS j) ⟨false,by rw[decide_eq_true rfl];rfl,?_⟩
      rw[if_neg J9];have Iv:=IQ.trans IS;exact Ii _ _ ⟨⟨_,_,_,_,_,rfl⟩,((Bx.refl HV).ge Iv).box,Iv _ _ HM⟩
  ·rintro ρ M5 ⟨⟨Iy,Iz,IA,Ie,Ig,rfl⟩,Ih,Z⟩;exact hF _ _ ⟨_,_,_,_,_,_,_,_,rfl⟩
 ·rintro ρ M8 ⟨o1,o2,o3,o4,o5,o6,o7,o8,rfl⟩;dsimp only;walk_at "st"
end K54
end
end
end Mi
end L2
namespace PySem.W.Fast
theorem tw4517605459725883737:True:=trivial
theorem tw4019039211033211496:True:=trivial
theorem tw10653404649291624786:True:=trivial
theorem tw3219733837685594683:True:=trivial
theorem tw1508316062549763613:True:=trivial
theorem tw64710283301681190:True:=trivial
theorem tw9083384972701805797:True:=trivial
theorem tw3128741905719105457:True:=trivial
theorem tw4778643142672509626:True:=trivial
theorem tw15052911480782206432:True:=trivial
theorem tw1672267288656429535:True:=trivial
theorem tw16541553266377370391:True:=trivial
theorem tw8713973559220495974:True:=trivial
theorem tw597256486298797551:True:=trivial
theorem tw6365232641564006448:True:=trivial
theorem tw9356336602423919559:True:=trivial
theorem tw12938906652938077556:True:=trivial
theorem tw15265175097585283924:True:=trivial
theorem tw9825115784063919149:True:=trivial
theorem tw3215512019990117938:True:=trivial
theorem tw579828164624907886:True:=trivial
theorem tw6158309241399222096:True:=trivial
theorem tw2641499203270533215:True:=trivial
theorem tw16803104090220881771:True:=trivial
theorem tw9988211999273473626:True:=trivial
theorem tw14756279349093499219:True:=trivial
theorem tw6858989216946151872:True:=trivial
theorem tw5368210240321369922:True:=trivial
theorem tw238864526371698437:True:=trivial
theorem tw13913588780750428867:True:=trivial
theorem tw10731265684914354415:True:=trivial
theorem tw5188305094073959921:True:=trivial
theorem tw11072870833359586475:True:=trivial
theorem tw9451439562306921197:True:=trivial
theorem tw4314069892755841307:True:=trivial
theorem tw1804157469692626138:True:=trivial
theorem tw12470726703299888889:True:=trivial
theorem tw17709850683477842056:True:=trivial
theorem tw1902718440195443143:True:=trivial
theorem tw12840860406680276726:True:=trivial
theorem tw13932910622371205919:True:=trivial
theorem tw10151833604306751655:True:=trivial
theorem tw7479207805480749972:True:=trivial
theorem tw6149666906386992574:True:=trivial
theorem tw12994528308680302009:True:=trivial
theorem tw14303553254821094916:True:=trivial
theorem tw8317574630709650050:True:=trivial
theorem tw35903622398234424:True:=trivial
theorem tw13898914816627487393:True:=trivial
theorem tw18263116497914818554:True:=trivial
theorem tw1396544907203654000:True:=trivial
theorem tw14420716138905334748:True:=trivial
theorem tw13483212765632260751:True:=trivial
theorem tw6184461197438648527:True:=trivial
theorem tw13097268588131257568:True:=trivial
theorem tw10694196750722227096:True:=trivial
theorem tw4123036996393225897:True:=trivial
theorem tw9354785740516541861:True:=trivial
theorem tw17616336873967289:True:=trivial
theorem tw14338373314324083186:True:=trivial
theorem tw17820514830288450678:True:=trivial
theorem tw13442488005775620056:True:=trivial
theorem tw16648684251571971187:True:=trivial
theorem tw1197054514708631834:True:=trivial
theorem tw1559718423076790145:True:=trivial
theorem tw14682953789036449419:True:=trivial
theorem tw7596899095658551649:True:=trivial
theorem tw9092745730665583526:True:=trivial
theorem tw25665437106614418:True:=trivial
theorem tw5717636099125507460:True:=trivial
theorem tw16445014539800977893:True:=trivial
theorem tw9615937212234459417:True:=trivial
theorem tw13595118807853031511:True:=trivial
theorem tw4835433290045154504:True:=trivial
theorem tw2179328414861163349:True:=trivial
theorem tw13916363132699711979:True:=trivial
theorem tw16982697499148815337:True:=trivial
theorem tw11441836327266218142:True:=trivial
theorem tw10880128681083770012:True:=trivial
theorem tw6029338177246026129:True:=trivial
theorem tw3246795257730380547:True:=trivial
theorem tw18210283264906825704:True:=trivial
theorem tw18397042236230577939:True:=trivial
end PySem.W.Fast
open PySem.W in
set_option maxRecDepth 100000 in
set_option maxHeartbeats 0 in
theorem PySem.Challenge.cw_fewtimes_k54_texts_of_no_scheme_holds : PySem.Challenge.rw_fewtimes_k54_texts_of_no_scheme.Holds := by
 w_on;o_law;k_head;(case hw=>w_witness2)
 k_fill
 refine L2.Mi.K54.walk (l:=PySem.Challenge.rw_fewtimes_k54_texts_of_no_scheme) rfl rfl L2.Mi.K54.law_holds (fun w h Y=>PySem.W.kIn_of Y) ?F
 case F =>
  intro w mg fa h KX G hmg;refine' L2.Mi.K54.all_mk KX G hmg ?z ?_ ?_ ?_ ?_ ?_ ?_ ?_ ?_ ?_ ?_ ?_ ?_ ?_ ?_ ?_ ?_ ?_ ?_ ?_ ?_ ?_ ?_ ?_ ?_ ?_ ?_ ?_ ?_ ?_ ?_ ?_ ?_ ?_ ?_ ?_ ?_ ?_ ?_ ?_ ?_ ?_ ?_ ?_ ?_ ?_ ?_ ?_ ?_ ?_ ?_ ?_ ?_ ?_ ?_ ?_ ?_ ?_ ?_ ?_ ?_ ?_ ?_ ?_ ?_ ?_ ?_ ?_ ?_ ?_ ?_ ?_ ?_ ?_ ?_ ?_ ?_ ?_ ?_ ?_ ?_ ?_ ?_ ?_ ?_ ?_ ?_ ?_ ?_ ?_ ?_ ?_ ?_ ?_ ?_ ?_ ?_ ?_ ?_ ?_ ?_ ?_ ?_ ?_ ?_ ?_ ?_ ?_ ?_ ?_ ?_ ?_ ?_ ?_ ?_ ?_ ?_ ?_ ?_ ?_ ?_ ?_ ?_ ?_ ?_ ?_ ?_ ?_ ?_ ?_ ?_ ?_ ?_ ?_ ?_ ?_ ?_ ?_ ?_ ?_ ?_ ?_ ?_ ?_ ?_ ?_ ?_
  case z =>
   intro x hx;simp only [L2.Mi.bltNames,List.mem_cons,List.not_mem_nil,or_false] at hx
   rcases hx with rfl | rfl | rfl | rfl | rfl | rfl | rfl | rfl | rfl | rfl | rfl | rfl | rfl | rfl | rfl | rfl | rfl | rfl | rfl | rfl <;> k_is
  all_goals try (show _=_;first | k_is | k_exc | kit_is | rfl | decide +kernel)
