import PyProof.Rows.All
import Wide.All
import OpenK.AllK
import Wide.FinOn
import Lean
import PyProof.EqAt
import PyProof.EqKinds
import PyProof.TupleCall
import PyProof.StationsW
import PyProof.ExcClass3
import OpenK.KOwn
import PyProof.ExcBaseAll.ValueError
import PyProof.RulesAs
import PyProof.NsDelKeeps
import KE.KIsAll
import PyProof.ExcArgsOwn
import PyProof.ExcAttrAll.ValueError
import PyProof.ZipIter
import PyProof.EnumMake
import PyProof.EnumFor
import PyProof.CollectIter
import PyProof.TupleKey
import PyProof.DictRoadsH
import PyProof.P3Eq
import PyProof.Rows.SeqMore
import PyProof.ConsumeWalk
import PyProof.Rows.SortShellK
import PyProof.DictItems
import PyProof.DictWalks
import PyProof.AttrMissHeap
import PyProof.DictIter
import PyProof.MaxThree
import PyProof.SeqI3
import PyProof.DictTruth
import PyProof.Rows.TupDisplay
import PyProof.ListCopy
import PyProof.NeKinds
import PyProof.SetKind
import PyProof.IsRules
import PyProof.Rows.SetFrom
import PyProof.SetRoads
import PyProof.RaisesDict
import KE.KIntText
import PyProof.Rows.CallKwBuiltin
import PyProof.Rows.CountFlat
import KE.KDictOf
import PyProof.DelItemList
import PyProof.ObjNew
import OpenK.KCls
import PyProof.InstStoreFacts
import OpenK.KMore
import PySem.Challenge.RW_fewtimes_k55_bounds_of_texts
set_option Elab.async false
set_option linter.all false
set_option compiler.extract_closed false
set_option genSizeOf false
set_option bootstrap.genMatcherCode false
set_option maxRecDepth 100000
set_option maxHeartbeats 4000000
open PySem.W (Frag)
open PySem.Str renaming ofString → g8, length_append → FX, join → GD, append_assoc → JH, empty → KY, length → MP
open PySem renaming wpAny_bind → gV, Value → h8, Shared → Ft, wpAny_pure → Fv, sizeLine_eq → Fy, sizeLine → Fz, wpAny → FG, ofString_length → FH, starEach → FN, Program → FT, Around → G3, compareOp → G6, World → G8, wpAny_field → G9, wpAny_mono → Ga, Comprehension → Gk, mainGlobals → Gm, wpAny_holding → Gp, wpAny_setField_rec → Gq, wpAny_callSpecial?_slot → Gs, wpAny_standAt → Gu, wpAny_truthy_bool → GC, mem_of_lookup → GL, binaryOp → GP, wpAny_pyIter_tuple → GR, backTo → GY, Paired → GZ, wpAny_newObj_type → H8, foldedSetIterable → H9, wpAny_pyIter_list → Hb, wpAny_loadPart' → Hf, FuncData → Hi, swapsWith → Hl, assignEach → Hm, wpAny_call_entry → Hn, codeAny_call_builtin → Ht, cellsFrom → Hu, wpAny_loadPart_at → Hw, keywordEach → HE, wpAny_Call_Name_kw → HH, wpAny_seqItems → HL, rawInt → HR, wpAny_passesOwn → HW, codeAny_mono → I0, swappedStores → Ie, behindInMarks → Ig, call_meets → Ii, IsPair → Il, NameKind → Iq, excClassObj → Iu, sysModules → Iv, bootBuiltins → Iw, wpAny_execs_nil → ID, wpAny_rule → IJ, wpAny_setField → IM, checkBuiltinCall → IZ, swapsWithSole → Jb, backToKw → Jd, Builtin → Jj, typeIs_str → Jn, sliceBounds → Js, standAt → Jv, cpsOfBytes_string → JA, wpAny_call → JD, attributeBase → JI, codeAny → JK, Keyword → JL, wpAny_onRaise → JM, wpAny_attempt → JO, wpAny_updateSeq_pair → JS, letOwnedTupleGo → JV, getAttrByItsOwn → JY, wpAny_isSubtype_exc → K6, Model → Kd, pyNext → Kg, wpAny_binaryOp_repeat_ref → Kv, IsZip → KD, wpAny_pyIter_enum → KH, wpAny_Call_ofName → KJ, wpAny_comprehension_free → KO, IsEnum → KP, GenState → KS, wpAny_execs_cons → KU, lastMarks → KW, noFill_tuple_add → L3, setFlight → L5, wpAny_getItem_str_slice → Lb, builtinsNs → Lk, IsPart → Ll, getItem → Lm, wpAny_typeOf → Ln, typeIs_int → Lq, codeAny_of_tree → LD, pushCells_keeps → LF, wpAny_Expr_any → LL, wpAny_bindName → LM, CmpOp → LN, cLine → LP, unbindBehindTheSuite → LR, wpAny_point → LU, newFunctionEnv → LV, ZipApart → LW, wpAny_letGo → LX, intText? → Mb, tupleKind → Mg, PassesOwn → Mh, BindsTo → Mj, callerA → Mk, valueAt → Ml, noteFrame → Mm, assignInOrder → Mw, seq_tuple_add → Mx, foldedForSure → MD, wpAny_Constant_int → MJ, pyIter → MK, tupleKind_room_in1 → MU, isInstance → MX, cpsOfBytes → N4, bindName → Na, Operator → Nb, concat_meets → Ni, wpAny_sequenceKey → Nj, seqIndex_neg → Nk, OwnTail → Nq, callWith → Nx, ExcBaseFacts → Nz, getAttrBy → NM, pushCells → NN, wpAny_isInstance → NQ, wpAny_pyIter_zip → NS, IsEnumOut → NT, seqIndex_of → NZ, atKey → O0, wpAny_of_eq → O1, OsState → Oi, wpAny_Name → Oj, bindL → Ol, bindC → Om, typeLookup → Oo, call → Oq, Meets → Ou, PyData → Ov
open Bool renaming and_eq_true → hX, false_ne_true → Fu, not_eq_true' → G2, true_and → Im, false_and → Ip, false_eq_true → Iy, eq_false_iff → II, or_eq_true → Jl, not_eq_true → JG, false_or → KL, or_true → Ls, and_eq_true_iff → LZ
open PySem.Heap renaming get?_push_of_some → td, lt_size → FF, get?_push_size → FK, get?_update_other → Gc, get?_update_self → Gg, size_push → Gz, SameBut → GK, size_update → IY, get?_none_of_le → JP, IsTuple → K9, IsList → KG, get?_push_cases → LY, get?_update_ne → Mu, ExtBut → O6
open List renaming replicate → Fw, mem_cons → FA, size_toArray → FJ, mem_cons_of_mem → FL, length_map → FO, getElem?_eq_getElem → FP, not_mem_nil → FQ, length_cons → FR, length_append → FW, map_cons → FY, mem_append_right → FZ, getElem?_eq_some_iff → G0, all_eq_true → Gf, getElem?_set_self → Gi, getElem?_map → Gj, map_append → Gr, replicate_succ → GA, length_replicate → GB, length_eq_zero_iff → GG, mem_cons_self → GH, mem_of_mem_drop → GJ, length_take → GU, lookup_cons → GW, find?_cons → He, length_singleton → Hj, append_assoc → Hv, range → Hx, mem_append → Hy, append_nil → Hz, length_nil → HA, map_nil → HC, cons → HF, getElem?_append_right → HI, mem_singleton → HN, map_replicate → HP, length_zipIdx → HQ, getElem?_append_left → HS, drop_eq_getElem_cons → HV, getElem?_set_ne → HY, mem_of_getElem? → I8, flatten_cons → Ia, mem_map → Ib, any_cons → Ij, eq_of_mem_replicate → Io, getElem?_drop → IB, getElem?_mapIdx → IS, mem_of_mem_take → IT, length_drop → IW, drop_length → J1, filterMap_cons → J3, drop_succ_cons → J9, all_cons → Jf, idxOf_lt_length_iff → Jg, nodup_cons → Jh, forIn_cons → Jk, contains_cons → Jo, getElem?_cons_zero → Ju, drop_zero → JB, mem_append_left → JQ, getElem?_zipIdx → JU, foldl_cons → JW, all_map → Ka, mem_range → Kc, mem_filterMap → Kh, getD_eq_getElem?_getD → Kp, getElem_idxOf → Ks, getElem?_replicate → KZ, getElem?_cons_succ → Le, take_length → Lf, append_cancel_left → Lg, zipWith → Lv, mem_filter → Ly, of_mem_zip → Lz, length_set → LA, nil_append → LB, count_cons → LG, idxOf_cons → LH, map_eq_nil_iff → Mv, foldl → MQ, getElem?_take → N1, set_cons_zero → N2, set_cons_succ → N3, count_pos_iff → N7, head?_append → ND, ext_getElem? → NG, zipIdx_cons → NO, zipIdx_nil → Oe
open PySem.Txt renaming split → FC, partition → Gh, slice → Hc, startswith → Jy, slice_le → Kb, join → Ma
open Nat renaming le_refl → FE, lt_of_lt_of_le → FV, ne_of_lt → Gb, le_trans → Gn, toDigits → GQ, zero_le → GX, lt_irrefl → Hq, ne_of_gt → HZ, toDigits_of_lt_base → Ir, le_of_lt → IV, lt_trans → J0, lt_of_succ_lt_succ → Jz, log2_lt → JT, toDigits_append_toDigits → K2, min_eq_left → K3, eq_zero_or_pos → Ku, le_succ → KA, succ_le_succ → L9, mul_comm → Lr, log2 → NF, min_le_right → NI, not_lt → Ot
open PySem.W renaming mg_of → FU, findIn → Gw, kia_one → Gy, keepIn → Ha, nsIn → HD, InstAt → HG, fnOf → I9, looks_findIn → IQ, findObj → Ji, cellsFrom_some → Jw, mroIn → JJ, subIn → JN, kitOne → Ki, codeIn → Kj, isNs_of_in → Kn, methodObj → Ky, specialIn → Kz, excIn → KN, instObj → Lx, OpenLaw → LC, lookIn → LO, looks_subIn → Mq, clsIn → My, callWith_K → MM, tail_of_in → MV, looks_find → MW, kitx_list → Nc, kitx_dict → Nf, plainGet → NH, takesIn → Ob
open PySem.NameKind renaming free → G4, cell → Hs
open PySem.Value renaming ref → G5, none → Gv, int → IU, type → Lj, str → Mf, bool → MH, float → NY
open PySem.NumText renaming digitsVal → G7
open PySem.PyData renaming strOk → Gd, eqv → GI, eqvAll → IF, canLayAll0 → Nv, list → O7, depthAll → Of
open PySem.Builtin.Str renaming occurrences → GF, strSub → IC, partsBetween → KQ, strKind → Mt
open Int renaming toNat_natCast → GN, natAbs_natCast → Iz, emod_lt_of_pos → Jp, emod_nonneg → K1, natAbs → Lw, toNat → OH
open Classical renaming not_not → GO
open Option renaming some → Hd, bind_some → Ho, isSome_iff_exists → Hr, map_some → HX, isSome_some → MR, getD_none → NJ, join_some → NU, bind_none → NV, join_none → NW
open PyProof.Rows renaming slot_tuple_getitem → Hg, callWith_type1 → HB, envOfC → Jm, kindOf → JE, callWith_builtin1 → JF, AllBare → K7, assignInOrder_cons → Kf, seqSlot_of → L8, subscriptTail_builtinR → Lo, split_pos → Mn, entry_tuple_getitem → Mo, args_tuple_getitem → MN, assignInOrder_nil → N9, isStrOf → Ny, IntsAre → Oh
open ToString renaming toString → Hh
open PySem.Obj renaming isFreed_of_fields → Hk, data_mapFields → HJ, mapFields → Ik, mapSeq → Lp, cls_mapFields → Np
open PySem.F renaming slot_tuple_iterator_next → HK, plainAttrs_str → IA, slot_enumerate_next → IG, args_tuple_add_2 → Jc, entry_tuple_add → Jr, plainAttrs_list → Jt, slot_tuple_add → Jx, slot_int_rmul → JX, args_tuple_iterator_next_1 → JZ, slot_zip_next → K0, entry_tuple_iterator_next → K8, args_str_split_2 → Kq, entry_str_split → KI, args_enumerate_next_1 → L7, slot_str_split → La, slot_list_count → Lc, slot_list_index → Ld, entry_enumerate_next → Lu, entry_enumerate_new → LJ, excBase_ValueError → Mc, called_enumerate → MY, args_int_rmul_2 → Nl, args_zip_next_1 → Nr, entry_int_rmul → NL, entry_zip_next → NP, fills_int_mul → Oc, entry_bexc_ga → Od
open PySem.StrLaws renaming join_split → HM, glued_eq_join → LK, split_free → N5, At → N6, occ_head → NX
open PySem.Builtin.Slice renaming slicePlaces → HU, sliceAdjust → J2, sliceApplied → Kk
open PySem.Shared renaming heap → Ic
open PySem.Builtin.Tuple renaming tupleExact → Ih, tupleItemsOf → Kl, tupleIsExact → Km, tupleTooMany → Ko, tupleHashOf → Kx
open ForInStep renaming yield → IE
open True renaming intro → IK
open Array renaming getElem?_eq_some_iff → IP, mem_toList_iff → JR, length_toList → K5, find?_toList → ML
open PySem.Paired renaming length → Ja
open PySem.Builtin.List renaming listTooLong → Je
open Char renaming toNat → Jq
open PyProof.Rows.IsTup renaming new → JC
open PySem.Calls renaming Name_function_global → Ke, evalArgs_plain → LQ
open PySem.Code renaming quiet_builtin → Kr, isFrame → Nh
open PySem.Builtin.ObjectAttr renaming bindTo → Kw
open PySem.Env renaming blockKind → KR, kindOf → N0
open LawfulBEq renaming eq_of_beq → L4
open And renaming intro → L6
open Sum renaming inl → Lh, inr → Li
open PySem.Expr renaming Subscript → Md, Attribute → Me, Constant → Mz, ListComp → MA, UnaryOp → NA, Compare → NB, BoolOp → O8, BinOp → Ow, IfExp → Ox, Tuple → Oy, Slice → Oz, Name → OC, List → OD, Call → OE
open PySem.EntryCells renaming newEntry → Mp
open PySem.Heap.SameBut renaming update → Mr
open PySem.Builtin.Int renaming intBits → Ms
open PySem.Stmt renaming Continue → MB, Assign → O9, Return → Oa, While → OA, Break → OB, Expr → OF, Pass → OG
open PySem.Around renaming in1_handled → MZ, under → Ng
open PySem.W.KT renaming len_num → N8
open List.Pairwise renaming nil → Nm
open PySem.Heap.IsTuple renaming push → Nt
open Iff renaming rfl → Nu
open Option.some renaming injEq → Nw
open PySem.Heap.IsList renaming push → NR
open List.cons renaming injEq → Og
namespace L2
open PySem PySem.Spec PyProof.Rows
section
noncomputable abbrev Key:=Sum Int Str
noncomputable def fT:Key->h8->Bool
 |.inl k,v=>Value.isInt k v
 |.inr x,v=>Value.isStrOf x v
noncomputable def Cd (w:G8):Key->Int
 |.inl k=>hashInt k
 |.inr x=>hashStr w x
theorem aT:∀ {k:Key} {v:h8},fT k v=true->(∃ i t,k=Lh i/\v=IU i t)∨(∃ x t,k=Li x/\v=Mf x t)
 |.inl i,v,h=>by
  obtain⟨t,e⟩:=Value.isInt_shape (k:=i) (v:=v) h;exact .inl ⟨i,t,rfl,e⟩
 |.inr x,v,h=>by
  obtain⟨t,e⟩:=Value.isStrOf_shape (x:=x) (v:=v) h;exact .inr ⟨x,t,rfl,e⟩
theorem qV (i:Int)(t:Tok):fT (.inl i) (.int i t)=true:=by simp[fT,Value.isInt]
theorem qW (x:Str)(t:Tok):fT (.inr x) (.str x t)=true:=by simp[fT,Value.isStrOf]
theorem yO (a b:Int):decide ((Lh a:Key)=Lh b)=(a==b):=by
 by_cases e:a=b
 ·subst e;simp
 ·have h : ¬ (Lh a:Key)=Lh b:=λq=>e (Lh.inj q);rw[decide_eq_false h];exact(beq_eq_false_iff_ne.mpr e).symm
theorem yP (a b:Str):decide ((Li a:Key)=Li b)=decide (a=b):=by
 by_cases e:a=b
 ·subst e;simp
 ·have h : ¬ (Li a:Key)=Li b:=λq=>e (Li.inj q);rw[decide_eq_false h,decide_eq_false e]
theorem yQ (a:Int)(b:Str):decide ((Lh a:Key)=Li b)=false:=decide_eq_false (λq=>nomatch q)
theorem yR (a:Str)(b:Int):decide ((Li a:Key)=Lh b)=false:=decide_eq_false (λq=>nomatch q)
noncomputable def aV (prog:FT) (w:G8):PySem.KeyKind prog w Key where
 is:=fT
 hash:=Cd w
 inj:=λv a b ha hb=>by
  rcases aT ha with⟨i,t,rfl,rfl⟩|⟨x,t,rfl,rfl⟩
  ·rcases aT hb with⟨j,u,rfl,e⟩|⟨y,u,rfl,e⟩
   ·injection e with e1 _;rw[e1]
   ·exact nomatch e
  ·rcases aT hb with⟨j,u,rfl,e⟩|⟨y,u,rfl,e⟩
   ·exact nomatch e
   ·injection e with e1 _;rw[e1]
 byValue:=λk v h=>by
  rcases aT h with⟨i,t,rfl,rfl⟩|⟨x,t,rfl,rfl⟩ <;> rfl
 pyHash:=λhv h=>by
  rcases aT hv with⟨i,t,rfl,rfl⟩|⟨x,t,rfl,rfl⟩
  ·exact wpAny_pyHash_int h
  ·exact wpAny_pyHash_str h
 eqBool:=λhu hv h=>by
  rcases aT hu with⟨i,t,rfl,rfl⟩|⟨x,t,rfl,rfl⟩
  ·rcases aT hv with⟨j,u,rfl,rfl⟩|⟨y,u,rfl,rfl⟩
   ·rw[yO]at h;exact wpAny_eqBool_int h
   ·rw[yQ]at h;exact SeqAt.EqAt.int_str i t y u _ _ _ _ h
  ·rcases aT hv with⟨j,u,rfl,rfl⟩|⟨y,u,rfl,rfl⟩
   ·rw[yR]at h;exact SeqAt.EqAt.str_int x t j u _ _ _ _ h
   ·rw[yP]at h;exact wpAny_eqBool_str h
 «strs»:=λk x t v h=>by
  rcases aT h with⟨i,u,rfl,e⟩|⟨y,u,rfl,e⟩
  ·exact nomatch e
  ·injection e with e1 _
   subst e1
   cases v <;> rfl
theorem nD (prog:FT)(w:G8)(i:Int)(t:Tok):(aV prog w).is (.inl i) (.int i t)=true:=qV i t
theorem nE (prog:FT)(w:G8)(x:Str)(t:Tok):(aV prog w).is (.inr x) (.str x t)=true:=qW x t
end
variable {us:List h8}{a b:Addr}{P:FT}{w:G8}{h:Heap}
section
inductive V where
 |non|bl (b:Bool)|int (i:Int)|str (x:Str)|byt (b:Array UInt8)|flt (b:UInt64)|ref (a:Addr)|ty (n:String)
 deriving DecidableEq
noncomputable def RelV:V->h8->Prop
 |.non,u=>u=Gv
 |.bl b,u=>u=MH b
 |.int i,u=>∃ t,u=IU i t
 |.str x,u=>∃ t,u=Mf x t
 |.byt b,u=>∃ t,u=Value.bytes b t
 |.flt b,u=>∃ t,u=NY b t
 |.ref a,u=>u=G5 a
 |.ty n,u=>u=Lj n
noncomputable abbrev Vals:List V->List h8->Prop:=GZ RelV
theorem Vals.length {xs:List V}(r:Vals xs us):xs.length=us.length:=Ja r
theorem Vals.get:∀ {xs:List V} {us:List h8} {i:Nat} {x:V},Vals xs us->xs[i]? = some x -> ∃ u,us[i]? = some u/\RelV x u
 |_,_,_,_,.nil,e=>by simp at e
 |_,_,0,_,.cons r _,e=>by simp at e;subst e;exact⟨_,rfl,r⟩
 | _,_,i+1,x,.cons _ t,e=>by
   obtain⟨u,h1,h2⟩:=Vals.get (i:=i) (x:=x) t (by simpa using e)
   exact⟨u,by simpa using h1,h2⟩
theorem Vals.set {x:V}{u:h8}(r:RelV x u):∀ {xs:List V} {us:List h8} (i:Nat),Vals xs us->Vals (xs.set i x) (us.set i u)
 |_,_,_,.nil=>.nil
 |_,_,0,.cons _ t=>.cons r t
 |_,_,i+1,.cons q t=>.cons q (Vals.set r i t)
theorem Vals.append:∀ {xs ys:List V} {us ws:List h8},Vals xs us->Vals ys ws->Vals (xs++ys) (us++ws)
 |_,_,_,_,.nil,s=>s
 |_,_,_,_,.cons r t,s=>.cons r (Vals.append t s)
theorem Vals.take:∀ {xs:List V} {us:List h8} (n:Nat),Vals xs us->Vals (xs.take n) (us.take n)
 |_,_,0,_=>.nil
 |_,_,_+1,.nil=>.nil
 |_,_,n+1,.cons r t=>.cons r (Vals.take n t)
theorem Vals.drop:∀ {xs:List V} {us:List h8} (n:Nat),Vals xs us->Vals (xs.drop n) (us.drop n)
 |_,_,0,r=>r
 |_,_,_+1,.nil=>.nil
 |_,_,n+1,.cons _ t=>Vals.drop n t
noncomputable def RelO:Option V->Option h8->Prop
 |some v,some u=>RelV v u
 |none,none=>True
 |_,_=>False
noncomputable def KV {κ:Type}:List (κ × V)->List (κ × h8)->Prop:=GZ λ(p : κ × V) (q : κ × h8)=>p.1=q.1/\RelV p.2 q.2
noncomputable def kV:Key->V
 |.inl i=>.int i
 |.inr x=>.str x
inductive HO where
 |lst (xs:List V)
 |tup (xs:List V)
 |dK (kvs:List (Key×V))|dT (kvs:List (List Key×V))
 |set (S:Int->Bool) (n:Nat)
 |ins (C dx:Addr) (fs:List (Str×V))
 |own (x:Addr)
 |xd (fs:List (Str×V))
 |met (f x:Addr)
 |rng (lo hi:Int)
 |frz (o:Obj) (u:HO)
 |tbl (ps:Array h8)
 |ext (φ:Heap->Prop)
noncomputable abbrev Hp:=Addr->Option HO
noncomputable def upd (H:Hp) (a:Addr) (o:HO):Hp:=λb=>if b=a then some o else H b
theorem al {H:Hp}{o:HO}:upd H a o a=some o:=by unfold upd;rw[if_pos rfl]
theorem ag {H:Hp}{o:HO}(h:b≠a):upd H a o b=H b:=by unfold upd;rw[if_neg h]
theorem AT {H:Hp}{o u:HO}(h:H a=some o)(h':H b=some u)(d:o≠u):a≠b:=by
 intro e;subst e;rw[h]at h';exact d (Hd.inj h')
theorem aU {H:Hp}{o:HO}(h:H a=some o)(h':H b=none):a≠b:=by
 intro e;subst e;rw[h]at h';cases h'
section
variable (P:FT) (w:G8)
noncomputable def ObjOk (H:Hp) (h:Heap) (a:Addr):HO->Prop
 |.lst xs=>xs.length<=Fz /\ ∃ (its:List h8) (n:Nat),Vals xs its/\h.get? a=some { cls:=.type "list",data:=.seq its.toArray n }
 |.tup xs=>xs.length<=Fz /\ ∃ its:List h8,Vals xs its/\IsTup h a its.toArray
 |.dK kvs=>kvs.length<=Fz/\(a==Iv)=false /\ ∃ vs,KV kvs vs/\h.DictOf (aV P w) a vs
 |.dT kvs=>kvs.length<=Fz/\(a==Iv)=false /\ ∃ xs:List (List Key×Addr×h8),
  GZ (λ(p:List Key×V) (q:List Key×Addr×h8)=>p.1=q.1/\H q.2.1=some (.tup (p.1.map kV))/\RelV p.2 q.2.2) kvs xs /\
  ∃ o es ep,h.get? a=some o/\o.ExactDict/\o.data = .dict es ep/\es.toList=xs.map (entryOfKey (Mg (aV P w)))/\(xs.map (·.1)).Nodup
 |.set S n=>h.SetOf (intKind P w) a S n
 |.ins C dx fs=>H dx=some (.own a)/\fs.length<=1000/\dx≠a/\h.get? a=some (Lx C dx) /\
  ∃ mA,h.Ns1 dx mA/\(∀ f,RelO (fs.lookup f) (mA f))/\PySem.Within mA (fs.map (·.1))
 |.own _=>∃ o,h.get? a=some o
 |.xd fs=>∃ mA,h.Ns1 a mA /\ ∀ f,RelO (fs.lookup f) (mA f)
 |.rng lo hi=>∃ t u v,h.get? a=some { cls:=.type "range",data:=.fields #[.int lo t,.int hi u,.int 1 v] }
 |.frz o u=>h.get? a=some o/\ObjOk H h a u
 |.tbl ps=>h.get? a=some { cls:=.none,data:=.fields ps }
 |.met f x=>h.get? a=some (Ky (.ref f) (.ref x))
 |.ext φ=>φ h/\(∃ o,h.get? a=some o) /\ ∀ h1 h2:Heap,φ h1->(∀ o,h1.get? a=some o->h2.get? a=some o) -> φ h2
def HOk (H:Hp) (h:Heap):Prop:=∀ a o,H a=some o->ObjOk P w H h a o
end
section
variable {P:FT} {w:G8} {H H':Hp} {h h':Heap} {a:Addr} {o:HO}
theorem ObjOk.lt (x:ObjOk P w H h a o):a<h.objs.size:=by
 cases o with
 |lst xs=>obtain⟨_,_,_,_,e⟩:=x;exact FF e
 |tup xs=>obtain⟨_,_,_,p⟩:=x;exact p.lt
 |dK kvs=>obtain⟨_,_,_,_,o,_,_,e,_⟩:=x;exact FF e
 |dT kvs=>obtain⟨_,_,_,_,o,_,_,e,_⟩:=x;exact FF e
 |set S n=>obtain⟨o,_,_,_,e,_⟩:=x;exact FF e
 |ins C dx fs=>obtain⟨_,_,_,e,_⟩:=x;exact FF e
 |own y=>obtain⟨_,e⟩:=x;exact FF e
 |xd fs=>obtain⟨_,⟨_,_,_,e,_⟩,_⟩:=x;exact FF e
 |rng lo hi=>obtain⟨_,_,_,e⟩:=x;exact FF e
 |frz ob u=>obtain⟨e,_⟩:=x;exact FF e
 |tbl ps=>exact FF (show h.get? a=some _ from x)
 |met f y=>exact FF (show h.get? a=some _ from x)
 |ext φ=>obtain⟨_,⟨_,e⟩,_⟩:=x;exact FF e
theorem OP {α β:Type}{F G : α -> β -> Prop}:∀ {l₁:List α} {l₂:List β},GZ F l₁ l₂ -> (∀ a b,F a b->G a b)->GZ G l₁ l₂
 |_,_,.nil,_=>.nil
 |_,_,.cons r t,f=>.cons (f _ _ r) (OP t f)
theorem ObjOk.stay (x:ObjOk P w H h a o)(k:∀ b u,(b=a∨H b=some (.own a))->h.get? b=some u->h'.get? b=some u)(ho:∀ b,H b=some (.own a)->H' b=some (.own a))(j:∀ b xs,H b=some (.tup xs)->H' b=some (.tup xs)):ObjOk P w H' h' a o:=by
 induction o with
 |lst xs=>obtain⟨z,its,n,r,e⟩:=x;exact⟨z,its,n,r,k _ _ (.inl rfl) e⟩
 |tup xs=>obtain⟨z,its,r,ob,e,c⟩:=x;exact⟨z,its,r,ob,k _ _ (.inl rfl) e,c⟩
 |dK kvs=>obtain⟨z,y,vs,r,ob,es,ep,e,c⟩:=x;exact⟨z,y,vs,r,ob,es,ep,k _ _ (.inl rfl) e,c⟩
 | dT kvs =>
   obtain⟨z,y,xs,r,ob,es,ep,e,c⟩:=x;exact⟨z,y,xs,OP r λp q z=>⟨z.1,j _ _ z.2.1,z.2.2⟩,ob,es,ep,k _ _ (.inl rfl) e,c⟩
 |set S n=>obtain⟨ob,es,ep,t,e,c⟩:=x;exact⟨ob,es,ep,t,k _ _ (.inl rfl) e,c⟩
 | ins C dx fs =>
   obtain⟨d,z,ne,e,mA,⟨od,es,ep,F,c⟩,r⟩:=x;exact⟨ho _ d,z,ne,k _ _ (.inl rfl) e,mA,⟨od,es,ep,k _ _ (.inr d) F,c⟩,r⟩
 |own y=>obtain⟨ob,e⟩:=x;exact⟨ob,k _ _ (.inl rfl) e⟩
 |xd fs=>obtain⟨mA,⟨od,es,ep,e,c⟩,r⟩:=x;exact⟨mA,⟨od,es,ep,k _ _ (.inl rfl) e,c⟩,r⟩
 |rng lo hi=>obtain⟨t,u,v,e⟩:=x;exact⟨t,u,v,k _ _ (.inl rfl) e⟩
 |frz ob u ih=>obtain⟨e,q⟩:=x;exact⟨k _ _ (.inl rfl) e,ih q⟩
 | tbl ps =>
   have e:h.get? a=some { cls:=.none,data:=.fields ps }:=x;show h'.get? a=some { cls:=.none,data:=.fields ps };exact k a _ (.inl rfl) e
 | met f y =>
   have e:h.get? a=some (Ky (.ref f) (.ref y)):=x;show h'.get? a=some (Ky (.ref f) (.ref y));exact k a _ (.inl rfl) e
 |ext φ=>obtain⟨p,⟨o,e⟩,st⟩:=x;exact⟨st _ _ p λo q=>k _ _ (.inl rfl) q,⟨o,k _ _ (.inl rfl) e⟩,st⟩
theorem HOk.lt (x:HOk P w H h)(e:H a=some o):a<h.objs.size:=(x a o e).lt
theorem HOk.fresh (x:HOk P w H h)(e:h.objs.size<=a):H a=none:=by
 cases q:H a with
 |none=>rfl
 |some u=>exact absurd (FV (x.lt q) e) (Hq _)
theorem HOk.kept (x:HOk P w H h)(k:∀ b u,h.get? b=some u->h'.get? b=some u):HOk P w H h':=λa o e =>
 (x a o e).stay (λb u _ q=>k b u q) (λ_ q=>q) λ_ _ q=>q
theorem HOk.laid (x:HOk P w H h)(k:∀ b u,h.get? b=some u->h'.get? b=some u)(z:h.objs.size<=a)(new:ObjOk P w (upd H a o) h' a o):HOk P w (upd H a o) h':=λb u e=>by
 have j:=x.fresh z
 by_cases hb:b=a
 ·subst hb;rw[al]at e;cases e;exact new
 ·rw[ag hb]at e;exact(x b u e).stay (λc v _ q=>k c v q) (λc q=>by rw[ag (aU q j)];exact q) λc xs q=>by rw[ag (aU q j)];exact q
end
def Rd (H:Hp) (a:Addr) (u:HO):Prop:=H a=some u∨∃ o,H a=some (.frz o u)
theorem Rd.ok {H:Hp}{u:HO}(r:Rd H a u)(x:HOk P w H h):ObjOk P w H h a u:=by
 rcases r with r|⟨o,r⟩
 ·exact x a u r
 ·obtain⟨_,q⟩:=x a _ r;exact q
noncomputable def Mut:Option HO->Prop
 |some (.lst _)=>True
 |some (.dK _)=>True
 |some (.dT _)=>True
 |some (.set _ _)=>True
 |some (.ins _ _ _)=>True
 |some (.ext _)=>True
 |_=>False
section
variable {P:FT} {w:G8} {H:Hp} {h h':Heap} {x e:Addr} {o':HO}
theorem HOk.write (ok:HOk P w H h)(mu:Mut (H x))(he:e=x∨H e=some (.own x))(k:∀ b u,b≠e->h.get? b=some u->h'.get? b=some u)(J:∃ u,h'.get? e=some u)(new:ObjOk P w (upd H x o') h' x o'):HOk P w (upd H x o') h':=λb u q=>by
 have nown:∀ c y,H c=some (.own y)->c≠x:=λc y r z=>by subst z;rw[r]at mu;exact mu
 have ntup:∀ c xs,H c=some (.tup xs)->c≠x:=λc xs r z=>by subst z;rw[r]at mu;exact mu
 by_cases hb:b=x
 ·subst hb;rw[al]at q;cases q;exact new
 ·rw[ag hb]at q
  by_cases j:b=e
  ·have q':H b=some (.own x):=by
    rcases he with z|z
    ·exact absurd (j.trans z) hb
    ·rw[j];exact z
   rw[q]at q';cases q';obtain⟨v,L⟩:=J;exact⟨v,by rw[j];exact L⟩
  ·refine(ok b u q).stay (λc v F r=>k c v ?_ r) (λc r=>by rw[ag (nown c b r)];exact r) λc xs r=>by rw[ag (ntup c xs r)];exact r
   rcases F with rfl|F
   ·exact j
   ·rintro rfl
    rcases he with z|z
    ·exact nown c b F z
    ·rw[F]at z;cases z;exact hb rfl
end
structure Un (fs ex:List Addr) (H H':Hp) (h h':Heap):Prop where
 keep:∀ b o,h.get? b=some o->H b=none->b∉fs->b∉ex->h'.get? b=some o
 slot:∀ b o,h.get? b=some o->H b=none->b∈fs->b∉ex -> ∃ sl,h'.get? b=some { o with slots:=sl }
 free:∀ b o,h.get? b=some o->H b=none->b∉ex->H' b=none
 there:∀ b o,h.get? b=some o->b∉ex -> ∃ o',h'.get? b=some o'
 tups:∀ b xs,H b=some (.tup xs)->H' b=some (.tup xs)
 frzs:∀ b o u,H b=some (.frz o u)->H' b=some (.frz o u)
 tbls:∀ b ps,H b=some (.tbl ps) -> ∃ more,H' b=some (.tbl (ps++more))
section
variable {fs fs' ex ex':List Addr} {H H1 H2:Hp} {h h1 h2 h':Heap} {a x e:Addr} {o:HO}
theorem Un.any (u:Un fs ex H H1 h h1){ob:Obj}(q:h.get? b=some ob)(n:H b=none)(hx:b∉ex):∃ sl,h1.get? b=some { ob with slots:=sl }:=by
 by_cases j:b∈fs
 ·exact u.slot b ob q n j hx
 ·exact⟨ob.slots,u.keep b ob q n j hx⟩
theorem Un.kept (k:∀ b u,h.get? b=some u->h'.get? b=some u):Un fs ex H H h h' :=
 ⟨λb ob q _ _ _=>k b ob q,λb ob q _ _ _=>⟨ob.slots,k b ob q⟩,λ_ _ _ n _=>n,λb ob q _=>⟨ob,k b ob q⟩,λ_ _ q=>q,λ_ _ _ q=>q,λ_ ps q=>⟨#[],by rw[q];simp⟩⟩
theorem Un.refl:Un fs ex H H h h:=Un.kept λ_ _ q=>q
theorem Un.laid (k:∀ b u,h.get? b=some u->h'.get? b=some u)(z:h.objs.size<=a)(j:H a=none):Un fs ex H (upd H a o) h h' where
 keep:=λb u q _ _ _=>k b u q
 slot:=λb u q _ _ _=>⟨u.slots,k b u q⟩
 free:=λb u q n _=>by rw[ag (Gb (FV (FF q) z))];exact n
 there:=λb u q _=>⟨u,k b u q⟩
 tups:=λb xs q=>by rw[ag (aU q j)];exact q
 frzs:=λb u xs q=>by rw[ag (aU q j)];exact q
 tbls:=λb ps q=>⟨#[],by rw[ag (aU q j),q];simp⟩
theorem Un.write (mu:Mut (H x))(he:e=x∨H e=some (.own x))(k:∀ b u,b≠e->h.get? b=some u->h'.get? b=some u)(F:∃ u,h'.get? e=some u):Un fs ex H (upd H x o) h h':=by
 have hx:∀ b,H b=none->b≠x:=λb n z=>by subst z;rw[n]at mu;exact mu
 have J:∀ b,H b=none->b≠e:=λb n z=>by
  subst z
  rcases he with r|r
  ·exact hx b n r
  ·rw[n]at r;cases r
 have hm:∀ b u,H b=some u -> ¬ Mut (some u)->b≠x:=λb u q nm z=>by subst z;rw[q]at mu;exact nm mu
 refine⟨λb u q n _ _=>k b u (J b n) q,λb u q n _ _=>⟨u.slots,k b u (J b n) q⟩,λb u q n _=>by rw[ag (hx b n)];exact n,λb u q _=>?_,
  λb xs q=>by rw[ag (hm b _ q λz=>z)];exact q,λb u xs q=>by rw[ag (hm b _ q λz=>z)];exact q,λb ps q=>⟨#[],by rw[ag (hm b _ q λz=>z),q];simp⟩⟩
 by_cases j:b=e
 ·subst j;exact F
 ·exact⟨u,k b u j q⟩
end
noncomputable def trk (h:Heap) (H:Hp):List Addr:=(Hx h.objs.size).filter λa=>(H a).isSome
noncomputable def eK (h:Heap) (H:Hp):Heap:=PySem.W.hideAll h (trk h H)
theorem qX (h:Heap)(H:Hp):(eK h H).objs.size=h.objs.size:=PySem.W.hideAll_size _ _
theorem tY {H:Hp}{o:Obj}(e:h.get? b=some o)(n:H b=none):(eK h H).get? b=some o :=
 PySem.W.hideAll_get _ e λhm=>by
  have q:(H b).isSome=true:=(Ly.mp hm).2;rw[n]at q;simp at q
theorem wL {H:Hp}{o:Obj}(e:(eK h H).get? b=some o):h.get? b=some o/\H b=none:=by
 have e':h.get? b=some o:=PySem.W.of_hideAll (trk h H) e;refine⟨e',?_⟩
 cases q:H b with
 |none=>rfl
 | some x =>
   have hm:b∈trk h H:=Ly.mpr ⟨Kc.mpr (FF e'),by simp[q]⟩
   have z:(eK h H).get? b=none:=PySem.W.hideAll_none (trk h H) hm;rw[z]at e;cases e
end
variable {H:Hp}{o:HO}{u:h8}{t' i j:Nat}{ch:List Addr}{x:Str}{e:Expr}{N:List Str}{M:Kd}{A:G3}{v:V}{s:Ft}
section
structure Mod (K:Frag) (mg:Str->Option h8) (base:Heap):Prop where
 kin:K.In base
 glob:base.Ns Gm mg
 blt:∃ mb,base.Ns Lk mb /\ ∀ x:Str,x ≠ "__name__" -> mb x=Iw x
 nolimit:base.NoLimit
structure Cx where
 prog:FT
 w:G8
 K:Frag
 mg:Str->Option h8
 base:Heap
 A:G3
 N:List Str
 s₀:Ft
 H₀:Hp
 env:Env
 outer:List Env
 stack:List Env
 ex:List Addr
 fn:Str->Bool
 calm:Bool
 pn:List (Addr×Obj)
 xe:h8->Ft->Prop
noncomputable def frs (l:List Env):List Addr:=l.filterMap (·.frame)
noncomputable abbrev Cx.fs (X:Cx):List Addr:=frs X.outer
def Vis (sc:Scope) (x:Str):Prop:=sc.names.lookup x=some .local∨sc.names.lookup x=some .cell∨sc.names.lookup x=some .free
def Loc (sc:Scope) (x:Str):Prop:=sc.names.lookup x=some .local∨sc.names.lookup x=some .cell
def yS (env:Env) (h:Heap) (m:Str->Option h8) (x:Str) (u:h8):Prop :=
 (env.kindOf x=some .local/\m x=some u)∨((env.kindOf x=some .cell∨env.kindOf x=some .free) /\ ∃ c,env.cells.lookup x=some c/\h.IsCell c (some u))
structure Cx.Ok (X:Cx):Prop where
 mod:Mod X.K X.mg X.base
 kind:X.env.scope.kind = .function
 glob:X.env.globals=Gm
 blt:X.env.builtins=Lk
 above:X.s₀.heap.objs.size<=X.env.locals
 inj:∀ x y c,X.env.cells.lookup x=some c->X.env.cells.lookup y=some c->x=y
 has:∀ x,(X.env.kindOf x=some .cell∨X.env.kindOf x=some .free) -> ∃ c,X.env.cells.lookup x=some c
 cab:∀ x c,X.fn x=true->X.env.cells.lookup x=some c->X.s₀.heap.objs.size<=c
 hd:X.calm=true->X.A.handled=none
 frames:X.A.frames=some X.stack
 stk:X.stack=X.outer∨(X.stack=X.env::X.outer/\X.env.frame=some X.env.locals)
 exf:∀ b∈X.ex,b≠X.env.locals /\ ∀ x c,X.env.cells.lookup x=some c->c≠b
 bs:∀ b o,X.base.get? b=some o->X.s₀.heap.get? b=some o/\X.H₀ b=none
 bsz:X.base.objs.size<=X.s₀.heap.objs.size
 noex:∀ b o,X.base.get? b=some o->b∉X.ex
 exfs:∀ b∈X.ex,b∉X.fs
 funs:X.s₀.heap.FunFrames X.base X.outer
 frf:∀ b∈X.fs,X.H₀ b=none
structure Inv (X:Cx) (pins:List (Addr×Obj)) (σ:List (Option V)) (H:Hp) (s:Ft):Prop where
 ok:X.Ok
 os:s.os=X.s₀.os
 bare:K7 s.gens
 base:Un X.fs X.ex X.H₀ H X.s₀.heap s.heap
 loc:∃ m,s.heap.Ns X.env.locals m /\ ∀ (i:Nat) (x:Str) (v:V),X.N[i]? = some x -> σ[i]? = some (some v)->Vis X.env.scope x -> ∃ u,RelV v u/\yS X.env s.heap m x u
 cell:∀ x c,X.env.cells.lookup x=some c -> ∃ v,s.heap.IsCell c v
 free:H X.env.locals=none
 freeC:∀ x c,X.env.cells.lookup x=some c->H c=none
 pin:∀ p∈X.pn++pins,s.heap.get? p.1=some p.2/\H p.1=none/\p.1≠X.env.locals/\p.1∉X.fs /\ ∀ v,p.2.data ≠ .cell v
 hok:HOk X.prog X.w H s.heap
 len : σ.length=X.N.length
section
variable {X:Cx} {pins:List (Addr×Obj)} {σ:List (Option V)} {H H':Hp} {s:Ft} {h':Heap}
theorem Cx.Ok.nofr (ok:X.Ok){o:Obj}(e:X.base.get? b=some o):b∉X.fs:=λj=>by
 have:=(ok.funs.mem j).1;rw[e]at this;cases this
theorem Inv.bs (I:Inv X pins σ H s):∀ b o,X.base.get? b=some o->s.heap.get? b=some o/\H b=none:=λb o e =>
 ⟨I.base.keep b o (I.ok.bs b o e).1 (I.ok.bs b o e).2 (I.ok.nofr e) (I.ok.noex b o e),I.base.free b o (I.ok.bs b o e).1 (I.ok.bs b o e).2 (I.ok.noex b o e)⟩
theorem Inv.bk (I:Inv X pins σ H s):∀ b o,X.base.get? b=some o->s.heap.get? b=some o:=λb o e=>(I.bs b o e).1
theorem Inv.mod (I:Inv X pins σ H s):Mod X.K X.mg X.base:=I.ok.mod
theorem Inv.kIn (I:Inv X pins σ H s):X.K.In s.heap:=I.ok.mod.kin.keeps I.bk
theorem Inv.lt (I:Inv X pins σ H s):X.env.locals<s.heap.objs.size:=let ⟨_,j,_⟩:=I.loc;j.lt
theorem Inv.sz (I:Inv X pins σ H s):X.s₀.heap.objs.size<=s.heap.objs.size:=Gn I.ok.above (IV I.lt)
theorem Inv.nofs (I:Inv X pins σ H s)(h:s.heap.objs.size<=a):a∉X.fs:=λj=>by
 obtain⟨_,o,ho,_⟩:=I.ok.funs.mem j;exact absurd (FV (FF ho) (Gn I.sz h)) (Hq _)
theorem Inv.cne (I:Inv X pins σ H s):∀ x c,X.env.cells.lookup x=some c->c≠X.env.locals:=λx c e z=>by
 obtain⟨v,o,ho,hd⟩:=I.cell x c e;obtain⟨m,⟨o',es,ep,j,F,_⟩,_⟩:=I.loc;rw[z,j]at ho;cases ho;rw[F]at hd;cases hd
theorem Inv.funs (I:Inv X pins σ H s):s.heap.FunFrames X.base X.outer:=by
 have all:∀ (l:List Env),(∀ b∈frs l,b∈X.fs)->X.s₀.heap.FunFrames X.base l->s.heap.FunFrames X.base l:=by
  intro l
  induction l with
  |nil=>intro _ _;trivial
  | cons env r ih =>
    intro J O;obtain⟨hk,⟨L,o,hf,U,ho,hd⟩,hr⟩:=O;have j:L∈X.fs:=J L (by unfold frs;rw[J3,hf];exact GH)
    obtain⟨sl,e⟩:=I.base.slot L o ho (I.ok.frf L j) j λz=>I.ok.exfs L z j;exact⟨hk,⟨L,_,hf,U,e,hd⟩,ih (λb F=>J b (by unfold frs;rw[J3,hf];exact FL _ F)) hr⟩
 exact all X.outer (λ_ F=>F) I.ok.funs
theorem Inv.stack (I:Inv X pins σ H s):s.heap.FunFrames X.base X.stack:=by
 rcases I.ok.stk with e|⟨e,hf⟩
 ·rw[e];exact I.funs
 ·rw[e];obtain⟨m,j,_⟩:=I.loc;refine .cons (by rw[I.ok.kind];decide) hf j ?_ I.funs
  exact JP (Gn I.ok.bsz I.ok.above)
theorem Inv.stkSub (I:Inv X pins σ H s):∀ b∈frs X.stack,b∈X.env.locals::X.fs:=λb j=>by
 rcases I.ok.stk with e|⟨e,hf⟩
 ·rw[e]at j;exact FL _ j
 ·rw[e]at j;unfold frs at j;rw[J3,hf]at j;exact j
theorem Inv.stkFree (I:Inv X pins σ H s):∀ b∈frs X.stack,H b=none:=λb j=>by
 rcases FA.mp (I.stkSub b j) with e|j
 ·rw[e];exact I.free
 ·obtain⟨_,o,ho,_⟩:=I.ok.funs.mem j;exact I.base.free b o ho (I.ok.frf b j) λz=>I.ok.exfs b z j
theorem Inv.step {g':Array KS}{d':Drawn}(I:Inv X pins σ H s)(j:∀ b∈ch,(b∈X.ex∨X.s₀.heap.objs.size<=b)/\b≠X.env.locals/\(∀ x c,X.env.cells.lookup x=some c->c≠b) /\ ∀ p∈X.pn++pins,p.1≠b)(keep:∀ b o,b≠X.env.locals->b∉X.fs->b∉ch->s.heap.get? b=some o->H b=none->h'.get? b=some o)(slot:∀ b o,b≠X.env.locals->b∈X.fs->b∉ch->s.heap.get? b=some o->H b=none -> ∃ sl,h'.get? b=some { o with slots:=sl })(free:∀ b o,b∉ch->s.heap.get? b=some o->H b=none->H' b=none)(there:∀ b o,b∉ch->s.heap.get? b=some o -> ∃ o',h'.get? b=some o')(tups:∀ b xs,H b=some (.tup xs)->H' b=some (.tup xs))(frzs:∀ b o u,H b=some (.frz o u)->H' b=some (.frz o u))(tbls:∀ b ps,H b=some (.tbl ps) -> ∃ more,H' b=some (.tbl (ps++more)))(ns:∀ m,s.heap.Ns X.env.locals m->h'.Ns X.env.locals m)(hok:HOk X.prog X.w H' h')(Y:K7 g') :
 Inv X pins σ H' { s with heap:=h',gens:=g',drawn:=d',toks:=t' }:=by
 have neL:∀ b o,X.s₀.heap.get? b=some o->b≠X.env.locals:=λb o e=>Gb (FV (FF e) I.ok.above);have neC:∀ b o,X.s₀.heap.get? b=some o->b∉X.ex->b∉ch:=λb o e hx J=>by
  rcases (j b J).1 with z|z
  ·exact hx z
  ·exact absurd (FV (FF e) z) (Hq _)
 have cellK:∀ x c,X.env.cells.lookup x=some c -> ∀ v,s.heap.IsCell c v->h'.IsCell c v:=λx c e v ⟨o,ho,hd⟩=>by
  have nch:c∉ch:=λz=>(j c z).2.2.1 x c e rfl
  by_cases O:c∈X.fs
  ·obtain⟨sl,q⟩:=slot c o (I.cne x c e) O nch ho (I.freeC x c e);exact⟨_,q,hd⟩
  ·exact⟨o,keep c o (I.cne x c e) O nch ho (I.freeC x c e),hd⟩
 refine⟨I.ok,I.os,Y,⟨λb o e n J hx=>?_,λb o e n J hx=>?_,λb o e n hx=>?_,λb o e hx=>?_,λb xs e=>tups b xs (I.base.tups b xs e),λb o xs e=>frzs b o xs (I.base.frzs b o xs e),λb ps e=>?_⟩,?_,λx c e=>?_,?_,λx c e=>?_,λp U=>?_,hok,I.len⟩
 ·exact keep b o (neL b o e) J (neC b o e hx) (I.base.keep b o e n J hx) (I.base.free b o e n hx)
 ·obtain⟨sl,F⟩:=I.base.slot b o e n J hx;obtain⟨sl',L⟩:=slot b _ (neL b o e) J (neC b o e hx) F (I.base.free b o e n hx);exact⟨sl',L⟩
 ·obtain⟨o',F⟩:=I.base.there b o e hx;exact free b o' (neC b o e hx) F (I.base.free b o e n hx)
 ·obtain⟨o',F⟩:=I.base.there b o e hx;exact there b o' (neC b o e hx) F
 ·obtain⟨Z,F⟩:=I.base.tbls b ps e;obtain⟨m2,L⟩:=tbls b _ F;exact⟨Z++m2,by rw[L,Array.append_assoc]⟩
 ·obtain⟨m,hn,hl⟩:=I.loc;refine⟨m,ns m hn,λi x v F L e3=>?_⟩;obtain⟨u,r,l⟩:=hl i x v F L e3;refine⟨u,r,?_⟩
  rcases l with l|⟨k,c,e,z⟩
  ·exact .inl l
  ·exact .inr ⟨k,c,e,cellK x c e _ z⟩
 ·obtain⟨v,z⟩:=I.cell x c e;exact⟨v,cellK x c e v z⟩
 ·obtain⟨m,⟨o,_,_,ho,_⟩,_⟩:=I.loc;exact free _ o (λz=>(j _ z).2.1 rfl) ho I.free
 ·obtain⟨v,o,ho,hd⟩:=I.cell x c e;exact free c o (λz=>(j c z).2.2.1 x c e rfl) ho (I.freeC x c e)
 ·obtain⟨e,n,ne,nf,d⟩:=I.pin p U;have nch:p.1∉ch:=λz=>(j p.1 z).2.2.2 p U rfl;exact⟨keep p.1 p.2 ne nf nch e n,free p.1 p.2 nch e n,ne,nf,d⟩
theorem Inv.un (I:Inv X pins σ H s)(u:Un X.fs [] H H' s.heap h')(hok:HOk X.prog X.w H' h'):Inv X pins σ H' { s with heap:=h',toks:=t' }:=by
 obtain⟨m,⟨o,es,ep,ho,r⟩,_⟩:=id I.loc;obtain⟨sl,J⟩:=u.any ho I.free (by simp)
 exact I.step (g':=s.gens) (d':=s.drawn) (ch:=[]) (λ_ z=>nomatch z) (λb o _ F _ e n=>u.keep b o e n F (by simp)) (λb o _ F _ e n=>u.slot b o e n F (by simp)) (λb o _ e n=>u.free b o e n (by simp)) (λb o _ e=>u.there b o e (by simp)) u.tups u.frzs u.tbls (λm' hm=>by
  obtain⟨o',es',ep',j,r'⟩:=hm;rw[ho]at j;cases j;exact⟨_,es',ep',J,r'⟩) hok I.bare
theorem Inv.call {g':Array KS}{d':Drawn}(I:Inv X pins σ H s)(u:Un (frs X.stack) ch H H' s.heap h')(hok:HOk X.prog X.w H' h')(O:K7 g')(F:∀ b∈ch,(b∈X.ex∨X.s₀.heap.objs.size<=b)/\b≠X.env.locals/\(∀ x c,X.env.cells.lookup x=some c->c≠b) /\ ∀ p∈X.pn++pins,p.1≠b) :
 Inv X pins σ H' { s with heap:=h',gens:=g',drawn:=d',toks:=t' }:=by
 obtain⟨m,⟨o,es,ep,ho,r⟩,_⟩:=id I.loc;obtain⟨sl,L⟩:=u.any ho I.free λz=>(F _ z).2.1 rfl;exact I.step (ch:=ch) F (λb o L U j e n=>u.keep b o e n (λz=>(FA.mp (I.stkSub b z)).elim L U) j) (λb o _ _ j e n=>u.any e n j) (λb o j e n=>u.free b o e n j) (λb o j e=>u.there b o e j) u.tups u.frzs u.tbls (λm' hm=>by
  obtain⟨o',es',ep',J,r'⟩:=hm;rw[ho]at J;cases J;exact⟨_,es',ep',L,r'⟩) hok O
theorem Inv.turned {it:Addr}(I:Inv X pins σ H s)(k:∀ b o,b≠it->s.heap.get? b=some o->h'.get? b=some o)(J:H it=none)(F:it≠X.env.locals)(h1:it∈X.ex∨X.s₀.heap.objs.size<=it)(h2:∀ x c,X.env.cells.lookup x=some c->c≠it)(L:∀ p∈X.pn++pins,p.1≠it):Inv X pins σ H { s with heap:=h',toks:=t' }:=by
 have nit:∀ b u,H b=some u->b≠it:=λb u e z=>by rw[z,J]at e;cases e
 refine I.step (g':=s.gens) (d':=s.drawn) (ch:=[it]) (λb O=>?_) (λb o _ _ j e _=>k b o (λz=>j (by simp[z])) e) (λb o _ _ j e _=>⟨o.slots,k b o (λz=>j (by simp[z])) e⟩) (λ_ _ _ _ n=>n)
  (λb o j e=>⟨o,k b o (λz=>j (by simp[z])) e⟩) (λ_ _ e=>e) (λ_ _ _ e=>e) (λb ps e=>⟨#[],by rw[e];simp⟩) (λm hm=>?_) (λb u e=>?_) I.bare
 ·have e:b=it:=by simpa using O
  subst e;exact⟨h1,F,h2,L⟩
 ·obtain⟨o,es,ep,ho,r⟩:=hm;exact⟨o,es,ep,k _ o (Ne.symm F) ho,r⟩
 ·refine(I.hok b u e).stay (λc v j q=>k c v ?_ q) (λ_ q=>q) λ_ _ q=>q
  rcases j with z|z
  ·rw[z];exact nit b u e
  ·exact nit c _ z
theorem Inv.tok (I:Inv X pins σ H s)(t:Nat):Inv X pins σ H { s with toks:=t }:=I.un (h':=s.heap) (t':=t) Un.refl I.hok
theorem Inv.kept (I:Inv X pins σ H s)(k:∀ b u,s.heap.get? b=some u->h'.get? b=some u):Inv X pins σ H { s with heap:=h',toks:=t' }:=I.un (Un.kept k) (I.hok.kept k)
theorem Inv.laid (I:Inv X pins σ H s)(k:∀ b u,s.heap.get? b=some u->h'.get? b=some u)(j:s.heap.objs.size<=a)(new:ObjOk X.prog X.w (upd H a o) h' a o) :
 Inv X pins σ (upd H a o) { s with heap:=h',toks:=t' }:=I.un (Un.laid k j (I.hok.fresh j)) (I.hok.laid k j new)
theorem Inv.write {x e:Addr}(I:Inv X pins σ H s)(mu:Mut (H x))(he:e=x∨H e=some (.own x))(k:∀ b u,b≠e->s.heap.get? b=some u->h'.get? b=some u)(j:∃ u,h'.get? e=some u)(new:ObjOk X.prog X.w (upd H x o) h' x o):Inv X pins σ (upd H x o) { s with heap:=h',toks:=t' }:=I.un (Un.write mu he k j) (I.hok.write mu he k j new)
theorem Inv.pins_of {pins':List (Addr×Obj)}(I:Inv X pins σ H s)(h:∀ p∈pins',s.heap.get? p.1=some p.2/\H p.1=none/\p.1≠X.env.locals/\p.1∉X.fs /\ ∀ v,p.2.data ≠ .cell v):Inv X pins' σ H s :=
 ⟨I.ok,I.os,I.bare,I.base,I.loc,I.cell,I.free,I.freeC,λp j=>(Hy.mp j).elim (λz=>I.pin p (JQ _ z)) (h p),I.hok,I.len⟩
theorem gL (z:N.Nodup)(a:N[i]? = some x)(b:N[j]? = some x):i=j:=by
 obtain⟨h1,F⟩:=G0.mp a;obtain⟨h2,J⟩:=G0.mp b;exact(List.getElem_inj z).mp (F.trans J.symm)
theorem jy {E:h8->Ft->Prop}{Q:Unit->Ft->Prop}(I:Inv X pins σ H s)(hN:X.N.Nodup)(hi:X.N[i]? = some x)(hx:Loc X.env.scope x)(r:RelV v u)(h:∀ s',Inv X pins (σ.set i (some v)) H s'->(∃ a,GK a s.heap s'.heap/\(a=X.env.locals∨X.env.cells.lookup x=some a))->Q () s')(hf:X.fn x=true∨X.env.scope.names.lookup x=some .local:=by first|exact .inl rfl|exact .inr rfl|assumption):FG M A (storeName X.env x u) Q E s:=by
 obtain⟨m,hn,hl⟩:=id I.loc;have EJ:(X.env.scope.kind == .class || (X.env.scope.kind == .module&&X.env.locals != X.env.globals))=false:=by rw[I.ok.kind];rfl
 have EK:i<σ.length:=by rw[I.len];exact(G0.mp hi).1
 have cne:=I.cne;have tracked:∀ {a:Addr} {h':Heap},(∃ o,s.heap.get? a=some o/\H a=none)->GK a s.heap h'->HOk X.prog X.w H h':=λ{a h'} ha F b ob e=>by
  obtain⟨_,_,O⟩:=ha;refine(I.hok b ob e).stay (λc w' L q=>(F.2 c ?_).trans q) (λ_ q=>q) λ_ _ q=>q;rintro rfl
  rcases L with rfl|L
  ·rw[O]at e;cases e
  ·rw[O]at L;cases L
 rcases hx with hk|hk
 ·refine wpAny_storeName_local hk hn (λh' EQ F=>?_) EJ;obtain⟨oL,_,_,ER,_⟩:=id hn;refine h _ ⟨I.ok,I.os,I.bare,⟨λb o e n Y hx=>?_,λb o e n Y hx=>?_,I.base.free,λb o e hx=>?_,I.base.tups,I.base.frzs,I.base.tbls⟩,⟨_,EQ,λj y v' J U e3=>?_⟩,λy c e=>?_,I.free,I.freeC,λp hp=>?_,tracked ⟨oL,ER,I.free⟩ F,by simpa using I.len⟩ ⟨_,F,.inl rfl⟩
  ·exact(F.2 b (Gb (FV (FF e) I.ok.above))).trans (I.base.keep b o e n Y hx)
  ·obtain⟨sl,J⟩:=I.base.slot b o e n Y hx;exact⟨sl,(F.2 b (Gb (FV (FF e) I.ok.above))).trans J⟩
  ·obtain⟨o',J⟩:=I.base.there b o e hx;exact⟨o',(F.2 b (Gb (FV (FF e) I.ok.above))).trans J⟩
  ·by_cases Z:j=i
   ·subst Z;rw[hi]at J;cases J;rw[Gi EK]at U
    cases U
    exact⟨u,r,.inl ⟨hk,by simp⟩⟩
   ·rw[HY (Ne.symm Z)]at U;obtain⟨u',r',q⟩:=hl j y v' J U e3;refine⟨u',r',?_⟩
    rcases q with⟨k,e⟩|⟨k,c,e,z⟩
    ·refine .inl ⟨k,?_⟩;have:y≠x:=λe=>Z (gL hN J (e ▸ hi));simp[this,e]
    ·exact .inr ⟨k,c,e,z.sameBut F (cne y c e)⟩
  ·obtain⟨w',z⟩:=I.cell y c e;exact⟨w',z.sameBut F (cne y c e)⟩
  ·obtain⟨e,n,ne,nf,d⟩:=I.pin p hp;exact⟨(F.2 p.1 ne).trans e,n,ne,nf,d⟩
 ·have EI:X.fn x=true:=by
   rcases hf with z|z
   ·exact z
   ·rw[z]at hk;cases hk
  obtain⟨c,L⟩:=I.ok.has x (.inl hk);obtain⟨w',z⟩:=I.cell x c L;refine wpAny_storeName_cell I.ok.kind hk L z (λh' EL F=>?_);obtain⟨oc,EM,EN⟩:=id z;refine h { s with heap:=h' } ⟨I.ok,I.os,I.bare,⟨λb o e n Y hx=>?_,λb o e n Y hx=>?_,I.base.free,λb o e hx=>?_,I.base.tups,I.base.frzs,I.base.tbls⟩,⟨m,hn.sameBut F (Ne.symm (cne x c L)),λj y v' J U e3=>?_⟩,λy c' e=>?_,I.free,I.freeC,λp hp=>?_,tracked ⟨oc,EM,I.freeC x c L⟩ F,by simpa using I.len⟩ ⟨c,F,.inr L⟩
  ·exact(F.2 b (Gb (FV (FF e) (I.ok.cab x c EI L)))).trans (I.base.keep b o e n Y hx)
  ·obtain⟨sl,J⟩:=I.base.slot b o e n Y hx;exact⟨sl,(F.2 b (Gb (FV (FF e) (I.ok.cab x c EI L)))).trans J⟩
  ·obtain⟨o',J⟩:=I.base.there b o e hx;exact⟨o',(F.2 b (Gb (FV (FF e) (I.ok.cab x c EI L)))).trans J⟩
  ·by_cases Z:j=i
   ·subst Z;rw[hi]at J;cases J;rw[Gi EK]at U
    cases U
    exact⟨u,r,.inr ⟨.inl hk,c,L,EL⟩⟩
   ·rw[HY (Ne.symm Z)]at U;obtain⟨u',r',q⟩:=hl j y v' J U e3;refine⟨u',r',?_⟩
    rcases q with q|⟨k,c',e,z'⟩
    ·exact .inl q
    ·refine .inr ⟨k,c',e,z'.sameBut F ?_⟩;rintro rfl;exact Z (gL hN J (I.ok.inj _ _ _ e L ▸ hi))
  ·by_cases EO:c'=c
   ·subst EO;exact⟨_,EL⟩
   ·obtain⟨w2,z2⟩:=I.cell y c' e;exact⟨w2,z2.sameBut F EO⟩
  ·obtain⟨e,n,ne,nf,d⟩:=I.pin p hp;refine⟨(F.2 p.1 ?_).trans e,n,ne,nf,d⟩;intro q;rw[q,EM]at e;have q':oc=p.2:=Hd.inj e;exact d w' (by rw[<- q'];exact EN)
theorem dz {E:h8->Ft->Prop}{Q:Unit->Ft->Prop}(I:Inv X pins σ H s)(j:X.N.Nodup)(hi:X.N[i]? = some x)(hx:Loc X.env.scope x)(r:RelV v u)(h:∀ s',Inv X pins (σ.set i (some v)) H s'->Q () s')(hf:X.fn x=true∨X.env.scope.names.lookup x=some .local:=by first|exact .inl rfl|exact .inr rfl|assumption):FG M A (storeName X.env x u) Q E s :=
 jy I j hi hx r (λs' I' _=>h s' I') hf
theorem Inv.call' {s':Ft}(I:Inv X pins σ H s)(ho:s'.os=s.os)(u:Un (frs X.stack) ch H H' s.heap s'.heap)(hok:HOk X.prog X.w H' s'.heap)(z:K7 s'.gens)(j:∀ b∈ch,(b∈X.ex∨X.s₀.heap.objs.size<=b)/\b≠X.env.locals/\(∀ x c,X.env.cells.lookup x=some c->c≠b) /\ ∀ p∈X.pn++pins,p.1≠b):Inv X pins σ H' s':=by
 obtain⟨h',g',d',t',o'⟩:=s';have e:o'=s.os:=ho;subst e;exact I.call (g':=g') (t':=t') (d':=d') u hok z j
end
noncomputable abbrev XK:=h8->Option Addr->Hp->Prop
noncomputable abbrev St:=List (Option V)
noncomputable abbrev VK:=V->Hp->Prop
noncomputable abbrev TE:=St->Hp->VK->Prop
noncomputable abbrev TT:=St->Hp->(Bool->Hp->Prop)->Prop
noncomputable abbrev TA:=St->Hp->(List V->Hp->Prop)->Prop
structure br where
 nx:St->Hp->Prop
 rt:VK
 bk:St->Hp->Prop:=λ_ _=>False
 ct:St->Hp->Prop:=λ_ _=>False
noncomputable abbrev TS:=br->St->Hp->Prop
def EP (X:Cx) (pins:List (Addr×Obj)) (σ:St) (Q:VK) (u:h8) (s':Ft):Prop:=∃ v H',Inv X pins σ H' s'/\RelV v u/\Q v H'
def TP (X:Cx) (pins:List (Addr×Obj)) (σ:St) (Q:Bool->Hp->Prop) (b:Bool) (s':Ft):Prop:=∃ H',Inv X pins σ H' s'/\Q b H'
def AP (X:Cx) (pins:List (Addr×Obj)) (σ:St) (Q:List V->Hp->Prop) (us:List h8) (s':Ft):Prop:=∃ vs H',Inv X pins σ H' s'/\Vals vs us/\Q vs H'
def SP (X:Cx) (pins:List (Addr×Obj)) (D:br) (f:Flow) (s':Ft):Prop :=
 match f with
 |.next=>∃ σ' H',Inv X pins σ' H' s'/\D.nx σ' H'
 |.brk=>∃ σ' H',Inv X pins σ' H' s'/\D.bk σ' H'
 |.cont=>∃ σ' H',Inv X pins σ' H' s'/\D.ct σ' H'
 |.ret u=>∃ v σ' H',Inv X pins σ' H' s'/\RelV v u/\D.rt v H'
def PE (X:Cx) (e:Expr) (t:TE):Prop :=
 ∀ (pins:List (Addr×Obj)) (s:Ft) (σ:St) (H:Hp) (Q:VK),Inv X pins σ H s->t σ H Q->FG (model X.prog X.w) X.A (eval e X.env) (EP X pins σ Q) X.xe s
def PT (X:Cx) (e:Expr) (t:TT):Prop :=
 ∀ (pins:List (Addr×Obj)) (s:Ft) (σ:St) (H:Hp) (Q:Bool->Hp->Prop),Inv X pins σ H s->t σ H Q->FG (model X.prog X.w) X.A (isTrue e X.env (eval e X.env)) (TP X pins σ Q) X.xe s
def PW (X:Cx) (e:Expr) (t:TT):Prop :=
 ∀ (whole:Sem h8) (pins:List (Addr×Obj)) (s:Ft) (σ:St) (H:Hp) (Q:Bool->Hp->Prop),Inv X pins σ H s->t σ H Q->FG (model X.prog X.w) X.A (isTrue e X.env whole) (TP X pins σ Q) X.xe s
theorem PW.pt {X:Cx}{t:TT}(h:PW X e t):PT X e t:=h _
def PA (X:Cx) (es:List Expr) (t:TA):Prop :=
 ∀ (pos:Pos) (pins:List (Addr×Obj)) (s:Ft) (σ:St) (H:Hp) (Q:List V->Hp->Prop),Inv X pins σ H s->t σ H Q->FG (model X.prog X.w) X.A (spliced (GY pos (FN es X.env))) (AP X pins σ Q) X.xe s
def PS (X:Cx) (st:Stmt) (t:TS):Prop :=
 ∀ (pins:List (Addr×Obj)) (s:Ft) (σ:St) (H:Hp) (D:br),Inv X pins σ H s->t D σ H->FG (model X.prog X.w) X.A (exec st X.env) (SP X pins D) X.xe s
def PSs (X:Cx) (st:List Stmt) (t:TS):Prop :=
 ∀ (pins:List (Addr×Obj)) (s:Ft) (σ:St) (H:Hp) (D:br),Inv X pins σ H s->t D σ H->FG (model X.prog X.w) X.A (execs st X.env) (SP X pins D) X.xe s
theorem thn {α:Type}{t:Sem α}{Q Q' : α -> Ft->Prop}{E:h8->Ft->Prop}(h:FG M A t Q E s)(j:∀ a s,Q a s->Q' a s):FG M A t Q' E s:=Ga h j λ_ _ x=>x
end
variable {X:Cx}{pos:Pos}{pins:List (Addr×Obj)}{σ:St}{c:Expr}
section
section
variable {X:Cx}
noncomputable def oV (i:Nat):TE:=λσ H Q=>∃ v,σ[i]? = some (some v)/\Q v H
noncomputable def tC (v:V):TE:=λ_ H Q=>Q v H
theorem fj (J:X.N[i]? = some x)(L:Vis X.env.scope x)(hd:(x==("__debug__":Str))=false:=by decide)(z:(x==("__classdict__":Str))=false:=by decide):PE X (.Name x pos) (oV i):=by
 intro pins s σ H Q I h;obtain⟨v,e,h⟩:=h;obtain⟨m,O,U⟩:=I.loc;obtain⟨u,r,l⟩:=U i x v J e L;have fin:EP X pins σ Q u s:=⟨v,H,I,r,h⟩
 rcases l with⟨hk,hm⟩|⟨hk,c,F,j⟩
 ·exact Oj (wpAny_loadName_local I.ok.kind hk O hm fin) hd
 ·rcases hk with hk|hk
  ·exact Oj (wpAny_loadName_cell I.ok.kind hk F j fin) hd
  ·exact Oj (wpAny_loadName_free I.ok.kind hk F j fin z) hd
theorem yT {i j pos}:PE X (.Constant (.int i) j pos) (tC (.int i)):=λ_ _ _ H _ I h=>MJ ⟨.int i,H,I.tok _,⟨_,rfl⟩,h⟩
theorem AU {b j pos}:PE X (.Constant (.bool b) j pos) (tC (.bl b)):=λ_ _ _ H _ I h=>Constant_bool ⟨.bl b,H,I,rfl,h⟩
theorem i7 {j pos}:PE X (.Constant .none j pos) (tC .non):=λ_ _ _ H _ I h=>Constant_none ⟨.non,H,I,rfl,h⟩
theorem i8 {x j pos}:PE X (.Constant (.str x) j pos) (tC (.str x)):=λ_ _ _ H _ I h=>Calls.Constant_str ⟨.str x,H,I.tok _,⟨_,rfl⟩,h⟩
def Gl (X:Cx) (x:Str):Prop:=X.env.kindOf x=some .globalImplicit
theorem cc {E Q:h8->Ft->Prop}(I:Inv X pins σ H s)(j:Gl X x)(hm:X.mg x=some u)(h:Q u s)(hd:(x==("__debug__":Str))=false:=by decide):FG (model X.prog X.w) X.A (eval (.Name x pos) X.env) Q E s :=
 Ke I.ok.kind j (Calls.loadGlobal_global (by rw[I.ok.glob];exact I.mod.glob.keeps I.bk) hm h) hd
theorem dA {E Q:h8->Ft->Prop}(I:Inv X pins σ H s)(j:Gl X x)(hm:X.mg x=none)(z:Iw x=some u)(h:Q u s)(F:x ≠ "__name__":=by decide)(hd:(x==("__debug__":Str))=false:=by decide):FG (model X.prog X.w) X.A (eval (.Name x pos) X.env) Q E s:=by
 obtain⟨mb,h1,h2⟩:=I.mod.blt;exact Ke I.ok.kind j (Calls.loadGlobal_builtin (by rw[I.ok.glob];exact I.mod.glob.keeps I.bk) hm (by rw[I.ok.blt];exact h1.keeps I.bk) ((h2 x F).trans z) h) hd
theorem wN (j:Gl X x)(hm:X.mg x=some u)(r:RelV v u)(hd:(x==("__debug__":Str))=false:=by decide):PE X (.Name x pos) (tC v) :=
 λ_ _ _ H _ I h=>cc I j hm ⟨v,H,I,r,h⟩ hd
theorem wP (j:Gl X x)(hm:X.mg x=none)(z:Iw x=some u)(r:RelV v u)(F:x ≠ "__name__":=by decide)(hd:(x==("__debug__":Str))=false:=by decide):PE X (.Name x pos) (tC v) :=
 λ_ _ _ H _ I h=>dA I j hm z ⟨v,H,I,r,h⟩ F hd
variable {a b:Expr} {ta tb:TE} {pos:Pos}
noncomputable def tB (t:TE):TT:=λσ H Q=>t σ H λx H1=>∃ c,x = .bl c/\Q c H1
theorem yU {t:TE}(h:PE X e t)(he:∀ whole,isTrue e X.env whole=(do let v <- whole;Jv e.pos;holding [v] (truthy v)):=by intro _;rfl):PT X e (tB t):=by
 intro pins s σ H Q I hw;refine isTrue_plain (thn (h pins s σ H _ I hw) λv s1 g9=>?_) (he _);obtain⟨x,H1,j,z,F⟩:=g9;obtain⟨d,rfl,q⟩:=F
 cases z
 exact GC ⟨H1,j,q⟩
variable {tA tB':TT} {rest:List Expr}
noncomputable def Ce (t u:TT):TT:=λσ H Q=>t σ H λc H1=>if c=true then u σ H1 Q else Q false H1
noncomputable def tOr (t u:TT):TT:=λσ H Q=>t σ H λc H1=>if c=true then Q true H1 else u σ H1 Q
noncomputable def Cf (t:TT):TT:=λσ H Q=>t σ H λc H1=>Q (!c) H1
theorem wQ (j:PT X a tA):PW X (.BoolOp .And [a] pos) tA:=by
 intro wh pins s σ H Q I h;refine isTrue_and (thn (j pins s σ H Q I h) λc s1 e=>?_)
 cases c with
 |true=>exact isTrue_and_nil e
 |false=>exact e
theorem yV (j:PT X a tA):PW X (.BoolOp .Or [a] pos) tA:=by
 intro wh pins s σ H Q I h;refine isTrue_or (thn (j pins s σ H Q I h) λc s1 e=>?_)
 cases c with
 |false=>exact isTrue_or_nil e
 |true=>exact e
theorem yW (F:PT X a tA)(J:PW X (.BoolOp .And (b::rest) pos) tB'):PW X (.BoolOp .And (a::b::rest) pos) (Ce tA tB'):=by
 intro wh pins s σ H Q I h;refine isTrue_and (thn (F pins s σ H _ I h) λc s1 L=>?_);obtain⟨H1,j,z⟩:=L
 cases c with
 |true=>exact J wh pins s1 σ H1 Q j z
 |false=>exact⟨H1,j,z⟩
theorem AV (F:PT X a tA)(J:PW X (.BoolOp .Or (b::rest) pos) tB'):PW X (.BoolOp .Or (a::b::rest) pos) (tOr tA tB'):=by
 intro wh pins s σ H Q I h;refine isTrue_or (thn (F pins s σ H _ I h) λc s1 L=>?_);obtain⟨H1,j,z⟩:=L
 cases c with
 |true=>exact⟨H1,j,z⟩
 |false=>exact J wh pins s1 σ H1 Q j z
theorem yX (j:PT X a tA):PT X (.UnaryOp .Not a pos) (Cf tA):=by
 intro pins s σ H Q I h;exact isTrue_not (j pins s σ H (λc H1=>Q (!c) H1) I h)
noncomputable def AW (ta tb:TE):TE:=λσ H Q=>ta σ H λx H1=>∃ c,x = .bl c/\if c=true then tb σ H1 Q else Q (.bl false) H1
noncomputable def Cg (ta tb:TE):TE:=λσ H Q=>ta σ H λx H1=>∃ c,x = .bl c/\if c=true then Q (.bl true) H1 else tb σ H1 Q
noncomputable def AX (ta:TE):TE:=λσ H Q=>ta σ H λx H1=>∃ c,x = .bl c/\Q (.bl (!c)) H1
theorem yY {op}{t:TE}(h:PE X a t):PE X (.BoolOp op [a] pos) t:=λpins s σ H Q I hw=>BoolOp_one (h pins s σ H Q I hw)
theorem yZ (F:PE X a ta)(J:PE X (.BoolOp .And (b::rest) pos) tb):PE X (.BoolOp .And (a::b::rest) pos) (AW ta tb):=by
 intro pins s σ H Q I h;refine BoolOp_and (thn (F pins s σ H _ I h) λv s1 L=>?_);obtain⟨x,H1,z,O,j⟩:=L;obtain⟨c,rfl,j⟩:=j
 cases O
 refine GC ?_
 cases c with
 |true=>exact J pins s1 σ H1 Q z j
 |false=>exact⟨.bl false,H1,z,rfl,j⟩
theorem AY (F:PE X a ta)(J:PE X (.BoolOp .Or (b::rest) pos) tb):PE X (.BoolOp .Or (a::b::rest) pos) (Cg ta tb):=by
 intro pins s σ H Q I h;refine BoolOp_or (thn (F pins s σ H _ I h) λv s1 L=>?_);obtain⟨x,H1,z,O,j⟩:=L;obtain⟨c,rfl,j⟩:=j
 cases O
 refine GC ?_
 cases c with
 |false=>exact J pins s1 σ H1 Q z j
 |true=>exact⟨.bl true,H1,z,rfl,j⟩
theorem z0 (z:PE X a ta):PE X (.UnaryOp .Not a pos) (AX ta):=by
 intro pins s σ H Q I h;refine UnaryOp_ (thn (z pins s σ H _ I h) λv s1 F=>?_);obtain⟨x,H1,J,L,j⟩:=F;obtain⟨c,rfl,j⟩:=j
 cases L
 exact not_of (GC ⟨.bl (!c),H1,J,rfl,j⟩)
noncomputable def tIf (t:TT) (ta tb:TE):TE:=λσ H Q=>t σ H λc H1=>if c=true then ta σ H1 Q else tb σ H1 Q
theorem kR (F:PT X c tA)(J:PE X a ta)(L:PE X b tb):PE X (.IfExp c a b pos) (tIf tA ta tb):=by
 intro pins s σ H Q I h;refine wpAny_IfExp (thn (F pins s σ H _ I h) λd s1 O=>?_);obtain⟨H1,j,z⟩:=O
 cases d with
 |true=>exact J pins s1 σ H1 Q j z
 |false=>exact L pins s1 σ H1 Q j z
end
end
variable {K:Frag}{tg:Expr}{body:List Stmt}
section
def SqL (K:Frag) (H:Hp) (a:Addr) (xs:List V):Prop :=
 Rd H a (.lst xs) ∨
  ∃ (o:Obj) (its:Array h8) (n:Nat),K.lookup a=some o/\o.cls = .type "list" /\ o.dict=none/\o.data = .seq its n/\its.size<=Fz/\Vals xs its.toList
def SqT (K:Frag) (H:Hp) (a:Addr) (xs:List V):Prop :=
 Rd H a (.tup xs) ∨
  ∃ (o:Obj) (its:Array h8) (n:Nat),K.lookup a=some o/\o.cls = .type "tuple" /\ o.data = .seq its n/\its.size<=Fz/\Vals xs its.toList
noncomputable def Ch:h8->Option V
 |.none=>some .non
 |.bool b=>some (.bl b)
 |.int i _=>some (.int i)
 |.str x _=>some (.str x)
 |.bytes b _=>some (.byt b)
 |.float b _=>some (.flt b)
 |.ref a=>some (.ref a)
 |.type n=>some (.ty n)
 |_=>none
theorem RelV.abs {x:V}(r:RelV x u):Ch u=some x:=by
 cases x with
 |non=>cases r;rfl
 |bl _=>cases r;rfl
 |int _=>obtain⟨t,rfl⟩:=r;rfl
 |str _=>obtain⟨t,rfl⟩:=r;rfl
 |byt _=>obtain⟨t,rfl⟩:=r;rfl
 |flt _=>obtain⟨t,rfl⟩:=r;rfl
 |ref _=>cases r;rfl
 |ty _=>cases r;rfl
theorem RelV.inj {x y:V}(r:RelV x u)(q:RelV y u):x=y:=Hd.inj (r.abs.symm.trans q.abs)
theorem Vals.inj:∀ {xs ys:List V} {us:List h8},Vals xs us->Vals ys us->xs=ys
 |_,_,_,.nil,.nil=>rfl
 |_,_,_,.cons r t,.cons r' t'=>by rw[r.inj r',Vals.inj t t']
section
variable {X:Cx} {pins:List (Addr×Obj)} {σ:St} {H:Hp} {s:Ft} {a:Addr} {xs ys:List V}
theorem SqL.of (h:H a=some (.lst xs)):SqL K H a xs:=.inl (.inl h)
theorem SqT.of (h:H a=some (.tup xs)):SqT K H a xs:=.inl (.inl h)
theorem Inv.list (I:Inv X pins σ H s)(h:SqL X.K H a xs):∃ its:List h8,Vals xs its/\PlainL s.heap a its.toArray/\xs.length<=Fz:=by
 rcases h with h|⟨o,its,n,hk,j,hd,F,J,r⟩
 ·obtain⟨z,its,n,r,e⟩:=h.ok I.hok;exact⟨its,r,⟨_,n,e,rfl,rfl,rfl⟩,z⟩
 ·refine⟨its.toList,r,⟨o,n,I.kIn a o hk,j,hd,by simpa using F⟩,?_⟩
  have e:=r.length;simp only[K5]at e;lia
theorem Inv.tuple (I:Inv X pins σ H s)(h:SqT X.K H a xs):∃ its:List h8,Vals xs its/\IsTup s.heap a its.toArray/\xs.length<=Fz:=by
 rcases h with h|⟨o,its,n,hk,j,F,J,r⟩
 ·obtain⟨z,its,r,p⟩:=h.ok I.hok;exact⟨its,r,p,z⟩
 ·refine⟨its.toList,r,⟨o,I.kIn a o hk,j,n,by simpa using F⟩,?_⟩
  have e:=r.length;simp only[K5]at e;lia
theorem Inv.list_inj (I:Inv X pins σ H s)(h:SqL X.K H a xs)(h':SqL X.K H a ys):xs=ys:=by
 obtain⟨its,r,⟨o,n,e,_,_,d⟩,_⟩:=I.list h;obtain⟨its',r',⟨o',n',e',_,_,d'⟩,_⟩:=I.list h';rw[e]at e';cases e';rw[d]at d'
 injection d' with d1 _
 have:its=its':=by simpa using congrArg Array.toList d1
 subst this;exact r.inj r'
theorem Inv.tuple_inj (I:Inv X pins σ H s)(h:SqT X.K H a xs)(h':SqT X.K H a ys):xs=ys:=by
 obtain⟨its,r,⟨o,e,_,n,d⟩,_⟩:=I.tuple h;obtain⟨its',r',⟨o',e',_,n',d'⟩,_⟩:=I.tuple h';rw[e]at e';cases e';rw[d]at d'
 injection d' with d1 _
 have:its=its':=by simpa using congrArg Array.toList d1
 subst this;exact r.inj r'
end
noncomputable abbrev Cx.wish (X:Cx) (E:h8->Ft->Prop):Cx:={ X with xe:=E }
noncomputable abbrev Cx.nox (X:Cx):Cx:=X.wish λ_ _=>False
theorem Cx.Ok.wish (ok:X.Ok)(E:h8->Ft->Prop):(X.wish E).Ok :=
 ⟨ok.mod,ok.kind,ok.glob,ok.blt,ok.above,ok.inj,ok.has,ok.cab,ok.hd,ok.frames,ok.stk,ok.exf,ok.bs,ok.bsz,ok.noex,ok.exfs,ok.funs,ok.frf⟩
theorem Cx.Ok.unwish {E:h8->Ft->Prop}(ok:(X.wish E).Ok):X.Ok :=
 ⟨ok.mod,ok.kind,ok.glob,ok.blt,ok.above,ok.inj,ok.has,ok.cab,ok.hd,ok.frames,ok.stk,ok.exf,ok.bs,ok.bsz,ok.noex,ok.exfs,ok.funs,ok.frf⟩
section
variable {X:Cx} {pins:List (Addr×Obj)} {σ:St} {H:Hp} {s:Ft} {E:h8->Ft->Prop}
theorem Inv.wish (I:Inv X pins σ H s)(E:h8->Ft->Prop):Inv (X.wish E) pins σ H s:=⟨I.ok.wish E,I.os,I.bare,I.base,I.loc,I.cell,I.free,I.freeC,I.pin,I.hok,I.len⟩
theorem Inv.unwish (I:Inv (X.wish E) pins σ H s):Inv X pins σ H s:=⟨I.ok.unwish,I.os,I.bare,I.base,I.loc,I.cell,I.free,I.freeC,I.pin,I.hok,I.len⟩
theorem SP.unwish {D:br}{f:Flow}{s':Ft}(h:SP (X.wish E) pins D f s'):SP X pins D f s':=by
 cases f with
 |next=>obtain⟨σ',H',I,q⟩:=h;exact⟨σ',H',I.unwish,q⟩
 |brk=>obtain⟨σ',H',I,q⟩:=h;exact⟨σ',H',I.unwish,q⟩
 |cont=>obtain⟨σ',H',I,q⟩:=h;exact⟨σ',H',I.unwish,q⟩
 |ret u=>obtain⟨v,σ',H',I,r,q⟩:=h;exact⟨v,σ',H',I.unwish,r,q⟩
theorem PE.nox {t:TE}(h:PE X.nox e t):PE X e t:=λpins s σ H Q I hw =>
 Ga (h pins s σ H Q (I.wish _) hw) (λ_ _ j=>(by obtain⟨v,H',I',r,q⟩:=j;exact⟨v,H',I'.unwish,r,q⟩)) λ_ _ z=>False.elim z
theorem PT.nox {t:TT}(h:PT X.nox e t):PT X e t:=λpins s σ H Q I hw =>
 Ga (h pins s σ H Q (I.wish _) hw) (λ_ _ j=>(by obtain⟨H',I',q⟩:=j;exact⟨H',I'.unwish,q⟩)) λ_ _ z=>False.elim z
theorem PSs.nox {st:List Stmt}{t:TS}(h:PSs X.nox st t):PSs X st t:=λpins s σ H D I hw =>
 Ga (h pins s σ H D (I.wish _) hw) (λ_ _ q=>q.unwish) λ_ _ z=>False.elim z
end
section
variable {X:Cx} {st:Stmt} {rest:List Stmt} {t u:TS} {e:Expr} {te:TE} {pos:Pos}
noncomputable def oW:TS:=λD σ H=>D.nx σ H
noncomputable def z9 (t u:TS):TS:=λD σ H=>t { D with nx:=u D } σ H
theorem j5:PSs X [] oW:=λ_ _ σ H _ I h=>ID ⟨σ,H,I,h⟩
theorem cv (h1:PS X st t)(h2:PSs X rest u):PSs X (st::rest) (z9 t u):=by
 intro pins s σ H D I h;refine KU (thn (h1 pins s σ H { D with nx:=u D } I h) λf s1 q=>?_)
 cases f with
 | next =>
   obtain⟨σ',H',I',q⟩:=q;exact h2 pins s1 σ' H' D I' q
 |ret v=>exact q
 |brk=>exact q
 |cont=>exact q
theorem dj (h1:PS X st t):PSs X [st] t:=by
 intro pins s σ H D I h;refine KU (thn (h1 pins s σ H D I h) λf s1 q=>?_)
 cases f with
 |next=>exact ID q
 |ret v=>exact q
 |brk=>exact q
 |cont=>exact q
noncomputable def qY:TS:=λD σ H=>D.bk σ H
noncomputable def vZ:TS:=λD σ H=>D.ct σ H
theorem wR:PS X (.Pass pos) oW:=λ_ _ σ H _ I h=>wpAny_Pass ⟨σ,H,I,h⟩
theorem tZ:PS X (.Break pos) qY:=λ_ _ σ H _ I h=>wpAny_Break ⟨σ,H,I,h⟩
theorem nF:PS X (.Continue pos) vZ:=λ_ _ σ H _ I h=>wpAny_Continue ⟨σ,H,I,h⟩
theorem Inv.quiet (I:Inv X pins σ H s):interactive X.env=false:=by simp[interactive,I.ok.kind]
noncomputable def w5 (te:TE):TS:=λD σ H=>te σ H λ_ H1=>D.nx σ H1
theorem wU (he:PE X e te)(j:Hl e none pos.line X.env=pure false:=by rfl):PS X (.Expr e pos) (w5 te):=by
 intro pins s σ H D I h;exact LL (thn (he pins s σ H _ I h) λv s1 z=>(by obtain⟨x,H1,F,L,J⟩:=z;exact⟨σ,H1,F,J⟩)) I.quiet j
noncomputable def za (te:TE):TS:=λD σ H=>te σ H D.rt
theorem i9 (he:PE X e te):PS X (.Return (some e) pos) (za te):=by
 intro pins s σ H D I h;exact wpAny_Return_some (thn (he pins s σ H _ I h) λv s1 j=>(by obtain⟨x,H1,z,F,J⟩:=j;exact⟨x,σ,H1,z,F,J⟩))
noncomputable def zb (c:TT) (t u:TS):TS:=λD σ H=>c σ H λb H1=>if b=true then t D σ H1 else u D σ H1
theorem oX {a b:List Stmt}{tc:TT}(F:PT X c tc)(J:PSs X a t)(L:PSs X b u):PS X (.If c a b pos) (zb tc t u):=by
 intro pins s σ H D I h;refine wpAny_If (thn (F pins s σ H _ I h) λd s1 O=>?_);obtain⟨H1,j,z⟩:=O
 cases d with
 |true=>exact J pins s1 σ H1 D j z
 |false=>exact L pins s1 σ H1 D j z
end
noncomputable abbrev TG:=V->St->Hp->(St->Hp->Prop)->Prop
noncomputable abbrev TGs:=List V->St->Hp->(St->Hp->Prop)->Prop
def PG (X:Cx) (target:Expr) (t:TG):Prop :=
 ∀ (pins:List (Addr×Obj)) (s:Ft) (σ:St) (H:Hp) (v:V) (u:h8) (Q:St->Hp->Prop),Inv X pins σ H s->RelV v u->t v σ H Q ->
  FG (model X.prog X.w) X.A (assign target X.env u) (λ_ s'=>∃ σ' H',Inv X pins σ' H' s'/\Q σ' H') X.xe s
def PGs (X:Cx) (ts:List Expr) (t:TGs):Prop :=
 ∀ (pins:List (Addr×Obj)) (s:Ft) (σ:St) (H:Hp) (vs:List V) (us:List h8) (Q:St->Hp->Prop),Inv X pins σ H s->Vals vs us->t vs σ H Q ->
  FG (model X.prog X.w) X.A (Mw ((Hm ts X.env).map (·.2)) us) (λ_ s'=>∃ σ' H',Inv X pins σ' H' s'/\Q σ' H') X.xe s
noncomputable abbrev oY:=V->V->V->Hp->(Hp->Prop)->Prop
def PSet (X:Cx) (t:oY):Prop :=
 ∀ (pins:List (Addr×Obj)) (s:Ft) (σ:St) (H:Hp) (o i v:V) (ov iv u:h8) (Q:Hp->Prop),Inv X pins σ H s->RelV o ov->RelV i iv->RelV v u->t o i v H Q ->
  FG (model X.prog X.w) X.A (setItem ov iv u) (λ_ s'=>∃ H',Inv X pins σ H' s'/\Q H') X.xe s
section
variable {X:Cx} {pos:Pos}
noncomputable def fU (i:Nat):TG:=λv σ H Q=>Q (σ.set i (some v)) H
theorem nR (j:X.N.Nodup)(hi:X.N[i]? = some x)(hx:Loc X.env.scope x)(hf:X.fn x=true∨X.env.scope.names.lookup x=some .local:=by first|exact .inl rfl|exact .inr rfl|assumption):PG X (.Name x pos) (fU i):=by
 intro pins s σ H v u Q I r h;exact wpAny_assign_Name (dz I j hi hx r (λs' I'=>⟨_,H,I',h⟩) hf)
noncomputable def Ci:TGs:=λvs σ H Q=>vs=[]/\Q σ H
noncomputable def AZ (t:TG) (u:TGs):TGs:=λvs σ H Q=>∃ v r,vs=v::r/\t v σ H λσ' H'=>u r σ' H' Q
theorem wV:PGs X [] Ci:=by
 intro pins s σ H vs us Q I r h;obtain⟨e,h⟩:=h;subst e
 cases r
 exact N9 ⟨σ,H,I,h⟩
theorem u3 {es:List Expr}{t:TG}{u:TGs}(h1:PG X e t)(h2:PGs X es u)(j:(Hm (e::es) X.env).map (·.2)=assign e X.env::(Hm es X.env).map (·.2):=by rfl):PGs X (e::es) (AZ t u):=by
 intro pins s σ H vs us Q I r h;obtain⟨v,vr,z,h⟩:=h;subst z
 cases r with
 | cons r rr =>
   rw[j];refine Kf (thn (h1 pins s σ H _ _ _ I r h) λ_ s1 F=>?_);obtain⟨σ1,H1,J,L⟩:=F;exact h2 pins s1 σ1 H1 _ _ Q J rr L
noncomputable def Cj (K:Frag) (n:Nat) (t:TGs):TG:=λv σ H Q=>∃ a xs,v = .ref a/\SqT K H a xs/\xs.length=n/\t xs σ H Q
theorem zc {es:List Expr}{k:Nat}{t:TGs}{n:Nat}(z:X.calm=true)(h:PGs X es t)(F:(Hm es X.env).length=n:=by rfl)(j:(Hm es X.env).findIdx? (·.1)=none:=by rfl):PG X (.Tuple es k pos) (Cj X.K n t):=by
 intro pins s σ H v u Q I r hw;obtain⟨a,xs,J,L,O,hw⟩:=hw;subst J
 cases r
 obtain⟨its,rv,U,Z⟩:=I.tuple L;refine assign_Tuple_tuple (I.ok.hd z) U (by simp[F,<- O,rv.length]) j λh' hx=>?_
 have Y:Inv X pins σ H { s with heap:=h' }:=I.kept (t':=s.toks) λb o e=>hx b o (Gb (FF e)) e
 exact h pins _ σ H xs _ Q Y (by simpa using rv) hw
noncomputable def Ck (to ti:TE) (t:oY):TG:=λv σ H Q=>to σ H λo H1=>ti σ H1 λi H2=>t o i v H2 λH3=>Q σ H3
theorem zd {o i:Expr}{to ti:TE}{t:oY}(ho:PE X o to)(hi:PE X i ti)(z:PSet X t)(F:∀ v,assign (.Subscript o i pos) X.env v=(do
   let ov <- holding [v] (eval o X.env)
   let iv <- holding [v,ov] (eval i X.env)
   Jv pos
   holding [v,ov,iv] (setItem ov iv v)
   release [v,ov,iv] []):=by intro _;rfl):PG X (.Subscript o i pos) (Ck to ti t):=by
 intro pins s σ H v u Q I r h;rw[F];refine gV (Gp (thn (ho pins s σ H _ I h) λov s1 j=>?_));obtain⟨x,H1,J,L,O⟩:=j;refine gV (Gp (thn (hi pins s1 σ H1 _ J O) λiv s2 j=>?_));obtain⟨y,H2,U,Y,Z⟩:=j;refine gV (Gu (gV (Gp (thn (z pins s2 σ H2 x y v ov iv u _ U L Y r Z) λ_ s3 j=>?_))));obtain⟨H3,I3,q3⟩:=j;exact wpAny_release ⟨σ,H3,I3,q3⟩
noncomputable def kS (te:TE) (g:TG):TS:=λD σ H=>te σ H λx H1=>g x σ H1 D.nx
theorem qZ {te:TE}{g:TG}(he:PE X e te)(j:PG X tg g)(z:Jb [tg] e pos.line X.env=pure false:=by rfl)(hw:Ie [tg] e X.env=pure none:=by rfl)(h1:(Hm [tg] X.env).map (·.2)=[assign tg X.env]:=by rfl):PS X (.Assign [tg] e pos) (kS te g):=by
 intro pins s σ H D I h;refine wpAny_Assign_stores (thn (he pins s σ H _ I h) λv s1 g9=>?_) z hw;obtain⟨x,H1,F,J,L⟩:=g9;rw[h1];exact thn (j pins s1 σ H1 x v _ F J L) λ_ s2 q=>q
theorem r6 {te:TE}{pos':Pos}(j:X.N.Nodup)(hi:X.N[i]? = some x)(hx:Loc X.env.scope x)(he:PE X e te)(z:Hl e (some (.Name x pos')) pos.line X.env=pure false:=by rfl)(hf:X.fn x=true∨X.env.scope.names.lookup x=some .local:=by first|exact .inl rfl|exact .inr rfl|assumption) :
 PS X (.Assign [.Name x pos'] e pos) (kS te (fU i)):=by
 intro pins s σ H D I h;refine wpAny_Assign_Name (thn (he pins s σ H _ I h) λv s1 g9=>?_) z;obtain⟨y,H1,F,J,L⟩:=g9;exact dz F j hi hx J (λs2 O=>⟨_,H1,O,L⟩) hf
noncomputable def ze (i j:Nat) (ta:TA):TS:=λD σ H=>ta σ H λvs H1=>∃ v w,vs=[v,w]/\D.nx ((σ.set i (some v)).set j (some w)) H1
theorem zf {y:Str}{a b:Expr}{ta:TA}{px py pt:Pos}{kt k2 z}(Z:X.calm=true)(O:X.N.Nodup)(hi:X.N[i]? = some x)(hj:X.N[j]? = some y)(F:i≠j)(hx:X.env.scope.names.lookup x=some .local)(U:X.env.scope.names.lookup y=some .local)(ha:PA X [a,b] ta)(hw:Ie [.Tuple [.Name x px,.Name y py] kt pt] (.Tuple [a,b] k2 z) X.env=pure (some [x,y]))(hs:Jb [.Tuple [.Name x px,.Name y py] kt pt] (.Tuple [a,b] k2 z) pos.line X.env=pure false:=by rfl) :
 PS X (.Assign [.Tuple [.Name x px,.Name y py] kt pt] (.Tuple [a,b] k2 z) pos) (ze i j ta):=by
 intro pins s σ H D I h;rw[exec_Assign_arm];refine gV (Gu ?_);rw[hs];refine gV (Fv ?_);rw[if_neg (by decide)]
 refine gV (Tuple_ (thn (ha _ pins s σ H _ I h) λus s1 g9=>?_));obtain⟨vs,H1,I1,r1,J⟩:=g9;obtain⟨v,w,e1,J⟩:=J;subst e1;obtain⟨u1,u2,rfl,rv,rw'⟩:∃ u1 u2,us=[u1,u2]/\RelV v u1/\RelV w u2:=by
  cases r1 with
  | cons p q =>
    cases q with
    | cons p' q' =>
      cases q'
      exact⟨_,_,rfl,p,p'⟩
 refine H8 ?_ (by show 2<=Fz;decide)
 have I2:Inv X pins σ H1 { s1 with heap:=s1.heap.push { cls:=.type "tuple",data:=.seq [u1,u2].toArray } }:=I1.kept (t':=s1.toks) λb o e=>td _ e
 rw[hw];refine gV (Fv ?_);show FG (model X.prog X.w) X.A (do rule "assign.swapped-stores";let items <- unpackItems (.ref s1.heap.objs.size) 2 none;Mw [λv=>Na X.env y v,λv=>Na X.env x v] items.reverse;pure Flow.next) _ _ _
 refine gV (IJ (gV (unpackItems_tuple (items:=#[u1,u2]) (I.ok.hd Z) (JC s1.heap _) λh' L=>?_)));have I3:=I2.kept (h':=h') (t':=s1.toks) λb o e=>L b o (Gb (FF e)) e;show FG _ _ (Mw [λv=>Na X.env y v,λv=>Na X.env x v] [u2,u1] >>= λ_=>pure Flow.next) _ _ _;refine gV (Kf (LM (dz I3 O hj (.inl U) rw' (λs2 I4=>?_) (.inr U))));refine Kf (LM (dz I4 O hi (.inl hx) rv (λs3 Y=>N9 (Fv ?_)) (.inr hx)));rw[List.set_comm _ _ (Ne.symm F)]at Y;exact⟨_,H1,Y,J⟩
end
section
variable {X:Cx} {pos:Pos}
noncomputable def r8 (c:TT) (tb:TS):TS:=λD σ H=>∃ W:Nat->St->Hp->Prop,(∃ m,W m σ H) /\ ∀ m σ H,W m σ H ->
 c σ H λb H1=>if b=true then ∃ N:St->Hp->Prop,(∀ σ' H',N σ' H' -> ∃ m',m'<m/\W m' σ' H')/\tb { D with nx:=N,ct:=N,bk:=D.nx } σ H1 else D.nx σ H1
theorem u4 {tc:TT}{tb:TS}(U:Mh (model X.prog X.w) X.A X.env X.xe)(hc:PT X c tc)(hb:PSs X body tb):PS X (.While c body [] pos) (r8 tc tb):=by
 intro pins s σ H D I h;obtain⟨W,⟨m0,w0⟩,turn⟩:=h;refine wpAny_While (codeAny_whileLoop (λn s'=>∃ σ' H',Inv X pins σ' H' s'/\W n σ' H') ?_ m0 ⟨σ,H,I,w0⟩);rintro n s1 ⟨σ1,H1,I1,w1⟩;refine HW U (thn (hc pins s1 σ1 H1 _ I1 (turn n σ1 H1 w1)) λb s2 g9=>?_);obtain⟨H2,Y,z⟩:=g9
 cases b with
 | true =>
   obtain⟨N,Z,z⟩:=z;rw[if_pos rfl];refine HW U (thn (hb pins s2 σ1 H2 _ Y z) λf s3 F=>?_)
   cases f with
   | next =>
     obtain⟨σ3,j,J,L⟩:=F;obtain⟨m',hm,O⟩:=Z σ3 j L;exact⟨m',hm,σ3,j,J,O⟩
   | cont =>
     obtain⟨σ3,j,J,L⟩:=F;obtain⟨m',hm,O⟩:=Z σ3 j L;exact⟨m',hm,σ3,j,J,O⟩
   |brk=>exact F
   |ret v=>exact F
 | false =>
   rw[if_neg Fu];exact ID ⟨σ1,H2,Y,z⟩
end
structure It where
 go:Nat->Hp->Prop
 yld:Nat->Hp->V->Hp->Prop
 stop:Nat->Hp->Prop
def bT (X:Cx) (pins:List (Addr×Obj)) (H:Hp) (b:Addr):Prop :=
 H b=none/\b≠X.env.locals/\b∉X.fs/\(b∈X.ex∨X.s₀.heap.objs.size<=b)/\(∀ x c,X.env.cells.lookup x=some c->c≠b) /\ ∀ p∈X.pn++pins,p.1≠b
theorem Inv.fpOk {H':Hp}(I:Inv X pins σ H s)(j:s.heap.objs.size<=b)(F:H' b=none):bT X pins H' b:=by
 refine⟨F,HZ (FV I.lt j),I.nofs j,.inr (Gn I.sz j),λx c e z=>?_,λp J z=>?_⟩
 ·obtain⟨v,q⟩:=I.cell x c e;exact absurd (FV q.lt (by rw[z];exact j)) (Hq _)
 ·exact absurd (FV (FF (I.pin p J).1) (by rw[z];exact j)) (Hq _)
structure fq (P:FT) (w:G8) (K:Frag) (tg:Expr) (J:It) (fp:List Addr) (it:Addr) (tn:Nat->Heap->Prop):Prop where
 mem:it∈fp
 obj:∀ i h,tn i h -> ∀ b∈fp,∃ o,h.get? b=some o /\ ∀ v,o.data ≠ .cell v
 keep:∀ i h h',tn i h->(∀ b∈fp,∀ o,h.get? b=some o->h'.get? b=some o)->tn i h'
 item:∀ (X:Cx),X.prog=P->X.w=w->X.K=K->X.calm=true -> ∀ (i:Nat) (pins:List (Addr×Obj)) (s:Ft) (σ:St) (H:Hp) (E:h8->Ft->Prop),Inv X pins σ H s->(∀ b∈fp,bT X pins H b)->tn i s.heap->J.go i H ->
  FG (model P w) X.A (Kg (.ref it)) (λr s1=>∃ u,r=some u /\
   FG (model P w) X.A (JV tg (.ref it) u) (λ_ s2=>∃ x H',Inv X pins σ H' s2/\RelV x u/\J.yld i H x H'/\tn (i+1) s2.heap /\ ∀ b∈fp,H' b=none) E s1) E s
 done:∀ (X:Cx),X.prog=P->X.w=w->X.K=K->X.calm=true -> ∀ (i:Nat) (pins:List (Addr×Obj)) (s:Ft) (σ:St) (H:Hp) (E:h8->Ft->Prop),Inv X pins σ H s->(∀ b∈fp,bT X pins H b)->tn i s.heap->J.stop i H ->
  FG (model P w) X.A (Kg (.ref it)) (λr s1=>r=none/\Inv X pins σ H s1) E s
 self:∀ (A:G3) (i:Nat) (s:Ft) (Q:h8->Ft->Prop) (E:h8->Ft->Prop),tn i s.heap->Q (.ref it) s->FG (model P w) A (MK (.ref it)) Q E s
noncomputable abbrev TI:=St->Hp->(It->Hp->Prop)->Prop
def PIE (X:Cx) (pins:List (Addr×Obj)) (σ:St) (tg:Expr) (R:It->Hp->Prop) (itv:h8) (s2:Ft):Prop :=
 ∃ (it:Addr) (fp:List Addr) (tn:Nat->Heap->Prop) (J:It) (H':Hp),itv = .ref it/\Inv X pins σ H' s2/\fq X.prog X.w X.K tg J fp it tn/\tn 0 s2.heap/\(∀ b∈fp,bT X pins H' b)/\R J H'
def PI (X:Cx) (tg iter:Expr) (wi:TI):Prop :=
 ∀ (pins:List (Addr×Obj)) (s:Ft) (σ:St) (H:Hp) (R:It->Hp->Prop),Inv X pins σ H s->wi σ H R ->
  FG (model X.prog X.w) X.A (eval iter X.env) (λv s1=>FG (model X.prog X.w) X.A (MK v) (PIE X pins σ tg R) X.xe s1) X.xe s
theorem kn {E:h8->Ft->Prop}{it:Addr}{o:Obj}{n:String}{vs:Array h8}{Q:Unit->Ft->Prop}(ho:s.heap.get? it=some o)(z:o.cls = .type n)(hd:o.data = .fields vs)(F : ["enumerate","zip","dict_itemiterator","dict_reverseitemiterator","odict_iterator","itertools.zip_longest","itertools.pairwise"].contains n=false)(j:Q () s):FG M A (JV tg (.ref it) u) Q E s:=by
 unfold JV
 cases tg <;> first
  |exact Fv j
  | (cases u <;> first
      |exact Fv j
      | (refine gV (wpAny_load ho ?_)
         rw[z,hd];show FG M A (if (["enumerate","zip","dict_itemiterator","dict_reverseitemiterator","odict_iterator","itertools.zip_longest","itertools.pairwise"].contains n&&vs[0]? == some (HR _))=true then _ else _) Q E s
         rw[if_neg (by intro h;rw[F,Ip]at h;cases h)]
         exact Fv j))
noncomputable def Itl (K:Frag) (a:Addr):It :=
 ⟨λi H=>∃ xs x,SqL K H a xs/\xs[i]? = some x,λi H x H'=>H'=H /\ ∀ xs,SqL K H a xs->xs[i]? = some x,λi H=>∃ xs,SqL K H a xs/\xs.length<=i⟩
noncomputable def Itt (K:Frag) (a:Addr):It :=
 ⟨λi H=>∃ xs x,SqT K H a xs/\xs[i]? = some x,λi H x H'=>H'=H /\ ∀ xs,SqT K H a xs->xs[i]? = some x,λi H=>∃ xs,SqT K H a xs/\xs.length<=i⟩
noncomputable def Itr (lo:Int) (n:Nat):It:=⟨λi _=>i<n,λi H x H'=>H'=H/\x = .int (lo+i),λi _=>n<=i⟩
theorem r9 (a it:Addr):fq P w K tg (Itl K a) [it] it (λi h=>h.IsListIter it a i) where
 mem:=by simp
 obj:=λi h st b j=>by
  have e:b=it:=by simpa using j
  subst e;obtain⟨o,e,c,d⟩:=st;exact⟨o,e,λv z=>by rw[d]at z;cases z⟩
 keep:=λi h h' st k=>st.at λo e=>k it (by simp) o e
 item:=by
  intro X J hw L Y i pins s σ H E I hf st hg;subst J hw L;obtain⟨xs,x,F,hx⟩:=hg;obtain⟨its,rv,p,Z⟩:=I.list F;obtain⟨u,hu,ru⟩:=rv.get hx;obtain⟨f0,f1,f2,O,f4,U⟩:=hf it (by simp)
  refine wpAny_pyNext_list_item st p.isList (x:=u) (by simpa using hu) λh' st' sb=>?_
  have I1:Inv X pins σ H { s with heap:=h' }:=I.turned (t':=s.toks) (λb o j e=>(sb.2 b j).trans e) f0 f1 O f4 U
  obtain⟨o,e,c,d⟩:=id st';exact⟨u,rfl,kn (s:={ s with heap:=h' }) e c d (by decide) ⟨x,H,I1,ru,⟨rfl,λys hy=>by rw[I.list_inj hy F];exact hx⟩,st',λb j=>(hf b j).1⟩⟩
 done:=by
  intro X J hw L Y i pins s σ H E I hf st hg;subst J hw L;obtain⟨xs,F,hx⟩:=hg;obtain⟨its,rv,p,Z⟩:=I.list F;obtain⟨f0,f1,f2,O,f4,U⟩:=hf it (by simp)
  have hl:=rv.length;exact wpAny_pyNext_list_end (I.ok.hd Y) st p.isList (by simp;lia) λh' eb=>⟨rfl,I.turned (t':=s.toks) (λb o j e=>eb b o j e) f0 f1 O f4 U⟩
 self:=λ_ _ _ _ _ st h=>wpAny_pyIter_listiter st h
theorem oZ (a it:Addr):fq P w K tg (Itt K a) [it] it (λi h=>h.IsTupleIter it a i) where
 mem:=by simp
 obj:=λi h st b j=>by
  have e:b=it:=by simpa using j
  subst e;obtain⟨o,e,c,d⟩:=st;exact⟨o,e,λv z=>by rw[d]at z;cases z⟩
 keep:=λi h h' st k=>st.at λo e=>k it (by simp) o e
 item:=by
  intro X J hw L Y i pins s σ H E I hf st hg;subst J hw L;obtain⟨xs,x,F,hx⟩:=hg;obtain⟨its,rv,p,Z⟩:=I.tuple F;obtain⟨u,hu,ru⟩:=rv.get hx;obtain⟨f0,f1,f2,O,f4,U⟩:=hf it (by simp)
  refine wpAny_pyNext_tuple_item st (show s.heap.IsTuple a its.toArray from p) (x:=u) (by simpa using hu) λh' st' sb=>?_
  have I1:Inv X pins σ H { s with heap:=h' }:=I.turned (t':=s.toks) (λb o j e=>(sb.2 b j).trans e) f0 f1 O f4 U
  obtain⟨o,e,c,d⟩:=id st';exact⟨u,rfl,kn (s:={ s with heap:=h' }) e c d (by decide) ⟨x,H,I1,ru,⟨rfl,λys hy=>by rw[I.tuple_inj hy F];exact hx⟩,st',λb j=>(hf b j).1⟩⟩
 done:=by
  intro X J hw L Y i pins s σ H E I hf st hg;subst J hw L;obtain⟨xs,F,hx⟩:=hg;obtain⟨its,rv,p,Z⟩:=I.tuple F;obtain⟨f0,f1,f2,O,f4,U⟩:=hf it (by simp)
  have hl:=rv.length;exact wpAny_pyNext_tuple_end (I.ok.hd Y) st (show s.heap.IsTuple a its.toArray from p) (by simp;lia) λh' eb=>⟨rfl,I.turned (t':=s.toks) (λb o j e=>eb b o j e) f0 f1 O f4 U⟩
 self:=λ_ _ _ _ _ st h=>wpAny_pyIter_tupleiter st h
theorem p8 (it:Addr)(lo:Int)(n:Nat):fq P w K tg (Itr lo n) [it] it (λi h=>IsRangeIter h it (lo+(i:Nat)*1) ((n:Int) - (i:Nat)) 1) where
 mem:=by simp
 obj:=λi h st b j=>by
  have e:b=it:=by simpa using j
  subst e;exact⟨_,st,λv z=>by
   have z':Data.fields _=Data.cell v:=z
   cases z'⟩
 keep:=λi h h' st k=>k it (by simp) _ st
 item:=by
  intro X F hw J L i pins s σ H E I hf st hg;subst F hw J;obtain⟨f0,f1,f2,O,f4,U⟩:=hf it (by simp)
  have W:=Walks.range (prog:=X.prog) (w:=X.w) (I.ok.hd L) it lo 1 n;refine W.item i s _ _ hg st λv h' tk Y st' kk=>?_;obtain⟨t,rfl⟩:=Y;have Z:Inv X pins σ H { s with heap:=h',toks:=tk }:=I.turned (λb o j e=>kk b o (by simpa using j) e) f0 f1 O f4 U
  refine⟨_,rfl,kn (s:={ s with heap:=h',toks:=tk }) (n:="range_iterator") st' rfl rfl (by decide) ⟨.int (lo+i),H,Z,⟨t,?_⟩,⟨rfl,rfl⟩,st',λb j=>(hf b j).1⟩⟩
  rw[Int.mul_one]
 done:=by
  intro X F hw J L i pins s σ H E I hf st hg;subst F hw J;obtain⟨f0,f1,f2,O,f4,U⟩:=hf it (by simp)
  exact wpAny_pyNext_range_end (I.ok.hd L) st (by have:n<=i:=hg;lia) λh' eb=>⟨rfl,I.turned (t':=s.toks) (λb o j e=>eb b o j e) f0 f1 O f4 U⟩
 self:=λ_ _ _ _ _ st h=>wpAny_pyIter_rangeiter st h
end
variable {fp:List Addr}
section
section
variable {X:Cx} {tg:Expr}
theorem u5 {R:It->Hp->Prop}{E:h8->Ft->Prop}{lo hi:Int}{t u v:Tok}{tk:Nat}(I:Inv X pins σ H s)(h1 : -(2 ^ 62)<=lo)(h2:lo<2 ^ 62)(z : -(2 ^ 62)<=hi)(F:hi<2 ^ 62)(q:R (Itr lo (hi - lo).toNat) H):FG (model X.prog X.w) X.A (MK (.ref s.heap.objs.size)) (PIE X pins σ tg R) E { s with heap:=s.heap.push { cls:=.type "range",data:=.fields #[.int lo t,.int hi u,.int 1 v] },toks:=tk }:=by
 refine wpAny_pyIter_range (IsRange.new ..) (small_one h1 h2 z F) ?_;have j:Inv X pins σ H { s with heap:=s.heap.push { cls:=.type "range",data:=.fields #[.int lo t,.int hi u,.int 1 v] },toks:=tk }:=I.kept λb o e=>td _ e
 refine⟨(s.heap.push { cls:=.type "range",data:=.fields #[.int lo t,.int hi u,.int 1 v] }).objs.size,[(s.heap.push { cls:=.type "range",data:=.fields #[.int lo t,.int hi u,.int 1 v] }).objs.size],_,_,H,rfl,
  j.kept (t':=tk) λb o e=>td _ e,p8 _ lo (hi - lo).toNat,?_,λb J=>?_,q⟩
 ·have L:lo+((0:Nat):Int)*1=lo:=by simp
  have O:(((hi - lo).toNat:Nat):Int) - ((0:Nat):Int)=Builtin.Range.rangeSize lo hi 1:=by rw[rangeSize_one];split <;> lia
  show IsRangeIter _ _ (lo+((0:Nat):Int)*1) ((((hi - lo).toNat:Nat):Int) - ((0:Nat):Int)) 1;rw[L,O];exact FK _ rfl
 ·have e:b=(s.heap.push { cls:=.type "range",data:=.fields #[.int lo t,.int hi u,.int 1 v] }).objs.size:=by simpa using J
  subst e;exact j.fpOk (FE _) (j.hok.fresh (FE _))
noncomputable def B0 (ta:TA):TI:=λσ H R=>ta σ H λvs H1=>∃ j:Int,vs=[.int j] /\ -(2 ^ 62)<=j/\j<2 ^ 62/\R (Itr 0 j.toNat) H1
theorem rg {a:Expr}{ta:TA}{p:Pos}(F:Gl X "range")(hm:X.mg "range" = none)(J:PA X [a] ta)(L:FN [a] X.env=[(false,eval a X.env)]:=by rfl):PI X tg (.Call (.Name "range" p) [a] [] pos) (B0 ta):=by
 intro pins s σ H R I h;refine Call_ (dA I F hm boot_range (HB (thn (J pos pins s σ H _ I h) λus s1 g9=>?_) L rfl));obtain⟨vs,H1,O,U,z⟩:=g9;obtain⟨j,e,z,Y,q⟩:=z;subst e
 cases U with
 | cons r rr =>
   cases rr
   obtain⟨t,rfl⟩:=r;exact call_range_1 (u5 O (by lia) (by lia) z Y (by simpa using q))
noncomputable def u6 (wi:TI) (g:TG) (tb:TS):TS:=λD σ H=>wi σ H λJ H1=>∃ W:Nat->Nat->St->Hp->Prop,(∃ m,W 0 m σ H1) /\ ∀ i m σ H,W i m σ H ->
 (J.stop i H/\D.nx σ H)∨(J.go i H /\ ∃ N:St->Hp->Prop,(∀ σ' H',N σ' H' -> ∃ m',m'<m/\W (i+1) m' σ' H') /\ ∀ x H',J.yld i H x H'->g x σ H' λσ2 H2=>tb { D with nx:=N,ct:=N,bk:=D.nx } σ2 H2)
noncomputable def ia (fp:List Addr) (h:Heap):List (Addr×Obj):=fp.filterMap λb=>(h.get? b).map λo=>(b,o)
theorem cT {o:Obj}(j:b∈fp)(e:h.get? b=some o):(b,o)∈ia fp h:=Kh.mpr ⟨b,j,by rw[e];rfl⟩
theorem rh {p:Addr×Obj}(j:p∈ia fp h):p.1∈fp/\h.get? p.1=some p.2:=by
 obtain⟨b,z,e⟩:=Kh.mp j
 cases q:h.get? b with
 |none=>rw[q]at e;cases e
 | some o =>
   rw[q]at e;have e':(b,o)=p:=Hd.inj e;subst e';exact⟨z,q⟩
theorem Inv.pinned (I:Inv X pins σ H s)(hf:∀ b∈fp,bT X pins H b)(ho:∀ b∈fp,∃ o,s.heap.get? b=some o /\ ∀ v,o.data ≠ .cell v):Inv X (pins++ia fp s.heap) σ H s :=
 I.pins_of λp F=>(Hy.mp F).elim (λz=>I.pin p (FZ _ z)) λz=>by
  obtain⟨j,e⟩:=rh z;obtain⟨f0,f1,f2,_⟩:=hf p.1 j;obtain⟨o,e',d⟩:=ho p.1 j;rw[e]at e';cases e';exact⟨e,f0,f1,f2,d⟩
theorem Inv.unpinned {pl:List (Addr×Obj)}(I:Inv X (pins++pl) σ H s):Inv X pins σ H s:=I.pins_of λp j=>I.pin p (FZ _ (JQ _ j))
theorem rj {iter:Expr}{wi:TI}{g:TG}{tb:TS}(Y:Mh (model X.prog X.w) X.A X.env X.xe)(hc:X.calm=true)(hi:PI X tg iter wi)(hg:PG X tg g)(j:PSs X body tb)(hs:∀ x,H9 iter X.env x=pure x:=by intro _;rfl):PS X (.For tg iter body [] pos) (u6 wi g tb):=by
 intro pins s σ H D I h;refine wpAny_For (thn (hi pins s σ H _ I h) λv s1 h1=>thn h1 λitv s2 h2=>?_) hs;obtain⟨it,fp,tn,J,H2,e,I2,T,EJ,f2,W,⟨m0,w0⟩,turn⟩:=h2;subst e;have stat:∀ {H':Hp},(∀ b∈fp,H' b=none) -> ∀ b∈fp,bT X pins H' b:=λhn b j=>⟨hn b j,(f2 b j).2⟩;refine codeAny_forLoop_any (λn s'=>∃ i σ' H',Inv X pins σ' H' s'/\tn i s'.heap/\(∀ b∈fp,H' b=none)/\W i n σ' H') ?_ m0 ⟨0,σ,H2,I2,EJ,λb j=>(f2 b j).1,w0⟩;rintro n s3 ⟨i,σ3,H3,I3,Z,EI,w3⟩
 rcases turn i n σ3 H3 w3 with⟨stop,qn⟩|⟨go,N,hN,step⟩
 ·refine HW Y (thn (T.done X rfl rfl rfl hc i pins s3 σ3 H3 X.xe I3 (stat EI) Z stop) λr s4 O=>?_);obtain⟨hr,I4⟩:=O;subst hr;exact ID ⟨σ3,H3,I4,qn⟩
 ·refine HW Y (thn (T.item X rfl rfl rfl hc i pins s3 σ3 H3 X.xe I3 (stat EI) Z go) fun r s4 O=>?_);obtain ⟨u,hr,h4⟩:=O;subst hr;refine HW Y (thn h4 fun _ s5 O=>?_);obtain ⟨x,H5,I5,r5,y5,U,EK⟩:=O;have EL:=I5.pinned (stat EK) (T.obj _ _ U);refine HW Y (thn (hg _ s5 σ3 H5 x u _ EL r5 (step x H5 y5)) fun _ s6 O=>?_);obtain ⟨σ6,H6,I6,q6⟩:=O;refine HW Y (thn (j _ s6 σ6 H6 _ I6 q6) fun f s7 L=>?_);have again:∀ {σ7:St} {z:Hp},Inv X (pins++ia fp s5.heap) σ7 z s7->N σ7 z -> ∃ m,m < n /\ ∃ i σ' H',Inv X pins σ' H' s7/\tn i s7.heap/\(∀ b∈fp,H' b=none)/\W i m σ' H':=fun {σ7 z} F n7=>by
   obtain⟨m',hm,w7⟩:=hN σ7 z n7;refine⟨m',hm,i+1,σ7,z,F.unpinned,T.keep _ _ _ U λb j o e=>(F.pin (b,o) (FZ _ (FZ _ (cT j e)))).1,λb j=>?_,w7⟩;obtain⟨o,e,d⟩:=T.obj _ _ U b j;exact(F.pin (b,o) (FZ _ (FZ _ (cT j e)))).2.1
  cases f with
  |next=>obtain⟨σ7,z,F,n7⟩:=L;exact again F n7
  |cont=>obtain⟨σ7,z,F,n7⟩:=L;exact again F n7
  |brk=>obtain⟨σ7,z,F,L⟩:=L;exact⟨σ7,z,F.unpinned,L⟩
  |ret v=>obtain⟨x7,σ7,z,F,r7,L⟩:=L;exact⟨x7,σ7,z,F.unpinned,r7,L⟩
end
end
variable {f:h8->h8->Sem h8}{op:LN}{Q:VK}
section
noncomputable abbrev R2:=V->V->Hp->VK->Prop
def OpR (X:Cx) (f:h8->h8->Sem h8) (r:R2):Prop :=
 ∀ (pins:List (Addr×Obj)) (s:Ft) (σ:St) (H:Hp) (x y:V) (v u:h8) (Q:VK),Inv X pins σ H s->RelV x v->RelV y u->r x y H Q ->
  FG (model X.prog X.w) X.A (f v u) (EP X pins σ Q) X.xe s
def UnR (X:Cx) (f:h8->Sem h8) (r:V->Hp->VK->Prop):Prop :=
 ∀ (pins:List (Addr×Obj)) (s:Ft) (σ:St) (H:Hp) (x:V) (v:h8) (Q:VK),Inv X pins σ H s->RelV x v->r x H Q ->
  FG (model X.prog X.w) X.A (f v) (EP X pins σ Q) X.xe s
def CallR (X:Cx) (f:h8) (r:List V->Hp->VK->Prop):Prop :=
 ∀ (pins:List (Addr×Obj)) (s:Ft) (σ:St) (H:Hp) (xs:List V) (us:List h8) (Q:VK),Inv X pins σ H s->Vals xs us->r xs H Q ->
  FG (model X.prog X.w) X.A (call f us) (EP X pins σ Q) X.xe s
def Cl (X:Cx) (r:V->Hp->(Bool->Hp->Prop)->Prop):Prop :=
 ∀ (pins:List (Addr×Obj)) (s:Ft) (σ:St) (H:Hp) (x:V) (v:h8) (Q:Bool->Hp->Prop),Inv X pins σ H s->RelV x v->r x H Q ->
  FG (model X.prog X.w) X.A (truthy v) (TP X pins σ Q) X.xe s
noncomputable def tOp (r:R2) (ta tb:TE):TE:=λσ H Q=>ta σ H λx H1=>tb σ H1 λy H2=>r x y H2 Q
noncomputable def tUn (r:V->Hp->VK->Prop) (ta:TE):TE:=λσ H Q=>ta σ H λx H1=>r x H1 Q
noncomputable def rI (C:Int->Int->Prop) (g:Int->Int->V):R2:=λx y H Q=>∃ i j,x = .int i/\y = .int j/\C i j/\Q (g i j) H
noncomputable def rI0 (g:Int->Int->V):R2:=λx y H Q=>∃ i j,x = .int i/\y = .int j/\Q (g i j) H
noncomputable def rU (g:Int->V):V->Hp->VK->Prop:=λx H Q=>∃ i,x = .int i/\Q (g i) H
section
variable {X:Cx} {a b c:Expr} {ta tb tc:TE} {pos:Pos}
theorem u7 (z:PE X a ta)(F:PE X b tb){R:V->V->Hp->Prop}(I:Inv X pins σ H s)(h:ta σ H λx H1=>tb σ H1 λy H2=>R x y H2){Q:h8->Ft->Prop}(hf:∀ v u s2 x y H2,Inv X pins σ H2 s2->RelV x v->RelV y u->R x y H2->FG (model X.prog X.w) X.A (f v u) Q X.xe s2) :
 FG (model X.prog X.w) X.A (eval a X.env) (λv s₁=>FG (model X.prog X.w) X.A (eval b X.env) (λu s₂=>FG (model X.prog X.w) X.A (f v u) Q X.xe s₂) X.xe s₁) X.xe s:=by
 refine thn (z pins s σ H _ I h) λv s1 j=>?_;obtain⟨x,H1,J,L,O⟩:=j;refine thn (F pins s1 σ H1 _ J O) λu s2 j=>?_;obtain⟨y,H2,U,Y,Z⟩:=j;exact hf v u s2 x y H2 U L Y Z
theorem B1 {op:Nb}{r:R2}(ho:OpR X (GP op) r)(j:PE X a ta)(z:PE X b tb):PE X (.BinOp a op b pos) (tOp r ta tb):=by
 intro pins s σ H Q I h;exact wpAny_BinOp (u7 j z I h λv u s2 x y H2 F rx ry q=>ho pins s2 σ H2 x y v u Q F rx ry q)
theorem B2 {op:UnaryOp}{r:V->Hp->VK->Prop}(ho:UnR X (unaryOp op) r)(j:PE X a ta):PE X (.UnaryOp op a pos) (tUn r ta):=by
 intro pins s σ H Q I h;exact UnaryOp_ (thn (j pins s σ H _ I h) λv s1 z=>(by obtain⟨x,H1,F,J,L⟩:=z;exact ho pins s1 σ H1 x v Q F J L))
theorem opI {C:Int->Int->Prop}{g:Int->Int->Int}(rule:∀ (i j:Int) (t u:Tok) (s:Ft) (Q:h8->Ft->Prop) (E:h8->Ft->Prop),C i j->Q (.int (g i j) s.toks) { s with toks:=s.toks+1 }->FG (model X.prog X.w) X.A (f (.int i t) (.int j u)) Q E s) :
 OpR X f (rI C λi j=>.int (g i j)):=by
 intro pins s σ H x y v u Q I rx ry h;obtain⟨i,j,rfl,rfl,z,q⟩:=h;obtain⟨t,rfl⟩:=rx;obtain⟨t',rfl⟩:=ry;exact rule i j t t' s _ _ z ⟨.int (g i j),H,I.tok _,⟨_,rfl⟩,q⟩
theorem zg {g:Int->Int->Int}(rule:∀ (i j:Int) (t u:Tok) (s:Ft) (Q:h8->Ft->Prop) (E:h8->Ft->Prop),Q (.int (g i j) s.toks) { s with toks:=s.toks+1 }->FG (model X.prog X.w) X.A (f (.int i t) (.int j u)) Q E s) :
 OpR X f (rI0 λi j=>.int (g i j)):=by
 intro pins s σ H x y v u Q I rx ry h;obtain⟨i,j,rfl,rfl,q⟩:=h;obtain⟨t,rfl⟩:=rx;obtain⟨t',rfl⟩:=ry;exact rule i j t t' s _ _ ⟨.int (g i j),H,I.tok _,⟨_,rfl⟩,q⟩
theorem p9 {g:Int->Int->Bool}(rule:∀ (i j:Int) (t u:Tok) (s:Ft) (Q:h8->Ft->Prop) (E:h8->Ft->Prop),Q (.bool (g i j)) s->FG (model X.prog X.w) X.A (f (.int i t) (.int j u)) Q E s) :
 OpR X f (rI0 λi j=>.bl (g i j)):=by
 intro pins s σ H x y v u Q I rx ry h;obtain⟨i,j,rfl,rfl,q⟩:=h;obtain⟨t,rfl⟩:=rx;obtain⟨t',rfl⟩:=ry;exact rule i j t t' s _ _ ⟨.bl (g i j),H,I,rfl,q⟩
def Cm (i j:Int):Prop:=0<=j/\j<=1000000/\i.natAbs<2 ^ 64
theorem op_add:OpR X (GP .Add) (rI0 λi j=>.int (i+j)):=zg λ_ _ _ _ _ _ _ q=>add_int q
theorem zh:OpR X (GP .Sub) (rI0 λi j=>.int (i - j)):=zg λ_ _ _ _ _ _ _ q=>sub_int q
theorem zi:OpR X (GP .Mod) (rI (λ_ j=>0<j) λi j=>.int (i % j)):=opI λi j _ _ _ _ _ z q=>by
 have h1:(0:Int)<j:=z;exact mod_int' (by lia) (by rw[Int.fmod_eq_emod_of_nonneg i (by lia)];exact q)
theorem zj:OpR X (GP .Pow) (rI Cm λi j=>.int (i ^ j.toNat)):=opI λ_ _ _ _ _ _ _ z q=>pow_int_small z.1 z.2.1 z.2.2 q
theorem unI {f:h8->Sem h8}{g:Int->Int}(rule:∀ (i:Int) (t:Tok) (s:Ft) (Q:h8->Ft->Prop) (E:h8->Ft->Prop),Q (.int (g i) s.toks) { s with toks:=s.toks+1 }->FG (model X.prog X.w) X.A (f (.int i t)) Q E s) :
 UnR X f (rU λi=>.int (g i)):=by
 intro pins s σ H x v Q I rx h;obtain⟨i,rfl,q⟩:=h;obtain⟨t,rfl⟩:=rx;exact rule i t s _ _ ⟨.int (g i),H,I.tok _,⟨_,rfl⟩,q⟩
theorem zk:UnR X (unaryOp .USub) (rU λi=>.int (-i)):=unI λ_ _ _ _ _ q=>neg_int q
end
section
variable {X:Cx} {a b c:Expr} {ta tb tc:TE} {pos:Pos}
theorem kT {k k':Bool}(I:Inv X pins σ H s)(q:Q (.bl k) H)(e:k=k'):EP X pins σ Q (.bool k') s:=by
 subst e;exact⟨.bl k,H,I,rfl,q⟩
theorem B3:OpR X (G6 .Lt) (rI0 λi j=>.bl (decide (i<j))):=p9 λ_ _ _ _ _ _ _ q=>lt_int q
theorem B4:OpR X (G6 .LtE) (rI0 λi j=>.bl (decide (i<=j))):=p9 λ_ _ _ _ _ _ _ q=>le_int q
theorem B5:OpR X (G6 .Gt) (rI0 λi j=>.bl (decide (j<i))):=p9 λ_ _ _ _ _ _ _ q=>gt_int q
theorem B6:OpR X (G6 .GtE) (rI0 λi j=>.bl (decide (j<=i))):=p9 λ_ _ _ _ _ _ _ q=>ge_int q
theorem rl:OpR X (G6 .In) (λx y H Q=>∃ i j,x = .str i/\y = .str j/\Q (.bl (!(GF j i 0 j.length 1).isEmpty)) H):=by
 intro pins s σ H x y v u Q I rx ry h;obtain⟨i,j,rfl,rfl,q⟩:=h;obtain⟨t,rfl⟩:=rx;obtain⟨t',rfl⟩:=ry;exact in_str (kT I q rfl)
theorem zm:OpR X (G6 .Is) (λx y H Q=>y = .non/\Q (.bl (decide (x = .non))) H):=by
 intro pins s σ H x y v u Q I rx ry h;obtain⟨rfl,q⟩:=h
 cases ry
 refine is_none_gen (kT I q ?_)
 cases x <;> first
  |(cases rx;rfl)
  |(obtain⟨t,rfl⟩:=rx;rfl)
theorem OpR.or {r r':R2}(h:OpR X f r)(h':OpR X f r'):OpR X f (λx y H Q=>r x y H Q∨r' x y H Q):=by
 intro pins s σ H x y v u Q I rx ry q
 rcases q with q|q
 ·exact h pins s σ H x y v u Q I rx ry q
 ·exact h' pins s σ H x y v u Q I rx ry q
theorem zn (b:Expr)(h:op ≠ .In:=by decide)(h2:op ≠ .NotIn:=by decide):Ig op b=false:=by
 have j:(op==CmpOp.In)=false:=by cases op <;> first|rfl|exact absurd rfl h
 have z:(op==CmpOp.NotIn)=false:=by cases op <;> first|rfl|exact absurd rfl h2
 cases b <;> simp[Ig,j,z]
theorem wW {r:R2}(ho:OpR X (G6 op) r)(j:PE X a ta)(z:PE X b tb)(hm:Ig op b=false):PE X (.Compare a [op] [b] pos) (tOp r ta tb):=by
 intro pins s σ H Q I h;exact wpAny_Compare1 (u7 j z I h λv u s2 x y H2 F rx ry q=>ho pins s2 σ H2 x y v u Q F rx ry q) hm
noncomputable def ph (t:TE):TT:=λσ H Q=>t σ H λx H'=>∃ k,x = .bl k/\Q k H'
theorem nS {r:R2}(ho:OpR X (G6 op) r)(j:PE X a ta)(F:PE X b tb)(hm:Ig op b=false):PT X (.Compare a [op] [b] pos) (ph (tOp r ta tb)):=by
 intro pins s σ H Q I h;refine wpAny_isTrue_Compare1 (thn (j pins s σ H _ I h) λv s1 ⟨x,H1,J,L,O⟩=>thn (F pins s1 σ H1 _ J O) λu s2 ⟨y,H2,U,Y,Z⟩ =>
  thn (ho pins s2 σ H2 x y v u _ U L Y Z) λc s3 ⟨z,H3,I3,r3,k,e,q3⟩=>?_) hm
 subst e
 cases r3
 exact GC ⟨H3,I3,q3⟩
noncomputable def kU (r r':R2) (ta tb tc:TE):TE:=λσ H Q=>ta σ H λx H1=>tb σ H1 λy H2=>r x y H2 λz H3=>∃ k,z = .bl k /\
 (if k=true then tc σ H3 λw' H4=>r' y w' H4 Q else Q (.bl false) H3)
theorem u8 {op':LN}{r r':R2}(ho:OpR X (G6 op) r)(j:OpR X (G6 op') r')(U:PE X a ta)(Y:PE X b tb)(Z:PE X c tc)(hm:KW [op,op'] [b,c]=false:=by with_unfolding_all rfl):PE X (.Compare a [op,op'] [b,c] pos) (kU r r' ta tb tc):=by
 intro pins s σ H Q I h;refine Compare_chain (thn (U pins s σ H _ I h) λv s1 ⟨x,H1,I1,r1,q1⟩=>chain_link (thn (Y pins s1 σ H1 _ I1 q1) λu s2 ⟨y,H2,I2,F,q2⟩ =>
  thn (ho pins s2 σ H2 x y v u _ I2 r1 F q2) λd s3 ⟨z,J,L,r3,k,e,O⟩=>?_)) hm
 subst e
 cases r3
 refine GC ?_
 cases k with
 |false=>exact ite_ff ⟨.bl false,J,L,rfl,O⟩
 |true=>exact ite_tt (chain_last (thn (Z pins s3 σ J _ L O) λw' s4 g9=>(by obtain⟨z',H4,I4,r4,q4⟩:=g9;exact j pins s4 σ H4 y z' u w' Q I4 F r4 q4)))
theorem u9 {op':LN}{r r':R2}(ho:OpR X (G6 op) r)(j:OpR X (G6 op') r')(U:PE X a ta)(Y:PE X b tb)(Z:PE X c tc)(hm:KW [op,op'] [b,c]=false:=by with_unfolding_all rfl):PT X (.Compare a [op,op'] [b,c] pos) (ph (kU r r' ta tb tc)):=by
 intro pins s σ H Q I h;refine isTrue_chain (thn (U pins s σ H _ I h) λv s1 ⟨x,H1,I1,r1,q1⟩=>test_link (thn (Y pins s1 σ H1 _ I1 q1) λu s2 ⟨y,H2,I2,F,q2⟩ =>
  thn (ho pins s2 σ H2 x y v u _ I2 r1 F q2) λd s3 ⟨z,J,L,r3,k,e,O⟩=>?_)) hm
 subst e
 cases r3
 refine GC ?_
 cases k with
 | false =>
   obtain⟨k',e',q'⟩:=O
   cases e'
   exact ite_ff ⟨J,L,q'⟩
 | true =>
   refine ite_tt (test_last (thn (Z pins s3 σ J _ L O) λw' s4 ⟨z',H4,I4,r4,q4⟩=>thn (j pins s4 σ H4 y z' u w' _ I4 F r4 q4) λd' s5 g9=>?_));obtain⟨z2,H5,I5,r5,k2,e2,q5⟩:=g9;subst e2
   cases r5
   exact GC ⟨H5,I5,q5⟩
def ua (K:Frag) (x:V) (H:Hp) (k:Bool):Prop :=
 match x with
 |.non=>k=false
 |.bl b=>k=b
 |.int i=>k=(i != 0)
 |.str y=>y.length<=Fz/\k=((y.length:Int) != 0)
 |.byt y=>y.size<=Fz/\k=((y.size:Int) != 0)
 |.ref p=>(∃ xs,SqL K H p xs/\k = !xs.isEmpty)∨(∃ xs,SqT K H p xs/\k = !xs.isEmpty)∨∃ kvs,H p=some (.dK kvs)/\k = !kvs.isEmpty
 |_=>False
theorem pi {κ:Type}{kvs:List (κ × V)}{vs:List (κ × h8)}(r:KV kvs vs):(!vs.isEmpty) = !kvs.isEmpty:=by
 cases r <;> rfl
theorem ib {xs:List V}{its:List h8}(r:Vals xs its):(!its.toArray.isEmpty) = !xs.isEmpty:=by
 cases r <;> simp
theorem eB:(Fz:Nat)<2 ^ 63:=by rw[Fy];decide
theorem zo:Cl X (λx H Q=>∃ k,ua X.K x H k/\Q k H):=by
 intro pins s σ H x v Q I rx h;obtain⟨k,e,q⟩:=h;have J:=eB;have L:Fz=16777216:=Fy
 cases x with
 | non =>
   cases rx
   have e':k=false:=e;subst e';exact truthy_none ⟨H,I,q⟩
 | bl b =>
   cases rx
   have e':k=b:=e;subst e';exact GC ⟨H,I,q⟩
 | int i =>
   obtain⟨t,rfl⟩:=rx;have e':k=(i != 0):=e;subst e';exact PySem.P.truthy_int ⟨H,I,q⟩
 | str y =>
   obtain⟨t,rfl⟩:=rx;obtain⟨z,e'⟩:y.length<=Fz/\k=((y.length:Int) != 0):=e;subst e';exact PySem.P.truthy_str (by lia) ⟨H,I.tok _,q⟩
 | byt y =>
   obtain⟨t,rfl⟩:=rx;obtain⟨z,e'⟩:y.size<=Fz/\k=((y.size:Int) != 0):=e;subst e';exact PySem.W.truthy_bytes (by lia) ⟨H,I.tok _,q⟩
 | ref p =>
   cases rx
   have e':(∃ xs,SqL X.K H p xs/\k = !xs.isEmpty)∨(∃ xs,SqT X.K H p xs/\k = !xs.isEmpty)∨∃ kvs,H p=some (.dK kvs)/\k = !kvs.isEmpty:=e
   rcases e' with⟨xs,hx,e'⟩|⟨xs,hx,e'⟩|⟨kvs,hx,e'⟩
   ·subst e';obtain⟨its,r,pl,j⟩:=I.list hx;have hlen:=r.length;exact wpAny_truthy_list pl.isList (by simp only[FJ];lia) ⟨H,I.tok _,by rw[ib r];exact q⟩
   ·subst e';obtain⟨its,r,pl,j⟩:=I.tuple hx;have hlen:=r.length;exact truthy_tuple pl (by simp only[FJ];lia) ⟨H,I.tok _,by rw[ib r];exact q⟩
   ·subst e';obtain⟨j,F,vs,r,m⟩:kvs.length<=Fz/\(p==Iv)=false /\ ∃ vs,KV kvs vs/\s.heap.DictOf (aV X.prog X.w) p vs:=I.hok p _ hx;have hlen:kvs.length=vs.length:=Ja r;exact wpAny_truthy_dict F m (by lia) ⟨H,I.tok _,by rw[pi r];exact q⟩
 |_=>exact(show False from e).elim
theorem ub (j:PE X a ta)(he:∀ whole,isTrue a X.env whole=(do let v <- whole;Jv a.pos;holding [v] (truthy v))) :
 PT X a (λσ H Q=>ta σ H λx H'=>∃ k,ua X.K x H' k/\Q k H'):=by
 intro pins s σ H Q I h;exact isTrue_plain (thn (j pins s σ H _ I h) λv s1 z=>(by obtain⟨x,H1,F,J,L⟩:=z;exact zo pins s1 σ H1 x v Q F J L)) (he _)
theorem pj:OpR X (GP .Add) (λx y H Q=>∃ i j,x = .str i/\y = .str j/\i.length+j.length<=Fz/\Q (.str (i++j)) H):=by
 intro pins s σ H x y v u Q I rx ry h;obtain⟨i,j,rfl,rfl,z,q⟩:=h;obtain⟨t,rfl⟩:=rx;obtain⟨t',rfl⟩:=ry;exact add_str (λt' tk=>⟨.str (i++j),H,I.tok _,⟨_,rfl⟩,q⟩) z
theorem cU {x:V}(r:Vals [x] us):∃ u,us=[u]/\RelV x u:=by
 cases r with
 |cons j z=>cases z;exact⟨_,rfl,j⟩
theorem pq {x y:V}(r:Vals [x,y] us):∃ u w',us=[u,w']/\RelV x u/\RelV y w':=by
 cases r with
 | cons j z =>
   cases z with
   |cons F J=>cases J;exact⟨_,_,rfl,j,F⟩
theorem uc:CallR X (.builtin "abs") (λxs H Q=>∃ i,xs=[.int i]/\Q (.int (if i<0 then -i else i)) H):=by
 intro pins s σ H xs us Q I r h;obtain⟨i,rfl,q⟩:=h;obtain⟨u,rfl,t,rfl⟩:=cU r;exact call_abs_int λu tk=>⟨.int (if i<0 then -i else i),H,I.tok _,⟨_,rfl⟩,q⟩
theorem rp (F:X.calm=true):CallR X (.builtin "max") (λxs H Q=>∃ i j,xs=[.int i,.int j]/\Q (.int (if j > i then j else i)) H):=by
 intro pins s σ H xs us Q I r h;obtain⟨i,j,rfl,q⟩:=h;obtain⟨u,w',rfl,⟨t,rfl⟩,⟨t',rfl⟩⟩:=pq r;refine max_two_ints (I.ok.hd F) λh' tk k=>⟨_,H,I.kept k,?_,q⟩
 by_cases z:j > i
 ·rw[if_pos z,if_pos z];exact⟨_,rfl⟩
 ·rw[if_neg z,if_neg z];exact⟨_,rfl⟩
theorem rq (F:X.calm=true):CallR X (.builtin "min") (λxs H Q=>∃ i j,xs=[.int i,.int j]/\Q (.int (if j<i then j else i)) H):=by
 intro pins s σ H xs us Q I r h;obtain⟨i,j,rfl,q⟩:=h;obtain⟨u,w',rfl,⟨t,rfl⟩,⟨t',rfl⟩⟩:=pq r;refine min_two_ints (I.ok.hd F) λh' tk k=>⟨_,H,I.kept k,?_,q⟩
 by_cases z:j<i
 ·rw[if_pos z,if_pos z];exact⟨_,rfl⟩
 ·rw[if_neg z,if_neg z];exact⟨_,rfl⟩
theorem rz:CallR X (.type "int") (λxs H Q=>(∃ i,xs=[.int i]/\Q (.int i) H)∨∃ k,xs=[.bl k]/\Q (.int (if k then 1 else 0)) H):=by
 intro pins s σ H xs us Q I r h
 rcases h with⟨i,rfl,q⟩|⟨k,rfl,q⟩
 ·obtain⟨u,rfl,t,rfl⟩:=cU r;exact call_int_int ⟨.int i,H,I,⟨_,rfl⟩,q⟩
 ·obtain⟨u,rfl,j⟩:=cU r
  cases j
  exact call_int_bool ⟨.int (if k then 1 else 0),H,I.tok _,⟨_,rfl⟩,q⟩
theorem kW:CallR X (.type "str") (λxs H Q=>∃ i,xs=[.int i]/\i.natAbs.log2<1920/\Q (.str (Hh i)) H):=by
 intro pins s σ H xs us Q I r h;obtain⟨i,rfl,j,q⟩:=h;obtain⟨u,rfl,t,rfl⟩:=cU r;exact PySem.P.str_of_int j ⟨.str _,H,I.tok _,⟨_,rfl⟩,q⟩
def Cn (K:Frag) (x:V) (H:Hp) (n:Nat):Prop :=
 match x with
 |.str y=>y.length<=Fz/\n=y.length
 |.byt y=>y.size<=Fz/\n=y.size
 |.ref p=>(∃ xs,SqL K H p xs/\n=xs.length)∨∃ xs,SqT K H p xs/\n=xs.length
 |_=>False
theorem kX:CallR X (.builtin "len") (λxs H Q=>∃ x n,xs=[x]/\Cn X.K x H n/\Q (.int n) H):=by
 intro pins s σ H xs us Q I r h;obtain⟨x,n,rfl,e,q⟩:=h;obtain⟨u,rfl,rx⟩:=cU r;have F:=eB;have J:Fz=16777216:=Fy
 cases x with
 | str y =>
   obtain⟨t,rfl⟩:=rx;obtain⟨j,e'⟩:y.length<=Fz/\n=y.length:=e;subst e';exact len_str (by lia) ⟨.int _,H,I.tok _,⟨_,rfl⟩,q⟩
 | byt y =>
   obtain⟨t,rfl⟩:=rx;obtain⟨j,e'⟩:y.size<=Fz/\n=y.size:=e;subst e';exact PySem.W.len_bytes (by lia) ⟨.int _,H,I.tok _,⟨_,rfl⟩,q⟩
 | ref p =>
   cases rx
   have e':(∃ xs,SqL X.K H p xs/\n=xs.length)∨∃ xs,SqT X.K H p xs/\n=xs.length:=e
   rcases e' with⟨xs,hx,e'⟩|⟨xs,hx,e'⟩
   ·subst e';obtain⟨its,r',pl,z⟩:=I.list hx;have hlen:=r'.length;exact Calls.call_len_list pl.isList (by simp only[FJ];lia) ⟨.int xs.length,H,I.tok _,⟨_,by simp only[FJ];rw[hlen]⟩,q⟩
   ·subst e';obtain⟨its,r',pl,z⟩:=I.tuple hx;have hlen:=r'.length;exact len_tuple pl (by simp only[FJ];lia) ⟨.int xs.length,H,I.tok _,⟨_,by simp only[FJ];rw[hlen]⟩,q⟩
 |_=>exact(show False from e).elim
end
end
variable {C:Addr}
section
structure ObjM (h:Heap) (x dx C:Addr) (mA:Str->Option h8):Prop where
 obj:h.get? x=some (Lx C dx)
 ns:h.Ns1 dx mA
 ne:dx≠x
theorem jz {dx:Addr}{mA:Str->Option h8}(n:h.Ns1 dx mA):∃ od,h.get? dx=some od /\ ∀ name,LO name od=some (mA name):=by
 obtain⟨o,es,ep,ho,hd,hk,_,hm⟩:=n;refine⟨o,ho,λname=>?_⟩;have e:=hm name;unfold nsFind findBy at e;rw[<- ML]at e;unfold LO;rw[hd];dsimp only
 split
 ·rename_i y q;rw[q]at e;exact congrArg some e
 ·rename_i q;rw [q] at e;have a:es.toList.any (·.refKey)=false:=by
   rw[List.any_eq_false];intro y F;obtain⟨z,t,j⟩:=hk y (JR.mp F);simp[DictEntry.refKey,j]
  have a' : ¬ es.toList.any (·.refKey)=true:=by rw[a];exact Fu
  rw[if_neg a'];exact congrArg some e
theorem ObjM.look {x dx:Addr}{mA:Str->Option h8}(I:ObjM h x dx C mA):∃ od,HG h x (Lx C dx) C (some od) /\ ∀ name,LO name od=some (mA name) :=
 let ⟨od,ho,j⟩:=jz I.ns
 ⟨od,⟨I.obj,rfl,rfl,ho⟩,j⟩
theorem OT {o:Option h8}(r:RelO (some v) o):∃ u,o=some u/\RelV v u:=by
 cases o with
 |none=>exact(show False from r).elim
 |some u=>exact⟨u,rfl,r⟩
theorem rA (r:RelV v u):PySem.W.handedIn u=true:=by
 cases v with
 |non=>cases (show u=Gv from r);rfl
 |bl b=>cases (show u=MH b from r);rfl
 |int i=>obtain⟨t,e⟩:=(show ∃ t,u=IU i t from r);cases e;rfl
 |str x=>obtain⟨t,e⟩:=(show ∃ t,u=Mf x t from r);cases e;rfl
 |byt b=>obtain⟨t,e⟩:=(show ∃ t,u=Value.bytes b t from r);cases e;rfl
 |flt b=>obtain⟨t,e⟩:=(show ∃ t,u=NY b t from r);cases e;rfl
 |ref a=>cases (show u=G5 a from r);rfl
 |ty n=>cases (show u=Lj n from r);rfl
section
variable {P:FT} {w:G8} {H H':Hp} {h h':Heap} {a C dx:Addr} {fs fs':List (Str×V)}
theorem wX (hok:HOk P w H h)(e:H a=some (.ins C dx fs)):∃ mA,ObjM h a dx C mA/\(∀ f,RelO (fs.lookup f) (mA f))/\PySem.Within mA (fs.map (·.1))/\fs.length<=1000/\H dx=some (.own a):=by
 obtain⟨d,z,ne,ob,mA,n,r,q⟩:=(show ObjOk P w H h a (.ins C dx fs) from hok a _ e);exact⟨mA,⟨ob,n,ne⟩,r,q,z,d⟩
end
structure Cls (K:Frag) (C:Addr):Prop where
 pg:NH K C KY=true
 hd:PySem.W.hasDictIn K C=true
 po:PySem.W.plainOver K C=true
 sa:Gw K (.ref C) "__setattr__" = some (some (.builtin "object.__setattr__"))
theorem Cls.get (c:Cls K C)(f:Str):NH K C f=true:=c.pg
section
variable {X:Cx} {pins:List (Addr×Obj)} {σ:St} {H:Hp} {s:Ft} {a C dx:Addr} {fs:List (Str×V)} {f:Str} {v:V} {A:G3} {E:h8->Ft->Prop}
theorem wY {prog:FT}{env:Env}{f:Str}{Q:h8->Ft->Prop}(j:JI e f env (eval e env)=eval e env)(h:FG (model prog w) A (eval e env) (λo s₁=>FG (model prog w) A (getAttr o f true) Q E s₁) E s):FG (model prog w) A (eval (.Attribute e f pos) env) Q E s :=
 Attribute_any_ h (by rw[arm_eval_Attribute,j])
end
section
variable {X:Cx} {pins:List (Addr×Obj)} {σ:St} {H:Hp} {s:Ft} {A:G3} {E:h8->Ft->Prop} {Q:h8->Ft->Prop} {c:h8} {b:Bool}
inductive cg (K:Frag) (H:Hp):V->h8->Prop where
 |non:cg K H .non (.type "NoneType")
 |bl (x:Bool):cg K H (.bl x) (.type "bool")
 |int (i:Int):cg K H (.int i) (.type "int")
 |str (x:Str):cg K H (.str x) (.type "str")
 |flt (x:UInt64):cg K H (.flt x) (.type "float")
 |lst {a:Addr} {xs:List V} (e:H a=some (.lst xs)):cg K H (.ref a) (.type "list")
 |frz {a:Addr} {o:Obj} {xs:List V} (e:H a=some (.frz o (.lst xs))):cg K H (.ref a) (.type "list")
 |tup {a:Addr} {xs:List V} (e:SqT K H a xs):cg K H (.ref a) (.type "tuple")
 |dK {a:Addr} {kvs:List (Key×V)} (e:H a=some (.dK kvs)):cg K H (.ref a) (.type "dict")
 |dT {a:Addr} {kvs:List (List Key×V)} (e:H a=some (.dT kvs)):cg K H (.ref a) (.type "dict")
 | ins {a C dx:Addr} {fs:List (Str×V)} (e:H a=some (.ins C dx fs)) (cl:Cls K C) (ha:Gw K (.ref C) "__class__" = some (some (.builtin "object.__class__")))
    (hn:Kz K (.builtin "object.__class__") "__get__" = some (some (.builtin "getset_descriptor.__get__"))) (htk:Ob K (.builtin "object.__class__")=some true)
    (hm:JJ K C (.type "object")=some true):cg K H (.ref a) (.ref C)
theorem rB {x:V}{t:h8}(I:Inv X pins σ H s)(rx:RelV x u)(ty:cg X.K H x t)(e:Ki X.K t c=some b)(h:∀ tk,Q (.bool b) { s with toks:=tk }) :
 FG (model X.prog X.w) A (call (.builtin "isinstance") [u,c]) Q E s:=by
 cases ty with
 |non=>cases (show u=Gv from rx);exact Gy PySem.W.kitx_none I.kIn IK e (λz=>nomatch z) h
 |bl y=>cases (show u=MH y from rx);exact Gy PySem.W.kitx_bool I.kIn IK e (λz=>nomatch z) h
 |int i=>obtain⟨t,q⟩:=(show ∃ t,u=IU i t from rx);cases q;exact Gy PySem.W.kitx_int I.kIn IK e (λz=>nomatch z) h
 |str y=>obtain⟨t,q⟩:=(show ∃ t,u=Mf y t from rx);cases q;exact Gy PySem.W.kitx_str I.kIn IK e (λz=>nomatch z) h
 |flt y=>obtain⟨t,q⟩:=(show ∃ t,u=NY y t from rx);cases q;exact Gy PySem.W.kitx_float I.kIn IK e (λz=>nomatch z) h
 |@lst a xs ea =>
  cases (show u=G5 a from rx)
  obtain⟨_,_,n,_,h1⟩:=(show ObjOk X.prog X.w H s.heap a (.lst xs) from I.hok a _ ea);exact Gy Nc I.kIn ⟨_,h1,rfl⟩ e (λz=>nomatch z) h
 |@frz a ob xs ea =>
  cases (show u=G5 a from rx)
  obtain⟨_,_,_,n,_,h1⟩:=(show ObjOk X.prog X.w H s.heap a (.frz ob (.lst xs)) from I.hok a _ ea);exact Gy Nc I.kIn ⟨_,h1,rfl⟩ e (λz=>nomatch z) h
 |@tup a xs ea =>
  cases (show u=G5 a from rx)
  obtain⟨_,_,p,_⟩:=I.tuple ea;obtain⟨o,h1,h2,_⟩:=p;exact Gy PySem.W.kitx_tuple I.kIn ⟨o,h1,h2⟩ e (λz=>nomatch z) h
 |@dK a kvs ea =>
  cases (show u=G5 a from rx)
  obtain⟨_,_,vs,_,p⟩:=(show ObjOk X.prog X.w H s.heap a (.dK kvs) from I.hok a _ ea);obtain⟨o,es,ep,h1,h2,_⟩:=p;exact Gy Nf I.kIn ⟨o,h1,h2.1⟩ e (λz=>nomatch z) h
 |@dT a kvs ea =>
  cases (show u=G5 a from rx)
  obtain⟨_,_,xs,_,o,es,ep,h1,h2,_⟩:=(show ObjOk X.prog X.w H s.heap a (.dT kvs) from I.hok a _ ea);exact Gy Nf I.kIn ⟨o,h1,h2.1⟩ e (λz=>nomatch z) h
 |@ins a C dx fs ea cl ha hn htk hm =>
  cases (show u=G5 a from rx)
  obtain⟨mA,O,_⟩:=wX I.hok ea;obtain⟨od,J,_⟩:=O.look;exact Gy (PySem.W.kitx_own (cl.get _) cl.hd ha hn htk hm) I.kIn J e (λz=>nomatch z) h
end
end
variable {mg:Str->Option h8}{base:Heap}{ps:List Str}
section
structure Room (k:Nat) (A:G3):Prop where
 hd:A.handled=none
 dp:A.depth+3*k+5<recursionLimit
 un:A.units+16*k+200<LP
theorem Room.mono {k:Nat}(r:Room k A)(h:j<=k):Room j A:=⟨r.hd,by have:=r.dp;lia,by have:=r.un;lia⟩
theorem Room.deeper {k:Nat}(r:Room (k+1) A)(env:Env):Room k (A.deeper env) :=
 ⟨r.hd,by have:=r.dp;show A.depth+1+3*k+5<_;lia,by have:=r.un;show A.units+3+16*k+200<_;lia⟩
theorem pv {kw:List (Str×h8)}:(A.under (.builtin "type.__call__" ⟨.ref C::us,kw⟩)).depth=A.depth+1:=by
 first|rfl|simp[Ng,Code.weight,Code.isCreation,Code.isGuard,Code.isCaller,Code.frames,Nh,guardIds]
theorem pw {kw:List (Str×h8)}:(A.under (.builtin "type.__call__" ⟨.ref C::us,kw⟩)).units=A.units+1:=by
 first|rfl|simp[Ng,Code.cUnits,Code.frames,Nh]
theorem Room.make {k:Nat}(r:Room (k+1) A)(C:Addr)(us:List h8)(kw:List (Str×h8)):Room k (A.under (.builtin "type.__call__" ⟨.ref C::us,kw⟩)) :=
 ⟨r.hd,by have:=r.dp;rw[pv];lia,by have:=r.un;rw[pw];lia⟩
theorem Room.depth {k:Nat}(r:Room k A):A.depth<recursionLimit:=by have:=r.dp;lia
theorem Room.units {k:Nat}(r:Room k A):A.units+64<LP:=by have:=r.un;lia
noncomputable def zp:TA:=λ_ H Q=>Q [] H
noncomputable def w6 (ta:TE) (tr:TA):TA:=λσ H Q=>ta σ H λx H1=>tr σ H1 λxs H2=>Q (x::xs) H2
section
variable {X:Cx} {e:Expr} {es:List Expr} {te:TE} {t:TA} {pos:Pos}
theorem fu:PA X [] zp:=λ_ _ _ _ H Q I h=>Calls.spliced_nil ⟨[],H,I,.nil,h⟩
theorem ce (z:PE X e te)(hr:PA X es t)(F:FN (e::es) X.env=(false,eval e X.env)::FN es X.env:=by rfl):PA X (e::es) (w6 te t):=by
 intro pos pins s σ H Q I h;rw[F];show FG _ _ (spliced ((false,eval e X.env)::GY pos (FN es X.env))) _ _ s;refine Calls.spliced_cons (thn (z pins s σ H _ I h) λu s1 j=>?_);obtain⟨x,H1,J,L,O⟩:=j;exact thn (hr pos pins s1 σ H1 _ J O) λus s2 j=>(by obtain⟨xs,H2,U,Y,Z⟩:=j;exact⟨x::xs,H2,U,.cons L Y,Z⟩)
noncomputable def Co (t:TA):TE:=λσ H Q=>t σ H λxs H1=>xs.length<=Fz /\ ∀ p,H1 p=none->Q (.ref p) (upd H1 p (.tup xs))
noncomputable def Cp (t:TA):TE:=λσ H Q=>t σ H λxs H1=>xs.length<=Fz /\ ∀ p,H1 p=none->Q (.ref p) (upd H1 p (.lst xs))
theorem zq {F}(h:PA X es t):PE X (.Tuple es F pos) (Co t):=by
 intro pins s σ H Q I hq;refine wpAny_Tuple_spliced (thn (h pos pins s σ H _ I hq) λus s1 ⟨xs,H1,j,r,z,q⟩=>⟨by rw[<- r.length];exact z,?_⟩)
 have hf:H1 s1.heap.objs.size=none:=j.hok.fresh (FE _);refine⟨.ref s1.heap.objs.size,upd H1 s1.heap.objs.size (.tup xs),j.laid (t':=s1.toks) (λb u e=>td _ e) (FE _) ?_,rfl,q _ hf⟩;exact⟨z,us,r,⟨_,FK _ rfl,rfl,_,rfl⟩⟩
theorem zr (h:PA X es t):PE X (.List es pos) (Cp t):=by
 intro pins s σ H Q I hq;refine wpAny_List_spliced (thn (h pos pins s σ H _ I hq) λus s1 ⟨xs,H1,j,r,z,q⟩=>⟨by rw[<- r.length];exact z,?_⟩)
 have hf:H1 s1.heap.objs.size=none:=j.hok.fresh (FE _);refine⟨.ref s1.heap.objs.size,upd H1 s1.heap.objs.size (.lst xs),j.laid (t':=s1.toks) (λb u e=>td _ e) (FE _) ?_,rfl,q _ hf⟩;exact⟨z,us,0,r,FK _ rfl⟩
end
noncomputable abbrev Sp:=List V->Hp->VK->XK->Prop
noncomputable abbrev CXT:=List Env->Hp->Ft->XK->h8->Ft->Prop
structure Env0 (P:FT) (w:G8) (K:Frag) (mg:Str->Option h8) (base:Heap) (A:G3) (outer:List Env) (s:Ft) (H:Hp):Prop where
 frames:A.frames=some outer
 mod:Mod K mg base
 bs:∀ b o,base.get? b=some o->s.heap.get? b=some o/\H b=none
 bsz:base.objs.size<=s.heap.objs.size
 funs:s.heap.FunFrames base outer
 frf:∀ b∈frs outer,H b=none
 hok:HOk P w H s.heap
 bare:K7 s.gens
def CE (outer:List Env) (P:FT) (w:G8) (H:Hp) (s:Ft) (Q:VK) (u:h8) (s':Ft):Prop :=
 ∃ v H',s'.os=s.os/\K7 s'.gens/\Un (frs outer) [] H H' s.heap s'.heap/\HOk P w H' s'.heap/\RelV v u/\Q v H'
def CR (CX:CXT) (outer:List Env) (P:FT) (w:G8) (H:Hp) (s:Ft) (Q:VK) (E:XK) (r:Result) (s':Ft):Prop :=
 match r with
 |.ok (.ret u)=>CE outer P w H s Q u s'
 |.ok _=>False
 |.error e=>CX outer H s E e s'
structure bf (P:FT) (w:G8) (K:Frag) (mg:Str->Option h8) (base:Heap) (CX:CXT) (k:Nat) (f:Addr) (fd:Hi) (ps:List Str) (sp:Sp):Prop where
 len:∀ vs H Q E,sp vs H Q E->vs.length=ps.length
 run:∀ (A:G3) (outer:List Env) (s:Ft) (H:Hp) (args:Args) (us:List h8) (vs:List V) (Q:VK) (E:XK),Room k A->Env0 P w K mg base A outer s H->Mj s fd args (ps.zip us)->Vals vs us->sp vs H Q E ->
  JK (model P w) A (.call (.ref f) args) (CR CX outer P w H s Q E) s
theorem Env0.make {outer:List Env}(e:Env0 P w K mg base A outer s H)(C:Addr)(us:List h8)(kw:List (Str×h8)) :
 Env0 P w K mg base (A.under (.builtin "type.__call__" ⟨.ref C::us,kw⟩)) outer s H:=⟨by first|exact e.frames|(simpa[Ng,Code.envs,Nh,pushEnvs]using e.frames),e.mod,e.bs,e.bsz,e.funs,e.frf,e.hok,e.bare⟩
section
variable {X:Cx} {pins:List (Addr×Obj)} {σ:St} {H:Hp} {s s':Ft}
theorem Inv.env0 (I:Inv X pins σ H s):Env0 X.prog X.w X.K X.mg X.base X.A X.stack s H :=
 ⟨I.ok.frames,I.ok.mod,I.bs,Gn I.ok.bsz I.sz,I.stack,I.stkFree,I.hok,I.bare⟩
theorem Inv.after (I:Inv X pins σ H s)(h:CE X.stack X.prog X.w H s Q u s'):EP X pins σ Q u s':=by
 obtain⟨v,H',os,bare,un,hok,r,q⟩:=h;obtain⟨j,g,d,t,os'⟩:=s';obtain rfl:os'=s.os:=os;exact⟨v,H',I.call (h':=j) (g':=g) (d':=d) (t':=t) (ch:=[]) un hok bare (λb z=>absurd z (by simp)),r,q⟩
end
noncomputable def w8 (sp:Sp) (dvs:List V) (E:XK) (t:TA):TE:=λσ H Q=>t σ H λvs H1=>sp (vs++dvs) H1 Q E
def Binds (K:Frag) (fd:Hi) (ps:List Str) (ds:List h8):Prop :=
 ∀ (s:Ft) (us:List h8),K.In s.heap->(us++ds).length=ps.length->Mj s fd ⟨us,[]⟩ (ps.zip (us++ds))
theorem Binds.all {fd:Hi}(h:∀ us:List h8,us.length=ps.length->bindArgs fd ⟨us,[]⟩=pure (ps.zip us)):Binds K fd ps []:=λs us _ j=>by
 rw[Hz]at j ⊢;exact .of_eq (h us j)
def ic (CX:CXT) (X:Cx) (E:XK):Prop:=∀ (pins:List (Addr×Obj)) (σ:St) (H:Hp) (s:Ft) (e:h8) (s':Ft),Inv X pins σ H s->CX X.stack H s E e s'->X.xe e s'
section
variable {X:Cx} {CX:CXT} {k:Nat} {f C:Addr} {fd:Hi} {ps:List Str} {sp:Sp} {dvs:List V} {ds:List h8} {E:XK} {x m:Str} {p pos apos:Pos} {e o:Expr} {es:List Expr} {ta:TE} {t:TA}
theorem rC {vs:List V}(F:bf X.prog X.w X.K X.mg X.base CX k f fd ps sp)(hr:Room k X.A)(J:Binds X.K fd ps ds)(hd:Vals dvs ds)(hx:ic CX X E)(I:Inv X pins σ H s)(r:Vals vs us)(h:sp (vs++dvs) H Q E):FG (model X.prog X.w) X.A (call (.ref f) us) (EP X pins σ Q) X.xe s:=by
 have z:Vals (vs++dvs) (us++ds):=r.append hd;have L:(us++ds).length=ps.length:=by rw[<- z.length];exact F.len _ _ _ _ h
 refine JD (I0 (F.run X.A X.stack s H ⟨us,[]⟩ (us++ds) (vs++dvs) Q E hr I.env0 (J s us I.kIn L) z h) λr s' j=>?_)
 cases r with
 |error e=>exact hx pins σ H s e s' I j
 | ok fl =>
   cases fl with
   |ret u=>exact I.after j
   |next=>exact False.elim j
   |brk=>exact False.elim j
   |cont=>exact False.elim j
theorem wZ (F:bf X.prog X.w X.K X.mg X.base CX k f fd ps sp)(hr:Room k X.A)(L:Gl X x)(hm:X.mg x=some (.ref f))(hk:Ha X.K (.ref f)=true)(O:Binds X.K fd ps ds)(hd:Vals dvs ds)(hx:ic CX X E)(U:PA X (e::es) t)(j:(x==("__debug__":Str))=false:=by decide)(he:FN (e::es) X.env=(false,eval e X.env)::FN es X.env:=by rfl)(z:(GY pos (FN es X.env)).any (·.1)=false:=by rfl) :
 PE X (.Call (.Name x p) (e::es) [] pos) (w8 sp dvs E t):=by
 intro pins s σ H Q I h;refine HH (cc I L hm ?_ j);refine MM (h₀:=X.base) I.ok.mod.kin hk (thn (U pos pins s σ H _ I h) λus s1 ⟨vs,H1,J,r,q⟩=>⟨J.kIn,?_⟩) he z;exact rC F hr O hd hx J r q
theorem ud (F:bf X.prog X.w X.K X.mg X.base CX k f fd ps sp)(hr:Room k X.A)(z:Gl X x)(hm:X.mg x=some (.ref f))(hk:Ha X.K (.ref f)=true)(J:Binds X.K fd ps ds)(hd:Vals dvs ds)(hx:ic CX X E)(j:(x==("__debug__":Str))=false:=by decide):PE X (.Call (.Name x p) [] [] pos) (w8 sp dvs E zp):=by
 intro pins s σ H Q I h;refine HH (cc I z hm ?_ j);exact PySem.W.callWith_K0 I.kIn hk (rC (us:=[]) F hr J hd hx I .nil h)
end
structure cw (N P:List Str) (sc:Scope):Prop where
 kind:sc.kind = .function
 co:sc.isCoroutine=false
 gen:sc.isGenerator=false
 nd:N.Nodup
 pre:N.take P.length=P
 par:∀ x∈P,sc.names.lookup x=some .local∨sc.names.lookup x=some .cell
 nofree:∀ y∈sc.names,y.2 ≠ .free
theorem jA {JE:Str->Option Iq}{x:Str}:∀ {binds:List (Str×h8)} {m:Str->Option h8},(∀ v,(x,v)∉binds)->Ol JE binds m x=m x
 |[],_,_=>rfl
 |(n,v)::r,m,h=>by
  unfold Ol;rw[jA λw hw=>h w (FL _ hw)]
  split
  ·have:x≠n:=by rintro rfl;exact h v GH
   simp[this]
  ·rfl
theorem jB {JE:Str->Option Iq}{x:Str}:∀ {binds:List (Str×h8)} {m:Str->Option h8},(∀ v,(x,v)∉binds)->Om JE binds m x=m x
 |[],_,_=>rfl
 |(n,v)::r,m,h=>by
  unfold Om;rw[jB λw hw=>h w (FL _ hw)]
  split
  ·rfl
  ·have:x≠n:=by rintro rfl;exact h v GH
   simp[this]
theorem jC {JE:Str->Option Iq}{x:Str}{v:h8}:∀ {P:List Str} {vs:List h8} {i:Nat} {m:Str->Option h8},P.Nodup->P[i]? = some x->vs[i]? = some v->JE x=some .local ->
 Ol JE (P.zip vs) m x=some v
 |[],_,_,_,_,h,_,_=>by simp at h
 |_::_,[],_,_,_,_,h,_=>by simp at h
 | p::P,w::vs,0,m,nd,h1,h2,hk=>by
   simp at h1 h2;subst h1;subst h2;show Ol JE ((p,w)::P.zip vs) m p=_;unfold Ol;rw[jA λv j=>(Jh.mp nd).1 (Lz j).1,if_pos hk];simp
 | p::P,w::vs,i+1,m,nd,h1,h2,hk=>by
   show Ol JE ((p,w)::P.zip vs) m x=_;unfold Ol;exact jC (i:=i) (Jh.mp nd).2 (by simpa using h1) (by simpa using h2) hk
theorem jD {JE:Str->Option Iq}{x:Str}{v:h8}:∀ {P:List Str} {vs:List h8} {i:Nat} {m:Str->Option h8},P.Nodup->P[i]? = some x->vs[i]? = some v->JE x≠some .local ->
 Om JE (P.zip vs) m x=some v
 |[],_,_,_,_,h,_,_=>by simp at h
 |_::_,[],_,_,_,_,h,_=>by simp at h
 | p::P,w::vs,0,m,nd,h1,h2,hk=>by
   simp at h1 h2;subst h1;subst h2;show Om JE ((p,w)::P.zip vs) m p=_;unfold Om;rw[jB λv j=>(Jh.mp nd).1 (Lz j).1,if_neg hk];simp
 | p::P,w::vs,i+1,m,nd,h1,h2,hk=>by
   show Om JE ((p,w)::P.zip vs) m x=_;unfold Om;exact jD (i:=i) (Jh.mp nd).2 (by simpa using h1) (by simpa using h2) hk
noncomputable def start (N:List Str) (vs:List V):St:=vs.map some++Fw (N.length - vs.length) none
noncomputable def bU (CX:CXT) (P:FT) (w:G8) (K:Frag) (mg:Str->Option h8) (base:Heap) (N:List Str) (qual:Str) (scope:Scope) (f:Addr) (cd:h8) (A:G3) (outer:List Env) (s:Ft) (H:Hp) (E:XK):Cx where
 prog:=P
 w:=w
 K:=K
 mg:=mg
 base:=base
 A:=A.deeper (Jm qual scope s.heap.objs.size f cd)
 N:=N
 s₀:=s
 H₀:=H
 env:=Jm qual scope s.heap.objs.size f cd
 outer:=outer
 stack:=Jm qual scope s.heap.objs.size f cd::outer
 ex:=[]
 calm:=true
 fn:=λ_=>true
 pn:=[]
 xe:=λe s'=>FG (model P w) (A.deeper (Jm qual scope s.heap.objs.size f cd)) (leaving (Jm qual scope s.heap.objs.size f cd) e) (λ_ s''=>CX outer H s E e s'') (λe' s''=>CX outer H s E e' s'') s'
theorem kY {sc:Scope}{n:Nat}(h:sc.names.lookup x=some .cell):∃ c,(Hu n sc.names []).lookup x=some c:=by
 have q:=Jw sc.names n [] (.inl h);exact Hr.mp q
theorem rD {CX:CXT}{qual:Str}{scope:Scope}{f:Addr}{cd:h8}{outer:List Env}{s1:Ft}{E:XK}{vs:List V}(S:cw N ps scope)(hd:A.handled=none)(j:Env0 P w K mg base A outer s H)(Y:vs.length=ps.length)(r:Vals vs us)(x:InCallC s s.heap.objs.size (Ol (Jm qual scope s.heap.objs.size f cd).kindOf (ps.zip us) λ_=>none) (Hu (s.heap.objs.size+1) scope.names []) (Om (Jm qual scope s.heap.objs.size f cd).kindOf (ps.zip us) λ_=>none) s1) :
 Inv (bU CX P w K mg base N qual scope f cd A outer s H E) [] (start N vs) H s1:=by
 have O:ps.length<=N.length:=by have:=congrArg List.length S.pre;rw[GU]at this;lia
 obtain⟨h1,tk,rfl,hk⟩:=x.done;have noA:∀ b:Addr,b∉(bU CX P w K mg base N qual scope f cd A outer s H E).ex:=λb z=>absurd (show b∈([]:List Addr) from z) (by simp)
 refine⟨⟨j.mod,S.kind,rfl,rfl,FE _,λy z c h1 h2=>?_,λy F=>?_,λy c _ h=>?_,λ_=>hd,Around.frames_deeper j.frames,.inr ⟨rfl,rfl⟩,λb z=>absurd z (noA b),j.bs,j.bsz,λb _ _=>noA b,λb z=>absurd z (noA b),j.funs,j.frf⟩,
  rfl,j.bare,Un.kept hk,⟨_,x.toInCall.ns,λi y v h1 h2 Z=>?_⟩,λy c h=>⟨_,x.cell y c h⟩,j.hok.fresh (FE _),λy c h=>?_,λp J=>absurd (show p∈([]:List (Addr×Obj)) from J) (by simp),j.hok.kept hk,?_⟩
 ·exact name_of_addr x.apart (GL h1) (GL h2)
 ·have F:scope.names.lookup y=some .cell∨scope.names.lookup y=some .free:=F
  rcases F with F|F
  ·exact kY F
  ·exact absurd rfl (S.nofree _ (GL F))
 ·exact IV (x.above y c (GL h))
 ·have hi:i < vs.length:=by
   unfold start at h2
   by_cases hi:i<vs.length
   ·exact hi
   ·rw[HI (by simpa using hi)]at h2
    rw[KZ]at h2
    split at h2 <;> cases h2
  have U:vs[i]? = some v:=by
   unfold start at h2;rw[HS (by simpa using hi),Gj]at h2
   cases e:vs[i]? with
   |none=>rw[e]at h2;cases h2
   |some a=>rw[e]at h2;cases h2;rfl
  obtain⟨u,L,rv⟩:=r.get U;have J:ps[i]? = some y:=by
   rw[<- S.pre,List.getElem?_take_of_lt (by lia)];exact h1
  have ndP:ps.Nodup:=by rw[<- S.pre];exact S.nd.sublist (List.take_sublist _ _)
  refine⟨u,rv,?_⟩
  rcases S.par y (I8 J) with k|k
  ·exact .inl ⟨k,jC ndP J L k⟩
  ·obtain⟨c,e⟩:=kY (n:=s.heap.objs.size+1) k;refine .inr ⟨.inl k,c,e,?_⟩;have q:=x.cell y c e;rw[jD ndP J L (by show scope.names.lookup y≠_;rw[k];decide)]at q
   exact q
 ·exact j.hok.fresh (IV (x.above y c (GL h)))
 ·unfold start;show _=N.length;rw[FW,FO,GB];lia
theorem w9 {CX:CXT}{k:Nat}{f:Addr}{name qual:Str}{params:Arguments}{scope:Scope}{dV kV doc pm cdv ct oc:h8}{an od:Option Addr}{osl:Array (Option h8)}{sp:Sp}(lk:K.lookup f=some ⟨oc,od,.func (I9 name qual params body scope dV kV doc pm an cdv ct),osl⟩)(U:Kj K cdv qual=true)(S:cw N ps scope)(len:∀ vs H Q E,sp vs H Q E->vs.length=ps.length)(j:∀ (A:G3) (outer:List Env) (s:Ft) (H:Hp) (vs:List V) (Q:VK) (E:XK),Room k (A.deeper (Jm qual scope s.heap.objs.size f cdv))->sp vs H Q E ->
   ∃ t,PSs (bU CX P w K mg base N qual scope f cdv A outer s H E) body t/\t { nx:=λ_ H'=>Q .non H',rt:=Q } (start N vs) H) :
 bf P w K mg base CX (k+1) f (I9 name qual params body scope dV kV doc pm an cdv ct) ps sp:=by
 refine⟨len,λA outer s H args us vs Q E hr L Y r O=>?_⟩;have Z:=len _ _ _ _ O;have KX:K.In s.heap:=L.mod.kin.keeps λb o e=>(L.bs b o e).1;have lim:s.heap.NoLimit:=L.mod.nolimit.keeps λb o e=>(L.bs b o e).1;have z:∀ y∈ps.zip us,scope.names.lookup y.1=some .local∨(scope.names.lookup y.1=some .cell/\((Hu (s.heap.objs.size+1) scope.names []).lookup y.1).isSome=true):=λ⟨n,v⟩ hy=>by
  rcases S.par n (Lz hy).1 with q|q
  ·exact .inl q
  ·exact .inr ⟨q,Jw _ _ _ (.inl q)⟩
 refine codeAny_call_function hr.depth (KX _ _ lk) rfl S.co S.gen rfl (PySem.W.codeRec_of KX U) (Y _ _ _ _ ?_);refine wpAny_newFunctionEnv_cells S.kind z λenv he s1 x=>?_;subst he;refine⟨lim.keeps x.toInCall.keep,codeAny_func ?_⟩;obtain⟨t,ht,hq⟩:=j A outer s H vs Q E (hr.deeper _) O;have I:Inv (bU CX P w K mg base N qual scope f cdv A outer s H E) [] (start N vs) H s1:=rD S hr.hd L Z r x;refine Ga (ht [] s1 (start N vs) H _ I hq) (λfl s' F=>?_) λe s' F=>F;have fin:∀ {σ':St} {H':Hp} {v:V} {u:h8},Inv (bU CX P w K mg base N qual scope f cdv A outer s H E) [] σ' H' s'->RelV v u->Q v H'->CE outer P w H s Q u s' :=
  λ{σ' H' v u} J rv q=>⟨v,H',J.os,J.bare,J.base,J.hok,rv,q⟩
 cases fl with
 | ret u =>
   obtain⟨v,σ',H',J,rv,q⟩:=F;exact fin J rv q
 | next =>
   obtain⟨σ',H',J,q⟩:=F;exact fin (v:=V.non) (u:=Gv) J rfl q
 | brk =>
   obtain⟨_,_,_,q⟩:=F;exact False.elim q
 | cont =>
   obtain⟨_,_,_,q⟩:=F;exact False.elim q
end
section
section
variable {X:Cx} {x:Str} {p pos:Pos} {e:Expr} {es:List Expr} {t:TA} {id T:String} {r:List V->Hp->VK->Prop}
noncomputable def tCB (r:List V->Hp->VK->Prop) (t:TA):TE:=λσ H Q=>t σ H λvs H1=>r vs H1 Q
theorem bw (F:CallR X (.builtin id) r)(J:Gl X x)(hm:X.mg x=none)(L:Iw x=some (.builtin id))(O:PA X (e::es) t)(U:x ≠ "__name__":=by decide)(j:(x==("__debug__":Str))=false:=by decide)(he:FN (e::es) X.env=(false,eval e X.env)::FN es X.env:=by rfl)(z:(GY pos (FN es X.env)).any (·.1)=false:=by rfl):PE X (.Call (.Name x p) (e::es) [] pos) (tCB r t):=by
 intro pins s σ H Q I h;refine HH (dA I J hm L ?_ U j);exact JF (thn (O pos pins s σ H _ I h) λus s1 Y=>(by obtain⟨vs,H1,Z,r1,q1⟩:=Y;exact F pins s1 σ H1 vs us Q Z r1 q1)) he z
theorem dY (F:CallR X (.type T) r)(J:Gl X x)(hm:X.mg x=none)(L:Iw x=some (.type T))(O:PA X (e::es) t)(U:x ≠ "__name__":=by decide)(j:(x==("__debug__":Str))=false:=by decide)(he:FN (e::es) X.env=(false,eval e X.env)::FN es X.env:=by rfl)(z:(GY pos (FN es X.env)).any (·.1)=false:=by rfl):PE X (.Call (.Name x p) (e::es) [] pos) (tCB r t):=by
 intro pins s σ H Q I h;refine HH (dA I J hm L ?_ U j);exact HB (thn (O pos pins s σ H _ I h) λus s1 Y=>(by obtain⟨vs,H1,Z,r1,q1⟩:=Y;exact F pins s1 σ H1 vs us Q Z r1 q1)) he z
end
end
end L2
namespace HT
open PySem PyProof.Rows
section
variable {prog:FT} {w:G8} {A:G3} {E:h8->Ft->Prop} {s:Ft}
theorem cat_tup {t b:Addr}{vs ws:List h8}{Q:h8->Ft->Prop}(ht:IsTup s.heap t vs.toArray)(hb:IsTup s.heap b ws.toArray)(O:vs≠[])(h1:ws=[]->Q (.ref t) s)(h2:ws≠[]->Q (.ref s.heap.objs.size) { s with heap:=s.heap.push { cls:=.type "tuple",data:=.seq (vs++ws).toArray } })(hsz:vs.length+ws.length<=Fz):FG (model prog w) A (GP .Add (.ref t) (.ref b)) Q E s:=by
 obtain⟨⟨cls,dd,data,sl⟩,ho,U,n,hd⟩:=id ht;obtain⟨⟨Y,z,data2,J⟩,j,L,Z,hd2⟩:=id hb;simp only at U hd L hd2;subst U hd L hd2;have e:vs.toArray++ws.toArray=(vs++ws).toArray:=by simp
 by_cases hw:ws=[]
 ·exact Ni ⟨_,ho,rfl⟩ ⟨_,j,rfl⟩ L3 Mx Jx Jr (Jc _ _)
   (tuple_addW1 t b vs.toArray ws.toArray n Z dd z sl J (by simpa using O) (by simp[hw])) ⟨ho,j,h1 hw⟩
 ·refine Ni ⟨_,ho,rfl⟩ ⟨_,j,rfl⟩ L3 Mx Jx Jr (Jc _ _)
   (tuple_addW2 t b vs.toArray ws.toArray n Z dd z sl J (by simpa using O) (by simpa using hw) (by rw[FJ,FJ];exact hsz)) ⟨ho,j,?_⟩
  rw[e];exact h2 hw
noncomputable def sIx (n d:Nat):Option Int->Nat
 |none=>d
 |some v=>if v<0 then (v+(n:Int)).toNat else min v.toNat n
theorem sIx_none (n d:Nat):sIx n d none=d:=rfl
theorem sIx_nat (n d k:Nat):sIx n d (some (k:Int))=min k n:=by
 show (if (k:Int)<0 then ((k:Int)+(n:Int)).toNat else min (k:Int).toNat n)=min k n
 rw[if_neg (by lia),GN]
theorem zt (n d:Nat)(hd:d<=n)(o:Option Int):sIx n d o<=n:=by
 cases o with
 |none=>exact hd
 | some v =>
   show (if v<0 then (v+(n:Int)).toNat else min v.toNat n)<=n
   by_cases hv:v<0
   ·rw[if_pos hv];lia
   ·rw[if_neg hv];exact NI _ _
theorem nU (v:Int)(n d:Nat):(if v<0 then max (v+(n:Int)) 0 else min v (n:Int))=((sIx n d (some v):Nat):Int):=by
 show (if v<0 then max (v+(n:Int)) 0 else min v (n:Int))=(((if v<0 then (v+(n:Int)).toNat else min v.toNat n):Nat):Int)
 by_cases hv:v<0
 ·simp only[if_pos hv];lia
 ·simp only[if_neg hv];lia
theorem pz (lo hi:Option Int)(n:Nat):J2 lo hi 1 (n:Int)=(((sIx n 0 lo:Nat):Int),((sIx n n hi:Nat):Int)):=by
 have h1 : ¬ ((1:Int)<0):=by lia
 unfold J2;simp only[h1,if_false];refine Prod.ext ?_ ?_
 ·cases lo with
  |none=>rfl
  |some v=>exact nU v n 0
 ·cases hi with
  |none=>rfl
  |some v=>exact nU v n n
theorem pA (i j:Nat):HU (i:Int) (j:Int) 1=j - i:=by
 unfold HU;have h1:(1:Int) > 0:=by lia
 simp only[h1,if_true,Int.ediv_one]
 split <;> lia
theorem ig {v:h8}{o:Option Int}{Q:Option Int->Ft->Prop}(p:Ll v o)(h:Q o s):FG (model prog w) A (Builtin.Slice.slicePartIndex v) Q E s:=by
 cases p with
 |none=>exact slicePart_none h
 |int i t=>exact slicePart_int h
theorem dB {sl:Addr}{vl vu:h8}{lo hi:Option Int}{n:Nat}{Q:Int×Int×Nat->Ft->Prop}(F:s.heap.IsSliceOf sl vl vu .none)(pl:Ll vl lo)(pu:Ll vu hi)(h:Q (((sIx n 0 lo:Nat):Int),1,sIx n n hi - sIx n 0 lo) s):FG (model prog w) A (Kk (.ref sl) (pure (n:Int))) Q E s:=by
 obtain⟨os,j,J,z⟩:=id F;unfold Kk Builtin.Slice.sliceFields;refine gV (gV (G9 j z (x:=vl) rfl (gV (G9 j z (x:=vu) rfl (gV (G9 j z (x:=.none) rfl (Fv ?_)))))));refine gV (slicePart_none ?_);show FG _ _ (if ((1:Int)==0)=true then _ else _) _ _ s
 rw[if_neg (by decide)]
 refine gV (ig pl (gV (ig pu (gV (Fv ?_)))));show FG _ _ (match J2 lo hi 1 (n:Int) with|(lo,hi)=>pure (lo,(1:Int),HU lo hi 1)) _ _ s
 rw[pz lo hi n];show FG _ _ (pure (((sIx n 0 lo:Nat):Int),(1:Int),HU ((sIx n 0 lo:Nat):Int) ((sIx n n hi:Nat):Int) 1)) _ _ s;rw[pA];exact Fv h
theorem ue (xs:Array h8)(i k:Nat):((Hx k).filterMap λ(m:Nat)=>xs[((i:Int)+(m:Int)*1).toNat]?).toArray=((xs.toList.drop i).take k).toArray:=by
 have e:(λ(m:Nat)=>xs[((i:Int)+(m:Int)*1).toNat]?)=λm=>xs[i+m]?:=by
  funext m
  have:((i:Int)+(m:Int)*1).toNat=i+m:=by lia
  rw[this]
 rw[e];have:=pick_run xs i k;rw[List.filterMap_map]at this;have j:((λx=>xs[x]?) ∘ λx=>i+x)=λm=>xs[i+m]?:=rfl;rw[j]at this;rw[this]
theorem getItem_tuple_cut {t sl:Addr}{items:Array h8}{vl vu:h8}{lo hi:Option Int}{Q:h8->Ft->Prop}(z:IsTup s.heap t items)(U:s.heap.IsSliceOf sl vl vu .none)(pl:Ll vl lo)(pu:Ll vu hi)(hw : ¬ (sIx items.size 0 lo=0/\sIx items.size items.size hi=items.size))(h:Q (.ref s.heap.objs.size) { s with heap:=s.heap.push { cls:=.type "tuple",data:=.seq ((items.toList.drop (sIx items.size 0 lo)).take (sIx items.size items.size hi - sIx items.size 0 lo)).toArray } })(hsz:items.size<=Fz):FG (model prog w) A (Lm (.ref t) (.ref sl)) Q E s:=by
 have j:sizeOk (.seq ((items.toList.drop (sIx items.size 0 lo)).take (sIx items.size items.size hi - sIx items.size 0 lo)).toArray):=by
  show ((items.toList.drop (sIx items.size 0 lo)).take (sIx items.size items.size hi - sIx items.size 0 lo)).toArray.size<=Fz;rw[FJ,GU,IW,K5];lia
 have Z:sIx items.size items.size hi<=items.size:=zt _ _ (FE _) hi;obtain⟨os,F,J,Y⟩:=id U;have L:s.TypeIs (.ref sl) "slice":=⟨os,F,J⟩;unfold Lm
 try with_reducible refine Gp ?_
 first|refine gV (Fv ?_)|skip
 refine gV (Nj z.typeIs (by decide) ?_)
 refine gV (Gs (name:=g8 "__getitem__") z.typeIs Hg
  (Hn Hg z.typeIs Mo ?_ (MN _ _)))
 show FG _ _ (Kl (.ref t) >>= _) _ _ s;refine gV (tupleItemsOf_ z ?_);refine gV (Ln L ?_);rw[if_pos (by decide)]
 refine gV (dB U pl pu ?_);have O : ¬ ((((sIx items.size 0 lo:Nat):Int)==0&&(1:Int)==1&&(sIx items.size items.size hi - sIx items.size 0 lo)==items.size)=true):=by
  intro q;rw[hX,hX]at q;have q1:((sIx items.size 0 lo:Nat):Int)=0:=L4 q.1.1;have q2:sIx items.size items.size hi - sIx items.size 0 lo=items.size:=L4 q.2;exact hw ⟨by lia,by lia⟩
 show FG _ _ (if (((sIx items.size 0 lo:Nat):Int)==0&&(1:Int)==1&&(sIx items.size items.size hi - sIx items.size 0 lo)==items.size)=true then _ else _) _ _ s
 rw[if_neg O,ue]
 first
  |exact gV (m:=Ih _) (H8 (Fv ⟨_,rfl,Fv h⟩) j)
  |exact gV (m:=Ih _) (H8 (gV (Fv (Fv ⟨_,rfl,Fv h⟩))) j)
  |exact gV (gV (m:=Ih _) (H8 (Fv (Fv ⟨_,rfl,Fv h⟩)) j))
  |exact gV (gV (m:=Ih _) (H8 (Fv ⟨_,rfl,Fv h⟩) j))
end
end HT
namespace L2
open PySem PySem.Spec PyProof.Rows
section
noncomputable abbrev TO:=St->Hp->(Option Int->Hp->Prop)->Prop
def PO (X:Cx) (e:Option Expr) (t:TO):Prop :=
 ∀ (pins:List (Addr×Obj)) (s:Ft) (σ:St) (H:Hp) (Q:Option Int->Hp->Prop),Inv X pins σ H s->t σ H Q ->
  FG (model X.prog X.w) X.A (evalPart e X.env) (λu s'=>∃ o H',Inv X pins σ H' s'/\Ll u o/\Q o H') X.xe s
noncomputable def x9:TO:=λ_ H Q=>Q none H
noncomputable def B7 (t:TE):TO:=λσ H Q=>t σ H λx H1=>∃ i,x = .int i/\Q (some i) H1
section
variable {X:Cx} {e:Expr} {te:TE} {lo hi:Option Expr} {tl th:TO} {pos p2:Pos}
theorem j6:PO X none x9:=by
 intro pins s σ H Q I h;rw[evalPart_none];exact Fv ⟨none,H,I,.none,h⟩
theorem xa (h:PE X e te):PO X (some e) (B7 te):=by
 intro pins s σ H Q I hw;rw[evalPart_some];refine thn (h pins s σ H _ I hw) λu s1 j=>?_;obtain⟨x,H1,z,F,J⟩:=j;obtain⟨i,rfl,q⟩:=J;obtain⟨t,rfl⟩:=F;exact⟨some i,H1,z,.int i t,q⟩
def SlR (X:Cx) (r:V->Option Int->Option Int->Hp->VK->Prop):Prop :=
 ∀ (pins:List (Addr×Obj)) (s:Ft) (σ:St) (H:Hp) (x:V) (v vl vu:h8) (lo hi:Option Int) (sl:Addr) (Q:VK),Inv X pins σ H s->RelV x v->s.heap.IsSliceOf sl vl vu .none->Ll vl lo->Ll vu hi->r x lo hi H Q ->
  ∃ T id,Oo (.type T) "__getitem__" = pure (some (.builtin id))/\s.TypeIs v T/\FG (model X.prog X.w) X.A (Lm v (.ref sl)) (EP X pins σ Q) X.xe s
theorem SlR.or {r r':V->Option Int->Option Int->Hp->VK->Prop}(h:SlR X r)(h':SlR X r'):SlR X (λx lo hi H Q=>r x lo hi H Q∨r' x lo hi H Q):=by
 intro pins s σ H x v vl vu lo hi sl Q I rx hs pl pu q
 rcases q with q|q
 ·exact h pins s σ H x v vl vu lo hi sl Q I rx hs pl pu q
 ·exact h' pins s σ H x v vl vu lo hi sl Q I rx hs pl pu q
noncomputable def tSl (r:V->Option Int->Option Int->Hp->VK->Prop) (te:TE) (tl th:TO):TE:=λσ H Q=>te σ H λx H1=>tl σ H1 λl H2=>th σ H2 λu H3=>r x l u H3 Q
theorem gM {r:V->Option Int->Option Int->Hp->VK->Prop}(hr:SlR X r)(he:PE X e te)(F:PO X lo tl)(J:PO X hi th):PE X (.Subscript e (.Slice lo hi none p2) pos) (tSl r te tl th):=by
 intro pins s σ H Q I h;refine Subscript_ (thn (he pins s σ H _ I h) λv s1 j=>?_);obtain⟨x,H1,L,O,U⟩:=j;refine wpAny_Slice (thn (F pins s1 σ H1 _ L U) λvl s2 ⟨l,H2,Y,pl,Z⟩=>thn (J pins s2 σ H2 _ Y Z) λvu s3 j=>?_);obtain⟨u,z,I3,pu,q3⟩:=j;rw[evalPart_none];refine Fv ?_;have I4:Inv X pins σ z { s3 with heap:=s3.heap.push { cls:=.type "slice",data:=.fields #[vl,vu,.none] } }:=I3.kept (t':=s3.toks) λb ob q=>td _ q
 obtain⟨T,id,hT,ht,hg⟩:=hr pins { s3 with heap:=s3.heap.push { cls:=.type "slice",data:=.fields #[vl,vu,.none] } } σ z x v vl vu l u s3.heap.objs.size Q I4 O (Heap.IsSliceOf.new ..) pl pu q3
 show FG (model X.prog X.w) X.A (subscriptTail e (.Slice lo hi none p2) v (.ref s3.heap.objs.size)) (EP X pins σ Q) X.xe { s3 with heap:=s3.heap.push { cls:=.type "slice",data:=.fields #[vl,vu,.none] } }
 exact tail_any (ops:=[.ref s3.heap.objs.size,v]) ht hT hg (by with_unfolding_all rfl)
noncomputable def fv (xs:List V) (lo hi:Option Int):List V:=(xs.drop (HT.sIx xs.length 0 lo)).take (HT.sIx xs.length xs.length hi - HT.sIx xs.length 0 lo)
theorem gw (xs:List V)(lo hi:Option Int):(fv xs lo hi).length<=xs.length:=by
 unfold fv;rw[GU,IW];lia
noncomputable def uf (K:Frag):V->Option Int->Option Int->Hp->VK->Prop:=λx lo hi H Q=>∃ a xs,x = .ref a/\SqT K H a xs /\
 ¬ (HT.sIx xs.length 0 lo=0/\HT.sIx xs.length xs.length hi=xs.length) /\ ∀ p,H p=none->Q (.ref p) (upd H p (.tup (fv xs lo hi)))
theorem sl_tup:SlR X (uf X.K):=by
 intro pins s σ H x v vl vu lo hi sl Q I rx hs pl pu h;obtain⟨a,xs,rfl,hx,hw,q⟩:=h
 cases rx
 obtain⟨its,r,j,z⟩:=I.tuple hx;have hlen:its.toArray.size=xs.length:=by rw[FJ];exact r.length.symm
 refine⟨"tuple",_,PyProof.Rows.slot_tuple_getitem.lookup,j.typeIs,?_⟩;refine HT.getItem_tuple_cut j hs pl pu (by rw[hlen];exact hw) ?_ (by rw[hlen];exact z)
 rw[hlen];refine⟨.ref s.heap.objs.size,_,I.laid (t':=s.toks) (o:=.tup (fv xs lo hi)) (λb ob q=>td _ q) (FE _) ?_,rfl,q _ (I.hok.fresh (FE _))⟩;exact⟨Gn (gw xs lo hi) z,_,(r.drop (HT.sIx xs.length 0 lo)).take (HT.sIx xs.length xs.length hi - HT.sIx xs.length 0 lo),JC _ _⟩
noncomputable def wa (K:Frag):R2:=λx y H Q=>∃ a b xs ys,x = .ref a/\y = .ref b/\SqT K H a xs/\SqT K H b ys/\xs≠[]/\xs.length+ys.length<=Fz /\
 (ys=[]->Q (.ref a) H)/\(ys≠[] -> ∀ p,H p=none->Q (.ref p) (upd H p (.tup (xs++ys))))
theorem Vals.nil_iff {xs:List V}{us:List h8}(r:Vals xs us):us=[]↔xs=[]:=by
 cases r with
 |nil=>simp
 |cons _ _=>simp
theorem op_catT:OpR X (GP .Add) (wa X.K):=by
 intro pins s σ H x y v u Q I rx ry h;obtain⟨a,b,xs,ys,rfl,rfl,O,U,hx,J,Y,Z⟩:=h
 cases rx
 cases ry
 obtain⟨its,F,p1,_⟩:=I.tuple O;obtain⟨L,j,p2,_⟩:=I.tuple U;refine HT.cat_tup p1 p2 (λz=>hx (F.nil_iff.mp z)) (λz=>⟨.ref a,H,I,rfl,Y (j.nil_iff.mp z)⟩) (λz=>?_) (by rw[<- F.length,<- j.length];exact J)
 refine⟨.ref s.heap.objs.size,_,I.laid (t':=s.toks) (o:=.tup (xs++ys)) (λb ob q=>td _ q) (FE _) ?_,rfl,Z (λw=>z (j.nil_iff.mpr w)) _ (I.hok.fresh (FE _))⟩;exact⟨by rw[FW];exact J,_,F.append j,JC _ _⟩
end
end
variable {n:Nat}{its:List h8}
section
noncomputable def ixN (n:Nat) (i:Int):Option Nat:=if 0<=i then (if i<n then some i.toNat else none) else if -(n:Int)<=i then some (i+n).toNat else none
noncomputable def atI {α:Type} (xs:List α) (i:Int):Option α:=(ixN xs.length i).bind λj=>xs[j]?
theorem nV {i:Int}{j:Nat}(h:ixN n i=some j):seqIndex? i n=some j/\j<n /\ -(n:Int)<=i/\i<n:=by
 unfold ixN at h
 by_cases h0 : 0<=i
 ·rw[if_pos h0]at h
  by_cases h1:i<n
  ·rw[if_pos h1]at h;have e:i.toNat=j:=Hd.inj h;exact⟨by rw[NZ h0 h1,e],by lia,by lia,h1⟩
  ·rw[if_neg h1]at h;cases h
 ·rw[if_neg h0]at h
  by_cases h1 : -(n:Int)<=i
  ·rw[if_pos h1]at h;have e:(i+n).toNat=j:=Hd.inj h;exact⟨by rw[Nk (by lia) h1,e],by lia,h1,by lia⟩
  ·rw[if_neg h1]at h;cases h
theorem j7 {α:Type}{xs:List α}{i:Int}{v : α}(h:atI xs i=some v):∃ j,seqIndex? i xs.length=some j/\xs[j]? = some v/\j<xs.length /\ -(xs.length:Int)<=i/\i<xs.length:=by
 unfold atI at h
 cases e:ixN xs.length i with
 |none=>rw[e]at h;cases h
 | some j =>
   rw[e]at h;obtain⟨h1,h2,z,F⟩:=nV e;exact⟨j,h1,h,h2,z,F⟩
def j8 (b:Expr):Prop:=∀ o i,subscripted b false o i=operate [o,i] (Lm o i)
def IxR (X:Cx) (r:R2):Prop :=
 ∀ (value slice:Expr) (pins:List (Addr×Obj)) (s:Ft) (σ:St) (H:Hp) (x y:V) (v u:h8) (Q:VK),Inv X pins σ H s->RelV x v->RelV y u->r x y H Q ->
  subscripted slice false v u=operate [v,u] (Lm v u)->FG (model X.prog X.w) X.A (subscriptTail value slice v u) (EP X pins σ Q) X.xe s
def MtR (X:Cx) (id:String) (r:V->List V->Hp->VK->Prop):Prop :=
 ∀ (pins:List (Addr×Obj)) (s:Ft) (σ:St) (H:Hp) (x:V) (xs:List V) (v:h8) (us:List h8) (Q:VK),Inv X pins σ H s->RelV x v->Vals xs us->r x xs H Q ->
  FG (model X.prog X.w) X.A (call (.builtin id) (v::us)) (EP X pins σ Q) X.xe s
section
variable {X:Cx} {a b:Expr} {ta tb:TE} {pos:Pos}
theorem IxR.or {r r':R2}(h:IxR X r)(h':IxR X r'):IxR X (λx y H Q=>r x y H Q∨r' x y H Q):=by
 intro value slice pins s σ H x y v u Q I rx ry q hs
 rcases q with q|q
 ·exact h value slice pins s σ H x y v u Q I rx ry q hs
 ·exact h' value slice pins s σ H x y v u Q I rx ry q hs
theorem B8 {r:R2}(hr:IxR X r)(j:PE X a ta)(z:PE X b tb)(F:j8 b):PE X (.Subscript a b pos) (tOp r ta tb):=by
 intro pins s σ H Q I h;exact Subscript_ (u7 j z I h λv u s2 x y H2 J rx ry q=>hr a b pins s2 σ H2 x y v u Q J rx ry q (F _ _))
noncomputable def Cq (K:Frag):R2:=λx y H Q=>∃ p xs i v,x = .ref p/\y = .int i/\SqL K H p xs/\atI xs i=some v/\Q v H
noncomputable def Cr (K:Frag):R2:=λx y H Q=>∃ p xs i v,x = .ref p/\y = .int i/\SqT K H p xs/\atI xs i=some v/\Q v H
noncomputable def Ct:R2:=λx y H Q=>∃ z i c,x = .str z/\y = .int i/\z.length<=Fz/\atI z.cps.toList i=some c/\Q (.str ⟨#[c]⟩) H
theorem ix_list:IxR X (Cq X.K):=by
 intro value slice pins s σ H x y v u Q I rx ry h hs;obtain⟨p,xs,i,z,rfl,rfl,J,he,q⟩:=h
 cases rx
 obtain⟨t,rfl⟩:=ry;obtain⟨its,r,pl,Y⟩:=I.list J;obtain⟨j,h1,h2,Z,L,O⟩:=j7 he;obtain⟨w,ew,rw'⟩:=r.get h2;have U:=r.length;have hn:=eB;have fin:EP X pins σ Q w s:=⟨z,H,I,rw',q⟩
 by_cases h0 : 0<=i
 ·have F:i.toNat=j:=by
   rw[NZ h0 O]at h1;exact Hd.inj h1
  exact item_listR pl.isList h0 (by lia) (by rw[F];simpa using ew) fin hs
 ·have F:(i+(its.toArray.size:Int)).toNat=j:=by
   rw[Nk (by lia) L]at h1
   rw[FJ,<- U];exact Hd.inj h1
  exact Lo (x:=w) pl.isList.typeIs slot_list_getitem.lookup
   (wpAny_getItem_list_neg (Q:=λr s'=>r=w/\EP X pins σ Q r s') pl.isList (by lia) (by rw[FJ] <;> lia) (by lia) (by rw[F];simpa using ew) ⟨rfl,fin⟩) hs
theorem ix_tup:IxR X (Cr X.K):=by
 intro value slice pins s σ H x y v u Q I rx ry h hs;obtain⟨p,xs,i,z,rfl,rfl,F,he,q⟩:=h
 cases rx
 obtain⟨t,rfl⟩:=ry;obtain⟨its,r,pl,L⟩:=I.tuple F;obtain⟨j,h1,h2,O,U,Y⟩:=j7 he;obtain⟨w,ew,rw'⟩:=r.get h2;have J:=r.length;have Z:=eB;have fin:EP X pins σ Q w s:=⟨z,H,I,rw',q⟩;exact Lo (x:=w) pl.typeIs slot_tuple_getitem.lookup
  (getItem_tuple (j:=j) (Q:=λr s'=>r=w/\EP X pins σ Q r s') pl (by lia) (by lia) (by rw[FJ,<- J];exact h1) (by simpa using ew) ⟨rfl,fin⟩) hs
theorem zu:IxR X Ct:=by
 intro value slice pins s σ H x y v u Q I rx ry h hs;obtain⟨z,i,c,rfl,rfl,Y,he,q⟩:=h;obtain⟨t,rfl⟩:=rx;obtain⟨t',rfl⟩:=ry;obtain⟨j,h1,h2,Z,F,J⟩:=j7 he;have L:z.cps.toList.length=z.length:=by simp[MP]
 rw[L]at h1 F J;have hn:=eB;exact tail_any (Jn s z t) slot_str_getitem.lookup (getItem_str (c:=c) (by
  have O:decide (i < -(2 ^ 63:Int))=false:=decide_eq_false (by lia)
  have U:decide (i≥2 ^ 63)=false:=decide_eq_false (by lia)
  rw[O,U,Bool.or_false]) (by rw[h1];simpa using h2) ⟨.str ⟨#[c]⟩,H,I.tok _,⟨_,rfl⟩,q⟩) hs
theorem pB (its:List h8)(n j:Nat)(u:h8):Lp (·.setIfInBounds j u) { cls:=.type "list",data:=.seq its.toArray n } = { cls:=.type "list",data:=.seq (its.set j u).toArray n }:=by
 simp[Lp]
theorem Inv.lst {pins:List (Addr×Obj)}{σ:St}{H:Hp}{s:Ft}{p:Addr}{xs:List V}(I:Inv X pins σ H s)(h:H p=some (.lst xs)) :
 ∃ (its:List h8) (n:Nat),Vals xs its/\s.heap.get? p=some { cls:=.type "list",data:=.seq its.toArray n }/\xs.length<=Fz:=by
 obtain⟨z,its,n,r,e⟩:=I.hok p _ h;exact⟨its,n,r,e,z⟩
theorem Inv.lstUpd {pins:List (Addr×Obj)}{σ:St}{H:Hp}{s:Ft}{p:Addr}{xs ys:List V}{its':List h8}{n':Nat}{f:Obj->Obj}(I:Inv X pins σ H s)(h:H p=some (.lst xs))(ho:s.heap.get? p=some { cls:=.type "list",data:=.seq its.toArray n })(hf:f { cls:=.type "list",data:=.seq its.toArray n } = { cls:=.type "list",data:=.seq its'.toArray n' })(r:Vals ys its')(j:ys.length<=Fz)(t:Nat) :
 Inv X pins σ (upd H p (.lst ys)) { s with heap:=s.heap.update p f,toks:=t }:=by
 have e:(s.heap.update p f).get? p=some { cls:=.type "list",data:=.seq its'.toArray n' }:=by
  rw[Gg f ho (by rw[hf] <;> rfl),hf]
 refine I.write (x:=p) (e:=p) (by rw[h];trivial) (.inl rfl) (λb u z q=>(Gc _ _ (Ne.symm z)).trans q) ⟨_,e⟩ ?_
 exact⟨j,its',n',r,e⟩
noncomputable def wb:V->V->V->Hp->(Hp->Prop)->Prop:=λo i v H Q=>∃ p xs k j,o = .ref p/\i = .int k/\H p=some (.lst xs)/\ixN xs.length k=some j/\Q (upd H p (.lst (xs.set j v)))
theorem ug:PSet X wb:=by
 intro pins s σ H o i v ov iv u Q I ro ri rv h;obtain⟨p,xs,k,j,rfl,rfl,F,O,q⟩:=h
 cases ro
 obtain⟨t,rfl⟩:=ri;obtain⟨its,n,r,ho,U⟩:=I.lst F;obtain⟨h1,h2,J,L⟩:=nV O;have z:=r.length;have Y:=eB;have I':Inv X pins σ (upd H p (.lst (xs.set j v))) { s with heap:=s.heap.update p (Lp (·.setIfInBounds j u)) } :=
  I.lstUpd F ho (pB its n j u) (r.set rv j) (by rw[LA];exact U) s.toks
 by_cases h0 : 0<=k
 ·have hk:k.toNat=j:=by
   rw[NZ h0 L]at h1;exact Hd.inj h1
  exact PySem.W.ki_setAt ho h0 (by lia) (by rw[FJ,<- z];exact L) (by rw[hk];exact⟨_,I',q⟩)
 ·have hk:(k+(its.toArray.size:Int)).toNat=j:=by
   rw[Nk (by lia) J]at h1
   rw[FJ,<- z];exact Hd.inj h1
  exact PySem.W.ki_setBack ho (by lia) (by rw[FJ,<- z];exact J) (by lia) (by rw[hk];exact⟨_,I',q⟩)
theorem kZ (lo hi:Option Int)(n:Nat):(Js lo hi none n).1=((HT.sIx n 0 lo:Nat):Int)/\(Js lo hi none n).2.1=((HT.sIx n n hi:Nat):Int)/\(Js lo hi none n).2.2=1:=by
 refine⟨?_,?_,rfl⟩
 ·cases lo with
  |none=>simp[Js,HT.sIx]
  | some i =>
    simp only[Js,HT.sIx,NJ,show (1:Int) > 0 by decide,if_true]
    by_cases h:i<0
    ·simp only[h,if_true] <;> lia
    ·simp only[h,if_false] <;> lia
 ·cases hi with
  |none=>simp[Js,HT.sIx]
  | some i =>
    simp only[Js,HT.sIx,NJ,show (1:Int) > 0 by decide,if_true]
    by_cases h:i<0
    ·simp only[h,if_true] <;> lia
    ·simp only[h,if_false] <;> lia
theorem ki (its:List h8)(lo hi:Option Int):slicePick its.toArray lo hi none=((its.drop (HT.sIx its.length 0 lo)).take (HT.sIx its.length its.length hi - HT.sIx its.length 0 lo)).toArray:=by
 obtain⟨h1,h2,j⟩:=kZ lo hi its.toArray.size;unfold slicePick;rw[h1,h2,j];simp only[sliceRange_one,pick_run,FJ] <;> rfl
noncomputable def Cu (K:Frag):V->Option Int->Option Int->Hp->VK->Prop:=λx lo hi H Q=>∃ a xs,x = .ref a/\SqL K H a xs /\ ∀ p,H p=none->Q (.ref p) (upd H p (.lst (fv xs lo hi)))
theorem sl_list:SlR X (Cu X.K):=by
 intro pins s σ H x v vl vu lo hi sl Q I rx hs pl pu h;obtain⟨a,xs,rfl,hx,q⟩:=h
 cases rx
 obtain⟨its,r,j,z⟩:=I.list hx;have hlen:=r.length;refine⟨"list",_,slot_list_getitem.lookup,j.isList.typeIs,?_⟩;refine wpAny_getItem_list_slice j.isList hs pl pu .none (by simp) ?_ (by rw[FJ] <;> lia)
 rw[ki,<- hlen];refine⟨.ref s.heap.objs.size,_,I.laid (t':=s.toks) (o:=.lst (fv xs lo hi)) (λb ob q=>td _ q) (FE _) ?_,rfl,q _ (I.hok.fresh (FE _))⟩;exact⟨Gn (gw xs lo hi) z,_,0,(r.drop (HT.sIx xs.length 0 lo)).take (HT.sIx xs.length xs.length hi - HT.sIx xs.length 0 lo),FK _ rfl⟩
theorem kj:CallR X (.type "tuple") (λxs H Q=>∃ p ys,xs=[.ref p]/\((SqL X.K H p ys /\ ∀ l,H l=none->Q (.ref l) (upd H l (.tup ys)))∨(SqT X.K H p ys/\Q (.ref p) H))):=by
 intro pins s σ H xs us Q I r h;obtain⟨p,ys,rfl,h⟩:=h;obtain⟨u,rfl,rx⟩:=cU r
 cases rx
 rcases h with⟨j,q⟩|⟨j,q⟩
 ·obtain⟨its,r',pl,z⟩:=I.list j;have hlen:=r'.length;refine call_tuple_list pl.isList (λh' kp=>?_) (by simp only[FJ] <;> lia)
  have F:Inv X pins σ H { s with heap:=h' }:=I.kept (t':=s.toks) kp
  have J:Inv X pins σ (upd H h'.objs.size (.tup ys)) { s with heap:=h'.push { cls:=.type "tuple",data:=.seq its.toArray } } :=
   F.laid (t':=s.toks) (λb o e=>td _ e) (FE _) (show ObjOk X.prog X.w _ _ _ (.tup ys) from⟨z,its,r',JC _ _⟩)
  exact⟨.ref h'.objs.size,_,J,rfl,q _ (F.hok.fresh (FE _))⟩
 ·obtain⟨its,r',pl,z⟩:=I.tuple j;exact call_tuple_same pl ⟨.ref p,H,I,rfl,q⟩
def tyV (K:Frag) (T:String) (x:V) (H:Hp):Prop:=match x with
 |.str _=>T = "str"
 |.int _=>T = "int"
 |.ref p=>(T = "list" /\ ∃ xs,SqL K H p xs)∨(T = "tuple" /\ ∃ o,K.lookup p=some o/\o.cls = .type "tuple" /\ o.dict=none) ∨
  (T = "dict" /\ ((∃ kvs,H p=some (.dK kvs))∨∃ kvs,H p=some (.dT kvs)))∨(T = "set" /\ ∃ S n,H p=some (.set S n))
 |_=>False
theorem zv {pins:List (Addr×Obj)}{σ:St}{H:Hp}{s:Ft}{T:String}{x:V}{v:h8}(I:Inv X pins σ H s)(r:RelV x v)(ty:tyV X.K T x H) :
 s.TypeIs v T /\ ∀ a,v = .ref a -> ∃ ob,s.heap.get? a=some ob/\ob.dict=none:=by
 cases x with
 | str z =>
   obtain⟨t,rfl⟩:=r
   cases (show T = "str" from ty)
   exact⟨Jn s z t,λ_ e=>nomatch e⟩
 | int i =>
   obtain⟨t,rfl⟩:=r
   cases (show T = "int" from ty)
   exact⟨Lq s i t,λ_ e=>nomatch e⟩
 | ref p =>
   cases r
   rcases ty with⟨rfl,xs,F⟩|⟨rfl,o,hk,J,hd⟩|⟨rfl,hk⟩|⟨rfl,S,n,hk⟩
   ·obtain⟨its,_,pl,_⟩:=I.list F;refine⟨pl.isList.typeIs,λa e=>?_⟩
    cases e
    obtain⟨o,n,e,c,hd,_⟩:=pl;exact⟨o,e,hd⟩
   ·refine⟨⟨o,I.kIn p o hk,J⟩,λa e=>?_⟩
    cases e
    exact⟨o,I.kIn _ o hk,hd⟩
   ·have z:∃ o,s.heap.get? p=some o/\o.ExactDict:=by
     rcases hk with⟨kvs,hk⟩|⟨kvs,hk⟩
     ·obtain⟨_,_,_,_,o,_,_,e,ex,_⟩:=I.hok p _ hk;exact⟨o,e,ex⟩
     ·obtain⟨_,_,_,_,o,_,_,e,ex,_⟩:=I.hok p _ hk;exact⟨o,e,ex⟩
    obtain⟨o,e,ex⟩:=z;refine⟨⟨o,e,ex.1⟩,λa j=>?_⟩
    cases j
    exact⟨o,e,ex.2.1⟩
   ·obtain⟨o,_,_,_,e,ex,_⟩:=I.hok p _ hk;refine⟨⟨o,e,ex.1⟩,λa j=>?_⟩
    cases j
    exact⟨o,e,ex.2.1⟩
 |_=>exact False.elim ty
noncomputable def tBM (K:Frag) (T:String) (r:V->List V->Hp->VK->Prop) (to:TE) (t:TA):TE:=λσ H Q=>to σ H λx H1=>tyV K T x H1/\t σ H1 λxs H2=>r x xs H2 Q
variable {o e:Expr} {es:List Expr} {to:TE} {t:TA} {name:Str} {apos cpos:Pos} {T id:String} {r:V->List V->Hp->VK->Prop}
theorem eL (pa:PlainAttrs T)(slot:Slot T name id)(L:typeOf (.builtin id)=pure (.type "method_descriptor"))(hm:MtR X id r)(ho:PE X o to)(ha:PA X (e::es) t)(z:JI o name X.env (eval o X.env)=eval o X.env:=by rfl)(J:((GY cpos (FN (e::es) X.env)).all (fun x=>!x.1)&&(Jd cpos (HE [] X.env)).all (fun x=>x.1.isSome)
   && decide ((e::es).length+([]:List JL).length+(if ([]:List JL).isEmpty then 0 else 1)<30))=true:=by rfl)(F:(apos.endLine==cpos.line)=true:=by rfl)(hs:FN (e::es) X.env=(false,eval e X.env)::FN es X.env:=by rfl)(j:(GY cpos (FN es X.env)).any (·.1)=false:=by rfl) :
 PE X (.Call (.Attribute o name apos) (e::es) [] cpos) (tBM X.K T r to t):=by
 intro pins s σ H Q I h;refine wpAny_Call_method_late z J F rfl (thn (ho pins s σ H _ I h) λv s1 O=>?_);obtain⟨x,H1,U,Y,ty,q1⟩:=O;obtain⟨h1,h2⟩:=zv U Y ty;refine⟨T,id,pa,slot,L,h1,h2,?_⟩;have Z:=ha cpos pins s1 σ H1 _ U q1;rw[hs]at Z ⊢;refine Calls.callWith_builtin (by show (false || (GY cpos (FN es X.env)).any (·.1))=false;rw[j] <;> rfl) (LQ ?_)
 exact thn Z λus s2 O=>(by obtain⟨vs,H2,I2,r2,q2⟩:=O;exact hm pins s2 σ H2 x vs v us Q I2 Y r2 q2)
end
end
section
def MtM (X:Cx) (id:String) (r:V->List V->Hp->VK->Prop):Prop :=
 ∀ (pins:List (Addr×Obj)) (s:Ft) (σ:St) (H:Hp) (x:V) (xs:List V) (v:h8) (us:List h8) (Q:VK),Inv X pins σ H s->RelV x v->Vals xs us->r x xs H Q ->
  FG (model X.prog X.w) X.A (call (.builtin id) (v::us)) (EP X pins σ Q) X.xe s
theorem Vals.one:∀ {x:V} {us:List h8},Vals [x] us -> ∃ u,us=[u]/\RelV x u
 |_,_,.cons r .nil=>⟨_,rfl,r⟩
theorem Vals.rep {xs:List V}{us:List h8}(h:Vals xs us):∀ k:Nat,Vals (Fw k xs).flatten (Fw k us).flatten
 |0=>.nil
 | k+1=>by
   rw[GA,GA,Ia,Ia];exact Vals.append h (Vals.rep h k)
theorem fw (its:List h8):∀ (k:Nat) (acc:List h8),
 MQ (λj z=>j++z) acc.toArray (Fw k its.toArray)=(acc++(Fw k its).flatten).toArray
 |0,acc=>by simp
 | k+1,acc=>by
   have e:acc.toArray++its.toArray=(acc++its).toArray:=by simp
   have F:(acc++its)++(Fw k its).flatten=acc++(Fw (k+1) its).flatten:=by
    rw[GA,Ia,Hv]
   rw[<- F,<- fw its k (acc++its),<- e,GA,JW]
section
variable {X:Cx} {pins:List (Addr×Obj)} {σ:St} {H:Hp} {s:Ft} {l b:Addr} {xs ys zs:List V}
theorem Inv.lset {its':List h8}{f:Array h8->Array h8}{t':Nat}(I:Inv X pins σ H s)(j:H l=some (.lst xs))(e:s.heap.get? l=some { cls:=.type "list",data:=.seq its.toArray n })(hf:f its.toArray=its'.toArray)(z:Vals ys its')(F:ys.length<=Fz) :
 Inv X pins σ (upd H l (.lst ys)) { s with heap:=s.heap.update l (Lp f),toks:=t' }:=by
 have q:=PySem.IsL.update e f;rw[hf]at q;refine I.write (x:=l) (e:=l) (by rw[j];exact trivial) (.inl rfl) (λb' u J L=>(Gc s.heap (Lp f) (Ne.symm J)).trans L) ⟨_,q⟩ ?_
 exact⟨F,its',_,z,q⟩
theorem Inv.lnew {t':Nat}(I:Inv X pins σ H s)(j:Vals ys its)(z:ys.length<=Fz) :
 Inv X pins σ (upd H s.heap.objs.size (.lst ys)) { s with heap:=s.heap.push { cls:=.type "list",data:=.seq its.toArray },toks:=t' } :=
 I.laid (λ_ _ q=>td _ q) (FE _) ⟨z,its,0,j,FK _ rfl⟩
theorem Inv.fresh (I:Inv X pins σ H s):H s.heap.objs.size=none:=I.hok.fresh (FE _)
theorem Inv.lstM (I:Inv X pins σ H s)(j:H l=some (.lst xs)):xs.length<=Fz /\ ∃ (its:List h8) (n:Nat),Vals xs its/\xs.length=its.length/\s.heap.get? l=some { cls:=.type "list",data:=.seq its.toArray n }:=by
 obtain⟨z,its,n,r,e⟩:=I.hok l _ j;exact⟨z,its,n,r,r.length,e⟩
theorem uh (h:n<=Fz):Je n=false:=by
 unfold Je;exact decide_eq_false (by lia)
end
section
variable {X:Cx}
noncomputable def nW:V->List V->Hp->VK->Prop:=λx vs H Q=>∃ l xs y,x = .ref l/\vs=[y]/\H l=some (.lst xs)/\xs.length<Fz/\Q .non (upd H l (.lst (xs++[y])))
theorem jE:MtM X "list.append" nW:=by
 intro pins s σ H x vs v us Q I rx rv h;obtain⟨l,xs,y,rfl,rfl,j,J,q⟩:=h
 cases rx
 obtain⟨u,rfl,ru⟩:=rv.one;obtain⟨z,its,n,r,L,e⟩:=I.lstM j;refine Ii F.slot_list_append ⟨_,e,rfl⟩ F.entry_list_append (F.args_list_append_2 _ _) (PySem.list_append l its.toArray n u (by rw[FJ];lia)) ⟨e,?_⟩
 refine⟨.non,_,I.lset (its':=its++[u]) j e (by simp) (r.append (.cons ru .nil)) ?_,rfl,q⟩
 rw[FW,Hj];lia
noncomputable def Cv:R2:=λx y H Q=>∃ l b xs zs,x = .ref l/\y = .ref b/\H l=some (.lst xs)/\H b=some (.lst zs)/\xs.length+zs.length<=Fz /\ ∀ p,H p=none->Q (.ref p) (upd H p (.lst (xs++zs)))
theorem op_cat:OpR X (GP .Add) Cv:=by
 intro pins s σ H x y v u Q I rx ry h;obtain⟨l,b,xs,zs,rfl,rfl,F,J,Y,q⟩:=h
 cases rx
 cases ry
 obtain⟨z,its,n,r,Z,e⟩:=I.lstM F;obtain⟨z2,j,n2,L,O,U⟩:=I.lstM J;refine PySem.P.add_list e U ?_ (by rw[FJ,FJ];lia)
 have ea:its.toArray++j.toArray=(its++j).toArray:=by simp
 rw[ea];exact⟨.ref _,_,I.lnew (t':=s.toks) (r.append L) (by rw[FW];lia),rfl,q _ I.fresh⟩
noncomputable def Cw:R2:=λx y H Q=>∃ l k xs,x = .ref l/\y = .int k/\H l=some (.lst xs) /\ -(2 ^ 63)<=k/\k<2 ^ 63/\xs.length*k.toNat<=Fz /\
 ∀ p,H p=none->Q (.ref p) (upd H p (.lst (Fw k.toNat xs).flatten))
theorem nX {α:Type}(xs:List α)(k:Nat):(Fw k xs).flatten.length=k*xs.length:=by
 induction k with
 |zero=>simp
 |succ k ih=>rw[GA,Ia,FW,ih,Nat.succ_mul,Nat.add_comm]
theorem op_rep:OpR X (GP .Mult) Cw:=by
 intro pins s σ H x y v u Q I rx ry h;obtain⟨l,k,xs,rfl,rfl,hH,h1,h2,hz,q⟩:=h
 cases rx
 obtain⟨t,rfl⟩:=ry;obtain⟨z,its,n,r,hl,e⟩:=I.lstM hH;have hlen:its.toArray.size*k.toNat<=Fz:=by rw[FJ,<- hl];exact hz
 have J : ¬ its.toArray.size*k.toNat > (2 ^ 63 - 1) / 8:=by
  have:(Fz:Nat)<=(2 ^ 63 - 1) / 8:=by decide
  lia
 have L : ¬ (!Builtin.List.listFitsIndex k)=true:=by
  rw[fitsIndex_both h1 h2];exact Fu
 have j : ¬ Je (its.toArray.size*k.toNat)=true:=by
  rw[uh hlen];exact Fu
 have O:MQ (λY Z=>Y++Z) #[] (Fw (if its.toArray.isEmpty=true then 0 else k.toNat) its.toArray)=(Fw k.toNat its).flatten.toArray:=by
  have f0:∀ m:Nat,MQ (λY Z=>Y++Z) #[] (Fw m its.toArray)=(Fw m its).flatten.toArray:=λm=>by
   have:=fw its m [];rw[LB]at this;exact this
  rw[f0]
  cases its with
  |nil=>simp
  |cons a r'=>rw[if_neg (by simp)]
 refine Kv (T:="list") (U:="int") (by decide) ⟨_,e,rfl⟩ (λs'=>Lq s' k t) noFill_list_mul Oc JX repeat_list F.slot_int_index.lookup
  (Ii JX (Lq s k t) NL (Nl _ _) (int___rmul___int_list k t l its.toArray n)
    ⟨e,rfl,⟨_,e,rfl⟩,Ii F.slot_list_mul ⟨_,e,rfl⟩ F.entry_list_mul (F.args_list_mul_2 _ _) (AutoListH.list___mul___list_int_3 l its.toArray n k t L J j) ⟨e,?_⟩⟩)
 rw[O];exact⟨.ref _,_,I.lnew (t':=s.toks) (r.rep k.toNat) (by rw[nX,Lr];exact hz),rfl,q _ I.fresh⟩
end
end
end L2
namespace Att
open PySem PySem.W PySem.Calls PyProof.Rows
theorem ii {P:Params}{h:Heap}:∀ (ns:List Int) (vs:List h8),WellAll P h vs (ns.map WData.int)->Oh vs ns:=by
 intro ns
 induction ns with
 | nil =>
   intro vs w;rw[HC]at w
   cases w
   exact .nil
 | cons n ns ih =>
   intro vs w;rw[FY]at w
   cases w with
   | cons a b =>
     cases a
     exact .cons _ _ (ih _ b)
theorem rE {l:OpenLaw}{n:Nat}(Y:l.most=some n){P:Params}{h:Heap}{args:List WData}{vals:List h8}(j:l.row.toRowW.claim.pre args=true)(L:WellAll P h vals args) :
 ∃ a vs ns,vals=[G5 a]/\args=[WData.list (ns.map WData.int)]/\h.get? a=some { cls:=.type "list",data:=.seq vs.toArray }/\Oh vs ns/\ns.length<=n:=by
 have O:WShape.hasAll [] args [.list .int]=true:=(pre_splitW j).1;have U:l.pre.holds [] { args:=args }=true:=(pre_splitW j).2;obtain⟨d,r,rfl,h1,h2⟩:=hasAllW_cons O;obtain rfl:=hasAllW_nil h2;obtain⟨xs,rfl,Z⟩:=hasW_list h1;obtain⟨ns,rfl⟩:=items_int Z;have hlen:ns.length<=n:=by
  unfold OpenLaw.pre at U;have F:(WTm.not (.lt (.lit (.int (n:Int))) (.len (.arg 0)))).holds [] { args:=[.list (ns.map .int)] }=true:=by
   have F:=(holds_andW U).1;rw[Y]at F;exact F
  have J:=condW_of F (w_not (w_lt w_lit (w_len_list (w_arg rfl))));rw[FO]at J;refine Nat.le_of_not_lt λq=>?_;have q':(n:Int)<((ns.length:Nat):Int):=by lia
  first
   |(rw[decide_eq_true q']at J;exact absurd J (by decide))
   |(simp at J;lia)
 cases L with
 | cons w1 w2 =>
   cases w2
   cases w1 with
   |list ho z=>exact⟨_,_,ns,rfl,rfl,ho,ii ns _ z,hlen⟩
theorem rF (l:OpenLaw)(args:List WData):l.row.toRowW.claim.post args (.bool true) args=true :=
 postW_of (r:=l.row.toRowW) (X:=(true==true))
  (show WShape.has [] (.bool true) .bool=true by first|rfl|decide|simp[WShape.has,WShape.arms,WShape.armsAll])
  (show (WTm.eq .res (.lit (.bool true))).value [] { args:=args,res:=some (.bool true),after:=args }=some (.bool (true==true)) from w_eq_bool (w_res rfl) w_lit) rfl
theorem attach_call {l:OpenLaw}{n:Nat}{q:FT}{loose:List Str}{XP:(Str->Option h8)->Heap->Prop}{YP:G8->Heap->Prop}{d:DefRec}(hn:l.most=some n)(F:d.params.defaults=[])(call:∀ (w:G8) (s₀ s₁:Ft) (mg mb:Str->Option h8) (fa:Addr) (o:Obj) (pm cd doc:h8) (a:Addr) (vs:List h8) (ns:List Int),
   Ground q loose [] XP w s₀ mg mb s₁.heap->YP w s₁.heap ->
   s₁.heap.get? fa=some o->o.data = .func (docDef d.name d.params d.body d.scope pm cd doc)->s₁.heap.CodeRec cd d.name->mg d.name=some (.ref fa) ->
   s₁.heap.get? a=some { cls:=.type "list",data:=.seq vs.toArray }->Oh vs ns->ns.length<=n->s₁.gens = #[] ->
   JK (model l.prog w) Mk (.call (.ref fa) ⟨[.ref a],[]⟩) (λr s'=>r = .ok (.ret (.bool true))/\OldK s₁.heap s'.heap/\s'.os=s₁.os/\K7 s'.gens) s₁) :
 WalkO q loose XP YP l.row.toRowW d [] (λf vs=>Oq f vs):=by
 intro w s₀ s₁ mg mb G Y fa o pm cd doc dV kV ho hd J U L hg args vals as j Z EI O EJ;obtain rfl:dV = .none:=Dflts.none U F;obtain rfl:kV = .none:=Dflts.noKw U;obtain⟨a,vs,ns,rfl,rfl,z,hints,hlen⟩:=rE hn j O;refine enter_call (I0 (call w s₀ s₁ mg mb fa o pm cd doc a vs ns G Y ho (fd_plain hd) J L z hints hlen hg) λr s' hq=>?_);obtain⟨rfl,h2,h3,h4⟩:=hq;exact⟨.inl ⟨.bool true,.bool true,[],rfl,λ_=>rfl,.bool true,rF l _,λ_=>⟨Nm,λ_ hm=>(nomatch hm)⟩⟩,h2,h3,h4⟩
end Att
namespace L2
open PySem PySem.Spec PyProof.Rows
variable {fd:Hi}{x:Str}
section
theorem jF:∀ {vs:List h8} {ns:List Int},Oh vs ns->Vals (ns.map V.int) vs
 |_,_,.nil=>.nil
 |_,_,.cons n t h=>.cons ⟨t,rfl⟩ (jF h)
def pC (H:Hp):Prop:=∀ b,H b=none∨∃ o xs,H b=some (.frz o (.lst xs))
theorem uj {P:FT}{w:G8}{K:Frag}{mg mb:Str->Option h8}{CX:CXT}{k:Nat}{fa a:Addr}{sp:Sp}{s₁:Ft}{vs:List h8}{ns:List Int}(KX:K.In s₁.heap)(L:s₁.heap.Ns Gm mg)(j:s₁.heap.Ns Lk mb)(EI:∀ x:Str,x ≠ "__name__" -> mb x=Iw x)(O:s₁.heap.NoLimit)(hg:s₁.gens = #[])(Z:s₁.heap.get? a=some { cls:=.type "list",data:=.seq vs.toArray })(hi:Oh vs ns)(hl:ns.length<=Fz)(hr:Room k Mk)(F:∀ base:Heap,K.In base->base.Ns Gm mg->bf P w K mg base CX k fa fd [x] sp)(J:∀ (s:Ft) (u:h8),Mj s fd ⟨[u],[]⟩ [(x,u)])(EJ:∀ H:Hp,pC H->SqL K H a (ns.map V.int)->sp [.ref a] H (λv _=>v = .bl true) λ_ _ _=>False)(EK:∀ H e s',CX [] H s₁ (λ_ _ _=>False) e s'->False) :
 JK (model P w) Mk (.call (.ref fa) ⟨[.ref a],[]⟩) (λr s'=>r = .ok (.ret (.bool true))/\OldK s₁.heap s'.heap/\s'.os=s₁.os/\K7 s'.gens) s₁:=by
 have rv:=jF hi;have lenV:=hi.length;have core:∀ H:Hp,pC H->SqL K H a (ns.map V.int)->HOk P w H s₁.heap->(∀ b,H b≠none->b=a)->(H a≠none->K.lookup a=none) ->
  JK (model P w) Mk (.call (.ref fa) ⟨[.ref a],[]⟩) (λr s'=>r = .ok (.ret (.bool true))/\OldK s₁.heap s'.heap/\s'.os=s₁.os/\K7 s'.gens) s₁:=by
  intro H hO hS hok hA hK;have base_of:∀ {b:Addr} {o:Obj},s₁.heap.get? b=some o->H b=none->(eK s₁.heap H).get? b=some o:=λe n=>tY e n;have noA:∀ {b:Addr} {o:Obj} {es:Array DictEntry} {ep:Nat},s₁.heap.get? b=some o->o.data = .dict es ep->H b=none:=λ{b o es ep} e d=>by
   cases q:H b with
   |none=>rfl
   | some u =>
     have e':b=a:=hA b (by rw[q];simp)
     subst e';rw[Z]at e;cases e;have d':Data.seq vs.toArray _=Data.dict es ep:=d
     cases d'
  have nsK:∀ {b:Addr} {m:Str->Option h8},s₁.heap.Ns b m->(eK s₁.heap H).Ns b m:=λ{b m} g9=>(by obtain⟨o,es,ep,e,d,r⟩:=g9;exact⟨o,es,ep,base_of e (noA e d),d,r⟩)
  have U:K.In (eK s₁.heap H):=λb o e=>base_of (KX b o e) (by
   cases q:H b with
   |none=>rfl
   | some u =>
     have e':b=a:=hA b (by rw[q];simp)
     subst e';rw[hK (by rw[q];simp)]at e;cases e)
  have hM:Mod K mg (eK s₁.heap H):=⟨U,nsK L,⟨mb,nsK j,EI⟩,let ⟨mc,h1,h2⟩:=O; ⟨mc,nsK h1,h2⟩⟩;have e0:Env0 P w K mg (eK s₁.heap H) Mk [] s₁ H:=⟨rfl,hM,λb o e=>wL e,Nat.le_of_eq (qX _ _),trivial,λb j=>absurd (show b∈([]:List Addr) from j) (by simp),hok,.of_eq hg⟩
  refine I0 ((F _ U (nsK L)).run Mk [] s₁ H ⟨[.ref a],[]⟩ [.ref a] [.ref a] _ _ hr e0 (J s₁ (.ref a)) (.cons rfl .nil) (EJ H hO hS)) λr s' h=>?_
  cases r with
  |error e=>exact(EK H e s' h).elim
  | ok fl =>
    cases fl with
    |next=>exact False.elim h
    |brk=>exact False.elim h
    |cont=>exact False.elim h
    | ret u =>
      obtain⟨v,H',os,bare,un,Y,r',q⟩:=h;have q':v = .bl true:=q;subst q';obtain rfl:u=MH true:=r';refine⟨rfl,OldK.of_keep λb o e=>?_,os,bare⟩
      cases q:H b with
      |none=>exact un.keep b o e q (by intro z;exact absurd (show b∈([]:List Addr) from z) (by simp)) (by simp)
      | some u =>
        rcases hO b with z|⟨ob,xs,z⟩
        ·rw[q]at z;cases z
        ·have z2:=un.frzs b ob _ z;obtain⟨e1,_⟩:=hok b _ z;obtain⟨e2,_⟩:=Y b _ z2;rw[e]at e1;cases e1;exact e2
 cases hk:K.lookup a with
 | some o =>
   have e:=KX a o hk;rw[Z]at e
   cases e
   refine core (λ_=>none) (λ_=>.inl rfl) (.inr ⟨_,vs.toArray,_,hk,rfl,rfl,rfl,by rw[FJ,lenV];exact hl,by simpa using rv⟩) (λb u z=>by have z':(none:Option HO)=some u:=z;cases z') (λb z=>absurd rfl z) λz=>absurd rfl z
 | none =>
   refine core (λb=>if b=a then some (.frz { cls:=.type "list",data:=.seq vs.toArray } (.lst (ns.map V.int))) else none) (λb=>?_) (.inl (.inr ⟨{ cls:=.type "list",data:=.seq vs.toArray },if_pos rfl⟩)) (λb u z=>?_) (λb z=>?_) λ_=>hk
   ·by_cases j:b=a
    ·exact .inr ⟨_,_,if_pos j⟩
    ·exact .inl (if_neg j)
   ·by_cases j:b=a
    ·have z':=(if_pos j).symm.trans z
     cases z'
     subst j;exact⟨Z,by rw[FO];exact hl,vs,_,rv,Z⟩
    ·have z':=(if_neg j).symm.trans z
     cases z'
   ·by_cases j:b=a
    ·exact j
    ·exact absurd (if_neg j) z
end
section
theorem walk_of {l:LC}{n k:Nat}{q:FT}{loose:List Str}{XP:(Str->Option h8)->Heap->Prop}{YP:G8->Heap->Prop}{d:DefRec}{K:Params->Frag}{CX:G8->CXT}{sp:G8->Sp}(Z:l.most=some n)(z:n<=Fz)(J:d.params.defaults=[])(hr:Room k Mk)(hY:∀ (w:G8) (h:Heap),YP w h->(K w.params).In h)(F:∀ (w:G8) (mg:Str->Option h8) (fa:Addr) (h:Heap),(K w.params).In h->h.Ns Gm mg->mg d.name=some (.ref fa) ->
   ∃ fd:Hi,(∀ (s:Ft) (u:h8),Mj s fd ⟨[u],[]⟩ [(x,u)]) /\
    ∀ base:Heap,(K w.params).In base->base.Ns Gm mg->bf l.prog w (K w.params) mg base (CX w) k fa fd [x] (sp w))(L:∀ (w:G8) (H:Hp) (a:Addr) (ns:List Int),ns.length<=n->pC H->SqL (K w.params) H a (ns.map V.int)->sp w [.ref a] H (λv _=>v = .bl true) λ_ _ _=>False)(O:∀ (w:G8) (H:Hp) (s:Ft) (e:h8) (s':Ft),CX w [] H s (λ_ _ _=>False) e s'->False) :
 PySem.W.WalkO q loose XP YP l.row.toRowW d [] (λf vs=>Oq f vs):=by
 refine Att.attach_call Z J λw s₀ s₁ mg mb fa o pm cd doc a vs ns G Y ho hd EI U j hints hlen hg=>?_;have KX:=hY w _ Y;obtain⟨fd,hb,hF⟩:=F w mg fa _ KX G.T.g U;exact uj KX G.T.g G.T.b G.T.builtins G.T.nolimit hg j hints (Gn hlen z) hr hF hb (λH hO hS=>L w H a ns hlen hO hS) λH e s'=>O w H s₁ e s'
end
variable {qual:Str}{st:Stmt}{f:Addr}
section
noncomputable def cy (s:Stmt):Arguments:=match s with
 |.FunctionDef _ a _ _ _ _ _ _ _ _=>a
 |_=>{ posonlyargs:=[],args:=[],vararg:=none,kwonlyargs:=[],kw_defaults:=[],kwarg:=none,defaults:=[] }
noncomputable def bd (s:Stmt):List Stmt:=match s with
 |.FunctionDef _ _ b _ _ _ _ _ _ _=>b
 |_=>[]
noncomputable def ah (s:Stmt):Scope:=match s with
 |.FunctionDef _ _ _ _ _ _ sc _ _ _=>sc
 |_=>{ kind:=.function,names:=[],isGenerator:=false,isCoroutine:=false }
noncomputable abbrev CX0:CXT:=λ_ _ _ _ _ _=>False
noncomputable abbrev E0:XK:=λ_ _ _=>False
theorem wc {X:Cx}:ic CX0 X E0:=λ_ _ _ _ _ _ _ h=>h.elim
structure Fun (K:Frag) (x qual:Str) (st:Stmt) (f:Addr) (fd:Hi):Prop where
 ex:∃ (oc:h8) (od:Option Addr) (kV doc pm:h8) (an:Option Addr) (cdv ct:h8) (osl:Array (Option h8)),
  fd=I9 x qual (cy st) (bd st) (ah st) .none kV doc pm an cdv ct/\K.lookup f=some ⟨oc,od,.func fd,osl⟩/\Kj K cdv qual=true
 kp:Ha K (.ref f)=true
section
variable {P:FT} {w:G8} {K:Frag} {mg:Str->Option h8} {base:Heap}
theorem Fun.ok {N ps:List Str}{k:Nat}{sp:Sp}(F:Fun K x qual st f fd)(S:cw N ps (ah st))(len:∀ vs H Q E,sp vs H Q E->vs.length=ps.length)(j:∀ (cdv:h8) (A:G3) (outer:List Env) (s:Ft) (H:Hp) (vs:List V) (Q:VK) (E:XK),Room k (A.deeper (Jm qual (ah st) s.heap.objs.size f cdv))->sp vs H Q E ->
   ∃ t,PSs (bU CX0 P w K mg base N qual (ah st) f cdv A outer s H E).nox (bd st) t/\t { nx:=λ_ H'=>Q .non H',rt:=Q } (start N vs) H):bf P w K mg base CX0 (k+1) f fd ps sp:=by
 obtain⟨oc,od,kV,doc,pm,an,cdv,ct,osl,rfl,lk,z⟩:=F.ex;refine w9 lk z S len λA outer s H vs Q E hr J=>?_;obtain⟨t,h,q⟩:=j cdv A outer s H vs Q E hr J;exact⟨t,h.nox,q⟩
theorem Fun.binds {ps:List Str}(F:Fun K x qual st f fd)(h:∀ (kV doc pm:h8) (an:Option Addr) (cdv ct:h8) (us:List h8),us.length=ps.length->bindArgs (I9 x qual (cy st) (bd st) (ah st) .none kV doc pm an cdv ct) ⟨us,[]⟩=pure (ps.zip us)):Binds K fd ps []:=by
 obtain⟨oc,od,kV,doc,pm,an,cdv,ct,osl,rfl,lk,j⟩:=F.ex;exact .all (h kV doc pm an cdv ct)
theorem ak {oc:h8}{od an:Option Addr}{osl:Array (Option h8)}{kV doc pm cdv ct:h8}(l:K.lookup f=some ⟨oc,od,.func (I9 x qual (cy st) (bd st) (ah st) .none kV doc pm an cdv ct),osl⟩)(c:Kj K cdv qual=true)(k:Ha K (.ref f)=true):Fun K x qual st f (I9 x qual (cy st) (bd st) (ah st) .none kV doc pm an cdv ct):=⟨⟨oc,od,kV,doc,pm,an,cdv,ct,osl,rfl,l,c⟩,k⟩
end
end
end L2
namespace HT
open PySem PySem.Spec PyProof.Rows
section
variable {prog:FT} {w:G8} {A:G3} {E:h8->Ft->Prop} {s:Ft}
theorem getItem_tuple_whole {t sl:Addr}{items:Array h8}{vl vu:h8}{lo hi:Option Int}{Q:h8->Ft->Prop}(j:IsTup s.heap t items)(O:s.heap.IsSliceOf sl vl vu .none)(pl:Ll vl lo)(pu:Ll vu hi)(hw:sIx items.size 0 lo=0/\sIx items.size items.size hi=items.size)(h:Q (.ref t) s):FG (model prog w) A (Lm (.ref t) (.ref sl)) Q E s:=by
 obtain⟨os,z,F,U⟩:=id O;have J:s.TypeIs (.ref sl) "slice":=⟨os,z,F⟩;unfold Lm
 try with_reducible refine Gp ?_
 first|refine gV (Fv ?_)|skip
 refine gV (Nj j.typeIs (by decide) ?_)
 refine gV (Gs (name:=g8 "__getitem__") j.typeIs Hg
  (Hn Hg j.typeIs Mo ?_ (MN _ _)))
 show FG _ _ (Kl (.ref t) >>= _) _ _ s;refine gV (tupleItemsOf_ j ?_);refine gV (Ln J ?_);rw[if_pos (by decide)]
 refine gV (dB O pl pu ?_);have L:(((sIx items.size 0 lo:Nat):Int)==0&&(1:Int)==1&&(sIx items.size items.size hi - sIx items.size 0 lo)==items.size)=true:=by
  rw[hw.1,hw.2];simp
 show FG _ _ (if (((sIx items.size 0 lo:Nat):Int)==0&&(1:Int)==1&&(sIx items.size items.size hi - sIx items.size 0 lo)==items.size)=true then _ else _) _ _ s
 rw[if_pos L];refine gV (m:=Km (.ref t)) ?_;unfold Km;refine gV (Ln j.typeIs (Fv ?_));show FG _ _ (if true=true then _ else _) _ _ s
 rw[if_pos rfl];exact gV (IJ (Fv ⟨_,rfl,Fv h⟩))
end
end HT
namespace L2
open PySem PySem.Spec PyProof.Rows
section
section
variable {X:Cx}
noncomputable def Cy (K:Frag):V->Option Int->Option Int->Hp->VK->Prop:=λx lo hi H Q=>∃ a xs,x = .ref a/\SqT K H a xs/\(HT.sIx xs.length 0 lo=0/\HT.sIx xs.length xs.length hi=xs.length)/\Q x H
theorem uk:SlR X (Cy X.K):=by
 intro pins s σ H x v vl vu lo hi sl Q I rx hs pl pu h;obtain⟨a,xs,rfl,hx,hw,q⟩:=h
 cases rx
 obtain⟨its,r,j,z⟩:=I.tuple hx;have hlen:=r.length;refine⟨"tuple",_,slot_tuple_getitem.lookup,j.typeIs,?_⟩;refine HT.getItem_tuple_whole j hs pl pu (by rw[FJ,<- hlen];exact hw) ⟨.ref a,H,I,rfl,q⟩
end
end
variable {u:h8}{y:V}{P:FT}{w:G8}{H H':Hp}{kvs:List (List Key×V)}{xs:List (List Key×Addr×h8)}{b a:Addr}{h':Heap}{X:Cx}{pins:List (Addr×Obj)}{σ:St}{s:Ft}
section
section
variable {κ:Type} [DecidableEq κ]
noncomputable def bE (kvs:List (κ × V)) (k : κ):Option V:=(kvs.find? λkv=>decide (kv.1=k)).map (·.2)
noncomputable def bK (kvs:List (κ × V)) (k : κ) (v:V):List (κ × V) :=
 if (kvs.any λkv=>decide (kv.1=k))=true then kvs.map (λkv=>if kv.1=k then (kv.1,v) else kv) else kvs++[(k,v)]
theorem eM {p : κ × V}{r:List (κ × V)}{k : κ}(e:p.1=k):bE (p::r) k=some p.2:=by simp[bE,He,e]
theorem eN {p : κ × V}{r:List (κ × V)}{k : κ}(e : ¬ p.1=k):bE (p::r) k=bE r k:=by simp[bE,He,e]
theorem lc (k : κ):∀ kvs:List (κ × V),(kvs.any λkv=>decide (kv.1=k))=(bE kvs k).isSome
 |[]=>rfl
 | p::r=>by
   rw[Ij]
   by_cases e:p.1=k
   ·simp only[eM e,decide_eq_true e,Bool.true_or,MR]
   ·rw[eN e,decide_eq_false e,KL];exact lc k r
theorem gx (kvs:List (κ × V))(k : κ)(v:V):(bK kvs k v).length<=kvs.length+1:=by
 unfold bK
 split
 ·rw[FO];lia
 ·rw[FW,FR,HA];lia
theorem RelO.isSome_eq {o:Option V}{u:Option h8}(r:RelO o u):o.isSome=u.isSome:=by
 cases o with
 | none=>cases u with
   |none=>rfl
   |some _=>exact(show False from r).elim
 | some _=>cases u with
   |none=>exact(show False from r).elim
   |some _=>rfl
theorem KV.val {kvs:List (κ × V)}{vs:List (κ × h8)}(r:KV kvs vs)(k : κ):RelO (bE kvs k) (Ml vs k):=by
 unfold KV at r
 induction r with
 |nil=>exact IK
 |@cons p q ps qs h t ih =>
  obtain⟨h1,h2⟩:=h
  by_cases e:p.1=k
  ·have e':q.1=k:=h1.symm.trans e;have b:Ml (q::qs) k=some q.2:=by simp[Ml,He,e']
   rw[eM e,b];exact h2
  ·have e' : ¬ q.1=k:=λz=>e (h1.trans z);have b:Ml (q::qs) k=Ml qs k:=by simp[Ml,He,e']
   rw[eN e,b];exact ih
theorem KV.any {kvs:List (κ × V)}{vs:List (κ × h8)}(r:KV kvs vs)(k : κ):(kvs.any λkv=>decide (kv.1=k))=vs.any λkv=>decide (kv.1=k):=by
 unfold KV at r
 induction r with
 |nil=>rfl
 |cons h t ih=>rw[Ij,Ij,ih,h.1]
theorem KV.repl {kvs:List (κ × V)}{vs:List (κ × h8)}(r:KV kvs vs)(k : κ)(ry:RelV y u) :
 KV (kvs.map λkv=>if kv.1=k then (kv.1,y) else kv) (vs.map λkv=>if kv.1=k then (kv.1,u) else kv):=by
 unfold KV at r ⊢
 induction r with
 |nil=>exact .nil
 |@cons p q ps qs h t ih =>
  rw[FY,FY];refine .cons ?_ ih;obtain⟨h1,h2⟩:=h
  by_cases e:p.1=k
  ·rw[if_pos e,if_pos (h1.symm.trans e)];exact⟨h1,ry⟩
  ·rw[if_neg e,if_neg (λz=>e (h1.trans z))];exact⟨h1,h2⟩
theorem KV.put {kvs:List (κ × V)}{vs:List (κ × h8)}(r:KV kvs vs)(k : κ)(ry:RelV y u):KV (bK kvs k y) (stored vs k u):=by
 unfold bK stored;rw[r.any k]
 by_cases e:(vs.any λkv=>decide (kv.1=k))=true
 ·rw[if_pos e,if_pos e];exact r.repl k ry
 ·rw[if_neg e,if_neg e];exact Paired.snoc r ⟨rfl,ry⟩
theorem KV.length {kvs:List (κ × V)}{vs:List (κ × h8)}(r:KV kvs vs):kvs.length=vs.length:=Ja r
end
theorem pD {k:Key}(r:RelV (kV k) u):(aV P w).is k u=true:=by
 cases k with
 |inl i=>obtain⟨t,e⟩:=(show ∃ t,u=IU i t from r);subst e;exact nD P w i t
 |inr x=>obtain⟨t,e⟩:=(show ∃ t,u=Mf x t from r);subst e;exact nE P w x t
theorem jG {P:FT}{w:G8}:∀ {ks:List Key} {us:List h8},Vals (ks.map kV) us->ItemsAre (aV P w) ks us
 |[],_,r=>by rw[HC]at r;cases r;exact .nil
 | k::ks,_,r=>by
   rw[FY]at r
   cases r with
   |cons h t=>exact .cons (pD h) (jG t)
noncomputable abbrev KT (H:Hp):List (List Key×V)->List (List Key×Addr×h8)->Prop:=GZ λp q=>p.1=q.1/\H q.2.1=some (.tup (p.1.map kV))/\RelV p.2 q.2.2
theorem KT.val (r:KT H kvs xs)(k:List Key):RelO (bE kvs k) ((O0 xs k).map (·.2)):=by
 induction r with
 |nil=>exact IK
 |@cons p q ps qs h t ih =>
  obtain⟨h1,_,h2⟩:=h
  by_cases e:p.1=k
  ·have e':q.1=k:=h1.symm.trans e;have b:O0 (q::qs) k=some q.2:=by simp[O0,He,e']
   rw[eM e,b];exact h2
  ·have e' : ¬ q.1=k:=λz=>e (h1.trans z);have b:O0 (q::qs) k=O0 qs k:=by simp[O0,He,e']
   rw[eN e,b];exact ih
theorem KT.repl (r:KT H kvs xs)(k:List Key)(ry:RelV y u) :
 KT H (kvs.map λkv=>if kv.1=k then (kv.1,y) else kv) (xs.map (putAt k u)):=by
 induction r with
 |nil=>exact .nil
 |@cons p q ps qs h t ih =>
  rw[FY,FY];refine .cons ?_ ih;obtain⟨h1,h2,j⟩:=h;unfold putAt
  by_cases e:p.1=k
  ·rw[if_pos e,if_pos (h1.symm.trans e)];exact⟨h1,h2,ry⟩
  ·rw[if_neg e,if_neg (λz=>e (h1.trans z))];exact⟨h1,h2,j⟩
theorem KT.put (r:KT H kvs xs)(k:List Key)(j:H b=some (.tup (k.map kV)))(ry:RelV y u) :
 KT H (bK kvs k y) (storedH xs k b u):=by
 have e:(kvs.any λkv=>decide (kv.1=k))=(O0 xs k).isSome:=by
  rw[lc,(r.val k).isSome_eq,Option.isSome_map]
 unfold bK storedH;rw[e]
 by_cases q:(O0 xs k).isSome=true
 ·rw[if_pos q,if_pos q];exact r.repl k ry
 ·rw[if_neg q,if_neg q];exact Paired.snoc r ⟨rfl,j,ry⟩
theorem KT.keeps (r:KT H kvs xs)(j:∀ b ys,H b=some (.tup ys)->H' b=some (.tup ys)):KT H' kvs xs :=
 OP r λ_ _ z=>⟨z.1,j _ _ z.2.1,z.2.2⟩
section
variable {P:FT} {w:G8} {H:Hp} {h:Heap} {a:Addr}
theorem wd {u:HO}(ok:HOk P w H h)(e:Rd H a u):ObjOk P w H h a u:=e.ok ok
theorem pE {kvs:List (Key×V)}(ok:HOk P w H h)(e:Rd H a (.dK kvs)):kvs.length<=Fz/\(a==Iv)=false /\ ∃ vs,KV kvs vs/\h.DictOf (aV P w) a vs :=
 show ObjOk P w H h a (.dK kvs) from wd ok e
theorem B9 {kvs:List (Key×V)}(ok:HOk P w H h)(e:H a=some (.dK kvs)):kvs.length<=Fz/\(a==Iv)=false /\ ∃ vs,KV kvs vs/\h.DictOf (aV P w) a vs:=pE ok (.inl e)
theorem ld {ks:List Key}(ok:HOk P w H h)(e:H a=some (.tup (ks.map kV))):(Mg (aV P w)).is h ks a:=by
 obtain⟨_,its,r,o,h1,h2,n,j⟩:=(show ObjOk P w H h a (.tup (ks.map kV)) from ok a _ e);exact⟨o,its.toArray,n,h1,h2,j,by simpa using jG r⟩
theorem pF (ok:HOk P w H h)(e:Rd H a (.dT kvs)):kvs.length<=Fz/\(a==Iv)=false /\
 ∃ xs,KT H kvs xs/\h.DictOfH (Mg (aV P w)) a xs:=by
 obtain⟨z,y,xs,r,o,es,ep,h1,h2,j,F,J⟩:=(show ObjOk P w H h a (.dT kvs) from wd ok e);refine⟨z,y,xs,r,o,es,ep,h1,h2,j,F,λx hx=>?_,J⟩;have all:∀ {l:List (List Key×V)} {m:List (List Key×Addr×h8)},KT H l m -> ∀ x∈m,(Mg (aV P w)).is h x.1 x.2.1:=by
  intro l m q
  induction q with
  |nil=>intro x hx;exact nomatch hx
  |@cons p q ps qs hq t ih =>
   intro x hx
   rcases FA.mp hx with e|hx
   ·subst e;exact ld ok (by rw[<- hq.1];exact hq.2.1)
   ·exact ih x hx
 exact all r x hx
theorem Ba (ok:HOk P w H h)(e:H a=some (.dT kvs)):kvs.length<=Fz/\(a==Iv)=false /\
 ∃ xs,KT H kvs xs/\h.DictOfH (Mg (aV P w)) a xs:=pF ok (.inl e)
end
def DGet (H:Hp) (a:Addr) (y:V) (r:Option V):Prop :=
 (∃ kvs k,Rd H a (.dK kvs)/\y=kV k/\r=bE kvs k)∨∃ kvs k b,Rd H a (.dT kvs)/\y = .ref b/\H b=some (.tup (k.map kV))/\r=bE kvs k
def DPut (H:Hp) (a:Addr) (y v:V) (H':Hp):Prop :=
 (∃ kvs k,H a=some (.dK kvs)/\y=kV k/\kvs.length<Fz/\H'=upd H a (.dK (bK kvs k v))) ∨
 ∃ kvs k b,H a=some (.dT kvs)/\y = .ref b/\H b=some (.tup (k.map kV))/\kvs.length<Fz/\H'=upd H a (.dT (bK kvs k v))
theorem DGet.k {kvs:List (Key×V)}{k:Key}(e:H a=some (.dK kvs)):DGet H a (kV k) (bE kvs k):=.inl ⟨kvs,k,.inl e,rfl,rfl⟩
theorem DPut.k {kvs:List (Key×V)}{k:Key}{v:V}(e:H a=some (.dK kvs))(j:kvs.length<Fz):DPut H a (kV k) v (upd H a (.dK (bK kvs k v))):=.inl ⟨kvs,k,e,rfl,j,rfl⟩
theorem DPut.t {k:List Key}{v:V}(e:H a=some (.dT kvs))(eb:H b=some (.tup (k.map kV)))(j:kvs.length<Fz) :
 DPut H a (.ref b) v (upd H a (.dT (bK kvs k v))):=.inr ⟨kvs,k,b,e,rfl,eb,j,rfl⟩
section
variable {X:Cx} {pins:List (Addr×Obj)} {σ:St} {H:Hp} {s:Ft} {a:Addr} {y v:V} {u r:h8} {o:Option V} {A:G3} {E:h8->Ft->Prop}
theorem rG {Q:h8->Ft->Prop}(F:A.units+1<LP)(I:Inv X pins σ H s)(g:DGet H a y (some v))(ry:RelV y u)(h:∀ w' s',Inv X pins σ H s'->RelV v w'->Q w' s') :
 FG (model X.prog X.w) A (Lm (.ref a) u) Q E s:=by
 rcases g with⟨kvs,k,e,ey,l⟩|⟨kvs,k,b,e,ey,eb,l⟩
 ·subst ey;obtain⟨z,hd,vs,rel,dd⟩:=pE I.hok e;obtain⟨w',hw,rw'⟩:=OT (v:=v) (o:=Ml vs k) (by rw[l];exact rel.val k)
  exact wpAny_getItem_of (pD ry) dd.mapOf hw (h w' _ (I.tok _) rw')
 ·subst ey
  cases (show u=G5 b from ry)
  obtain⟨z,hd,xs,rel,dd⟩:=pF I.hok e;obtain⟨w',hw,rw'⟩:=OT (v:=v) (o:=(O0 xs k).map (·.2)) (by rw[l];exact rel.val k)
  obtain⟨p,J,j⟩:=Option.map_eq_some_iff.mp hw;refine wpAny_getItem_heap (MU F) (ld I.hok eb) dd J ?_;rw[j];exact h w' _ (I.tok _) rw'
theorem nY {t':Nat}{ob:HO}(I:Inv X pins σ H s)(mu:Mut (H a))(j:GK a s.heap h')(he:∃ q,h'.get? a=some q)(new:ObjOk X.prog X.w (upd H a ob) h' a ob) :
 Inv X pins σ (upd H a ob) { s with heap:=h',toks:=t' } :=
 I.write (x:=a) (e:=a) mu (.inl rfl) (λb q F z=>(j.2 b F).trans z) he new
theorem zw {kvs:List (Key×V)}{vs:List (Key×h8)}(z:kvs.length<=Fz)(hd:(a==Iv)=false)(rel:KV kvs vs)(dd:h'.DictOf (aV P w) a vs) :
 ObjOk P w H' h' a (.dK kvs):=⟨z,hd,vs,rel,dd⟩
theorem rH {Q:Unit->Ft->Prop}(O:A.units+1<LP)(I:Inv X pins σ H s)(g:DPut H a y v H')(ry:RelV y u)(rv:RelV v r)(h:∀ s',Inv X pins σ H' s'->Q () s') :
 FG (model X.prog X.w) A (setItem (.ref a) u r) Q E s:=by
 rcases g with⟨kvs,k,e,ey,l,eH⟩|⟨kvs,k,b,e,ey,eb,l,eH⟩
 ·subst ey eH;obtain⟨z,hd,vs,rel,dd⟩:=B9 I.hok e;have F:vs.length<=Fz:=by rw[<- rel.length];exact z
  have J:(bK kvs k v).length<=Fz:=by have:=gx kvs k v;lia
  refine wpAny_setItem_pairs (hsz:=F) (pD ry) dd λh' dd' L=>h _ ?_;have he:∃ q,h'.get? a=some q:=let ⟨q,_,_,j,_⟩:=dd'; ⟨q,j⟩;exact nY I (by rw[e];exact IK) L he (zw J hd (rel.put k rv) dd')
 ·subst ey eH
  cases (show u=G5 b from ry)
  obtain⟨z,hd,xs,rel,dd⟩:=Ba I.hok e;have F:xs.length<=Fz:=by rw[<- Ja rel];exact z
  have J:(bK kvs k v).length<=Fz:=by have:=gx kvs k v;lia
  refine wpAny_setItem_heap (hsz:=F) (MU O) (ld I.hok eb) dd λh' dd' L=>h _ ?_;obtain⟨q,es,ep,j,h2,U,Y,_,Z⟩:=dd';refine nY I (by rw[e];exact IK) L ⟨q,j⟩ ⟨J,hd,_,(rel.put k eb rv).keeps λc ys ec=>?_,q,es,ep,j,h2,U,Y,Z⟩
  rw[ag (AT ec e (λz=>nomatch z))];exact ec
end
def IsD (H:Hp) (a:Addr):Prop:=(∃ kvs,Rd H a (.dK kvs))∨∃ kvs,Rd H a (.dT kvs)
theorem zx (I:Inv X pins σ H s)(d:IsD H a) :
 s.TypeIs (.ref a) "dict" /\ (∀ b,G5 a = .ref b -> ∃ ob,s.heap.get? b=some ob/\ob.dict=none)/\(a==Iv)=false:=by
 rcases d with⟨kvs,e⟩|⟨kvs,e⟩
 ·obtain⟨_,hd,vs,_,dd⟩:=pE I.hok e;refine⟨dd.typeIs,λb q=>?_,hd⟩
  cases q
  obtain⟨ob,_,_,h1,h2,_⟩:=dd;exact⟨ob,h1,h2.2.1⟩
 ·obtain⟨_,hd,xs,_,dd⟩:=pF I.hok e;refine⟨dd.typeIs,λb q=>?_,hd⟩
  cases q
  obtain⟨ob,_,_,h1,h2,_⟩:=dd;exact⟨ob,h1,h2.2.1⟩
end
variable {base:Heap}{env:Env}{outer:List Env}{L e:Addr}{cls:h8}
section
structure Exc (h:Heap) (e:Addr) (cls:h8) (hd:Option Addr) (dd:Option Addr:=none):Prop where
 obj:∃ oe vs,h.get? e=some oe/\oe.cls=cls/\oe.dict=dd/\oe.data = .fields vs/\vs[1]? = some (match hd with|none=>Gv|some T=>.ref T)
 way:∀ T,hd=some T->T≠e /\ ∃ oT ts,h.get? T=some oT/\oT.data = .fields ts/\ts[3]? = some .none
structure Lft (fs:List Addr) (e:Addr) (hd:Option Addr) (h h':Heap):Prop where
 keep:∀ b o,b≠e->some b≠hd->b∉fs->h.get? b=some o->h'.get? b=some o
 slot:∀ b o,b≠e->some b≠hd->h.get? b=some o -> ∃ sl,h'.get? b=some { o with slots:=sl }
 lt:h.objs.size<=h'.objs.size
theorem j9 (o:Obj)(f:Array h8->Array h8):(o.mapFields f).dict=o.dict:=by
 obtain⟨c,d,dt,sl⟩:=o
 cases dt <;> rfl
section
variable {M:Kd} {A:G3} {E:h8->Ft->Prop} {s:Ft} {dd:Option Addr}
theorem lf {oe:Obj}{vs:Array h8}{head:h8}{b:Bool}{Q:Unit->Ft->Prop}(z:A.frames=some (env::outer))(hl:s.heap.FunFrames base (env::outer))(hf:env.frame=some L)(he:s.heap.get? e=some oe)(hc:oe.cls=cls)(F:oe.dict=dd)(hd:oe.data = .fields vs)(J : 1<vs.size)(q:∀ h' T,Lft (frs (env::outer)) e none s.heap h'->Exc h' e cls (some T) dd->s.heap.get? T=none->Q () { s with heap:=h' }) :
 FG M A (do let a <- frameOf env;let pl <- entryPlaceOf L b;let t <- Mp head a .none (HR L) .none pl;setField (.ref e) 1 t) (λ_ s'=>FG M A (L5 (.ref e) none) Q E s') E s:=by
 have O:e∉frs (env::outer):=λhm=>by
  obtain⟨_,o,ho,U⟩:=hl.mem hm;rw[he]at ho;cases ho;exact U vs hd
 refine gV (wpAny_frameOf_fun z hl hf λh1 g9=>?_);obtain⟨z1,z2,z3⟩:=g9;refine gV (wpAny_entryPlaceOf λpl Y=>?_);unfold Mp newFields;refine gV (H8 ?_ (Y.sizeOk5 _ _ _ _ _));generalize hO:({ cls:=.type "traceback",dict:=none,data:=.fields ([head,.ref L,.none,HR L,.none]++(if pl.isEmpty then Fw 6 Gv else pl)).toArray }:Obj)=oT
 have dT:∃ ts,oT.data = .fields ts/\3<ts.size:=⟨_,by rw[<- hO],by simp only[FJ,FW,FR];lia⟩
 clear hO;obtain⟨ts,dT,lT⟩:=dT;have e1:h1.get? e=some oe:=(z2 e O).trans he;have e2:(h1.push oT).get? e=some oe:=td _ e1;refine IM e2 hd J ?_;have nT:h1.objs.size≠e:=HZ (FF e1);have d3:=HJ hd (·.setIfInBounds 1 (G5 h1.objs.size));have e3:=Gg (Ik (·.setIfInBounds 1 (G5 h1.objs.size))) e2 (Hk d3);have t3:((h1.push oT).update e (Ik (·.setIfInBounds 1 (G5 h1.objs.size)))).get? h1.objs.size=some oT:=by
  rw[Gc _ _ (Ne.symm nT)];exact FK h1 (Hk dT)
 unfold L5;refine gV (G9 e3 d3 (x:=.ref h1.objs.size) (by simp[J]) ?_)
 rw[if_pos (show (G5 h1.objs.size != Gv)=true by simp)]
 refine IM t3 dT lT ?_;have d4:=HJ dT (·.setIfInBounds 3 ((none:Option Addr).elim Gv λf=>HR f));have t4:=Gg (Ik (·.setIfInBounds 3 ((none:Option Addr).elim Gv λf=>HR f))) t3 (Hk d4);have kp:∀ b o,b≠e->h1.get? b=some o->(((h1.push oT).update e (Ik (·.setIfInBounds 1 (G5 h1.objs.size)))).update h1.objs.size (Ik (·.setIfInBounds 3 ((none:Option Addr).elim Gv λf=>HR f)))).get? b=some o:=λb o j h=>by
  rw[Gc _ _ (HZ (FF h)),Gc _ _ (Ne.symm j)];exact td _ h
 refine q _ h1.objs.size ⟨λb o j _ Z h=>kp b o j ((z2 b Z).trans h),λb o j _ h=>?_,?_⟩ ⟨⟨_,_,?_,?_,?_,d3,by simp[J]⟩,λT hT=>?_⟩ ?_
 ·obtain⟨sl,h2⟩:=z3 b o h;exact⟨sl,kp b _ j h2⟩
 ·rw[IY,IY,Gz,z1];exact KA _
 ·rw[Gc _ _ nT];exact e3
 ·rw[Np];exact hc
 ·rw[j9];exact F
 ·cases hT
  refine⟨nT,_,_,t4,d4,?_⟩;simp[lT]
 ·exact JP (by rw[z1];exact FE _)
theorem nZ {hd:Option Addr}{Q:Unit->Ft->Prop}(O:A.frames=some (env::outer))(hl:s.heap.FunFrames base (env::outer))(hf:env.frame=some L)(x:Exc s.heap e cls hd dd)(q:∀ h' T,Lft (frs (env::outer)) e hd s.heap h'->Exc h' e cls (some T) dd->s.heap.get? T=none->Q () { s with heap:=h' }) :
 FG M A (Mm (.ref e) env) (λ_ s'=>FG M A (L5 (.ref e) none) Q E s') E s:=by
 obtain⟨⟨oe,vs,he,hc,U,dv,h1⟩,way⟩:=x;have hz : 1<vs.size:=(IP.mp h1).1;unfold Mm;simp only[hf];refine gV (G9 he dv h1 ?_)
 cases hd with
 | none =>
   rw[if_neg (by decide)]
   exact lf O hl hf he hc U dv hz q
 | some T =>
   obtain⟨nT,oT,ts,Y,dT,h3⟩:=way T rfl;dsimp only;rw[if_pos (show (G5 T != Gv)=true by simp)]
   refine gV (G9 Y dT h3 ?_);rw[if_neg (show ¬ ((Gv==HR L)=true) by simp[HR])]
   refine gV (IM Y dT (IP.mp h3).1 ?_);have ot:∀ b,b≠T->(s.heap.update T (Ik (·.setIfInBounds 3 Gv))).get? b=s.heap.get? b:=λb j=>Gc _ _ (Ne.symm j);have nr:∀ b o,s.heap.get? b=some o->(∀ vs,o.data ≠ .fields vs)->b≠T:=λb o j F z=>by
    rw[z,Y]at j;cases j;exact F ts dT
   refine lf (s:={ s with heap:=s.heap.update T (Ik (·.setIfInBounds 3 Gv)) }) O (hl.of_keeps λb o j F=>⟨o,(ot b (nr b o j F)).trans j,rfl⟩) hf ((ot e (Ne.symm nT)).trans he) hc U dv hz λh' Z l x J=>q h' Z ⟨λb o j F EI h=>?_,λb o j F h=>?_,?_⟩ x ?_
   ·exact l.keep b o j (by simp) EI ((ot b λz=>F (by rw[z])).trans h)
   ·exact l.slot b o j (by simp) ((ot b λz=>F (by rw[z])).trans h)
   ·have:=l.lt
    rwa[IY]at this
   ·by_cases z:Z=T
    ·subst z;rw[Gg _ Y (Hk (HJ dT _))]at J;cases J
    ·rw[<- ot Z z];exact J
theorem ul {hd:Option Addr}{Q:Unit->Ft->Prop}(j:A.frames=some (env::outer))(z:s.heap.FunFrames base (env::outer))(hf:env.frame=some L)(x:Exc s.heap e cls hd dd)(q:∀ h' T,Lft (frs (env::outer)) e hd s.heap h'->Exc h' e cls (some T) dd->s.heap.get? T=none->Q () { s with heap:=h' }):FG M A (leaving env (.ref e)) Q E s:=by
 unfold leaving;exact gV (nZ j z hf x q)
theorem rJ {T:Addr}{Q:Unit->Ft->Prop}(x:Exc s.heap e cls (some T) dd)(q:∀ h',GK T s.heap h'->Exc h' e cls (some T) dd->Q () { s with heap:=h' }):FG M A (L5 (.ref e) none) Q E s:=by
 obtain⟨⟨oe,vs,he,L,j,dv,h1⟩,way⟩:=x;obtain⟨nT,oT,ts,F,dT,O⟩:=way T rfl;have J : 3<ts.size:=(IP.mp O).1;unfold L5;refine gV (G9 he dv h1 ?_);rw[if_pos (show (G5 T != Gv)=true by simp)]
 refine IM F dT J ?_;have d4:=HJ dT (·.setIfInBounds 3 ((none:Option Addr).elim Gv λf=>HR f));have U:=Gg (Ik (·.setIfInBounds 3 ((none:Option Addr).elim Gv λf=>HR f))) F (Hk d4);refine q _ (.update ..) ⟨⟨oe,vs,(Gc _ _ nT).trans he,L,j,dv,h1⟩,λT' z=>?_⟩
 cases z
 exact⟨nT,_,_,U,d4,by simp[J]⟩
end
end
variable {K:Frag}{h:Heap}{C:Addr}
section
noncomputable abbrev vbm:List h8:=[.type "ValueError",.type "Exception",.type "BaseException",.type "object"]
theorem xb {bmB:List h8}{newId:String}(X:K.In h)(q:KN K C bmB newId=true):∃ bm N nm qn bs hd sn sub ab col dd k0 k1 k2 k3 k5 mN,
 h.get? C=some (Iu nm qn C N bs bm hd sn sub ab col dd k0 k1 k2 k3 k5 newId)/\h.Ns N mN/\mN "__init__" = none/\Nq h bmB bm:=by
 unfold KN at q
 split at q
 ·next dd cd sl ho =>
  split at q
  ·next C' bm k0 k1 k2 k3 n k5 hm F =>
   simp only[hX,beq_iff_eq,G2]at q;obtain⟨⟨⟨⟨⟨rfl,rfl⟩,j⟩,J⟩,hok⟩,z⟩:=q
   cases cd
   cases sl
   dsimp only at hm j hok z F;subst hm j F;exact⟨bm,_,_,_,_,_,_,_,_,_,dd,k0,k1,k2,k3,k5,_,X _ _ ho,.of_isNs (Kn X hok),PySem.W.nsMap_none_of_in X hok z,MV X J⟩
  ·cases q
 ·cases q
end
section
theorem ObjOk.obj {o:HO}(x:ObjOk P w H h a o):∃ u,h.get? a=some u:=by
 cases o with
 |lst xs=>obtain⟨_,_,_,_,e⟩:=x;exact⟨_,e⟩
 |tup xs=>obtain⟨_,_,_,_,e,_⟩:=x;exact⟨_,e⟩
 |dK kvs=>obtain⟨_,_,_,_,o,_,_,e,_⟩:=x;exact⟨_,e⟩
 |dT kvs=>obtain⟨_,_,_,_,o,_,_,e,_⟩:=x;exact⟨_,e⟩
 |set S n=>obtain⟨o,_,_,_,e,_⟩:=x;exact⟨_,e⟩
 |ins C dx fs=>obtain⟨_,_,_,e,_⟩:=x;exact⟨_,e⟩
 |own y=>exact x
 |xd fs=>obtain⟨_,⟨_,_,_,e,_⟩,_⟩:=x;exact⟨_,e⟩
 |rng lo hi=>obtain⟨_,_,_,e⟩:=x;exact⟨_,e⟩
 |frz ob u=>obtain⟨e,_⟩:=x;exact⟨_,e⟩
 |tbl ps=>exact⟨_,x⟩
 |met f y=>exact⟨_,x⟩
 |ext φ=>obtain⟨_,e,_⟩:=x;exact e
theorem HOk.no (x:HOk P w H h)(n:h.get? a=none):H a=none:=by
 cases e:H a with
 |none=>rfl
 |some o=>obtain⟨u,j⟩:=(x a o e).obj;rw[n]at j;cases j
end
variable {i:Nat}{M:Kd}{A:G3}{pos:Pos}
section
section
variable {X:Cx} {pins:List (Addr×Obj)} {σ:St} {H:Hp} {s:Ft}
theorem rK {n:Str}{v0:Option h8}{m:Str->Option h8}{tk:Nat}(I:Inv X pins σ H s)(hN:X.N.Nodup)(hi:X.N[i]? = some n)(hk:X.env.scope.names.lookup n=some .local)(hn:s.heap.Ns X.env.locals m)(hm:∀ (j:Nat) (y:Str) (v:V),X.N[j]? = some y -> σ[j]? = some (some v)->Vis X.env.scope y -> ∃ u,RelV v u/\yS X.env s.heap m y u)(U:h'.Ns X.env.locals λx=>if x=n then v0 else m x)(F:GK X.env.locals s.heap h'):Inv X pins (σ.set i none) H { s with heap:=h',toks:=tk }:=by
 have Y:i<σ.length:=by rw[I.len];exact(G0.mp hi).1
 have cne:=I.cne;have ab:∀ b o,X.s₀.heap.get? b=some o->b≠X.env.locals:=λb o e=>Gb (FV (FF e) I.ok.above);refine⟨I.ok,I.os,I.bare,⟨λb o e n Z hx=>(F.2 b (ab b o e)).trans (I.base.keep b o e n Z hx),λb o e n Z hx=>?_,I.base.free,λb o e hx=>?_,I.base.tups,I.base.frzs,I.base.tbls⟩,⟨_,U,λj y v J L e3=>?_⟩,λy c e=>?_,I.free,I.freeC,λp hp=>?_,λa o ha=>?_,by simpa using I.len⟩
 ·obtain⟨sl,J⟩:=I.base.slot b o e n Z hx;exact⟨sl,(F.2 b (ab b o e)).trans J⟩
 ·obtain⟨o',J⟩:=I.base.there b o e hx;exact⟨o',(F.2 b (ab b o e)).trans J⟩
 ·have hj:j≠i:=fun z=>by
   rw[z,Gi Y]at L;cases L
  rw[HY (Ne.symm hj)]at L;obtain⟨u,r,q⟩:=hm j y v J L e3;refine⟨u,r,?_⟩
  rcases q with⟨k,e⟩|⟨k,c,e,z⟩
  ·refine .inl ⟨k,?_⟩;have:y≠n:=λe=>hj (gL hN J (e ▸ hi));simp[this,e]
  ·exact .inr ⟨k,c,e,z.sameBut F (cne y c e)⟩
 ·obtain⟨w',z⟩:=I.cell y c e;exact⟨w',z.sameBut F (cne y c e)⟩
 ·obtain⟨e,n,ne,nf,d⟩:=I.pin p hp;exact⟨(F.2 p.1 ne).trans e,n,ne,nf,d⟩
 ·refine(I.hok a o ha).stay (λc w' O q=>(F.2 c ?_).trans q) (λ_ q=>q) λ_ _ q=>q;rintro rfl
  rcases O with rfl|O
  ·rw[I.free]at ha;cases ha
  ·rw[I.free]at O;cases O
theorem xc {E:h8->Ft->Prop}{n:Str}{Q:Unit->Ft->Prop}(I:Inv X pins σ H s)(Z:X.N.Nodup)(hi:X.N[i]? = some n)(hk:X.env.scope.names.lookup n=some .local)(h:∀ s',Inv X pins (σ.set i none) H s'->Q () s'):FG M A (do Na X.env n .none;LR X.env n pos) Q E s:=by
 have j:(X.env.scope.kind == .class || (X.env.scope.kind == .module&&X.env.locals != X.env.globals))=false:=by rw[I.ok.kind];rfl
 refine gV (LM (dz (v:=.non) I Z hi (.inl hk) rfl (λs1 I1=>?_) (.inr hk)));unfold LR;refine JM ?_;unfold unbindName;refine gV (LU (gV ?_));unfold deleteName;have F:X.env.kindOf n=some .local:=hk;simp only[F,j];rw[if_neg (by decide)]
 obtain⟨m,hn,hl⟩:=id I1.loc;have L:i<σ.length:=by rw[I.len];exact(G0.mp hi).1
 have O:(m n).isSome=true:=by
  obtain⟨u,_,q⟩:=hl i n .non hi (by rw[Gi L]) (.inl hk)
  rcases q with⟨_,e⟩|⟨z,_⟩
  ·rw[e];rfl
  ·rw[F]at z
   rcases z with z|z <;> cases z
 refine gV (wpAny_nsDel_keeps hn λh2 v0 U Y=>?_);rw[O];simp only[if_true,Bool.not_true,Iy,if_false];have J:=rK (tk:=s1.toks) I1 Z hi hk hn hl U Y;rw[List.set_set]at J;exact Fv (LU (h _ J))
end
end
section
section
variable {prog:FT} {w:G8} {A:G3} {E:h8->Ft->Prop} {h:Heap} {g:Array KS} {d:Drawn} {t:Nat} {os:Oi} {a C:Addr} {o:Obj} {od:Option Obj} {K:Frag}
theorem rL {tk:Tok}{Q:Fin->Ft->Prop}(X:K.In h)(I:HG h a o C od)(hf:Ji K C od "__class__" = some (.bind (.builtin "getset_descriptor.__get__") (.builtin "object.__class__")))(hm:JJ K C (.type "object")=some true)(j:Q (.done (.ret (.ref C))) ⟨h,g,d,t,os⟩):FG (model prog w) A (Jj.«object.__getattribute__» ⟨[.ref a,.str "__class__" tk],[]⟩) Q E ⟨h,g,d,t,os⟩:=by
 have L0:=I.type (M:=model prog w);have L1:=MW (M:=model prog w) X I hf;refine gV (Fv (gV (Fv (gV (L0.at (gV (L1.at ?_)))))));show FG _ _ (Kw (.builtin "getset_descriptor.__get__") (.builtin "object.__class__") (.ref a) (.ref C)) _ _ _;unfold Kw;dsimp only;refine gV (Gp (JD (PySem.W.class_get X I hm ?_)));exact Fv j
theorem lg (X:K.In h)(I:HG h a o C od)(z:JN K (.ref C) (.type "BaseException")=some true)(M:Kd)(A:G3)(E:h8->Ft->Prop)(nameV:h8)(R:Unit->Ft->Prop)(q:R () ⟨h,g,d,t,os⟩) :
 FG M A (IZ "BaseException.__getattribute__" ⟨[.ref a,nameV],[]⟩) R E ⟨h,g,d,t,os⟩:=by
 have hk:builtinKind "BaseException.__getattribute__" = some .slot:=by decide +kernel
 have j:splitId "BaseException.__getattribute__" = some ("BaseException","__getattribute__"):=by decide +kernel
 have J:=F.args_bexc_ga (.ref a) nameV;have LI:PySem.W.Looks M h (MX (.ref a) (.type "BaseException")) true:=I.type.andThen (Mq X z);simp only[IZ,hk,j];refine gV (LI.at ?_)
 repeat (any_goals (first|assumption|wp_step))
theorem zy {tk:Tok}{fill expr:Bool}{Q:h8->Ft->Prop}(X:K.In h)(I:HG h a o C od)(j:Gw K (.ref C) "__getattribute__" = some (some (.builtin "BaseException.__getattribute__")))(z:Gw K (.ref C) "__getattr__" = some none)(hf:Ji K C od "__class__" = some (.bind (.builtin "getset_descriptor.__get__") (.builtin "object.__class__")))(hm:JJ K C (.type "object")=some true)(J:∀ (M:Kd) (A:G3) (E:h8->Ft->Prop) (nameV:h8) (R:Unit->Ft->Prop),R () ⟨h,g,d,t,os⟩->FG M A (IZ "BaseException.__getattribute__" ⟨[.ref a,nameV],[]⟩) R E ⟨h,g,d,t,os⟩)(O:Q (.ref C) ⟨h,g,d,t,os⟩):FG (model prog w) A (NM (.ref a) (.str "__class__" tk) fill expr) Q E ⟨h,g,d,t,os⟩:=by
 have L0:=I.type (M:=model prog w);have L1:=IQ (M:=model prog w) X j;have L2:=IQ (M:=model prog w) X z;unfold NM;refine Gp (gV (L0.at (gV (L1.at ?_))));show FG _ _ (JY _ _ _ _ _ _) _ _ _;unfold JY;have U:=F.attrBase_ValueError.ga.bind (.ref a);have L:(expr&&onTheHeap (Value.builtin "BaseException.__getattribute__"))=false:=by cases expr <;> rfl
 repeat (any_goals (first|assumption|with_reducible refine L2.at ?_|wp_step))
 refine Ht F.attrBase_ValueError.ga.plain Od (J _ _ _ _ _ (rL X I hf hm ?_))
 repeat (any_goals (first|assumption|wp_step))
structure lh (K:Frag) (C:Addr):Prop where
 ga:Gw K (.ref C) "__getattribute__" = some (some (.builtin "BaseException.__getattribute__"))
 gn:Gw K (.ref C) "__getattr__" = some none
 fo:∀ od,Ji K C od "__class__" = some (.bind (.builtin "getset_descriptor.__get__") (.builtin "object.__class__"))
 mr:JJ K C (.type "object")=some true
 sb:JN K (.ref C) (.type "BaseException")=some true
 cl:(My K C).isSome=true
theorem um (Z:lh K C):PySem.W.KitX K (.ref a) (.ref C) (λh=>∃ o od,HG h a o C od) where
 ty:=λ_ _ _ ⟨o,_,I⟩=>I.type
 it:=λ_ _ X _=>by
  have j:=Z.cl;unfold My at j
  split at j
  ·next c' d' cd' sl' ho =>
   intro A' Q' E' s' k q;unfold isType loadHead;exact gV (wpAny_loadPart (k _ _ (X _ _ ho)) (Fv q))
  ·cases j
 ne:=λh tp dd its n sl X F=>by
  have j:=Z.cl;refine II.mpr λq=>?_;have e:C=tp:=G5.inj (beq_iff_eq.mp q);subst e;unfold My at j
  split at j
  ·next c' d' cd' sl' ho =>
   have z:=(X _ _ ho).symm.trans F
   cases z
  ·cases j
 ca:=λ{prog w A E Q s} X I k=>by
  obtain⟨J,g,d,t,os⟩:=s;obtain⟨o,od,I⟩:=I;unfold getAttr? getAttrBy?;refine gV (wpAny_mkText (gV (JO (zy X I Z.ga Z.gn (Z.fo od) Z.mr (lg X I Z.sb) ?_))));exact Fv k
end
end
section
noncomputable def Cx.hld (X:Cx) (a:Addr):Cx:={ X with A:=X.A.mark (some (.ref a)),calm:=false,xe:=λ_ _=>False }
section
variable {X:Cx} {pins:List (Addr×Obj)} {σ:St} {H:Hp} {s:Ft} {a C:Addr}
theorem Inv.hld (I:Inv X pins σ H s)(a:Addr):Inv (X.hld a) pins σ H s :=
 ⟨⟨I.ok.mod,I.ok.kind,I.ok.glob,I.ok.blt,I.ok.above,I.ok.inj,I.ok.has,I.ok.cab,λz=>(by cases z),I.ok.frames,I.ok.stk,I.ok.exf,I.ok.bs,I.ok.bsz,I.ok.noex,I.ok.exfs,I.ok.funs,I.ok.frf⟩,I.os,I.bare,I.base,I.loc,I.cell,I.free,I.freeC,I.pin,I.hok,I.len⟩
theorem Inv.unhld (I:Inv (X.hld a) pins σ H s)(ok:X.Ok):Inv X pins σ H s:=⟨ok,I.os,I.bare,I.base,I.loc,I.cell,I.free,I.freeC,I.pin,I.hok,I.len⟩
noncomputable def cV:V->h8
 |.ref D=>.ref D
 |.ty T=>.type T
 |_=>.none
noncomputable def isC:V->Bool
 |.ref _=>true
 |.ty _=>true
 |_=>false
end
end
variable {es:List Expr}{x:Str}
section
section
variable {M:Kd} {A:G3} {E:h8->Ft->Prop} {h:Heap} {g:Array KS} {d:Drawn} {t:Nat} {os:Oi}
theorem nG {nm' qn':Str}{D N':Addr}{bs' bm':List h8}{z:Bool}{sn':List Str}{sub':List h8}{ab':Bool}{col':Option Bool}{dd':Option Addr}{F J L O U:Option h8}{newId':String}{oe:Obj}{Q:Bool->Ft->Prop}(LS:PySem.W.Looks M h (isSubtype (.ref C) (.ref D)) true)(Z:h.get? D=some (Iu nm' qn' D N' bs' bm' z sn' sub' ab' col' dd' F J L O U newId'))(he:h.get? e=some oe)(j:oe.cls = .ref C)(hb:bm'.contains (.type "BaseException")=true)(hq:Q true ⟨h,g,d,t,os⟩):FG M A (excMatches (.ref e) (.ref D)) Q E ⟨h,g,d,t,os⟩:=by
 have Y:(G5 D::bm').contains (.type "BaseException")=true:=by rw[Jo,hb,Ls]
 have f:=tc_notTuple;unfold excMatches
 repeat (first|(with_reducible refine Hw he ?_;rw[j])|with_reducible refine Hw Z ?_|(with_reducible refine K6 Z ?_;rw[Y])|(with_reducible refine LS.at ?_)|wp_step)
 exact hq
end
section
variable {X:Cx}
theorem PA.nox {t:TA}(h:PA X.nox es t):PA X es t:=λpos pins s σ H Q I hw =>
 Ga (h pos pins s σ H Q (I.wish _) hw) (λ_ _ ⟨vs,H',I',r,q⟩=>⟨vs,H',I'.unwish,r,q⟩) λ_ _ z=>False.elim z
theorem xf (j:Gl X x)(hm:X.mg x=some (.ref C))(hd:(x==("__debug__":Str))=false):PE X (.Name x pos) (tC (.ref C)) :=
 λpins s σ H Q I h=>cc I j hm ⟨.ref C,H,I,rfl,h⟩ hd
end
end
variable {ifs:List Expr}{elt target iter:Expr}{gens:List Gk}{scope:Scope}{d:Nat}{te:TE}{acc:h8}{g:TG}{it:Addr}{wi:TI}{pos':Pos}
section
noncomputable def aX (elt:Expr) (gens:List Gk) (scope:Scope) (pos:Pos) (d:Nat) (acc:h8) (env:Env) (k:Sem Fin):Sem Fin :=
 match gens[d+1]? with
 | some g'=>eval g'.iter env >>= fun x=>Jv g'.iter.pos >>= fun _=>H9 g'.iter env x >>= fun x=>holding [x] (MK x) >>= fun it' =>
    runOwn (.compStart (.ListComp elt gens scope pos) (d+1) it' acc env) env >>= λ_=>k
 |none=>(eval elt env >>= λx=>call (.builtin "list.append") [acc,x] >>= λ_=>pure ()) >>= λ_=>k
noncomputable def bg (ifs:List Expr) (env:Env):Sem Bool :=
 forIn ifs true λc r=>if r=true then do let ok <- isTrue c env (eval c env);pure (IE ok) else pure (IE r)
theorem lj (elt target iter:Expr)(ifs:List Expr)(gens:List Gk)(scope:Scope)(pos:Pos)(d:Nat)(it acc:h8)(env:Env)(hd:gens[d]? = some ⟨target,iter,ifs,0⟩)(j:∀ g',gens[d+1]? = some g'->g'.is_async=0) :
 compTurn (.ListComp elt gens scope pos) d it acc env=(Jv iter.pos >>= λ_=>Kg it >>= λr=>match r with
  |none=>pure (.done .next)
  | some v=>JV target it v >>= fun _=>assign target env v >>= fun _=>bg ifs env >>= fun ok =>
    (if ok=true then aX elt gens scope pos d acc env (again (.compLoop (.ListComp elt gens scope pos) d it acc env)) else again (.compLoop (.ListComp elt gens scope pos) d it acc env))):=by
 unfold compTurn;simp only[hd];unfold aX bg
 cases hn:gens[d+1]? with
 |none=>rfl
 | some g' =>
   obtain⟨t',i',f',a'⟩:=g';have e:a'=0:=j _ hn;subst e;rfl
noncomputable abbrev TC:=St->Hp->(St->Hp->Prop)->Prop
def fV (J:It) (g:TG) (tb:TC) (N:St->Hp->Prop) (σ:St) (H:Hp):Prop :=
 ∃ W:Nat->Nat->St->Hp->Prop,(∃ m,W 0 m σ H) /\ ∀ i m σ H,W i m σ H ->
  (J.stop i H/\N σ H)∨(J.go i H /\ ∃ N':St->Hp->Prop,(∀ σ' H',N' σ' H' -> ∃ m',m'<m/\W (i+1) m' σ' H') /\ ∀ x H',J.yld i H x H'->g x σ H' λσ2 H2=>tb σ2 H2 N')
def PB (X:Cx) (F:Sem Fin->Sem Fin) (t:TC):Prop :=
 ∀ (pins:List (Addr×Obj)) (s:Ft) (σ:St) (H:Hp) (N:St->Hp->Prop) (k:Sem Fin) (Q:Fin->Ft->Prop) (E:h8->Ft->Prop),Inv X pins σ H s->t σ H N ->
  (∀ s' σ' H',Inv X pins σ' H' s'->N σ' H'->FG (model X.prog X.w) X.A k Q E s')->FG (model X.prog X.w) X.A (F k) Q E s
section
variable {X:Cx}
theorem nox {α:Type}{m:Sem α}{Q : α -> Ft->Prop}{E:h8->Ft->Prop}(hx:∀ e s,X.xe e s->False)(h:FG (model X.prog X.w) X.A m Q X.xe s):FG (model X.prog X.w) X.A m Q E s :=
 Ga h (λ_ _ q=>q) λe s' q=>(hx e s' q).elim
noncomputable def ij (ts:List TT) (tb:TC):TC:=match ts with
 |[]=>tb
 |t::r=>λσ H N=>t σ H λb H1=>if b=true then ij r tb σ H1 N else N σ H1
theorem ik {env:Env}{M:Kd}{A:G3}{Q:Bool->Ft->Prop}{E:h8->Ft->Prop}{s:Ft}(h:Q false s):∀ ifs:List Expr,
 FG M A (forIn ifs false λc r=>if r=true then do let ok <- isTrue c env (eval c env);pure (IE ok) else pure (IE r)) Q E s
 |[]=>Fv h
 | c::r=>by
   rw[Jk];simp only[Iy,if_false];exact gV (Fv (ik h r))
theorem ll (hx:∀ e s,X.xe e s->False){tb:TC}{N:St->Hp->Prop}:∀ {ifs:List Expr} {ts:List TT},GZ (λc t=>PT X c t) ifs ts ->
 ∀ (pins:List (Addr×Obj)) (s:Ft) (σ:St) (H:Hp) (E:h8->Ft->Prop),Inv X pins σ H s->ij ts tb σ H N ->
 FG (model X.prog X.w) X.A (bg ifs X.env) (λok s'=>∃ H',Inv X pins σ H' s'/\if ok=true then tb σ H' N else N σ H') E s
 |_,_,.nil=>λpins s σ H E I h=>Fv ⟨H,I,by rw[if_pos rfl];exact h⟩
 | c::ifs,_,.cons (b:=t) F hr=>by
   intro pins s σ H E I h;have ih:=ll hx hr (tb:=tb) (N:=N) pins;unfold bg at ih ⊢;rw[Jk];simp only[if_true];refine gV (gV (nox hx (thn (F pins s σ H _ I h) λb s1 J=>?_)));obtain⟨H1,z,j⟩:=J;refine Fv ?_
   cases b with
   | false =>
     rw[if_neg Fu]at j;exact ik ⟨H1,z,by rw[if_neg Fu];exact j⟩ ifs
   | true =>
     rw[if_pos rfl]at j;exact ih s1 σ H1 E z j
theorem uo (hx:∀ e s,X.xe e s->False){F:Sem Fin->Sem Fin}{tb:TC}(J:PB X F tb){ts:List TT}(L:GZ (λc t=>PT X c t) ifs ts) :
 PB X (λk=>bg ifs X.env >>= λok=>if ok=true then F k else k) (ij ts tb):=by
 intro pins s σ H N k Q E I h hk;refine gV (thn (ll hx L pins s σ H E I h) λok s1 O=>?_);obtain⟨H1,z,j⟩:=O
 cases ok with
 | false =>
   rw[if_neg Fu]at j ⊢;exact hk s1 σ H1 z j
 | true =>
   rw[if_pos rfl]at j ⊢;exact J pins s1 σ H1 N k Q E z j hk
noncomputable def we (p:Addr) (te:TE):TC:=λσ H N=>te σ H λx H1=>∃ xs,H1 p=some (.lst xs)/\xs.length<Fz/\N σ (upd H1 p (.lst (xs++[x])))
theorem ja (hx:∀ e s,X.xe e s->False){p:Addr}(he:PE X elt te)(hd:gens[d+1]? = none) :
 PB X (aX elt gens scope pos d (.ref p) X.env) (we p te):=by
 intro pins s σ H N k Q E I h hk;unfold aX;rw[hd];refine gV (gV (nox hx (thn (he pins s σ H _ I h) λu s1 j=>?_)));obtain⟨x,H1,z,F,xs,J,l1,L⟩:=j;refine gV (nox hx (thn (jE (X:=X) pins s1 σ H1 (.ref p) [x] (.ref p) [u] (λ_ H2=>N σ H2) z rfl (.cons F .nil) ⟨p,xs,x,rfl,rfl,J,l1,L⟩) λv s2 j=>?_));obtain⟨_,H2,O,_,U⟩:=j;exact Fv (hk s2 σ H2 O U)
theorem jH (hx:∀ e s,X.xe e s->False)(hc:X.calm=true)(hd:gens[d]? = some ⟨target,iter,ifs,0⟩)(ha:∀ g',gens[d+1]? = some g'->g'.is_async=0)(hg:PG X target g){tb:TC}(j:PB X (λk=>bg ifs X.env >>= λok=>if ok=true then aX elt gens scope pos d acc X.env k else k) tb){N:St->Hp->Prop}{fp:List Addr}{tn:Nat->Heap->Prop}{J:It}(I:Inv X pins σ H s)(T:fq X.prog X.w X.K target J fp it tn)(t0:tn 0 s.heap)(f2:∀ b∈fp,bT X pins H b)(h:fV J g tb N σ H) :
 JK (model X.prog X.w) X.A (.compLoop (.ListComp elt gens scope pos) d (.ref it) acc X.env) (λr s'=>match r with|.ok _=>∃ σ' H',Inv X pins σ' H' s'/\N σ' H'|.error _=>False) s:=by
 obtain⟨W,⟨m0,w0⟩,turn⟩:=h;have stat:∀ {H':Hp},(∀ b∈fp,H' b=none) -> ∀ b∈fp,bT X pins H' b:=λhn b j=>⟨hn b j,(f2 b j).2⟩;refine codeAny_loop rfl (λn s'=>∃ i σ' H',Inv X pins σ' H' s'/\tn i s'.heap/\(∀ b∈fp,H' b=none)/\W i n σ' H') ?_ m0 ⟨0,σ,H,I,t0,λb j=>(f2 b j).1,w0⟩;rintro n s3 ⟨i,σ3,U,I3,L,O,w3⟩;show FG _ _ ((compTurn (.ListComp elt gens scope pos) d (.ref it) acc X.env).onRaise (λx=>do Mm x X.env;theTreesLotGoes x)) _ _ s3
 refine wpAny_noted ?_;rw[lj elt target iter ifs gens scope pos d (.ref it) acc X.env hd ha];refine gV (Gu (gV ?_));show FG (model X.prog X.w) X.A _ _ _ s3
 rcases turn i n σ3 U w3 with⟨stop,qn⟩|⟨go,N',hN,step⟩
 ·refine thn (T.done X rfl rfl rfl hc i pins s3 σ3 U _ I3 (stat O) L stop) λr s4 z=>?_;obtain⟨hr,I4⟩:=z;subst hr;exact Fv ⟨σ3,U,I4,qn⟩
 ·refine thn (T.item X rfl rfl rfl hc i pins s3 σ3 U _ I3 (stat O) L go) λr s4 z=>?_;obtain⟨u,hr,h4⟩:=z;subst hr;refine gV (thn h4 λ_ s5 z=>?_);obtain⟨x,H5,I5,r5,y5,F,Y⟩:=z;have Z:=I5.pinned (stat Y) (T.obj _ _ F);refine gV (nox hx (thn (hg _ s5 σ3 H5 x u _ Z r5 (step x H5 y5)) λ_ s6 z=>?_));obtain⟨σ6,H6,I6,q6⟩:=z;refine j _ s6 σ6 H6 N' (again (.compLoop (.ListComp elt gens scope pos) d (.ref it) acc X.env)) _ _ I6 q6 λs7 σ7 H7 I7 n7=>?_;obtain⟨m',hm,w7⟩:=hN σ7 H7 n7;refine Fv ⟨rfl,m',hm,i+1,σ7,H7,I7.unpinned,T.keep _ _ _ F λb j o e=>(I7.pin (b,o) (FZ _ (FZ _ (cT j e)))).1,λb j=>?_,w7⟩;obtain⟨o,e,dd⟩:=T.obj _ _ F b j;exact(I7.pin (b,o) (FZ _ (FZ _ (cT j e)))).2.1
theorem il {it:h8}{prog:FT}{R:Result->Ft->Prop}(hd:gens[d]? = some ⟨target,iter,ifs,0⟩)(h0:JK (model prog w) A (.compLoop (.ListComp elt gens scope pos) d it acc env) R s)(h:FG (model prog w) A (MK it) (fun it' s'=>JK (model prog w) A (.compLoop (.ListComp elt gens scope pos) d it' acc env) R s')
   (notedBy (model prog w) A env λx s'=>R (.error x) s') s) :
 JK (model prog w) A (.compStart (.ListComp elt gens scope pos) d it acc env) R s:=by
 refine LD ?_;show FG _ _ ((compStart (.ListComp elt gens scope pos) d it acc env).onRaise (λx=>do Mm x env;Jv theWindowsPlace)) _ _ s
 refine wpAny_notedAt ?_;unfold compStart;have j:(clausesOf (.ListComp elt gens scope pos))[d]? = some ⟨target,iter,ifs,0⟩:=hd;rw[j];show FG _ _ (ask >>= _) _ _ s;refine gV (wpAny_askSetting (wpAny_ite ?_))
 split
 ·first
   |exact gV (Fv (Fv (L6 rfl h0)))
   |exact Fv (L6 rfl h0)
 ·first
   |exact gV (IJ (gV (Gu (gV (Ga h (λit' s' h'=>Fv (L6 rfl h')) λ_ _ x=>x)))))
   |(refine gV (IJ ?_);show FG _ _ (Jv iter.pos >>= _) _ _ s;exact gV (Gu (gV (Ga h (λit' s' h'=>Fv (L6 rfl h')) λ_ _ x=>x))))
theorem jI (hx:∀ e s,X.xe e s->False)(z:X.calm=true)(hd:gens[d+1]? = some ⟨target,iter,ifs,0⟩)(F:∀ g',gens[d+1+1]? = some g'->g'.is_async=0)(hi:PI X target iter wi)(L:PG X target g){tb:TC}(O:PB X (λk=>bg ifs X.env >>= λok=>if ok=true then aX elt gens scope pos (d+1) acc X.env k else k) tb)(U:∀ x,H9 iter X.env x=pure x) :
 PB X (aX elt gens scope pos d acc X.env) (λσ H N=>wi σ H λJ H1=>fV J g tb N σ H1):=by
 intro pins s σ H N k Q E I h hk;unfold aX;rw[hd];refine gV (nox hx (thn (hi pins s σ H _ I h) λv s1 h1=>?_));refine gV (Gu (gV (O1 (U v) ?_)));refine gV (Gp (nox hx (thn h1 λitv s2 h2=>?_)));obtain⟨it,fp,tn,J,H2,e,Y,T,j,f2,hw⟩:=h2;subst e;have loop:=jH (acc:=acc) hx z hd F L O Y T j f2 hw;refine gV (wpAny_runOwn (I0 (il (R:=λr s'=>match r with|.ok _=>∃ σ' H',Inv X pins σ' H' s'/\N σ' H'|.error _=>False) hd loop (T.self _ 0 _ _ _ j loop)) λr s3 hr=>?_))
 cases r with
 |error e=>exact hr.elim
 | ok f =>
   obtain⟨σ3,Z,I3,n3⟩:=hr;exact hk s3 σ3 Z I3 n3
noncomputable def aR (cells:List (Str×Addr)):List (Str×Iq)->List (Str×Addr)->List (Str×Addr)
 |[],acc=>acc
 |(n,k)::r,acc=>if k == .free then (match cells.lookup n with|some c=>aR cells r ((n,c)::acc)|none=>aR cells r acc) else aR cells r acc
theorem gy {env:Env}:∀ (names:List (Str×Iq)) (acc:List (Str×Addr)),(∀ x∈names,x.2 = .free->(env.cells.lookup x.1).isSome=true) ->
 (forIn names acc λ(x:Str×Iq) (r:List (Str×Addr))=>(match x with|(name,kind)=>if (kind==G4)=true then do let c <- cellOf env name;pure (IE ((name,c)::r)) else pure (IE r):Sem (ForInStep (List (Str×Addr)))))=(pure (aR env.cells names acc):Sem (List (Str×Addr)))
 |[],acc,_=>rfl
 |(n,k)::r,acc,h=>by
  rw[Jk];have ih:=λacc'=>gy r acc' λx hx=>h x (FL _ hx);unfold aR
  by_cases hk:(k==G4)=true
  ·obtain⟨c,z⟩:=Hr.mp (h (n,k) GH (beq_iff_eq.mp hk));have j:env.cells.lookup n=some c:=z;have F:cellOf env n=pure c:=by unfold cellOf;rw[j]
   simp only[hk,if_true,F,j,pure_bind];exact ih _
  ·simp only[hk,if_false,pure_bind];exact ih _
theorem im (h:∀ x∈scope.names,x.2 = .free->(env.cells.lookup x.1).isSome=true):closureFor scope env=pure (aR env.cells scope.names []):=by
 unfold closureFor;have e:=gy (env:=env) scope.names [] h;simp only[bind_pure];exact e
theorem cW {cells:List (Str×Addr)}{y:Str}{c:Addr}:∀ {names:List (Str×Iq)} {acc:List (Str×Addr)},(y,c)∈aR cells names acc->(y,c)∈acc∨(cells.lookup y=some c/\(y,G4)∈names)
 |[],acc,h=>.inl h
 |(n,k)::r,acc,h=>by
  unfold aR at h
  by_cases hk:(k==G4)=true
  ·rw[if_pos hk]at h;have J:k = .free:=beq_iff_eq.mp hk;subst J
   cases L:cells.lookup n with
   | none =>
     rw[L]at h
     rcases cW h with z|⟨j,F⟩
     ·exact .inl z
     ·exact .inr ⟨j,FL _ F⟩
   | some c' =>
     rw[L]at h
     rcases cW h with z|⟨j,F⟩
     ·rcases FA.mp z with e|z
      ·cases e
       exact .inr ⟨L,GH⟩
      ·exact .inl z
     ·exact .inr ⟨j,FL _ F⟩
  ·rw[if_neg hk]at h
   rcases cW h with z|⟨j,F⟩
   ·exact .inl z
   ·exact .inr ⟨j,FL _ F⟩
theorem cX {cells:List (Str×Addr)}{y:Str}{c:Addr}(j:cells.lookup y=some c):∀ {names:List (Str×Iq)} {acc:List (Str×Addr)},((y,c)∈acc∨(y,G4)∈names)->(y,c)∈aR cells names acc
 |[],acc,h=>by
  rcases h with h|h
  ·exact h
  ·simp at h
 |(n,k)::r,acc,h=>by
  unfold aR
  by_cases hk:(k==G4)=true
  ·rw[if_pos hk];have z:k = .free:=beq_iff_eq.mp hk;subst z
   cases hl:cells.lookup n with
   | none =>
     refine cX j ?_
     rcases h with h|h
     ·exact .inl h
     ·rcases FA.mp h with e|h
      ·cases e;rw[hl]at j;cases j
      ·exact .inr h
   | some c' =>
     refine cX j ?_
     rcases h with h|h
     ·exact .inl (FL _ h)
     ·rcases FA.mp h with e|h
      ·cases e;rw[hl]at j;cases j;exact .inl GH
      ·exact .inr h
  ·rw[if_neg hk];refine cX j ?_
   rcases h with h|h
   ·exact .inl h
   ·rcases FA.mp h with e|h
    ·cases e;exact absurd rfl hk
    ·exact .inr h
theorem cO:∀ (names:List (Str×Iq)) (n:Nat) (acc acc':List (Str×Addr)),Hu n names (acc++acc')=Hu n names acc++acc'
 |[],_,_,_=>rfl
 |(x,k)::r,n,acc,acc'=>by
  unfold Hu
  by_cases hk:(k==Hs)=true
  ·rw[if_pos hk,if_pos hk];exact cO r (n+1) ((x,n)::acc) acc'
  ·rw[if_neg hk,if_neg hk];exact cO r n acc acc'
theorem cP:∀ {names:List (Str×Iq)} {n:Nat} {acc:List (Str×Addr)} {y:Str} {c:Addr},(y,c)∈Hu n names acc->(y,c)∈acc∨(n<=c/\(y,Hs)∈names)
 |[],_,_,_,_,h=>.inl h
 |(x,k)::r,n,acc,y,c,h=>by
  unfold Hu at h
  by_cases hk:(k==Hs)=true
  ·rw[if_pos hk]at h;have j:k = .cell:=beq_iff_eq.mp hk;subst j
   rcases cP h with z|⟨F,J⟩
   ·rcases FA.mp z with e|z
    ·cases e;exact .inr ⟨FE _,GH⟩
    ·exact .inl z
   ·exact .inr ⟨Nat.le_of_succ_le F,FL _ J⟩
  ·rw[if_neg hk]at h
   rcases cP h with z|⟨F,J⟩
   ·exact .inl z
   ·exact .inr ⟨F,FL _ J⟩
structure aY (sc osc:Scope) (oN N':List Str) (fr:List (Option Nat)):Prop where
 kind:sc.kind = .function
 nd:(sc.names.map (·.1)).Nodup
 ndN:N'.Nodup
 free:∀ x∈sc.names,x.2 = .free->osc.names.lookup x.1=some .cell∨osc.names.lookup x.1=some .free
 len:fr.length=N'.length
 fr:∀ (i j:Nat) (x:Str),N'[i]? = some x->fr[i]? = some (some j)->oN[j]? = some x/\(x,G4)∈sc.names
noncomputable def inh (fr:List (Option Nat)) (σ:St):St:=fr.map λo=>o.bind λj=>(σ[j]?).join
noncomputable def aZ (X:Cx) (sc:Scope) (L:Addr):Env :=
 { scope:=relabel sc X.env,locals:=L,globals:=X.env.globals,cells:=Hu (L+1) sc.names (aR X.env.cells sc.names []),qual:=X.env.qual,func:=none,code:=X.env.code,frame:=X.env.frame,builtins:=X.env.builtins }
noncomputable def aF (X:Cx) (sc:Scope) (N':List Str) (s:Ft) (H:Hp) (fp:List Addr):Cx :=
 { X with N:=N',s₀:=s,H₀:=H,env:=aZ X sc s.heap.objs.size,outer:=X.stack,stack:=X.stack,ex:=fp,fn:=λx=>sc.names.lookup x==some .cell,pn:=[],xe:=λ_ _=>False }
theorem aQ:∀ {l:List (Str×Iq)} {x:Str} {k:Iq},(l.map (·.1)).Nodup->(x,k)∈l->l.lookup x=some k
 |(y,k')::r,x,k,nd,h=>by
  have nd':(y::r.map (·.1)).Nodup:=nd;obtain⟨z,F⟩:=Jh.mp nd';rw[GW]
  rcases FA.mp h with e|hm
  ·cases e;simp
  ·have j:(x==y)=false:=by
    refine beq_eq_false_iff_ne.mpr λe=>?_;subst e;exact z (Ib.mpr ⟨(x,k),hm,rfl⟩)
   rw[j];exact aQ F hm
theorem ci {env:Env}:∀ {names:List (Str×Iq)} {x:Str},
 (names.map fun (n,k)=>if (k==G4&&env.scope.kind == .function&&env.kindOf n==some .cell) then (n,Hs) else (n,k)).lookup x =
   (names.lookup x).map λk=>if (k==G4&&env.scope.kind == .function&&env.kindOf x==some .cell) then Hs else k
 |[],_=>rfl
 |(n,k)::r,x=>by
  have ih:=ci (env:=env) (names:=r) (x:=x);show List.lookup x ((if (k==G4&&env.scope.kind == .function&&env.kindOf n==some .cell)=true then (n,Hs) else (n,k))::_)=_
  rw[GW (a:=x) (b:=k)]
  by_cases hx:x=n
  ·subst hx;simp only[beq_self_eq_true];show _=some (if (k==G4&&env.scope.kind == .function&&env.kindOf x==some .cell)=true then Hs else k)
   by_cases j:(k==G4&&env.scope.kind == .function&&env.kindOf x==some .cell)=true
   ·rw[if_pos j,if_pos j,GW];simp only[beq_self_eq_true]
   ·rw[if_neg j,if_neg j,GW];simp only[beq_self_eq_true]
  ·have z:(x==n)=false:=beq_eq_false_iff_ne.mpr hx;rw[z]
   by_cases j:(k==G4&&env.scope.kind == .function&&env.kindOf n==some .cell)=true
   ·rw[if_pos j,GW,z];exact ih
   ·rw[if_neg j,GW,z];exact ih
section
variable {pins:List (Addr×Obj)} {σ:St} {H:Hp} {s:Ft} {sc:Scope} {N':List Str} {fr:List (Option Nat)} {fp:List Addr}
theorem fy (I:Inv X pins σ H s)(B:aY sc X.env.scope X.N N' fr):∀ x∈sc.names,x.2 = .free->(X.env.cells.lookup x.1).isSome=true:=λx hx e=>by
 obtain⟨c,j⟩:=I.ok.has x.1 (B.free x hx e);rw[j];rfl
theorem rM (I:Inv X pins σ H s)(f2:∀ b∈fp,bT X pins H b)(EI:∀ b∈fp,b<s.heap.objs.size)(B:aY sc X.env.scope X.N N' fr) :
 Inv (aF X sc N' s H fp) [] (inh fr σ) H { s with heap:=NN (s.heap.push { cls:=.type "dict",data:=.dict #[] }) sc.names }:=by
 have J:∀ b o,s.heap.get? b=some o->(NN (s.heap.push { cls:=.type "dict",data:=.dict #[] }) sc.names).get? b=some o:=λb o e=>LF _ _ b o (td _ e);have ok:=cellsFrom_ok sc.names (s.heap.push { cls:=.type "dict",data:=.dict #[] }) (s.heap.objs.size+1) [] ⟨λ_ _ hm=>(nomatch hm),Nm⟩ (by rw[Gz];exact FE _)
 rw[Gz]at ok;have capp:Hu (s.heap.objs.size+1) sc.names (aR X.env.cells sc.names [])=Hu (s.heap.objs.size+1) sc.names []++aR X.env.cells sc.names []:=cO sc.names _ [] _;have cof:∀ x c,(aZ X sc s.heap.objs.size).cells.lookup x=some c->((x,c)∈Hu (s.heap.objs.size+1) sc.names []/\s.heap.objs.size<c)∨(X.env.cells.lookup x=some c/\(x,G4)∈sc.names):=λx c e=>by
  have m:=GL e;have m':(x,c)∈Hu (s.heap.objs.size+1) sc.names (aR X.env.cells sc.names []):=m;rw[capp]at m'
  rcases Hy.mp m' with z|z
  ·exact .inl ⟨z,(ok.empty x c z).2⟩
  ·rcases cW z with q|q
   ·simp at q
   ·exact .inr q
 have cOld:∀ x c,X.env.cells.lookup x=some c->c<s.heap.objs.size:=λx c e=>by
  obtain⟨v,q⟩:=I.cell x c e;exact q.lt
 have kindF:∀ x,(x,G4)∈sc.names->(aZ X sc s.heap.objs.size).kindOf x=some .cell∨(aZ X sc s.heap.objs.size).kindOf x=some .free:=λx hx=>by
  have e1:sc.names.lookup x=some .free:=aQ B.nd hx;have U:(aZ X sc s.heap.objs.size).kindOf x=_:=ci (env:=X.env) (names:=sc.names) (x:=x);rw[e1]at U;rw[U]
  by_cases L:(G4==G4&&X.env.scope.kind == .function&&X.env.kindOf x==some .cell)=true
  ·exact .inl (by simp only[HX,if_pos L])
  ·exact .inr (by simp only[HX,if_neg L])
 have cellF:∀ x c,(x,G4)∈sc.names->X.env.cells.lookup x=some c->(aZ X sc s.heap.objs.size).cells.lookup x=some c:=λx c hx L=>by
  have m:=cX (acc:=[]) L (.inr hx);have m2:(x,c)∈(aZ X sc s.heap.objs.size).cells:=by
   show (x,c)∈Hu (s.heap.objs.size+1) sc.names (aR X.env.cells sc.names []);rw[capp];exact FZ _ m
  cases F:(aZ X sc s.heap.objs.size).cells.lookup x with
  | none =>
    exfalso
    have:∀ {l:List (Str×Addr)},(x,c)∈l->l.lookup x=none->False:=by
     intro l
     induction l with
     |nil=>intro h;simp at h
     | cons a r ih =>
       intro h e;obtain⟨y,d⟩:=a;rw[GW]at e
       rcases FA.mp h with z|z
       ·cases z;simp at e
       ·by_cases hxy:(x==y)=true
        ·rw[hxy]at e;cases e
        ·simp only[JG]at hxy;rw[hxy]at e;exact ih z e
    exact this m2 F
  | some c' =>
    rcases cof x c' F with⟨z,_⟩|⟨z,_⟩
    ·rcases cP z with q|⟨_,q⟩
     ·simp at q
     ·have a1:=aQ B.nd hx;have a2:=aQ B.nd q;rw[a1]at a2;cases a2
    ·rw[L]at z;rw[z]
 have kindC:∀ x,(aZ X sc s.heap.objs.size).kindOf x=some .cell->(x,Hs)∈sc.names∨(x,G4)∈sc.names:=λx e=>by
  have U:(aZ X sc s.heap.objs.size).kindOf x=_:=ci (env:=X.env) (names:=sc.names) (x:=x);rw[U]at e
  cases F:sc.names.lookup x with
  |none=>rw[F]at e;cases e
  | some k =>
    rw[F]at e;have m:=GL F
    cases k with
    |cell=>exact .inl m
    |free=>exact .inr m
    |«local»=>simp at e
    |globalImplicit=>simp at e
    |globalExplicit=>simp at e
 have kindFr:∀ x,(aZ X sc s.heap.objs.size).kindOf x=some .free->(x,G4)∈sc.names:=λx e=>by
  have U:(aZ X sc s.heap.objs.size).kindOf x=_:=ci (env:=X.env) (names:=sc.names) (x:=x);rw[U]at e
  cases F:sc.names.lookup x with
  |none=>rw[F]at e;cases e
  | some k =>
    rw[F]at e;have m:=GL F
    cases k with
    |free=>exact m
    |cell=>simp at e
    |«local»=>simp at e
    |globalImplicit=>simp at e
    |globalExplicit=>simp at e
 refine⟨⟨I.ok.mod,B.kind,I.ok.glob,I.ok.blt,FE _,λy z c h1 h2=>?_,λy hy=>?_,λy c hf h=>?_,I.ok.hd,I.ok.frames,.inl rfl,λb Y=>⟨?_,λx c e=>?_⟩,λb o e=>I.bs b o e,?_,λb o e Y=>?_,λb Y=>?_,I.stack,I.stkFree⟩,
  rfl,I.bare,Un.kept J,⟨_,(Heap.Ns.new s.heap (.type "dict")).keeps (LF _ _),λi x v h1 h2 h3=>?_⟩,λy c h=>?_,I.hok.fresh (FE _),λy c h=>?_,λp hp=>absurd (show p∈([]:List (Addr×Obj)) from hp) (by simp),I.hok.kept J,?_⟩
 ·rcases cof y c h1 with⟨a1,a2⟩|⟨a1,a2⟩
  ·rcases cof z c h2 with⟨b1,b2⟩|⟨b1,b2⟩
   ·exact name_of_addr ok.apart a1 b1
   ·exact absurd (cOld z c b1) (Ot.mpr (IV a2))
  ·rcases cof z c h2 with⟨b1,b2⟩|⟨b1,b2⟩
   ·exact absurd (cOld y c a1) (Ot.mpr (IV b2))
   ·exact I.ok.inj y z c a1 b1
 ·have EL:(y,Hs)∈sc.names∨(y,G4)∈sc.names:=by
   rcases hy with hy|hy
   ·exact kindC y hy
   ·exact .inr (kindFr y hy)
  rcases EL with q|q
  ·exact Hr.mp (Jw sc.names _ _ (.inl (aQ B.nd q)))
  ·obtain⟨c,L⟩:=Hr.mp (fy I B _ q rfl);exact⟨c,cellF y c q L⟩
 ·have EM:(sc.names.lookup y==some .cell)=true:=hf;have EJ:sc.names.lookup y=some .cell:=by simpa using EM
  rcases cof y c h with⟨_,a2⟩|⟨_,a2⟩
  ·exact IV a2
  ·rw[aQ B.nd a2]at EJ;cases EJ
 ·exact Gb (EI b Y)
 ·rcases cof x c e with⟨_,a2⟩|⟨a1,_⟩
  ·exact HZ (J0 (EI b Y) a2)
  ·exact(f2 b Y).2.2.2.2.1 x c a1
 ·exact Gn I.ok.bsz I.sz
 ·obtain⟨f0,f1,f3,f4,f5,f6⟩:=f2 b Y
  rcases f4 with z|z
  ·exact I.ok.noex b o e z
  ·exact absurd (FV (FV (FF e) I.ok.bsz) z) (Hq _)
 ·obtain⟨f0,f1,f3,f4,f5,f6⟩:=f2 b Y;exact λz=>(FA.mp (I.stkSub b z)).elim f1 f3
 ·have hi:∃ j,fr[i]? = some (some j) /\ σ[j]? = some (some v):=by
   unfold inh at h2;rw[Gj]at h2
   cases e:fr[i]? with
   |none=>rw[e]at h2;cases h2
   | some o =>
     rw[e]at h2
     cases o with
     |none=>cases h2
     | some j =>
       refine⟨j,rfl,?_⟩;have O:some ((σ[j]?).join)=some (some v):=h2
       cases e' : σ[j]? with
       |none=>rw[e']at O;cases O
       |some w=>rw[e']at O;cases O;rfl
  obtain⟨j,e1,U⟩:=hi;obtain⟨n1,n2⟩:=B.fr i j x h1 e1;obtain⟨m,hn,F⟩:=I.loc;have hv:Vis X.env.scope x:=.inr (B.free (x,.free) n2 rfl);obtain⟨u,ru,lk⟩:=F j x v n1 U hv;refine⟨u,ru,.inr ⟨kindF x n2,?_⟩⟩
  rcases lk with⟨k1,_⟩|⟨_,c,L,Z⟩
  ·have EK:X.env.scope.names.lookup x=some .local:=k1
   rcases B.free (x,.free) n2 rfl with z|z
   ·rw[EK]at z;cases z
   ·rw[EK]at z;cases z
  ·exact⟨c,cellF x c n2 L,Z.keeps J⟩
 ·rcases cof y c h with⟨a1,a2⟩|⟨a1,a2⟩
  ·exact⟨_,(ok.empty y c a1).1⟩
  ·obtain⟨v,q⟩:=I.cell y c a1;exact⟨v,q.keeps J⟩
 ·rcases cof y c h with⟨a1,a2⟩|⟨a1,a2⟩
  ·exact I.hok.fresh (IV a2)
  ·exact I.freeC y c a1
 ·show (inh fr σ).length=N'.length;unfold inh;rw[FO];exact B.len
theorem jJ {σ':St}{s':Ft}(I:Inv X pins σ H s)(f2:∀ b∈fp,bT X pins H b)(J:Inv (aF X sc N' s H fp) [] σ' H' s')(F:GK s.heap.objs.size s'.heap h') :
 Inv X pins σ H' { s' with heap:=h' }:=by
 have u:Un (frs X.stack) fp H H' s.heap s'.heap:=J.base;have ne:∀ b o,s.heap.get? b=some o->b≠s.heap.objs.size:=λb o e=>Gb (FF e);refine I.call' (s':={ s' with heap:=h' }) (ch:=fp) J.os ⟨λb o e n j hx=>?_,λb o e n j hx=>?_,u.free,λb o e hx=>?_,u.tups,u.frzs,u.tbls⟩ (λb v e=>?_) J.bare λb j=>?_
 ·exact(F.2 b (ne b o e)).trans (u.keep b o e n j hx)
 ·obtain⟨sl,q⟩:=u.slot b o e n j hx;exact⟨sl,(F.2 b (ne b o e)).trans q⟩
 ·obtain⟨o',q⟩:=u.there b o e hx;exact⟨o',(F.2 b (ne b o e)).trans q⟩
 ·refine(J.hok b v e).stay (λc w O q=>(F.2 c ?_).trans q) (λ_ q=>q) λ_ _ q=>q;have fr:H' s.heap.objs.size=none:=J.free
  rcases O with z|z
  ·rw[z];intro L;rw[L,fr]at e;cases e
  ·intro L;rw[L,fr]at z;cases z
 ·obtain⟨f0,f1,Z,f4,U,Y⟩:=f2 b j;exact⟨f4,f1,U,Y⟩
theorem kl {Q:Env->Ft->Prop}{E:h8->Ft->Prop}(h:Q { scope:=sc,locals:=s.heap.objs.size,globals:=X.env.globals,cells:=Hu (s.heap.objs.size+1) sc.names (aR X.env.cells sc.names []),qual:=X.env.qual,func:=none,code:=X.env.code,frame:=X.env.frame,builtins:=X.env.builtins }
   { s with heap:=NN (s.heap.push { cls:=.type "dict",data:=.dict #[] }) sc.names }) :
 FG M A (LV sc X.env.globals (aR X.env.cells sc.names []) [] X.env.qual none .none (some X.env)) Q E s:=by
 simp only[LV,MR,if_true];refine gV (wpAny_alloc ?_);refine gV (wpAny_layCells _ (λname kind cells=>by cases hkc:kind==Hs <;> simp[hkc]) _ _ _ _ ?_)
 rw[show ({ s with heap:=s.heap.push { cls:=.type "dict",data:=.dict #[] } }:Ft).heap.objs.size=s.heap.objs.size+1 from Gz ..]
 exact gV (Fv (Fv h))
theorem lp (hc:X.calm=true){rest:List Gk}{E:h8->Ft->Prop}(hx:∀ e s,X.xe e s->False)(B:aY sc X.env.scope X.N N' fr)(ha:∀ g',rest[0]? = some g'->g'.is_async=0)(hi:PI X target iter wi){tb:Addr->TC}(hg:∀ s H fp,PG (aF X sc N' s H fp) target g)(j:∀ s H fp p,PB (aF X sc N' s H fp) (λk=>bg ifs (aF X sc N' s H fp).env >>= λok=>if ok=true then aX elt (⟨target,iter,ifs,0⟩::rest) sc pos 0 (.ref p) (aF X sc N' s H fp).env k else k) (tb p)){Nn:Addr->St->Hp->Prop}{RR:h8->Addr->Result->Ft->Prop}(I:Inv X pins σ H s)(h:wi σ H λJ H1=>∀ p,H1 p=none->fV J g (tb p) (Nn p) (inh fr σ) (upd H1 p (.lst [])))(hR:∀ p fp s3 U s' σ' H' f,Inv X pins σ U s3->(∀ b∈fp,bT X pins U b)->Inv (aF X sc N' s3 U fp) [] σ' H' s'->Nn p σ' H'->RR (.ref p) s3.heap.objs.size (.ok f) s') :
 FG (model X.prog X.w) X.A (eval iter X.env) (λx s₁=>FG (model X.prog X.w) X.A (MK x) (λit s₂=>FG (model X.prog X.w) X.A (newList []) (λacc s₃ =>
  FG (model X.prog X.w) X.A (LV sc X.env.globals (aR X.env.cells sc.names []) [] X.env.qual none .none (some X.env)) (λcenv s₄ =>
   JK (model X.prog X.w) X.A (.compStart (.ListComp elt (⟨target,iter,ifs,0⟩::rest) sc pos) 0 it acc { cenv with scope:=relabel sc X.env }) (RR acc cenv.locals) s₄) E s₃) E s₂) E s₁) E s:=by
 refine nox hx (thn (hi pins s σ H _ I h) λv s1 h1=>nox hx (thn h1 λitv s2 h2=>?_));obtain⟨it,fp,tn,J,H2,e,I2,T,F,f2,hw⟩:=h2;subst e;have hf:H2 s2.heap.objs.size=none:=I2.hok.fresh (FE _);refine wpAny_newList ?_;have I3:Inv X pins σ (upd H2 s2.heap.objs.size (.lst [])) { s2 with heap:=s2.heap.push { cls:=.type "list",dict:=none,data:=.seq ([]:List h8).toArray } } :=
  I2.laid (t':=s2.toks) (λb u e=>td _ e) (FE _) ⟨GX _,[],0,.nil,FK _ rfl⟩
 have fneq:∀ b∈fp,b≠s2.heap.objs.size:=λb j z=>by
  obtain⟨o,e,_⟩:=T.obj _ _ F b j;exact absurd (FF e) (by rw[z];exact Hq _)
 have Y:∀ b∈fp,bT X pins (upd H2 s2.heap.objs.size (.lst [])) b:=λb j=>⟨by rw[ag (fneq b j)];exact(f2 b j).1,(f2 b j).2⟩
 have Z:∀ b∈fp,b<(s2.heap.push { cls:=.type "list",dict:=none,data:=.seq ([]:List h8).toArray }).objs.size:=λb j=>by
  obtain⟨o,e,_⟩:=T.obj _ _ F b j;rw[Gz];exact Nat.lt_succ_of_lt (FF e)
 have EI:tn 0 (s2.heap.push { cls:=.type "list",dict:=none,data:=.seq ([]:List h8).toArray }):=T.keep _ _ _ F λb _ o e=>td _ e;refine kl ?_;have O:=rM (N':=N') I3 Y Z B;have L:=T.keep _ (h':=NN (({ s2 with heap:=s2.heap.push { cls:=.type "list",dict:=none,data:=.seq ([]:List h8).toArray } }:Ft).heap.push { cls:=.type "dict",data:=.dict #[] }) sc.names) _ EI λb _ o e=>LF _ _ b o (td _ e)
 have f4:∀ b∈fp,bT (aF X sc N' { s2 with heap:=s2.heap.push { cls:=.type "list",dict:=none,data:=.seq ([]:List h8).toArray } } (upd H2 s2.heap.objs.size (.lst [])) fp) [] (upd H2 s2.heap.objs.size (.lst [])) b:=λb j =>
  ⟨(Y b j).1,(O.ok.exf b j).1,O.ok.exfs b j,.inl j,(O.ok.exf b j).2,λp hp=>absurd (show p∈([]:List (Addr×Obj)) from hp) (by simp)⟩
 have loop:=jH (X:=aF X sc N' { s2 with heap:=s2.heap.push { cls:=.type "list",dict:=none,data:=.seq ([]:List h8).toArray } } (upd H2 s2.heap.objs.size (.lst [])) fp) (λ_ _ z=>z) hc
  (elt:=elt) (pos:=pos) (scope:=sc) (gens:=⟨target,iter,ifs,0⟩::rest) (d:=0) (acc:=.ref s2.heap.objs.size) rfl (λg' e=>ha g' (by simpa using e)) (hg _ _ _) (j _ _ _ _) O T L f4 (hw _ hf)
 refine I0 (il (R:=λr s'=>match r with|.ok _=>∃ σ' H',Inv (aF X sc N' { s2 with heap:=s2.heap.push { cls:=.type "list",dict:=none,data:=.seq ([]:List h8).toArray } } (upd H2 s2.heap.objs.size (.lst [])) fp) [] σ' H' s'/\Nn s2.heap.objs.size σ' H'|.error _=>False)
  (gens:=⟨target,iter,ifs,0⟩::rest) (d:=0) rfl loop (T.self _ 0 _ _ _ L loop)) λr s5 hr=>?_
 cases r with
 |error e=>exact hr.elim
 | ok f =>
   obtain⟨σ5,H5,I5,n5⟩:=hr;exact hR _ fp _ _ s5 σ5 H5 f I3 Y I5 n5
noncomputable def pG (wi:TI) (g:TG) (tb:Addr->TC) (fr:List (Option Nat)):TE:=λσ H Q=>wi σ H λJ H1=>∀ p,H1 p=none->fV J g (tb p) (λ_ H2=>Q (.ref p) H2) (inh fr σ) (upd H1 p (.lst []))
theorem jK (B:aY sc X.env.scope X.N N' fr):∀ x∈sc.names,x.2 = .local->sc.names.lookup x.1=some .local:=λx hx e=>by
 obtain⟨n,k⟩:=x;have e':k = .local:=e;subst e';exact aQ B.nd hx
theorem gz (z:X.calm=true){rest:List Gk}(hx:∀ e s,X.xe e s->False)(B:aY sc X.env.scope X.N N' fr)(F:∀ g',rest[0]? = some g'->g'.is_async=0)(hi:PI X target iter wi){tb:Addr->TC}(L:∀ s H fp,PG (aF X sc N' s H fp) target g)(O:∀ s H fp p,PB (aF X sc N' s H fp) (λk=>bg ifs (aF X sc N' s H fp).env >>= λok=>if ok=true then aX elt (⟨target,iter,ifs,0⟩::rest) sc pos 0 (.ref p) (aF X sc N' s H fp).env k else k) (tb p))(U:∀ x,H9 iter X.env x=pure x) :
 PE X (.ListComp elt (⟨target,iter,ifs,0⟩::rest) sc pos) (pG wi g tb fr):=by
 intro pins s σ H Q I h;rw[eval_ListComp];refine KO (use:=none) rfl U (im (fy I B)) B.kind (jK B) (lp (Nn:=λp _ H2=>Q (.ref p) H2) (RR:=λacc C=>compPost (model X.prog X.w) X.A X.xe none (EP X pins σ Q) acc C) z hx B F hi L O I h ?_);intro p fp s3 H3 s' σ' H' f Y Z J q;obtain⟨m,hn,_⟩:=J.loc;exact⟨m,hn,λh' j=>⟨.ref p,H',jJ Y Z J j,rfl,q⟩⟩
theorem io (hc:X.calm=true){rest:List Gk}{spos:Pos}(hx:∀ e s,X.xe e s->False)(B:aY sc X.env.scope X.N N' fr)(ha:∀ g',rest[0]? = some g'->g'.is_async=0)(hi:PI X target iter wi){tb:Addr->TC}(hg:∀ s H fp,PG (aF X sc N' s H fp) target g)(F:∀ s H fp p,PB (aF X sc N' s H fp) (λk=>bg ifs (aF X sc N' s H fp).env >>= λok=>if ok=true then aX elt (⟨target,iter,ifs,0⟩::rest) sc pos 0 (.ref p) (aF X sc N' s H fp).env k else k) (tb p))(hs:∀ x,H9 iter X.env x=pure x)(L:PG X (.Name x pos') (fU i))(O:Hl (.ListComp elt (⟨target,iter,ifs,0⟩::rest) sc pos) (some (.Name x pos')) spos.line X.env=pure true) :
 PS X (.Assign [.Name x pos'] (.ListComp elt (⟨target,iter,ifs,0⟩::rest) sc pos) spos) (kS (pG wi g tb fr) (fU i)):=by
 intro pins s σ H D I h;rw[exec_Assign_Name_used _ _ _ _ O];refine gV (Gu (gV ?_));show FG _ X.A (do let _ <- comprehension (.ListComp elt (⟨target,iter,ifs,0⟩::rest) sc pos) sc X.env _ (newList []) false (eval iter X.env) (some (assign (.Name x pos') X.env))) _ _ s
 refine gV (Ga (KO (use:=some (assign (.Name x pos') X.env)) (Q:=λ_ s'=>SP X pins D .next s') rfl hs (im (fy I B)) B.kind (jK B)
  (lp (Nn:=λp _ H2=>D.nx (σ.set i (some (.ref p))) H2) (RR:=λacc C=>compPost (model X.prog X.w) X.A X.xe (some (assign (.Name x pos') X.env)) (λ_ s'=>SP X pins D .next s') acc C) hc hx B ha hi hg F I h ?_)) (λ_ s' hq=>Fv (Fv hq)) λ_ _ e=>e)
 intro p fp s3 H3 s' σ' H' f j f3 J q;obtain⟨m,⟨o,es,ep,ho,hd,hk,hm⟩,_⟩:=J.loc;have I4:Inv X pins σ H' s':=jJ (h':=s'.heap) j f3 J ⟨rfl,λ_ _=>rfl⟩;have hL:(aF X sc N' s3 H3 fp).env.locals=s3.heap.objs.size:=rfl;rw[hL]at ho;have U:H' s3.heap.objs.size=none:=J.free;have neL:s3.heap.objs.size≠X.env.locals:=HZ j.lt;have nfs:s3.heap.objs.size∉X.fs:=j.nofs (FE _);have I5:Inv X (pins++[(s3.heap.objs.size,o)]) σ H' s':=I4.pins_of λpr Y=>by
  rcases Hy.mp Y with z|z
  ·exact I4.pin pr (FZ _ z)
  ·have e:pr=(s3.heap.objs.size,o):=by simpa using z
   subst e;exact⟨ho,U,neL,nfs,λv z=>by rw[hd]at z;cases z⟩
 show FG _ X.A (assign (.Name x pos') X.env (.ref p)) _ _ _;refine thn (L _ s' σ H' (.ref p) (.ref p) D.nx I5 rfl q) λ_ s6 g9=>?_;obtain⟨σ6,H6,I6,q6⟩:=g9;obtain⟨Z,EI,_⟩:=I6.pin (s3.heap.objs.size,o) (FZ _ (FZ _ (by simp)))
 refine⟨m,⟨o,es,ep,Z,hd,hk,hm⟩,λh' EJ=>⟨σ6,H6,?_,q6⟩⟩;refine(I6.unpinned).turned (t':=s6.toks) (it:=s3.heap.objs.size) (λb o F e=>(EJ.2 b F).trans e) EI neL (.inr j.sz) (λy c e z=>?_) λpr Y z=>?_
 ·obtain⟨v,q⟩:=j.cell y c e;exact absurd q.lt (by rw[z];exact Hq _)
 ·exact absurd (FF (j.pin pr Y).1) (by rw[z];exact Hq _)
end
end
end
section
open PySem.W (CodeHd tabObj kla_fn kla_obj)
noncomputable def fzO (a:Addr) (o:Obj):HO:=.frz o (.ext λh=>h.get? a=some o)
def Cz (H:Hp) (P:Addr) (pos:Pos) (q:Str):Prop:=∃ ps,H P=some (.tbl ps)/\(ps = #[]∨∃ c' oc vs t,ps = #[HR pos.line,HR pos.col,.ref c']/\H c'=some (fzO c' oc)/\oc.data = .fields vs/\vs[1]? = some (.str q t))
def CA (mg:Str->Option h8) (base:Heap):Prop:=∃ bm ob,mg "__builtins__" = some (.ref bm)/\bm≠Lk/\base.get? bm=some ob/\ob.cls = .type "module" /\ ob.dict=some Lk/\ob.data = .plain
open PySem.W (envX)
structure Bb (P:FT) (w:G8) (K:Frag) (mg:Str->Option h8) (base:Heap) (k:Nat) (fs:List Addr) (a:Addr) (sp:Sp) (H:Hp) (h:Heap):Prop where
 fn:∃ o fd,H a=some (fzO a o)/\o.data = .func fd
 run:∀ (A:G3) (outer:List Env) (s1:Ft) (H1:Hp) (u1 u2:h8) (v1 v2:V) (Q:VK),Un fs [] H H1 h s1.heap->Room k A->Env0 P w K mg base A outer s1 H1->RelV v1 u1->RelV v2 u2->sp [v1,v2] H1 Q E0 ->
  JK (model P w) A (.call (.ref a) ⟨[u1,u2],[]⟩) (CR CX0 outer P w H1 s1 Q E0) s1
structure Bc (P:FT) (w:G8) (K:Frag) (mg:Str->Option h8) (base:Heap) (k:Nat) (f:Addr) (fd:Hi) (ps:List Str) (sp:List Env->Ft->Sp):Prop where
 len:∀ o s vs H Q E,sp o s vs H Q E->vs.length=ps.length
 run:∀ (A:G3) (outer:List Env) (s:Ft) (H:Hp) (args:Args) (us:List h8) (vs:List V) (Q:VK) (E:XK),Room k A->Env0 P w K mg base A outer s H->Mj s fd args (ps.zip us)->Vals vs us->sp outer s vs H Q E ->
  JK (model P w) A (.call (.ref f) args) (CR CX0 outer P w H s Q E) s
end
namespace Zp
def At (t:Bool) (h:Heap) (i l:Addr) (k:Nat):Prop:=match t with|true=>h.IsTupleIter i l k|false=>h.IsListIter i l k
def Sq (t:Bool) (h:Heap) (l:Addr) (xs:Array h8):Prop:=match t with|true=>h.IsTuple l xs|false=>h.IsList l xs
variable {h:Heap}{i l:Addr}
theorem At.up {t:Bool}{h':Heap}{k:Nat}(x:At t h i l k)(e:∀ o,h.get? i=some o->h'.get? i=some o):At t h' i l k:=by
 cases t <;> (obtain⟨o,ho,r⟩:=x;exact⟨o,e o ho,r⟩)
variable {xs:Array h8}
theorem Sq.up {t:Bool}{h':Heap}(x:Sq t h l xs)(e:∀ o,h.get? l=some o->h'.get? l=some o):Sq t h' l xs:=by
 cases t <;> (obtain⟨o,ho,r⟩:=x;exact⟨o,e o ho,r⟩)
theorem At.lt {t:Bool}{k:Nat}(x:At t h i l k):∃ o,h.get? i=some o /\ ∀ v,o.data ≠ .cell v:=by
 cases t <;> (obtain⟨o,ho,j,hd⟩:=x;exact⟨o,ho,λv z=>by rw[hd]at z;cases z⟩)
variable {x p r:h8}{z T j a b:Addr}{u:Bool}{ys:Array h8}
section
variable {prog:FT} {w:G8} {A:G3} {E:h8->Ft->Prop} {s:Ft}
open Builtin.SmallTypes in
theorem uq {k:Nat}{Q:h8->Ft->Prop}(hi:s.heap.IsTupleIter i l k)(U:s.heap.IsTuple l xs)(hx:xs[k]? = some x)(q:∀ h',h'.IsTupleIter i l (k+1)->GK i s.heap h'->Q x { s with heap:=h' }):FG (model prog w) A (nextOf (.ref i)) Q E s:=by
 obtain⟨ob,z,J,j⟩:=id hi;obtain⟨oq,L,_,nq,O⟩:=U;unfold nextOf;refine gV (Gs (name:=g8 "__next__") hi.typeIs HK (Hn HK hi.typeIs K8 ?_ (JZ _)));refine gV (m:=field (.ref i) 0) (G9 z j (x:=.ref l) rfl ?_);refine(if_neg (c:=(G5 l==Gv)=true) Fu) ▸ ?_;refine gV (m:=field (.ref i) 1) (G9 z j (x:=.int k 0) rfl ?_);refine gV (m:=seqItems? (.ref l)) (HL L O ?_);simp only[GN,hx];refine gV (IM z j (by simp) (Fv ⟨x,rfl,Fv (q _ ⟨_,Gg _ z (Hk (HJ j _)),(Np ..).trans J,?_⟩ (Mr ..))⟩))
 rw[HJ j];simp[HR]
open Builtin.SmallTypes in
theorem xg {k:Nat}{Q:h8->Ft->Prop}(O:A.handled=none)(hi:s.heap.IsTupleIter i l k)(U:s.heap.IsTuple l xs)(hx:xs[k]? = none)(q:∀ h' e,O6 i s.heap h'->(∃ o,h'.get? e=some o/\o.cls = .type "StopIteration")->E (.ref e) { s with heap:=h' }):FG (model prog w) A (nextOf (.ref i)) Q E s:=by
 obtain⟨ob,j,Y,z⟩:=id hi;obtain⟨oq,J,_,nq,L⟩:=U;unfold nextOf;refine gV (Gs (name:=g8 "__next__") hi.typeIs HK (Hn HK hi.typeIs K8 ?_ (JZ _)));refine gV (m:=field (.ref i) 0) (G9 j z (x:=.ref l) rfl ?_);refine(if_neg (c:=(G5 l==Gv)=true) Fu) ▸ ?_;refine gV (m:=field (.ref i) 1) (G9 j z (x:=.int k 0) rfl ?_);refine gV (m:=seqItems? (.ref l)) (HL J L ?_);simp only[GN,hx];refine gV (IJ (gV (IM j z (by simp) ?_)))
 refine gV (m:=newExc (.type "StopIteration") []) ?_;simp only[newExc,newTuple];refine gV (H8 ?_ (by size_fits))
 refine gV (m:=firstArgMember _ _) (O1 (a:=Gv) (by first|rfl|(simp only[firstArgMember];rfl)) (H8 ?_ (by size_fits)))
 simp only[raiseNew];refine gV (wpAny_handled ?_)
 first|rw[show A.in1.handled=none from O]|rw[O]
 exact gV (Fv (wpAny_throw (q _ _ (((Mr ..).extBut.push _).push _) ⟨_,FK _ rfl,rfl⟩)))
open Builtin.SmallTypes in
theorem fW {t:Bool}{k:Nat}{Q:h8->Ft->Prop}(hi:At t s.heap i l k)(j:Sq t s.heap l xs)(hx:xs[k]? = some x)(q:∀ h',At t h' i l (k+1)->GK i s.heap h'->Q x { s with heap:=h' }):FG (model prog w) A (nextOf (.ref i)) Q E s:=by
 cases t with
 |true=>exact uq hi j hx q
 |false=>exact wpAny_nextOf_list_item hi j hx q
open Builtin.SmallTypes in
theorem nx_end {t:Bool}{k:Nat}{Q:h8->Ft->Prop}(j:A.handled=none)(hi:At t s.heap i l k)(z:Sq t s.heap l xs)(hx:xs[k]? = none)(q:∀ h' e,O6 i s.heap h'->(∃ o,h'.get? e=some o/\o.cls = .type "StopIteration")->E (.ref e) { s with heap:=h' }):FG (model prog w) A (nextOf (.ref i)) Q E s:=by
 cases t with
 |true=>exact xg j hi z hx q
 |false=>exact wpAny_nextOf_list_end j hi z hx q
open Builtin.SmallTypes in
theorem zz {O:Addr}{t:Bool}{k:Nat}{y:h8}{Q:h8->Ft->Prop}(D:LW z T O i j a b)(F:KD s.heap z T O .none)(hT:Il s.heap T (.ref i) (.ref j))(hO:Il s.heap O p r)(hi:At t s.heap i a k)(hj:At u s.heap j b k)(ha:Sq t s.heap a xs)(hb:Sq u s.heap b ys)(hx:xs[k]? = some x)(hy:ys[k]? = some y)(q:∀ h',KD h' z T O (HR s.heap.objs.size)->Il h' O x y->At t h' i a (k+1)->At u h' j b (k+1)->Il h' s.heap.objs.size x y ->
   (∀ c o,c≠z->c≠O->c≠i->c≠j->s.heap.get? c=some o->h'.get? c=some o)->Q (.ref s.heap.objs.size) { s with heap:=h' }) :
 FG (model prog w) A (Jj.«zip.__next__» ⟨[.ref z],[]⟩) (λfin s'=>∃ v,fin = .done (.ret v)/\Q v s') E s:=by
 refine gV (m:=field (.ref z) 2) (G9 F rfl (x:=.bool false) rfl ?_);refine gV (m:=field (.ref z) 3) (G9 F rfl (x:=.ref T) rfl ?_);refine gV (HL hT rfl ?_);refine gV (m:=ownedTupleIsFree (.ref z)) ?_;unfold ownedTupleIsFree;refine gV (G9 F rfl (x:=.none) rfl (Fv ?_));simp only[if_true];refine gV (IJ (gV (G9 F rfl (x:=.ref O) rfl (gV (Gq F (by simp) λg1 z1 s1=>?_)))))
 have Z1:KD g1 z T O .ellipsis:=z1;clear z1;refine gV ?_;simp only[NO,Oe,Jk,List.forIn_nil];refine gV (gV (JM (gV (m:=nextOf (.ref i)) ?_)));refine fW (hi.up λo e=>s1.extBut _ o D.i1z e) (ha.up λo e=>s1.extBut _ o D.l1z e) hx λg2 L s2=>Fv ?_;have O2:Il g2 O p r:=s2.extBut _ _ D.TOi1 (s1.extBut _ _ D.TOz hO);refine gV (HL O2 rfl (gV (JS O2 λg3 o3 s3=>?_)));have O3:Il g3 O x r:=o3;clear o3;refine gV (LX (Fv (gV (gV (JM (gV (m:=nextOf (.ref j)) ?_))))));refine fW (hj.up λo e=>s3.extBut _ o D.TOi2.symm (s2.extBut _ o D.i12.symm (s1.extBut _ o D.i2z e))) (hb.up λo e=>s3.extBut _ o D.l2TO (s2.extBut _ o D.l2i1 (s1.extBut _ o D.l2z e))) hy λg4 U s4=>Fv ?_;have O4:Il g4 O x r:=s4.extBut _ _ D.TOi2 O3;refine gV (HL O4 rfl (gV (JS O4 λg5 o5 s5=>?_)));have O5:Il g5 O x y:=o5;clear o5;refine gV (LX (Fv (Fv (gV (HL O5 rfl (gV (wpAny_newTuple ?_)))))));have sz:g5.objs.size=s.heap.objs.size:=by rw[s5.1,s4.1,s3.1,s2.1,s1.1]
 have k5:∀ c o,c≠z->c≠O->c≠i->c≠j->s.heap.get? c=some o->g5.get? c=some o:=λc o c1 c2 Y Z e =>
  s5.extBut _ _ c2 (s4.extBut _ _ Z (s3.extBut _ _ c2 (s2.extBut _ _ Y (s1.extBut _ _ c1 e))))
 have Z5:KD g5 z T O .ellipsis:=s5.extBut _ _ D.TOz.symm (s4.extBut _ _ D.i2z.symm (s3.extBut _ _ D.TOz.symm (s2.extBut _ _ D.i1z.symm Z1)));have I5:At t g5 i a (k+1):=L.up λo e=>s5.extBut _ o D.TOi1.symm (s4.extBut _ o D.i12 (s3.extBut _ o D.TOi1.symm e));have J5:At u g5 j b (k+1):=U.up λo e=>s5.extBut _ o D.TOi2.symm e;have zl:z<g5.objs.size:=FF Z5;refine gV (m:=ownedTupleHandOut (.ref z) (.ref g5.objs.size)) ?_;unfold ownedTupleHandOut;refine gV (Gq (td _ Z5) (by simp) λg7 z7 s7=>?_)
 have Z7:KD g7 z T O (HR g5.objs.size):=z7;clear z7;refine Gq Z7 (by simp) λJ z8 s8=>?_
 have Z8:KD J z T O (HR g5.objs.size):=z8;clear z8;have up:∀ c o,c≠z->g5.get? c=some o->J.get? c=some o:=λc o c1 e=>s8.extBut _ _ c1 (s7.extBut _ _ c1 (td _ e));have P8:Il J g5.objs.size x y:=s8.extBut _ _ (HZ zl) (s7.extBut _ _ (HZ zl) (FK _ rfl));rw[sz]at Z8 P8;refine Fv ⟨_,rfl,?_⟩;show Q (.ref g5.objs.size) _;rw[sz];exact q J Z8 (up _ _ D.TOz O5) (I5.up λo e=>up _ o D.i1z e) (J5.up λo e=>up _ o D.i2z e) P8 λc o c1 c2 Y Z e=>up c o c1 (k5 c o c1 c2 Y Z e)
open Builtin.SmallTypes in
theorem Be {O:Addr}{t:Bool}{k:Nat}{Q:Fin->Ft->Prop}(hn:A.handled=none)(D:LW z T O i j a b)(L:KD s.heap z T O .none)(hT:Il s.heap T (.ref i) (.ref j))(hO:Il s.heap O p r)(hi:At t s.heap i a k)(hj:At u s.heap j b k)(ha:Sq t s.heap a xs)(hb:Sq u s.heap b ys)(U:xs[k]? = none∨ys[k]? = none)(q:∀ h' e,(∀ c o,c≠z->c≠O->c≠i->c≠j->s.heap.get? c=some o->h'.get? c=some o)->(∃ o,h'.get? e=some o/\o.cls = .type "StopIteration")->E (.ref e) { s with heap:=h' }) :
 FG (model prog w) A (Jj.«zip.__next__» ⟨[.ref z],[]⟩) Q E s:=by
 refine gV (m:=field (.ref z) 2) (G9 L rfl (x:=.bool false) rfl ?_);refine gV (m:=field (.ref z) 3) (G9 L rfl (x:=.ref T) rfl ?_);refine gV (HL hT rfl ?_);refine gV (m:=ownedTupleIsFree (.ref z)) ?_;unfold ownedTupleIsFree;refine gV (G9 L rfl (x:=.none) rfl (Fv ?_));simp only[if_true];refine gV (IJ (gV (G9 L rfl (x:=.ref O) rfl (gV (Gq L (by simp) λg1 z1 s1=>?_)))))
 have Z1:KD g1 z T O .ellipsis:=z1;clear z1;refine gV ?_;simp only[NO,Oe,Jk,List.forIn_nil];refine gV (gV (JM (gV (m:=nextOf (.ref i)) ?_)));have Y:At t g1 i a k:=hi.up λo e=>s1.extBut _ o D.i1z e;have Z:Sq t g1 a xs:=ha.up λo e=>s1.extBut _ o D.l1z e
 cases hx:xs[k]? with
 | none =>
   refine nx_end hn Y Z hx λg2 e s2 he=>?_;obtain⟨oe,F,J⟩:=he;have Z2:KD g2 z T O .ellipsis:=s2 _ _ D.i1z.symm Z1;have ez:e≠z:=λx=>by subst x;rw[Z2]at F;cases F;simp at J
   exact Gq Z2 (by simp) λg3 _ s3=>q g3 e (λc o c1 _ c3 _ x=>s3.extBut _ _ c1 (s2 _ _ c3 (s1.extBut _ _ c1 x))) ⟨oe,s3.extBut _ _ ez F,J⟩
 | some x =>
   have hy:ys[k]? = none:=U.elim (λz=>by rw[hx]at z;cases z) id
   refine fW Y Z hx λg2 EI s2=>Fv ?_;have O2:Il g2 O p r:=s2.extBut _ _ D.TOi1 (s1.extBut _ _ D.TOz hO);refine gV (HL O2 rfl (gV (JS O2 λg3 o3 s3=>?_)));refine gV (LX (Fv (gV (gV (JM (gV (m:=nextOf (.ref j)) ?_))))));refine nx_end hn (hj.up λo e=>s3.extBut _ o D.TOi2.symm (s2.extBut _ o D.i12.symm (s1.extBut _ o D.i2z e))) (hb.up λo e=>s3.extBut _ o D.l2TO (s2.extBut _ o D.l2i1 (s1.extBut _ o D.l2z e))) hy λg4 e s4 he=>?_;obtain⟨oe,F,J⟩:=he;have Z4:KD g4 z T O .ellipsis:=s4 _ _ D.i2z.symm (s3.extBut _ _ D.TOz.symm (s2.extBut _ _ D.i1z.symm Z1));have ez:e≠z:=λx=>by subst x;rw[Z4]at F;cases F;simp at J
   exact Gq Z4 (by simp) λg5 _ s5=>q g5 e (λc o c1 c2 c3 c4 x=>s5.extBut _ _ c1 (s4 _ _ c4 (s3.extBut _ _ c2 (s2.extBut _ _ c3 (s1.extBut _ _ c1 x))))) ⟨oe,s5.extBut _ _ ez F,J⟩
theorem nxt_item {O:Addr}{t:Bool}{k:Nat}{y:h8}{Q:Option h8->Ft->Prop}(D:LW z T O i j a b)(J:KD s.heap z T O .none)(L:Il s.heap T (.ref i) (.ref j))(U:Il s.heap O p r)(hi:At t s.heap i a k)(Y:At u s.heap j b k)(Z:Sq t s.heap a xs)(hb:Sq u s.heap b ys)(hx:xs[k]? = some x)(hy:ys[k]? = some y)(q:∀ h',KD h' z T O (HR s.heap.objs.size)->Il h' O x y->At t h' i a (k+1)->At u h' j b (k+1)->Il h' s.heap.objs.size x y ->
   (∀ c o,c≠z->c≠O->c≠i->c≠j->s.heap.get? c=some o->h'.get? c=some o)->Q (some (.ref s.heap.objs.size)) { s with heap:=h' }) :
 FG (model prog w) A (Kg (.ref z)) Q E s:=by
 have ty:s.TypeIs (.ref z) "zip":=⟨_,J,rfl⟩;unfold Kg;exact gV (JO (Gs (name:=g8 "__next__") ty K0 (Hn K0 ty NP
  (zz D J L U hi Y Z hb hx hy λh' a1 a2 a3 a4 a5 a6=>Fv (q h' a1 a2 a3 a4 a5 a6)) (Nr _))))
theorem nxt_end {O:Addr}{t:Bool}{k:Nat}{Q:Option h8->Ft->Prop}(U:A.handled=none)(D:LW z T O i j a b)(L:KD s.heap z T O .none)(Y:Il s.heap T (.ref i) (.ref j))(Z:Il s.heap O p r)(hi:At t s.heap i a k)(hj:At u s.heap j b k)(ha:Sq t s.heap a xs)(hb:Sq u s.heap b ys)(J:xs[k]? = none∨ys[k]? = none)(q:∀ h',(∀ c o,c≠z->c≠O->c≠i->c≠j->s.heap.get? c=some o->h'.get? c=some o)->Q none { s with heap:=h' }):FG (model prog w) A (Kg (.ref z)) Q E s:=by
 have ty:s.TypeIs (.ref z) "zip":=⟨_,L,rfl⟩;unfold Kg;refine gV (JO (Gs (name:=g8 "__next__") ty K0 (Hn K0 ty NP
  (Be U D L Y Z hi hj ha hb J λh' e hk he=>?_) (Nr _))))
 obtain⟨o,ho,hc⟩:=he;exact gV (NQ (T:="StopIteration") (b:=true) ⟨o,ho,hc⟩ isSubtype_stop (Fv (q _ hk)))
noncomputable def itO (t:Bool) (l:Addr):Obj:=match t with|true=>{ cls:=.type "tuple_iterator",data:=.fields #[.ref l,.int 0 0] }|false=>{ cls:=.type "list_iterator",data:=.fields #[.ref l,.int 0 0] }
noncomputable def zH1 (h:Heap) (t:Bool) (a:Addr):Heap:=h.push (itO t a)
noncomputable def zH2 (h:Heap) (t u:Bool) (a b:Addr):Heap:=(zH1 h t a).push (itO u b)
noncomputable def zH3 (h:Heap) (t u:Bool) (a b:Addr):Heap:=(zH2 h t u a b).push { cls:=.type "tuple",data:=.seq #[.ref h.objs.size,.ref (zH1 h t a).objs.size] }
noncomputable def zH4 (h:Heap) (t u:Bool) (a b:Addr):Heap:=(zH3 h t u a b).push { cls:=.type "tuple",data:=.seq #[.none,.none] }
noncomputable def zH5 (h:Heap) (t u:Bool) (a b:Addr):Heap:=(zH4 h t u a b).push { cls:=.type "zip",data:=.fields #[.none,.bool false,.bool false,.ref (zH2 h t u a b).objs.size,.ref (zH3 h t u a b).objs.size] }
theorem rN (t u:Bool)(a b:Addr)(xs ys:Array h8) :
 Ou (Jj.«zip.__new__» ⟨[.type "zip",.ref a,.ref b],[]⟩) (λ_ R s=>Sq t s.heap a xs/\Sq u s.heap b ys/\R (.ok (.ret (.ref (zH4 s.heap t u a b).objs.size))) { s with heap:=zH5 s.heap t u a b }) :=
 .of_wp λprog w A R s h=>by
  obtain⟨j,g,d,tk,os⟩:=s;obtain⟨J,L,h⟩:=h;have O:=sub_zip
  cases t <;> cases u
  ·have z:KG (Ic ⟨j,g,d,tk,os⟩) a xs:=J;have F:KG (Ic ⟨j.push { cls:=.type "list_iterator",data:=.fields #[.ref a,.int 0 0] },g,d,tk,os⟩) b ys:=NR L _
   wp_walk using Hb z,Hb F
   exact⟨_,rfl,h⟩
  ·have z:KG (Ic ⟨j,g,d,tk,os⟩) a xs:=J;have F:K9 (Ic ⟨j.push { cls:=.type "list_iterator",data:=.fields #[.ref a,.int 0 0] },g,d,tk,os⟩) b ys:=Nt L _
   wp_walk using Hb z,GR F
   exact⟨_,rfl,h⟩
  ·have z:K9 (Ic ⟨j,g,d,tk,os⟩) a xs:=J;have F:KG (Ic ⟨j.push { cls:=.type "tuple_iterator",data:=.fields #[.ref a,.int 0 0] },g,d,tk,os⟩) b ys:=NR L _
   wp_walk using GR z,Hb F
   exact⟨_,rfl,h⟩
  ·have z:K9 (Ic ⟨j,g,d,tk,os⟩) a xs:=J;have F:K9 (Ic ⟨j.push { cls:=.type "tuple_iterator",data:=.fields #[.ref a,.int 0 0] },g,d,tk,os⟩) b ys:=Nt L _
   wp_walk using GR z,GR F
   exact⟨_,rfl,h⟩
theorem at_new {t:Bool}(e:h.get? i=some (itO t l)):At t h i l 0:=by
 cases t <;> exact⟨_,e,rfl,rfl⟩
theorem call_zip {t:Bool}{Q:h8->Ft->Prop}(Y:Sq t s.heap a xs)(Z:Sq u s.heap b ys)(q:∀ h',KD h' (s.heap.objs.size+4) (s.heap.objs.size+2) (s.heap.objs.size+3) .none->Il h' (s.heap.objs.size+2) (.ref s.heap.objs.size) (.ref (s.heap.objs.size+1)) ->
   Il h' (s.heap.objs.size+3) .none .none->At t h' s.heap.objs.size a 0->At u h' (s.heap.objs.size+1) b 0->h'.objs.size=s.heap.objs.size+5 ->
   (∀ c o,s.heap.get? c=some o->h'.get? c=some o)->Q (.ref (s.heap.objs.size+4)) { s with heap:=h' }) :
 FG (model prog w) A (call (.type "zip") [.ref a,.ref b]) Q E s:=by
 refine callType_new F.called_zip (by decide) (F.typeCall_zip_2 _ _) (F.newCall_zip_2 _ _) (λobj=>F.args_object_init_3 obj _ _) F.entry_zip_new (rN t u a b xs ys) ⟨Y,Z,?_⟩
 have z:(zH1 s.heap t a).objs.size=s.heap.objs.size+1:=Gz ..;have J:(zH2 s.heap t u a b).objs.size=s.heap.objs.size+2:=by unfold zH2;rw[Gz,z]
 have L:(zH3 s.heap t u a b).objs.size=s.heap.objs.size+3:=by unfold zH3;rw[Gz,J]
 have O:(zH4 s.heap t u a b).objs.size=s.heap.objs.size+4:=by unfold zH4;rw[Gz,L]
 have z5:(zH5 s.heap t u a b).objs.size=s.heap.objs.size+5:=by unfold zH5;rw[Gz,O]
 have k5:∀ {c o},(zH4 s.heap t u a b).get? c=some o->(zH5 s.heap t u a b).get? c=some o:=λe=>td _ e;have j:∀ {c o},(zH3 s.heap t u a b).get? c=some o->(zH4 s.heap t u a b).get? c=some o:=λe=>td _ e;have k3:∀ {c o},(zH2 s.heap t u a b).get? c=some o->(zH3 s.heap t u a b).get? c=some o:=λe=>td _ e;have k2:∀ {c o},(zH1 s.heap t a).get? c=some o->(zH2 s.heap t u a b).get? c=some o:=λe=>td _ e;have k1:∀ {c o},s.heap.get? c=some o->(zH1 s.heap t a).get? c=some o:=λe=>td _ e;have f:∀ t l,(itO t l).isFreed=false:=λt l=>by cases t <;> rfl
 have g5:(zH5 s.heap t u a b).get? (zH4 s.heap t u a b).objs.size=some _:=FK _ rfl;have U:(zH5 s.heap t u a b).get? (zH3 s.heap t u a b).objs.size=some _:=k5 (FK _ rfl);have g3:(zH5 s.heap t u a b).get? (zH2 s.heap t u a b).objs.size=some _:=k5 (j (FK _ rfl));have g2:(zH5 s.heap t u a b).get? (zH1 s.heap t a).objs.size=some _:=k5 (j (k3 (FK _ (f u b))));have g1:(zH5 s.heap t u a b).get? s.heap.objs.size=some _:=k5 (j (k3 (k2 (FK _ (f t a)))));show _/\_;rw[J,L,O]at g5;rw[z,J]at g3;rw[L]at U;rw[z]at g2;rw[O];exact⟨⟨_,g5,rfl⟩,q _ g5 g3 U (at_new g1) (at_new g2) z5 λc o x=>k5 (j (k3 (k2 (k1 x))))⟩
end
end Zp
variable {p:Pos}{elts:List Expr}{ta:TA}
section
section
variable {X:Cx} {pins:List (Addr×Obj)} {σ:St} {H:Hp} {s:Ft} {h':Heap}
theorem Inv.turnedL {t':Nat}{fp:List Addr}(I:Inv X pins σ H s)(hf:∀ b∈fp,bT X pins H b)(k:∀ b o,b∉fp->s.heap.get? b=some o->h'.get? b=some o):Inv X pins σ H { s with heap:=h',toks:=t' }:=by
 have nit:∀ b u,H b=some u->b∉fp:=λb u e z=>by rw[(hf b z).1]at e;cases e
 refine I.step (g':=s.gens) (d':=s.drawn) (ch:=fp) (λb F=>?_) (λb o _ _ j e _=>k b o j e) (λb o _ _ j e _=>⟨o.slots,k b o j e⟩) (λ_ _ _ _ n=>n)
  (λb o j e=>⟨o,k b o j e⟩) (λ_ _ e=>e) (λ_ _ _ e=>e) (λb ps e=>⟨#[],by rw[e];simp⟩) (λm hm=>?_) (λb u e=>?_) I.bare
 ·obtain⟨_,f1,_,J,f4,L⟩:=hf b F;exact⟨J,f1,f4,L⟩
 ·obtain⟨o,es,ep,ho,r⟩:=hm;exact⟨o,es,ep,k _ o (λz=>(hf _ z).2.1 rfl) ho,r⟩
 ·refine(I.hok b u e).stay (λc v j q=>k c v ?_ q) (λ_ q=>q) λ_ _ q=>q
  rcases j with z|z
  ·rw[z];exact nit b u e
  ·exact nit c _ z
end
def SqV (K:Frag) (t:Bool) (H:Hp) (a:Addr) (xs:List V):Prop:=match t with|true=>SqT K H a xs|false=>SqL K H a xs
theorem Inv.sqv {t:Bool}{xs:List V}(I:Inv X pins σ H s)(h:SqV X.K t H a xs):∃ its:List h8,Vals xs its/\Zp.Sq t s.heap a its.toArray:=by
 cases t with
 |true=>obtain⟨its,r,p,_⟩:=I.tuple h;exact⟨its,r,p⟩
 |false=>obtain⟨its,r,p,_⟩:=I.list h;exact⟨its,r,p.isList⟩
theorem Inv.sqv_inj {t:Bool}{xs ys:List V}(I:Inv X pins σ H s)(h:SqV X.K t H a xs)(h':SqV X.K t H a ys):xs=ys:=by
 cases t with
 |true=>exact I.tuple_inj h h'
 |false=>exact I.list_inj h h'
noncomputable def Itz (K:Frag) (t u:Bool) (a b:Addr):It :=
 ⟨λi H=>∃ xs ys x y,SqV K t H a xs/\SqV K u H b ys/\xs[i]? = some x/\ys[i]? = some y,
  λi H v H'=>∃ p x y,H p=none/\v = .ref p/\H'=upd H p (.tup [x,y]) /\ ∀ xs ys,SqV K t H a xs->SqV K u H b ys->xs[i]? = some x/\ys[i]? = some y,
  λi H=>∃ xs ys,SqV K t H a xs/\SqV K u H b ys/\(xs.length<=i∨ys.length<=i)⟩
theorem ur {cx}{t u:Bool}{z T O i j:Addr}(D:LW z T O i j a b) :
 fq P w K (.Tuple elts cx pos) (Itz K t u a b) [z,T,O,i,j] z (λk h=>KD h z T O .none/\Il h T (.ref i) (.ref j)/\(∃ p r,Il h O p r)/\Zp.At t h i a k/\Zp.At u h j b k) where
 mem:=by simp
 obj:=λk h ⟨J,L,⟨p,r,U⟩,hi,Y⟩ c F=>by
  simp only[FA,FQ,or_false]at F
  rcases F with rfl|rfl|rfl|rfl|rfl
  ·exact⟨_,J,λv e=>by cases e⟩
  ·exact⟨_,L,λv e=>by cases e⟩
  ·exact⟨_,U,λv e=>by cases e⟩
  ·exact hi.lt
  ·exact Y.lt
 keep:=λk h h' g9 kk=>(by obtain⟨J,L,⟨p,r,U⟩,hi,Y⟩:=g9;exact⟨kk z (by simp) _ J,kk T (by simp) _ L,⟨p,r,kk O (by simp) _ U⟩,hi.up λo e=>kk i (by simp) o e,Y.up λo e=>kk j (by simp) o e⟩)
 item:=by
  intro X hP hw hK F k pins s σ H E I hf st hg;subst hP hw hK;obtain⟨J,L,⟨p,r,U⟩,hi,Y⟩:=st;obtain⟨xs,ys,x,y,qx,qy,ex,ey⟩:=hg;obtain⟨is,rx,px⟩:=I.sqv qx;obtain⟨js,ry,py⟩:=I.sqv qy;obtain⟨ux,EI,rux⟩:=rx.get ex;obtain⟨uy,EJ,ruy⟩:=ry.get ey;refine Zp.nxt_item D J L U hi Y px py (by simpa using EI) (by simpa using EJ) λh1 z1 o1 i1 j1 p1 k1=>⟨_,rfl,?_⟩
  refine wpAny_letOwnedTupleGo_zip (s:={ s with heap:=h1 }) z1 λh2 z2 s2=>?_
  have lt:∀ {c o},s.heap.get? c=some o->c≠s.heap.objs.size:=λe=>Gb (FF e);have nz:s.heap.objs.size≠z:=(lt J).symm;have EK:∃ o,s.heap.get? i=some o:=hi.lt.imp λ_ h=>h.1;have EL:∃ o,s.heap.get? j=some o:=Y.lt.imp λ_ h=>h.1;have up:∀ c o,c≠z->h1.get? c=some o->h2.get? c=some o:=λc o n e=>s2.extBut _ _ n e;have IL:Inv X pins σ (upd H s.heap.objs.size (.tup [x,y])) { s with heap:=s.heap.push { cls:=.type "tuple",data:=.seq #[ux,uy] },toks:=s.toks } :=
   I.laid (λb o e=>td _ e) (FE _) ⟨by rw[Fy];simp,[ux,uy],.cons rux (.cons ruy .nil),JC _ _⟩
  have fr:∀ c∈[z,T,O,i,j],c≠s.heap.objs.size:=λc F=>by
   simp only[FA,FQ,or_false]at F
   rcases F with rfl|rfl|rfl|rfl|rfl
   ·exact lt J
   ·exact lt L
   ·exact lt U
   ·obtain⟨o,e⟩:=EK;exact lt e
   ·obtain⟨o,e⟩:=EL;exact lt e
  have un:∀ c∈[z,T,O,i,j],upd H s.heap.objs.size (.tup [x,y]) c=none:=λc F=>by
   rw[ag (fr c F)];exact(hf c F).1
  have kk:∀ c o,c∉[z,T,O,i,j]->(s.heap.push { cls:=.type "tuple",data:=.seq #[ux,uy] }).get? c=some o->h2.get? c=some o:=λc o F e=>by
   simp only[FA,FQ,or_false,not_or]at F
   rcases LY e with⟨rfl,rfl⟩|e
   ·exact up _ _ nz p1
   ·exact up _ _ F.1 (k1 c o F.1 F.2.2.1 F.2.2.2.1 F.2.2.2.2 e)
  have I2:Inv X pins σ (upd H s.heap.objs.size (.tup [x,y])) { s with heap:=h2,toks:=s.toks } :=
   (Inv.turnedL (s:={ s with heap:=s.heap.push { cls:=.type "tuple",data:=.seq #[ux,uy] },toks:=s.toks }) (h':=h2) (t':=s.toks) (fp:=[z,T,O,i,j]) IL (λc F=>⟨un c F,(hf c F).2⟩) kk)
  refine⟨.ref s.heap.objs.size,_,I2,rfl,⟨_,x,y,I.hok.fresh (FE _),rfl,rfl,λxs' ys' q1 q2=>?_⟩,⟨z2,up _ _ D.TIz (k1 _ _ D.TIz D.TITO D.TIi1 D.TIi2 L),⟨_,_,up _ _ D.TOz o1⟩,i1.up λo e=>up _ o D.i1z e,j1.up λo e=>up _ o D.i2z e⟩,un⟩;rw[I.sqv_inj q1 qx,I.sqv_inj q2 qy];exact⟨ex,ey⟩
 done:=by
  intro X hP hw hK F k pins s σ H E I hf st hg;subst hP hw hK;obtain⟨J,L,⟨p,r,U⟩,hi,Y⟩:=st;obtain⟨xs,ys,qx,qy,Z⟩:=hg;obtain⟨is,rx,px⟩:=I.sqv qx;obtain⟨js,ry,py⟩:=I.sqv qy;have lx:=rx.length;have ly:=ry.length;refine Zp.nxt_end (I.ok.hd F) D J L U hi Y px py (Z.imp (λe=>by simp;lia) (λe=>by simp;lia)) λh1 k1=>⟨rfl,I.turnedL (t':=s.toks) hf λc o F e=>?_⟩
  simp only[FA,FQ,or_false,not_or]at F;exact k1 c o F.1 F.2.2.1 F.2.2.2.1 F.2.2.2.2 e
 self:=λA k s Q E st h=>NS st.1 h
section
variable {X:Cx}
noncomputable def CB (K:Frag) (ta:TA):TI:=λσ H R=>ta σ H λvs H1=>∃ a b t u xs ys,vs=[.ref a,.ref b]/\SqV K t H1 a xs/\SqV K u H1 b ys/\R (Itz K t u a b) H1
theorem zA {cx}{a b:Expr}(L:Gl X "zip")(hm:X.mg "zip" = none)(O:PA X [a,b] ta)(U:FN [a,b] X.env=[(false,eval a X.env),(false,eval b X.env)])(j:FN [b] X.env=[(false,eval b X.env)]) :
 PI X (.Tuple elts cx pos) (.Call (.Name "zip" p) [a,b] [] pos') (CB X.K ta):=by
 intro pins s σ H R I h;refine Call_ (dA I L hm (u:=.type "zip") (by decide +kernel) (HB (thn (O pos' pins s σ H _ I h) λus s1 g9=>?_) (by rw[U,j]) (by rw[j];rfl)));obtain⟨vs,H1,z,Y,Z⟩:=g9
 obtain⟨a',b',t,u,xs,ys,rfl,qx,qy,q⟩:=Z
 cases Y with
 | cons r rr =>
   cases rr with
   | cons r' rr =>
     cases rr
     cases r
     cases r'
     obtain⟨is,rx,px⟩:=z.sqv qx;obtain⟨js,ry,py⟩:=z.sqv qy;refine Zp.call_zip px py λh1 F t1 o1 i1 j1 sz k1=>?_;refine NS F ?_;have la:a'<s1.heap.objs.size:=by cases t <;> (obtain⟨o,e,_⟩:=px;exact FF e)
     have lb:b'<s1.heap.objs.size:=by cases u <;> (obtain⟨o,e,_⟩:=py;exact FF e)
     have D:LW (s1.heap.objs.size+4) (s1.heap.objs.size+2) (s1.heap.objs.size+3) s1.heap.objs.size (s1.heap.objs.size+1) a' b':=by constructor <;> (intro e;subst_vars;first|lia|(simp only[Addr]at *;lia))
     refine⟨_,_,_,_,H1,rfl,z.kept (t':=s1.toks) k1,ur (t:=t) (u:=u) D,⟨F,t1,⟨_,_,o1⟩,i1,j1⟩,λc J=>?_,q⟩;have hle:s1.heap.objs.size<=c:=by
      simp only[FA,FQ,or_false]at J
      rcases J with rfl|rfl|rfl|rfl|rfl <;> lia
     exact z.fpOk hle (z.hok.fresh hle)
end
end
namespace Zp
end Zp
namespace En
variable {z i a:Addr}{oo:Int}{xs:Array h8}{old:h8}
section
variable {prog:FT} {w:G8} {A:G3} {E:h8->Ft->Prop} {s:Ft}
open Builtin.SmallTypes Zp in
theorem zB {t:Bool}{k:Nat}{x:h8}{Q:h8->Ft->Prop}(Y:KP s.heap z i ((k:Int)+oo) old)(hi:At t s.heap i a k)(ha:Sq t s.heap a xs)(hx:xs[k]? = some x)(j:z≠i)(q:∀ h',NT h' z i ((k:Int)+oo+1) x s.heap.objs.size->At t h' i a (k+1)->h'.get? s.heap.objs.size=some { cls:=.type "tuple",data:=.seq #[.int ((k:Int)+oo) s.toks,x] } ->
   (∀ b o,b≠z->b≠i->s.heap.get? b=some o->h'.get? b=some o)->Q (.ref s.heap.objs.size) { s with heap:=h',toks:=s.toks+1 }) :
 FG (model prog w) A (Jj.«enumerate.__next__» ⟨[.ref z],[]⟩) (λfin s'=>∃ v,fin = .done (.ret v)/\Q v s') E s:=by
 obtain⟨F,g,d,tk,os⟩:=s;refine gV (m:=field (.ref z) 2) (G9 Y rfl (x:=.ref i) rfl (gV (fW hi ha hx λg1 i1 s1=>?_)));have Z:GK i F g1:=s1;clear s1;have Z1:KP g1 z i ((k:Int)+oo) old:=(Z.2 z j).trans Y;refine gV (m:=field (.ref z) 3) (G9 (s:=⟨g1,g,d,tk,os⟩) Z1 rfl (x:=HR ((k:Int)+oo)) rfl ?_);refine gV (m:=field (.ref z) 4) (G9 (s:=⟨g1,g,d,tk,os⟩) Z1 rfl (x:=.none) rfl ?_);refine gV (m:=mkInt ((k:Int)+oo)) (wpAny_mkInt ?_);refine gV (m:=setField (.ref z) 3 (HR ((k:Int)+oo+1))) (Gq (s:=⟨g1,g,d,tk+1,os⟩) Z1 (by simp) λg2 z2 s2=>?_)
 have S2:GK z g1 g2:=s2;have Z2:KP g2 z i ((k:Int)+oo+1) old:=z2;clear s2 z2;refine gV (m:=setField (.ref z) 4 .none) (Gq (s:=⟨g2,g,d,tk+1,os⟩) Z2 (by simp) λg3 z3 s3=>?_)
 have S3:GK z g2 g3:=s3;have Z3:KP g3 z i ((k:Int)+oo+1) old:=z3;clear s3 z3;refine gV (m:=newTuple [.int ((k:Int)+oo) tk,x]) (wpAny_newTuple ?_);have L:KP (g3.push { cls:=.type "tuple",data:=.seq #[.int ((k:Int)+oo) tk,x] }) z i ((k:Int)+oo+1) old:=td _ Z3;have sz:g3.objs.size=F.objs.size:=by rw[S3.1,S2.1,Z.1]
 have zl:z<F.objs.size:=FF Y;have T4:(g3.push { cls:=.type "tuple",data:=.seq #[.int ((k:Int)+oo) tk,x] }).get? F.objs.size=some { cls:=.type "tuple",data:=.seq #[.int ((k:Int)+oo) tk,x] }:=by rw[<- sz];exact FK _ rfl
 have K4:∀ b o,b≠z->b≠i->F.get? b=some o->(g3.push { cls:=.type "tuple",data:=.seq #[.int ((k:Int)+oo) tk,x] }).get? b=some o:=λb o bz bi e =>
  td _ (S3.extBut b o bz (S2.extBut b o bz (Z.extBut b o bi e)))
 have I4:At t (g3.push { cls:=.type "tuple",data:=.seq #[.int ((k:Int)+oo) tk,x] }) i a (k+1):=i1.up λo e=>td _ (S3.extBut i o j.symm (S2.extBut i o j.symm e));rw[sz];generalize g3.push { cls:=.type "tuple",data:=.seq #[.int ((k:Int)+oo) tk,x] }=J at L T4 K4 I4;refine gV (m:=ownedTupleIsFree (.ref z)) ?_;unfold ownedTupleIsFree;refine gV (G9 (s:=⟨J,g,d,tk+1,os⟩) L rfl (x:=.none) rfl (Fv ?_));simp only[if_true];refine gV (IJ (gV (G9 (s:=⟨J,g,d,tk+1,os⟩) L rfl (x:=old) rfl (gV (Gq (s:=⟨J,g,d,tk+1,os⟩) L (by simp) λg5 z5 s5=>?_)))))
 have S5:GK z J g5:=s5;have Z5:KP g5 z i ((k:Int)+oo+1) x:=z5;clear s5 z5;refine gV (m:=ownedTupleHandOut (.ref z) (.ref F.objs.size)) ?_;unfold ownedTupleHandOut;refine gV (Gq (s:=⟨g5,g,d,tk+1,os⟩) Z5 (by simp) λO z6 s6=>?_)
 have S6:GK z g5 O:=s6;have Z6:NT O z i ((k:Int)+oo+1) x F.objs.size:=z6;clear s6 z6;refine Gq (s:=⟨O,g,d,tk+1,os⟩) Z6 (by simp) λU z7 s7=>?_
 have S7:GK z O U:=s7;have Z7:NT U z i ((k:Int)+oo+1) x F.objs.size:=z7;clear s7 z7;have up:∀ b o,b≠z->J.get? b=some o->U.get? b=some o:=λb o bz e=>S7.extBut b o bz (S6.extBut b o bz (S5.extBut b o bz e));exact gV (LX (Fv ⟨_,rfl,q U Z7 (I4.up λo e=>up i o j.symm e) (up _ _ (HZ zl) T4) λb o bz bi e=>up b o bz (K4 b o bz bi e)⟩))
theorem nxt_item {t:Bool}{k:Nat}{x:h8}{Q:Option h8->Ft->Prop}(J:KP s.heap z i ((k:Int)+oo) old)(hi:Zp.At t s.heap i a k)(L:Zp.Sq t s.heap a xs)(hx:xs[k]? = some x)(j:z≠i)(q:∀ h',NT h' z i ((k:Int)+oo+1) x s.heap.objs.size->Zp.At t h' i a (k+1)->h'.get? s.heap.objs.size=some { cls:=.type "tuple",data:=.seq #[.int ((k:Int)+oo) s.toks,x] } ->
   (∀ b o,b≠z->b≠i->s.heap.get? b=some o->h'.get? b=some o)->Q (some (.ref s.heap.objs.size)) { s with heap:=h',toks:=s.toks+1 }) :
 FG (model prog w) A (Kg (.ref z)) Q E s:=by
 have ty:s.TypeIs (.ref z) "enumerate":=⟨_,J,rfl⟩;unfold Kg;exact gV (JO (Gs (name:=g8 "__next__") ty IG (Hn IG ty Lu
  (zB J hi L hx j λh' a1 a2 O U=>Fv (q h' a1 a2 O U)) (L7 _))))
theorem nxt_end {t:Bool}{k:Nat}{Q:Option h8->Ft->Prop}(J:A.handled=none)(j:KP s.heap z i ((k:Int)+oo) old)(hi:Zp.At t s.heap i a k)(L:Zp.Sq t s.heap a xs)(hx:xs[k]? = none)(q:∀ h',O6 i s.heap h'->Q none { s with heap:=h' }):FG (model prog w) A (Kg (.ref z)) Q E s:=by
 have ty:s.TypeIs (.ref z) "enumerate":=⟨_,j,rfl⟩;unfold Kg;refine gV (JO (Gs (name:=g8 "__next__") ty IG (Hn IG ty Lu ?_ (L7 _))));refine gV (m:=field (.ref z) 2) (G9 j rfl (x:=.ref i) rfl (gV (Zp.nx_end J hi L hx λh' x he O=>?_)));obtain⟨o,ho,U⟩:=O;exact gV (NQ (T:="StopIteration") (b:=true) ⟨o,ho,U⟩ isSubtype_stop (Fv (q _ he)))
open AutoSeq1 (wpAny_loadPart') in
theorem xh (l:Addr)(items:Array h8)(n:Nat)(dct:Option Addr)(sl:Array (Option h8)) :
 Ou (Jj.«enumerate.__new__» ⟨[.type "enumerate",.ref l],[]⟩) (λ_ R s=>s.heap.get? l=some { cls:=.type "tuple",dict:=dct,data:=.seq items n,slots:=sl } /\
  R (.ok (.ret (.ref (s.heap.push (Zp.itO true l)).objs.size))) { s with heap:=(s.heap.push (Zp.itO true l)).push { cls:=.type "enumerate",data:=.fields #[.none,.bool false,.ref s.heap.objs.size,HR 0,.none,.none] } }) :=
 .of_wp λprog w A R s h=>by
  obtain⟨J,g,d,tk,os⟩:=s;obtain⟨j,h⟩:=h;have z:=sub_enumerate;have F:K9 (Ic ⟨J,g,d,tk,os⟩) l items:=⟨_,j,rfl,n,rfl⟩
  wp_walk using Hf j
  refine wpAny_stack_any λst=>Fv ?_
  split
  ·rename_i c _ _ _ _ _
   cases (c==Lj "enumerate") <;> (wp_walk using Hf j,GR F;exact⟨_,rfl,h⟩)
  ·wp_walk using Hf j,GR F
   exact⟨_,rfl,h⟩
theorem call_enum {t:Bool}{l:Addr}{items:Array h8}{Q:h8->Ft->Prop}(J:Zp.Sq t s.heap l items)(q:∀ h',KP h' (s.heap.objs.size+1) s.heap.objs.size 0 .none->Zp.At t h' s.heap.objs.size l 0->(∀ b o,s.heap.get? b=some o->h'.get? b=some o)->Q (.ref (s.heap.objs.size+1)) { s with heap:=h' }) :
 FG (model prog w) A (call (.type "enumerate") [.ref l]) Q E s:=by
 cases t with
 |false=>exact call_enumerate_list J λh' a b _ k=>q h' a b k
 | true =>
   obtain⟨⟨c,dct,dt,sl⟩,O,U,n,hd⟩:=J;have j:c = .type "tuple":=U;have z:dt = .seq items n:=hd;subst j z;refine callType_new MY (by decide) (F.typeCall_enumerate_1 _) (F.newCall_enumerate_1 _) (λobj=>F.args_object_init_2 obj _) LJ (xh l items n dct sl) ⟨O,?_⟩
   have L:(s.heap.push (Zp.itO true l)).objs.size=s.heap.objs.size+1:=Gz ..;have e:((s.heap.push (Zp.itO true l)).push { cls:=.type "enumerate",data:=.fields #[.none,.bool false,.ref s.heap.objs.size,HR 0,.none,.none] }).get? (s.heap.push (Zp.itO true l)).objs.size=some _:=FK _ rfl;rw[L]at e;show _/\_;rw[L];exact⟨⟨_,e,rfl⟩,q _ e (Zp.at_new (td _ (FK _ rfl))) λb o x=>td _ (td _ x)⟩
end
end En
noncomputable def Ite (K:Frag) (t:Bool) (a:Addr) (oo:Int:=0):It :=
 ⟨λi H=>∃ xs x,SqV K t H a xs/\xs[i]? = some x,
  λi H v H'=>∃ p x,H p=none/\v = .ref p/\H'=upd H p (.tup [.int ((i:Nat)+oo),x]) /\ ∀ xs,SqV K t H a xs->xs[i]? = some x,
  λi H=>∃ xs,SqV K t H a xs/\xs.length<=i⟩
theorem jL {cx}{t:Bool}{z i:Addr}{oo:Int}(J:z≠i) :
 fq P w K (.Tuple elts cx pos) (Ite K t a oo) [z,i] z (λk h=>(∃ old,KP h z i ((k:Int)+oo) old)/\Zp.At t h i a k) where
 mem:=by simp
 obj:=λk h ⟨⟨old,F⟩,hi⟩ c j=>by
  simp only[FA,FQ,or_false]at j
  rcases j with rfl|rfl
  ·exact⟨_,F,λv e=>by cases e⟩
  ·exact hi.lt
 keep:=λk h h' L kk=>(by obtain⟨⟨old,F⟩,hi⟩:=L;exact⟨⟨old,kk z (by simp) _ F⟩,hi.up λo e=>kk i (by simp) o e⟩)
 item:=by
  intro X O hw U j k pins s σ H E I hf st hg;subst O hw U;obtain⟨⟨old,F⟩,hi⟩:=st;obtain⟨xs,x,qx,ex⟩:=hg;obtain⟨is,rx,px⟩:=I.sqv qx;obtain⟨ux,Y,rux⟩:=rx.get ex;refine En.nxt_item F hi px (by simpa using Y) J λh1 z1 i1 p1 k1=>⟨_,rfl,?_⟩
  refine wpAny_letOwnedTupleGo_enum (s:={ s with heap:=h1,toks:=s.toks+1 }) z1 λh2 z2 s2=>?_
  have lt:∀ {c o},s.heap.get? c=some o->c≠s.heap.objs.size:=λe=>Gb (FF e);have nz:s.heap.objs.size≠z:=(lt F).symm;have Z:∃ o,s.heap.get? i=some o:=hi.lt.imp λ_ h=>h.1;have up:∀ c o,c≠z->h1.get? c=some o->h2.get? c=some o:=λc o n e=>s2.extBut _ _ n e;have IL:Inv X pins σ (upd H s.heap.objs.size (.tup [.int ((k:Nat)+oo),x])) { s with heap:=s.heap.push { cls:=.type "tuple",data:=.seq #[.int ((k:Int)+oo) s.toks,ux] },toks:=s.toks+1 } :=
   I.laid (λb o e=>td _ e) (FE _) ⟨by rw[Fy];simp,[.int ((k:Int)+oo) s.toks,ux],.cons ⟨_,rfl⟩ (.cons rux .nil),JC _ _⟩
  have fr:∀ c∈[z,i],c≠s.heap.objs.size:=λc j=>by
   simp only[FA,FQ,or_false]at j
   rcases j with rfl|rfl
   ·exact lt F
   ·obtain⟨o,e⟩:=Z;exact lt e
  have un:∀ c∈[z,i],upd H s.heap.objs.size (.tup [.int ((k:Nat)+oo),x]) c=none:=λc j=>by
   rw[ag (fr c j)];exact(hf c j).1
  have kk:∀ c o,c∉[z,i]->(s.heap.push { cls:=.type "tuple",data:=.seq #[.int ((k:Int)+oo) s.toks,ux] }).get? c=some o->h2.get? c=some o:=λc o j e=>by
   simp only[FA,FQ,or_false,not_or]at j
   rcases LY e with⟨rfl,rfl⟩|e
   ·exact up _ _ nz p1
   ·exact up _ _ j.1 (k1 c o j.1 j.2 e)
  have I2:Inv X pins σ (upd H s.heap.objs.size (.tup [.int ((k:Nat)+oo),x])) { s with heap:=h2,toks:=s.toks+1 } :=
   Inv.turnedL (s:={ s with heap:=s.heap.push { cls:=.type "tuple",data:=.seq #[.int ((k:Int)+oo) s.toks,ux] },toks:=s.toks+1 }) (h':=h2) (t':=s.toks+1) (fp:=[z,i]) IL (λc j=>⟨un c j,(hf c j).2⟩) kk
  refine⟨.ref s.heap.objs.size,_,I2,rfl,⟨_,x,I.hok.fresh (FE _),rfl,rfl,λxs' q1=>?_⟩,⟨⟨ux,by have e9:(((k+1:Nat):Int)+oo)=(k:Int)+oo+1:=(by lia);rw[e9];exact z2⟩,i1.up λo e=>up _ o J.symm e⟩,un⟩
  rw[I.sqv_inj q1 qx];exact ex
 done:=by
  intro X O hw U j k pins s σ H E I hf st hg;subst O hw U;obtain⟨⟨old,F⟩,hi⟩:=st;obtain⟨xs,qx,EI⟩:=hg;obtain⟨is,rx,px⟩:=I.sqv qx;have lx:=rx.length;refine En.nxt_end (I.ok.hd j) F hi px (by simp;lia) λh1 k1=>⟨rfl,I.turnedL (t':=s.toks) hf λc o j e=>?_⟩
  simp only[FA,FQ,or_false,not_or]at j;exact k1 c o j.2 e
 self:=λA k s Q E L h=>(by obtain⟨⟨old,F⟩,_⟩:=L;exact KH F h)
section
variable {X:Cx}
noncomputable def Bf (K:Frag) (ta:TA):TI:=λσ H R=>ta σ H λvs H1=>∃ a t xs,vs=[.ref a]/\SqV K t H1 a xs/\R (Ite K t a) H1
theorem xi {cx}{a:Expr}(J:Gl X "enumerate")(hm:X.mg "enumerate" = none)(L:PA X [a] ta)(O:FN [a] X.env=[(false,eval a X.env)]) :
 PI X (.Tuple elts cx pos) (.Call (.Name "enumerate" p) [a] [] pos') (Bf X.K ta):=by
 intro pins s σ H R I h;refine Call_ (dA I J hm (u:=.type "enumerate") boot_enumerate (HB (thn (L pos' pins s σ H _ I h) λus s1 g9=>?_) O rfl));obtain⟨vs,H1,j,U,Y⟩:=g9;obtain⟨a',t,xs,rfl,qx,q⟩:=Y
 cases U with
 | cons r rr =>
   cases rr
   cases r
   obtain⟨is,rx,px⟩:=j.sqv qx;refine En.call_enum px λh1 z Z k1=>?_;refine KH z ?_;refine⟨_,_,_,_,H1,rfl,j.kept (t':=s1.toks) k1,jL (t:=t) (a:=a') (oo:=0) (by simp),⟨⟨_,z⟩,Z⟩,λc F=>?_,q⟩
   have hle:s1.heap.objs.size<=c:=by
    simp only[FA,FQ,or_false]at F
    rcases F with rfl|rfl <;> lia
   exact j.fpOk hle (j.hok.fresh hle)
end
namespace Rv
end Rv
section
noncomputable abbrev NK:=List (Int ⊕ List Int)
noncomputable def Bg (ks:List Int):Int:=reduceHash (Kx (ks.map hashInt))
noncomputable def Bh:Int ⊕ List Int->Int
 |.inl i=>hashInt i
 |.inr ks=>Bg ks
noncomputable def Bj (ks:NK):Int:=reduceHash (Kx (ks.map Bh))
noncomputable def wf (a:Addr) (xs:List (NK×Addr×h8)):Heap->Prop:=λh=>xs.length<=Fz/\(a==Iv)=false /\
 ∃ o es ep,h.get? a=some o/\o.ExactDict/\o.data = .dict es ep/\es.toList=xs.map (λx=>(⟨Bj x.1,.ref x.2.1,x.2.2⟩:DictEntry))/\(xs.map (·.1)).Nodup
noncomputable def Kt1 (H:Hp):Int ⊕ List Int->V->Prop
 |.inl i,v=>v = .int i
 |.inr ks,v=>∃ b,v = .ref b/\H b=some (.tup (ks.map V.int))
def Kt (H:Hp) (k:NK) (b:Addr):Prop:=∃ vs,H b=some (.tup vs)/\GZ (Kt1 H) k vs
theorem Kt.keeps {k:NK}(x:Kt H k b)(j:∀ b ys,H b=some (.tup ys)->H' b=some (.tup ys)):Kt H' k b:=by
 obtain⟨vs,e,p⟩:=x;refine⟨vs,j _ _ e,OP p λq v z=>?_⟩
 cases q with
 |inl i=>exact z
 |inr ks=>obtain⟨c,e,q⟩:=z;exact⟨c,e,j _ _ q⟩
end
namespace Mi
variable {a p:Addr}{K:Frag}{H H':Hp}{xs vs:List V}{i:Nat}{v:V}{x:Str}{σ:St}{ho:HO}{X:Cx}{e:Expr}
section
inductive D where
 |non|bl (b:Bool)|int (i:Int)|str (x:Str)|tup (ds:List D)|con (ds:List D)|ref (a:Addr)|fn (x:Str)
inductive O where
 |lst (ds:List D)
 |dct (t:Bool) (kvs:List (D×D))
 |fdc (kvs:List (D×D))
 |dcn (kvs:List (NK×D))
 |fdn (kvs:List (NK×D))
 |tab (pos:Pos) (q:Str)
noncomputable abbrev Mem:=Addr->Option O
noncomputable def fz:Option O->Bool
 |some (.lst _)=>false
 |some (.dct _ _)=>false
 |some (.dcn _)=>false
 |some (.tab _ _)=>false
 |_=>true
noncomputable abbrev ao:=List (Option D)
noncomputable def af (M:Mem) (a:Addr) (o:O):Mem:=λb=>if b=a then some o else M b
theorem aa {M:Mem}{o:O}:af M a o a=some o:=by unfold af;rw[if_pos rfl]
theorem aB {M:Mem}{b:Addr}{o:O}(h:b≠a):af M a o b=M b:=by unfold af;rw[if_neg h]
def SqF (K:Frag) (H:Hp) (a:Addr) (xs:List V):Prop :=
 (∃ o,H a=some (.frz o (.lst xs))) ∨
  ∃ (o:Obj) (its:Array h8) (n:Nat),K.lookup a=some o/\o.cls = .type "list" /\ o.dict=none/\o.data = .seq its n/\its.size<=Fz/\Vals xs its.toList
theorem SqF.sq (h:SqF K H a xs):SqL K H a xs:=by
 rcases h with⟨o,h⟩|h
 ·exact .inl (.inr ⟨o,h⟩)
 ·exact .inr h
noncomputable def fk2:Bool:=true
noncomputable def fk3:Bool:=true
noncomputable def fk:List D->Bool
 |[.int _,.int _,.int _]=>true
 |[.tup _,_]=>true
 |[.int _,_]=>fk2
 |[]=>false
 |_=>fk3
def TupR (K:Frag) (H:Hp) (ds:List D) (a:Addr) (vs:List V):Prop:=H a=some (.tup vs)∨(fk ds=false/\SqT K H a vs)
theorem TupR.sq {ds:List D}(h:TupR K H ds a vs):SqT K H a vs:=h.elim SqT.of (·.2)
mutual
noncomputable def RD (K:Frag) (H:Hp):D->V->Prop
 |.non,v=>v = .non
 |.bl b,v=>v = .bl b
 |.int i,v=>v = .int i
 |.str x,v=>v = .str x
 |.tup ds,v=>∃ a vs,v = .ref a/\TupR K H ds a vs/\RDs K H ds vs
 |.con ds,v=>∃ a vs,v = .ref a/\SqF K H a vs/\RDs K H ds vs
 |.ref a,v=>v = .ref a
 |.fn x,v=>∃ f,v = .ref f/\HD K Gm x=some (some (.ref f))
noncomputable def RDs (K:Frag) (H:Hp):List D->List V->Prop
 |[],vs=>vs=[]
 |d::ds,vs=>∃ v r,vs=v::r/\RD K H d v/\RDs K H ds r
end
structure Stab (H H':Hp):Prop where
 tup:∀ a xs,H a=some (.tup xs)->H' a=some (.tup xs)
 frz:∀ a o u,H a=some (.frz o u)->H' a=some (.frz o u)
theorem Stab.sqT (st:Stab H H')(h:SqT K H a xs):SqT K H' a xs:=by
 rcases h with(h|⟨o,h⟩)|h
 ·exact .inl (.inl (st.tup _ _ h))
 ·exact .inl (.inr ⟨o,st.frz _ _ _ h⟩)
 ·exact .inr h
theorem Stab.sqF (st:Stab H H')(h:SqF K H a xs):SqF K H' a xs:=by
 rcases h with⟨o,h⟩|h
 ·exact .inl ⟨o,st.frz _ _ _ h⟩
 ·exact .inr h
mutual
theorem RD.mono {K:Frag}{H H':Hp}(st:Stab H H'):∀ {d:D} {v:V},RD K H d v->RD K H' d v
 |.non,_,h=>h
 |.bl _,_,h=>h
 |.int _,_,h=>h
 |.str _,_,h=>h
 |.tup ds,v,h=>by
  unfold RD at h ⊢;obtain⟨a,vs,e,q,r⟩:=h;exact⟨a,vs,e,q.imp (st.tup _ _) (λz=>⟨z.1,st.sqT z.2⟩),RDs.mono st r⟩
 |.con ds,v,h=>by
  unfold RD at h ⊢;obtain⟨a,vs,e,q,r⟩:=h;exact⟨a,vs,e,st.sqF q,RDs.mono st r⟩
 |.ref _,_,h=>h
 |.fn _,_,h=>by unfold RD at h ⊢;exact h
theorem RDs.mono {K:Frag}{H H':Hp}(st:Stab H H'):∀ {ds:List D} {vs:List V},RDs K H ds vs->RDs K H' ds vs
 |[],_,h=>h
 | d::ds,vs,h=>by
   unfold RDs at h ⊢;obtain⟨v,r,e,h1,h2⟩:=h;exact⟨v,r,e,RD.mono st h1,RDs.mono st h2⟩
end
section
variable {K:Frag} {H H':Hp}
theorem OI {i:Int}:RD K H (.int i) v↔v = .int i:=by unfold RD;exact Nu
theorem OK {b:Bool}:RD K H (.bl b) v↔v = .bl b:=by unfold RD;exact Nu
theorem ON:RD K H .non v↔v = .non:=by unfold RD;exact Nu
theorem OJ:RD K H (.str x) v↔v = .str x:=by unfold RD;exact Nu
theorem OL:RD K H (.ref a) v↔v = .ref a:=by unfold RD;exact Nu
theorem OZ:RD K H (.fn x) v ↔ ∃ f,v = .ref f/\HD K Gm x=some (some (.ref f)):=by rw[RD]
theorem OS {ds:List D}:RD K H (.tup ds) v ↔ ∃ a vs,v = .ref a/\TupR K H ds a vs/\RDs K H ds vs:=by rw[RD]
theorem OU {ds:List D}(h:∃ a vs,v = .ref a/\H a=some (.tup vs)/\RDs K H ds vs):RD K H (.tup ds) v:=OS.mpr (let ⟨a,vs,e,h,r⟩:=h; ⟨a,vs,e,.inl h,r⟩)
theorem OO {ds:List D}(h:RD K H (.tup ds) v):∃ a vs,v = .ref a/\SqT K H a vs/\RDs K H ds vs:=let ⟨a,vs,e,h,r⟩:=OS.mp h; ⟨a,vs,e,h.sq,r⟩
theorem P1 {ds:List D}(f:fk ds=true)(h:RD K H (.tup ds) v):∃ a vs,v = .ref a/\H a=some (.tup vs)/\RDs K H ds vs:=let ⟨a,vs,e,h,r⟩:=OS.mp h; ⟨a,vs,e,h.elim id λz=>(by rw[f]at z;cases z.1),r⟩
theorem OQ {ds:List D}:RD K H (.con ds) v ↔ ∃ a vs,v = .ref a/\SqF K H a vs/\RDs K H ds vs:=by rw[RD]
theorem RDs.nil_iff:RDs K H [] vs↔vs=[]:=by rw[RDs]
theorem OM {d:D}{ds:List D}:RDs K H (d::ds) vs ↔ ∃ v r,vs=v::r/\RD K H d v/\RDs K H ds r:=by rw[RDs]
theorem RDs.nil:RDs K H [] []:=RDs.nil_iff.mpr rfl
theorem RDs.cons {d:D}{ds:List D}{v:V}{vs:List V}(h:RD K H d v)(r:RDs K H ds vs):RDs K H (d::ds) (v::vs):=OM.mpr ⟨v,vs,rfl,h,r⟩
theorem RDs.length:∀ {ds:List D} {vs:List V},RDs K H ds vs->vs.length=ds.length
 |[],_,h=>by rw[RDs.nil_iff.mp h];rfl
 | d::ds,_,h=>by
   obtain⟨v,r,rfl,_,h2⟩:=OM.mp h;simp[RDs.length h2]
theorem RDs.get:∀ {ds:List D} {vs:List V} {i:Nat} {d:D},RDs K H ds vs->ds[i]? = some d -> ∃ v,vs[i]? = some v/\RD K H d v
 |[],_,_,_,_,e=>by simp at e
 | d::ds,_,0,d',h,e=>by
   obtain⟨v,r,rfl,h1,h2⟩:=OM.mp h;simp at e;subst e;exact⟨v,rfl,h1⟩
 | d::ds,_,i+1,d',h,e=>by
   obtain⟨v,r,rfl,h1,h2⟩:=OM.mp h;obtain⟨u,j,z⟩:=RDs.get (i:=i) (d:=d') h2 (by simpa using e)
   exact⟨u,by simpa using j,z⟩
theorem RDs.getV {ds:List D}(h:RDs K H ds vs)(e:vs[i]? = some v):∃ d,ds[i]? = some d/\RD K H d v:=by
 have F:=h.length;have hi:i<vs.length:=(G0.mp e).1;obtain⟨d,hd⟩:∃ d,ds[i]? = some d:=⟨ds[i]'(by lia),FP (by lia)⟩
 obtain⟨u,j,z⟩:=h.get hd;rw[e]at j;cases j;exact⟨d,hd,z⟩
theorem RDs.append:∀ {ds es:List D} {vs us:List V},RDs K H ds vs->RDs K H es us->RDs K H (ds++es) (vs++us)
 |[],_,_,_,h,q=>by rw[RDs.nil_iff.mp h];exact q
 | d::ds,_,_,_,h,q=>by
   obtain⟨v,r,rfl,h1,h2⟩:=OM.mp h;exact RDs.cons h1 (RDs.append h2 q)
theorem RDs.take:∀ {ds:List D} {vs:List V} (n:Nat),RDs K H ds vs->RDs K H (ds.take n) (vs.take n)
 |[],_,n,h=>by rw[RDs.nil_iff.mp h];simp;exact RDs.nil
 |_::_,_,0,h=>by simp;exact RDs.nil
 | d::ds,_,n+1,h=>by
   obtain⟨v,r,rfl,h1,h2⟩:=OM.mp h;exact RDs.cons h1 (RDs.take n h2)
theorem RDs.drop:∀ {ds:List D} {vs:List V} (n:Nat),RDs K H ds vs->RDs K H (ds.drop n) (vs.drop n)
 |[],_,n,h=>by rw[RDs.nil_iff.mp h];simp;exact RDs.nil
 |d::ds,_,0,h=>h
 | d::ds,_,n+1,h=>by
   obtain⟨v,r,rfl,h1,h2⟩:=OM.mp h;exact RDs.drop n h2
theorem RDs.set:∀ {ds:List D} {vs:List V} (n:Nat) {d:D} {v:V},RD K H d v->RDs K H ds vs->RDs K H (ds.set n d) (vs.set n v)
 |[],_,n,_,_,_,h=>by rw[RDs.nil_iff.mp h];exact RDs.nil
 | d::ds,_,0,_,_,q,h=>by
   obtain⟨v,r,rfl,h1,h2⟩:=OM.mp h;exact RDs.cons q h2
 | d::ds,_,n+1,_,_,q,h=>by
   obtain⟨v,r,rfl,h1,h2⟩:=OM.mp h;exact RDs.cons h1 (RDs.set n q h2)
theorem RDs.rep {ds:List D}(h:RDs K H ds vs):∀ k:Nat,RDs K H (Fw k ds).flatten (Fw k vs).flatten
 |0=>RDs.nil
 | k+1=>by
   rw[GA,GA,Ia,Ia];exact h.append (h.rep k)
theorem RDs.ints:∀ (ns:List Int),RDs K H (ns.map D.int) (ns.map V.int)
 |[]=>RDs.nil
 |n::ns=>RDs.cons (OI.mpr rfl) (RDs.ints ns)
end
mutual
noncomputable def D.eqb:D->D->Bool
 |.non,.non=>true
 |.bl a,.bl b=>a==b
 |.int a,.int b=>decide (a=b)
 |.str a,.str b=>decide (a=b)
 |.tup a,.tup b=>D.eqbs a b
 |.con a,.con b=>D.eqbs a b
 |.ref a,.ref b=>decide (a=b)
 |.fn a,.fn b=>decide (a=b)
 |_,_=>false
noncomputable def D.eqbs:List D->List D->Bool
 |[],[]=>true
 |a::r,b::s=>D.eqb a b&&D.eqbs r s
 |_,_=>false
end
mutual
theorem P0:∀ (a b:D),D.eqb a b=true->a=b
 |.non,b,h=>by cases b <;> first|rfl|cases h
 |.bl a,b,h=>by cases b <;> first|exact congrArg D.bl (L4 h)|cases h
 |.int a,b,h=>by cases b <;> first|exact congrArg D.int (of_decide_eq_true h)|cases h
 |.str a,b,h=>by cases b <;> first|exact congrArg D.str (of_decide_eq_true h)|cases h
 |.tup a,b,h=>by cases b <;> first|exact congrArg D.tup (OW a _ h)|cases h
 |.con a,b,h=>by cases b <;> first|exact congrArg D.con (OW a _ h)|cases h
 |.ref a,b,h=>by cases b <;> first|exact congrArg D.ref (of_decide_eq_true h)|cases h
 |.fn a,b,h=>by cases b <;> first|exact congrArg D.fn (of_decide_eq_true h)|cases h
theorem OW:∀ (a b:List D),D.eqbs a b=true->a=b
 |[],b,h=>by cases b <;> first|rfl|cases h
 | a::r,b,h=>by
   cases b with
   |nil=>cases h
   | cons b s =>
     have h:=(hX _ _).mp h;rw[P0 a b h.1,OW r s h.2]
end
mutual
theorem OY:∀ (a:D),D.eqb a a=true
 |.non=>rfl
 |.bl a=>beq_self_eq_true a
 |.int _=>decide_eq_true rfl
 |.str _=>decide_eq_true rfl
 |.tup a=>OV a
 |.con a=>OV a
 |.ref _=>decide_eq_true rfl
 |.fn _=>decide_eq_true rfl
theorem OV:∀ (a:List D),D.eqbs a a=true
 |[]=>rfl
 |a::r=>(hX _ _).mpr ⟨OY a,OV r⟩
end
noncomputable instance:DecidableEq D:=λa b=>if h:D.eqb a b=true then isTrue (P0 a b h) else isFalse λe=>h (by rw[e];exact OY b)
noncomputable def RKey:D->Key->Prop
 |.int i,k=>k = .inl i
 |.str x,k=>k = .inr x
 |_,_=>False
noncomputable def RKeys:D->List Key->Prop
 |.tup ds,ks=>GZ RKey ds ks
 |_,_=>False
noncomputable def cj (kvs:List (D×D)) (k:D):Option D:=(kvs.find? λp=>decide (p.1=k)).map (·.2)
noncomputable def lq (kvs:List (D×D)) (k v:D):List (D×D):=if (kvs.any λp=>decide (p.1=k))=true then kvs.map (λp=>if p.1=k then (p.1,v) else p) else kvs++[(k,v)]
noncomputable def eO:D->Bool
 |.int _=>true
 |.str _=>true
 |_=>false
noncomputable def dC:D->Bool
 |.tup ds=>ds.all eO&&fk ds
 |_=>false
noncomputable def pH (t:Bool) (k:D):Bool:=if t then dC k else eO k
theorem lr {k:D}(h:eO k=true):∃ q,RKey k q:=by
 cases k <;> first|(simp[eO]at h;done)|exact⟨_,rfl⟩
theorem oa:∀ {ds:List D},ds.all eO=true -> ∃ ks,GZ RKey ds ks
 |[],_=>⟨[],.nil⟩
 | d::ds,h=>by
   simp only[Jf,hX]at h;obtain⟨k,hk⟩:=lr h.1;obtain⟨ks,j⟩:=oa h.2;exact⟨k::ks,.cons hk j⟩
theorem og {k:D}(h:dC k=true):∃ q,RKeys k q:=by
 cases k <;> first|(simp[dC]at h;done)|exact oa (LZ.mp h).1
theorem oh {ds:List D}(h:dC (.tup ds)=true):fk ds=true:=(LZ.mp h).2
noncomputable def RO (K:Frag) (H:Hp) (a:Addr):O->Prop
 |.lst ds=>∃ vs,H a=some (.lst vs)/\RDs K H ds vs
 |.dct false kvs=>∃ ps,H a=some (.dK ps)/\GZ (λ(p:D×D) (q:Key×V)=>RKey p.1 q.1/\RD K H p.2 q.2) kvs ps
 |.dct true kvs=>∃ ps,H a=some (.dT ps)/\GZ (λ(p:D×D) (q:List Key×V)=>RKeys p.1 q.1/\RD K H p.2 q.2) kvs ps
 |.fdc kvs=>∃ o ps,H a=some (.frz o (.dT ps))/\GZ (λ(p:D×D) (q:List Key×V)=>RKeys p.1 q.1/\RD K H p.2 q.2) kvs ps
 |.dcn kvs=>∃ xs,H a=some (.ext (wf a xs))/\GZ (λ(p:NK×D) (q:NK×Addr×h8)=>p.1=q.1/\Kt H q.1 q.2.1 /\ ∃ v,RelV v q.2.2/\RD K H p.2 v) kvs xs
 |.fdn kvs=>∃ o xs,H a=some (.frz o (.ext (wf a xs)))/\GZ (λ(p:NK×D) (q:NK×Addr×h8)=>p.1=q.1/\Kt H q.1 q.2.1 /\ ∃ v,RelV v q.2.2/\RD K H p.2 v) kvs xs
 |.tab pos q=>Cz H a pos q
def RM (K:Frag) (M:Mem) (H:Hp):Prop:=∀ a o,M a=some o->RO K H a o
def RS (K:Frag) (H:Hp) (σ:St) (ρ:ao):Prop:=σ.length = ρ.length /\ ∀ (i:Nat) (d:D),ρ[i]? = some (some d) -> ∃ v,σ[i]? = some (some v)/\RD K H d v
structure Ext (M:Mem) (H:Hp) (M':Mem) (H':Hp):Prop where
 kp:∀ a o,fz (M a)=true->H a=some o->H' a=some o
 nw:∀ a o,fz (M a)=true->H a=some o->M' a=M a
section
variable {K:Frag} {M M' M'':Mem} {H H' H'':Hp}
theorem Ext.keep (x:Ext M H M' H')(a:Addr)(o:HO)(n:M a=none)(e:H a=some o):H' a=some o:=x.kp a o (by rw[n];rfl) e
theorem Ext.new (x:Ext M H M' H')(a:Addr)(o:HO)(n:M a=none)(e:H a=some o):M' a=none:=(x.nw a o (by rw[n];rfl) e).trans n
theorem Ext.refl:Ext M H M H:=⟨λ_ _ _ h=>h,λ_ _ _ _=>rfl⟩
theorem Ext.trans (a:Ext M H M' H')(b:Ext M' H' M'' H''):Ext M H M'' H'' :=
 ⟨λc o n h=>b.kp c o (by rw[a.nw c o n h];exact n) (a.kp c o n h),λc o n h=>(b.nw c o (by rw[a.nw c o n h];exact n) (a.kp c o n h)).trans (a.nw c o n h)⟩
theorem RM.mut (r:RM K M H){o:O}(h:M a=some o):∃ ho,H a=some ho/\(∀ xs,ho ≠ .tup xs)/\(fz (some o)=false -> ∀ ob u,ho ≠ .frz ob u):=by
 have q:=r a o h
 cases o with
 | lst ds =>
   obtain⟨vs,e,_⟩:=q;exact⟨_,e,λ_ z=>(by cases z),λ_ _ _ z=>(by cases z)⟩
 | dct t kvs =>
   cases t with
   |false=>obtain⟨ps,e,_⟩:=q;exact⟨_,e,λ_ z=>(by cases z),λ_ _ _ z=>(by cases z)⟩
   |true=>obtain⟨ps,e,_⟩:=q;exact⟨_,e,λ_ z=>(by cases z),λ_ _ _ z=>(by cases z)⟩
 |fdc kvs=>obtain⟨ob,ps,e,_⟩:=q;exact⟨_,e,λ_ z=>(by cases z),λz=>(by cases z)⟩
 |fdn kvs=>obtain⟨ob,ps,e,_⟩:=q;exact⟨_,e,λ_ z=>(by cases z),λz=>(by cases z)⟩
 |dcn kvs=>obtain⟨xs,e,_⟩:=q;exact⟨_,e,λ_ z=>(by cases z),λ_ _ _ z=>(by cases z)⟩
 |tab pos u=>obtain⟨ps,e,_⟩:=q;exact⟨_,e,λ_ z=>(by cases z),λ_ _ _ z=>(by cases z)⟩
theorem RM.fzT (r:RM K M H)(e:H a=some (.tup xs)):M a=none:=by
 cases q:M a with
 |none=>rfl
 | some o =>
   obtain⟨ho,j,z,_⟩:=r.mut q;rw[e]at j;cases j;exact absurd rfl (z xs)
theorem RM.fzF (r:RM K M H){ob:Obj}{u:HO}(e:H a=some (.frz ob u)):fz (M a)=true:=by
 cases q:M a with
 |none=>rfl
 | some o =>
   obtain⟨ho,j,_,F⟩:=r.mut q;rw[e]at j;cases j
   cases z:fz (some o) with
   |true=>rfl
   |false=>exact absurd rfl (F z ob u)
theorem RM.out (r:RM K M H)(h:H a=none):M a=none:=by
 cases e:M a with
 |none=>rfl
 | some o =>
   obtain⟨ho,q,_⟩:=r.mut e;rw[h]at q;cases q
theorem Ext.stab (r:RM K M H)(x:Ext M H M' H'):Stab H H' where
 tup:=λa xs e=>x.keep a _ (r.fzT e) e
 frz:=λa o u e=>x.kp a _ (r.fzF e) e
theorem RS.mono (st:Stab H H'){ρ:ao}(h:RS K H σ ρ):RS K H' σ ρ :=
 ⟨h.1,λi d e=>let ⟨v,q,r⟩:=h.2 i d e; ⟨v,q,r.mono st⟩⟩
theorem RS.set {ρ:ao}(h:RS K H σ ρ)(i:Nat){d:D}(r:RD K H d v):RS K H (σ.set i (some v)) (ρ.set i (some d)):=by
 refine⟨by simp[h.1],λj e q=>?_⟩
 by_cases hij:i=j
 ·subst hij;have hi:i < ρ.length:=by
   have:=(G0.mp q).1;simpa using this
  rw[Gi hi]at q
  cases q
  exact⟨v,by rw[Gi (by rw[h.1];exact hi)],r⟩
 ·rw[HY hij]at q ⊢;exact h.2 j e q
noncomputable def pI (fr:List (Option Nat)) (ρ:ao):ao:=fr.map λo=>o.bind λj=>(ρ[j]?).join
theorem RS.inh {ρ:ao}(h:RS K H σ ρ)(fr:List (Option Nat)):RS K H (inh fr σ) (pI fr ρ):=by
 refine⟨by simp[L2.inh,pI],λi d e=>?_⟩
 unfold pI at e;unfold L2.inh;rw[Gj]at e ⊢
 cases q:fr[i]? with
 |none=>rw[q]at e;cases e
 | some o =>
   rw[q]at e
   cases o with
   |none=>cases e
   | some j =>
     have e':some ((ρ[j]?).join)=some (some d):=e
     cases q' : ρ[j]? with
     |none=>rw[q']at e';cases e'
     | some w =>
       rw[q']at e'
       cases e'
       obtain⟨v,v1,v2⟩:=h.2 j d q';exact⟨v,by simp[v1],v2⟩
theorem RO.mono (st:Stab H H'){o:O}(h:RO K H a o)(e:∀ ho,H a=some ho->H' a=some ho):RO K H' a o:=by
 cases o with
 |lst ds=>obtain⟨vs,q,r⟩:=h;exact⟨vs,e _ q,r.mono st⟩
 | dct t kvs =>
   cases t with
   |false=>obtain⟨ps,q,r⟩:=h;exact⟨ps,e _ q,OP r λ_ _ z=>⟨z.1,z.2.mono st⟩⟩
   |true=>obtain⟨ps,q,r⟩:=h;exact⟨ps,e _ q,OP r λ_ _ z=>⟨z.1,z.2.mono st⟩⟩
 |fdc kvs=>obtain⟨ob,ps,q,r⟩:=h;exact⟨ob,ps,e _ q,OP r λ_ _ z=>⟨z.1,z.2.mono st⟩⟩
 |fdn kvs=>obtain⟨ob,xs,q,r⟩:=h;exact⟨ob,xs,e _ q,OP r λ_ _ j=>(by obtain⟨F,J,v,L,U⟩:=j;exact⟨F,J.keeps st.tup,v,L,U.mono st⟩)⟩
 |dcn kvs=>obtain⟨xs,q,r⟩:=h;exact⟨xs,e _ q,OP r λ_ _ j=>(by obtain⟨F,J,v,L,U⟩:=j;exact⟨F,J.keeps st.tup,v,L,U.mono st⟩)⟩
 |tab pos u=>obtain⟨ps,Y,Z⟩:=h;exact⟨ps,e _ Y,Z.imp_right λj=>(by obtain⟨c',oc,vs,t,F,J,L⟩:=j;exact⟨c',oc,vs,t,F,st.frz _ _ _ J,L⟩)⟩
theorem RM.new (r:RM K M H)(n:H p=none):RM K M (upd H p ho):=λa o e=>by
 have ne:a≠p:=λz=>by subst z;obtain⟨_,q,_⟩:=r.mut e;rw[n]at q;cases q
 refine(r a o e).mono ⟨λb xs q=>?_,λb o u q=>?_⟩ λj q=>by rw[ag ne];exact q
 ·rw[ag (aU q n)];exact q
 ·rw[ag (aU q n)];exact q
theorem OR (n:H p=none):Ext M H M (upd H p ho):=⟨λa o _ e=>by rw[ag (aU e n)];exact e,λ_ _ _ _=>rfl⟩
theorem RM.lay {o:O}(r:RM K M H)(n:H p=none)(h:RO K (upd H p ho) p o):RM K (af M p o) (upd H p ho):=λa o' e=>by
 by_cases z:a=p
 ·subst z;rw[aa]at e;cases e;exact h
 ·rw[aB z]at e;exact r.new n a o' e
theorem Ext.lay {o:O}(n:H p=none):Ext M H (af M p o) (upd H p ho) :=
 ⟨λa u _ e=>by rw[ag (aU e n)];exact e,λa u m e=>by rw[aB (aU e n)]⟩
theorem RM.put {o o0:O}(r:RM K M H)(m:M p=some o0)(h:RO K (upd H p ho) p o)(w:fz (some o0)=false:=by rfl):RM K (af M p o) (upd H p ho):=λa o' e=>by
 by_cases z:a=p
 ·subst z;rw[aa]at e;cases e;exact h
 ·rw[aB z]at e;obtain⟨U,j,F,J⟩:=r.mut m;refine(r a o' e).mono ⟨λb xs q=>?_,λb o u q=>?_⟩ λL q=>by rw[ag z];exact q
  ·rw[ag (λz=>by subst z;rw[j]at q;cases q;exact F xs rfl)];exact q
  ·rw[ag (λz=>by subst z;rw[j]at q;cases q;exact J w o u rfl)];exact q
theorem Ext.put {o o0:O}(m:M p=some o0)(w:fz (some o0)=false:=by rfl):Ext M H (af M p o) (upd H p ho) :=
 ⟨λa u n e=>by rw[ag (λz=>by subst z;rw[m,w]at n;cases n)];exact e,λa u n e=>aB (λz=>by subst z;rw[m,w]at n;cases n)⟩
theorem RM.stabPut {o0:O}(r:RM K M H)(m:M p=some o0)(w:fz (some o0)=false:=by rfl):Stab H (upd H p ho):=(Ext.put (o:=o0) (ho:=ho) m w).stab r
end
noncomputable abbrev QD:=D->Mem->Prop
noncomputable abbrev TEd:=ao->Mem->QD->Prop
noncomputable abbrev TTd:=ao->Mem->(Bool->Mem->Prop)->Prop
noncomputable abbrev TAd:=ao->Mem->(List D->Mem->Prop)->Prop
structure bj where
 nx:ao->Mem->Prop
 rt:QD
 bk:ao->Mem->Prop:=λ_ _=>False
 ct:ao->Mem->Prop:=λ_ _=>False
noncomputable abbrev TSd:=bj->ao->Mem->Prop
def ae (T:TEd):Prop:=∀ ρ M Q Q',(∀ d M',Q d M'->Q' d M')->T ρ M Q->T ρ M Q'
def aA (T:TTd):Prop:=∀ ρ M Q Q',(∀ d M',Q d M'->Q' d M')->T ρ M Q->T ρ M Q'
def bn (T:TAd):Prop:=∀ ρ M Q Q',(∀ d M',Q d M'->Q' d M')->T ρ M Q->T ρ M Q'
structure LeD (a b:bj):Prop where
 nx:∀ ρ M,a.nx ρ M->b.nx ρ M
 rt:∀ d M,a.rt d M->b.rt d M
 bk:∀ ρ M,a.bk ρ M->b.bk ρ M
 ct:∀ ρ M,a.ct ρ M->b.ct ρ M
def aG (T:TSd):Prop:=∀ a b ρ M,LeD a b->T a ρ M->T b ρ M
noncomputable def KE' (K:Frag) (M:Mem) (H:Hp) (Q:VK):QD:=λd M'=>∀ v H',Ext M H M' H'->RM K M' H'->RD K H' d v->Q v H'
noncomputable def KT' (K:Frag) (M:Mem) (H:Hp) (Q:Bool->Hp->Prop):Bool->Mem->Prop:=λb M'=>∀ H',Ext M H M' H'->RM K M' H'->Q b H'
noncomputable def KA' (K:Frag) (M:Mem) (H:Hp) (Q:List V->Hp->Prop):List D->Mem->Prop:=λds M'=>∀ vs H',Ext M H M' H'->RM K M' H'->RDs K H' ds vs->Q vs H'
noncomputable def lE (K:Frag) (T:TEd):TE:=λσ H Q=>∃ ρ M,RS K H σ ρ /\ RM K M H/\T ρ M (KE' K M H Q)
noncomputable def lT (K:Frag) (T:TTd):TT:=λσ H Q=>∃ ρ M,RS K H σ ρ /\ RM K M H/\T ρ M (KT' K M H Q)
noncomputable def lA (K:Frag) (T:TAd):TA:=λσ H Q=>∃ ρ M,RS K H σ ρ /\ RM K M H/\T ρ M (KA' K M H Q)
structure Link (K:Frag) (M:Mem) (H:Hp) (a:bj) (b:br):Prop where
 nx:∀ ρ M' σ H',Ext M H M' H'->RS K H' σ ρ -> RM K M' H'->a.nx ρ M'->b.nx σ H'
 rt:∀ d M' v H',Ext M H M' H'->RM K M' H'->RD K H' d v->a.rt d M'->b.rt v H'
 bk:∀ ρ M' σ H',Ext M H M' H'->RS K H' σ ρ -> RM K M' H'->a.bk ρ M'->b.bk σ H'
 ct:∀ ρ M' σ H',Ext M H M' H'->RS K H' σ ρ -> RM K M' H'->a.ct ρ M'->b.ct σ H'
noncomputable def lS (K:Frag) (T:TSd):TS:=λD σ H=>∃ ρ M A,RS K H σ ρ /\ RM K M H/\Link K M H A D/\T A ρ M
theorem Link.ext {M M':Mem}{a:bj}{b:br}(l:Link K M H a b)(x:Ext M H M' H'):Link K M' H' a b :=
 ⟨λρ j σ H2 y=>l.nx ρ j σ H2 (x.trans y),λd j v H2 y=>l.rt d j v H2 (x.trans y),λρ j σ H2 y=>l.bk ρ j σ H2 (x.trans y),λρ j σ H2 y=>l.ct ρ j σ H2 (x.trans y)⟩
theorem PE.imp {t t':TE}(h:PE X e t)(i:∀ σ H Q,t' σ H Q->t σ H Q):PE X e t':=λpins s σ H Q I q=>h pins s σ H Q I (i _ _ _ q)
theorem PT.imp {t t':TT}(h:PT X e t)(i:∀ σ H Q,t' σ H Q->t σ H Q):PT X e t':=λpins s σ H Q I q=>h pins s σ H Q I (i _ _ _ q)
theorem PW.imp {t t':TT}(h:PW X e t)(i:∀ σ H Q,t' σ H Q->t σ H Q):PW X e t':=λwh pins s σ H Q I q=>h wh pins s σ H Q I (i _ _ _ q)
theorem PA.imp {e:List Expr}{t t':TA}(h:PA X e t)(i:∀ σ H Q,t' σ H Q->t σ H Q):PA X e t':=λp pins s σ H Q I q=>h p pins s σ H Q I (i _ _ _ q)
theorem PS.imp {e:Stmt}{t t':TS}(h:PS X e t)(i:∀ D σ H,t' D σ H->t D σ H):PS X e t':=λpins s σ H D I q=>h pins s σ H D I (i _ _ _ q)
theorem PSs.imp {e:List Stmt}{t t':TS}(h:PSs X e t)(i:∀ D σ H,t' D σ H->t D σ H):PSs X e t':=λpins s σ H D I q=>h pins s σ H D I (i _ _ _ q)
end
variable {M M':Mem}{ds:List D}{d:D}{j:Nat}{Q:VK}{ta:TEd}{tr:TAd}{es:List Expr}
section
theorem KE'.ext {j:Mem}{H2:Hp}(x:Ext M H j H2)(h:KE' K M H Q d M'):KE' K j H2 Q d M':=λv H' y=>h v H' (x.trans y)
theorem KT'.ext {j:Mem}{H2:Hp}{Q:Bool->Hp->Prop}{d:Bool}(x:Ext M H j H2)(h:KT' K M H Q d M'):KT' K j H2 Q d M':=λH' y=>h H' (x.trans y)
noncomputable abbrev R2d:=D->D->Mem->QD->Prop
noncomputable abbrev R1d:=D->Mem->QD->Prop
noncomputable abbrev RAd:=List D->Mem->QD->Prop
def au (r:R2d):Prop:=∀ x y M Q Q',(∀ d M',Q d M'->Q' d M')->r x y M Q->r x y M Q'
def pJ (r:R1d):Prop:=∀ x M Q Q',(∀ d M',Q d M'->Q' d M')->r x M Q->r x M Q'
def aO (r:RAd):Prop:=∀ x M Q Q',(∀ d M',Q d M'->Q' d M')->r x M Q->r x M Q'
noncomputable def l2 (K:Frag) (rd:R2d):R2:=λv u H Q=>∃ x y M,RM K M H/\RD K H x v/\RD K H y u/\rd x y M (KE' K M H Q)
noncomputable def l1 (K:Frag) (rd:R1d):V->Hp->VK->Prop:=λv H Q=>∃ x M,RM K M H/\RD K H x v/\rd x M (KE' K M H Q)
noncomputable def lR (K:Frag) (rd:RAd):List V->Hp->VK->Prop:=λvs H Q=>∃ ds M,RM K M H/\RDs K H ds vs/\rd ds M (KE' K M H Q)
noncomputable def lMt (K:Frag) (rd:D->List D->Mem->QD->Prop):V->List V->Hp->VK->Prop:=λv vs H Q=>∃ x ds M,RM K M H/\RD K H x v/\RDs K H ds vs/\rd x ds M (KE' K M H Q)
noncomputable def gN (i:Nat):TEd:=λρ M Q=>∃ d,ρ[i]? = some (some d)/\Q d M
noncomputable def wC (d:D):TEd:=λ_ M Q=>Q d M
noncomputable def wOp (rd:R2d) (ta tb:TEd):TEd:=λρ M Q=>ta ρ M λx M1=>tb ρ M1 λy M2=>rd x y M2 Q
noncomputable def wUn (rd:R1d) (ta:TEd):TEd:=λρ M Q=>ta ρ M λx M1=>rd x M1 Q
noncomputable def bo:TAd:=λ_ M Q=>Q [] M
noncomputable def aI (ta:TEd) (tr:TAd):TAd:=λρ M Q=>ta ρ M λx M1=>tr ρ M1 λxs M2=>Q (x::xs) M2
noncomputable def wAr (rd:RAd) (t:TAd):TEd:=λρ M Q=>t ρ M λds M1=>rd ds M1 Q
theorem ut:ae (gN i):=λ_ _ _ _ h j=>(by obtain⟨d,e,q⟩:=j;exact⟨d,e,h _ _ q⟩)
theorem fE:ae (wC d):=λ_ _ _ _ h q=>h _ _ q
theorem dk {rd:R2d}{tb:TEd}(hr:au rd)(j:ae ta)(z:ae tb):ae (wOp rd ta tb):=λρ M Q Q' h q =>
 j _ _ _ _ (λx L F=>z _ _ _ _ (λy O J=>hr _ _ _ _ _ h J) F) q
theorem xj {rd:R1d}(hr:pJ rd)(j:ae ta):ae (wUn rd ta):=λρ M Q Q' h q=>j _ _ _ _ (λx F z=>hr _ _ _ _ h z) q
theorem av:bn bo:=λ_ _ _ _ h q=>h _ _ q
theorem aw (j:ae ta)(hr:bn tr):bn (aI ta tr):=λρ M Q Q' h q =>
 j _ _ _ _ (λx J z=>hr _ _ _ _ (λxs L F=>h _ _ F) z) q
theorem fX {rd:RAd}{t:TAd}(hr:aO rd)(j:bn t):ae (wAr rd t):=λρ M Q Q' h q=>j _ _ _ _ (λds F z=>hr _ _ _ _ h z) q
section
variable {X:Cx} {a b:Expr} {ta tb:TEd} {pos:Pos}
theorem zC (F:X.N[i]? = some x)(j:Vis X.env.scope x)(hd:(x==("__debug__":Str))=false)(z:(x==("__classdict__":Str))=false):PE X (.Name x pos) (lE X.K (gN i)):=by
 refine PE.imp (fj F j hd z) λσ H Q h=>?_;obtain⟨ρ,M,rs,rm,d,e,q⟩:=h;obtain⟨v,j,rd⟩:=rs.2 i d e;exact⟨v,j,q v H Ext.refl rm rd⟩
theorem le_int {i:Int}:PE X (.Constant (.int i) j pos) (lE X.K (wC (.int i))) :=
 PE.imp yT λσ H Q g9=>(by obtain⟨ρ,M,rs,rm,q⟩:=g9;exact q _ H Ext.refl rm (OI.mpr rfl))
theorem Bk {i:Bool}:PE X (.Constant (.bool i) j pos) (lE X.K (wC (.bl i))) :=
 PE.imp AU λσ H Q g9=>(by obtain⟨ρ,M,rs,rm,q⟩:=g9;exact q _ H Ext.refl rm (OK.mpr rfl))
theorem zD:PE X (.Constant .none j pos) (lE X.K (wC .non)) :=
 PE.imp i7 λσ H Q g9=>(by obtain⟨ρ,M,rs,rm,q⟩:=g9;exact q _ H Ext.refl rm (ON.mpr rfl))
theorem zE:PE X (.Constant (.str x) j pos) (lE X.K (wC (.str x))) :=
 PE.imp i8 λσ H Q g9=>(by obtain⟨ρ,M,rs,rm,q⟩:=g9;exact q _ H Ext.refl rm (OJ.mpr rfl))
theorem fY {rd:R2d}(hr:au rd)(ma:ae ta)(mb:ae tb)(σ:St)(H:Hp)(Q:VK)(h:lE K (wOp rd ta tb) σ H Q):tOp (l2 K rd) (lE K ta) (lE K tb) σ H Q:=by
 obtain⟨ρ,M,rs,rm,q⟩:=h;refine⟨ρ,M,rs,rm,ma _ _ _ _ (λx U Y v H1 L j z=>?_) q⟩;refine⟨ρ,U,rs.mono (L.stab rm),j,mb _ _ _ _ (λy Z q2 u H2 O F J=>?_) Y⟩;exact⟨x,y,Z,F,z.mono (O.stab j),J,hr _ _ _ _ _ (λd M' k=>k.ext (L.trans O)) q2⟩
theorem Bl {op:Nb}{rd:R2d}(ho:OpR X (GP op) (l2 X.K rd))(hr:au rd)(ma:ae ta)(mb:ae tb)(j:PE X a (lE X.K ta))(z:PE X b (lE X.K tb)):PE X (.BinOp a op b pos) (lE X.K (wOp rd ta tb)) :=
 PE.imp (B1 ho j z) (fY hr ma mb)
theorem zF {op:LN}{rd:R2d}(ho:OpR X (G6 op) (l2 X.K rd))(hr:au rd)(ma:ae ta)(mb:ae tb)(j:PE X a (lE X.K ta))(z:PE X b (lE X.K tb))(hm:Ig op b=false) :
 PE X (.Compare a [op] [b] pos) (lE X.K (wOp rd ta tb)):=PE.imp (wW ho j z hm) (fY hr ma mb)
noncomputable def cQ (t:TEd):TTd:=λρ M Q=>t ρ M λx M1=>∃ k,x = .bl k/\Q k M1
theorem lu {t:TEd}(h:ae t):aA (cQ t):=λρ M Q Q' i q=>h _ _ _ _ (λx F j=>(by obtain⟨k,e,z⟩:=j;exact⟨k,e,i _ _ z⟩)) q
theorem lw {t:TEd}(m:ae t)(σ:St)(H:Hp)(Q:Bool->Hp->Prop)(h:lT K (cQ t) σ H Q):ph (lE K t) σ H Q:=by
 obtain⟨ρ,M,rs,rm,q⟩:=h;refine⟨ρ,M,rs,rm,m _ _ _ _ (λx L g9 v H1 J j z=>?_) q⟩;obtain⟨k,e,F⟩:=g9;subst e;exact⟨k,OK.mp z,F H1 J j⟩
theorem zG {op:LN}{rd:R2d}(ho:OpR X (G6 op) (l2 X.K rd))(hr:au rd)(ma:ae ta)(mb:ae tb)(j:PE X a (lE X.K ta))(z:PE X b (lE X.K tb))(hm:Ig op b=false) :
 PT X (.Compare a [op] [b] pos) (lT X.K (cQ (wOp rd ta tb))) :=
 PT.imp (nS ho j z hm) λσ H Q h=>by
  have h1:=lw (dk hr ma mb) σ H Q h;exact fY hr ma mb σ H _ h1
theorem Bm {op:UnaryOp}{rd:R1d}(ho:UnR X (unaryOp op) (l1 X.K rd))(hr:pJ rd)(ma:ae ta)(F:PE X a (lE X.K ta)):PE X (.UnaryOp op a pos) (lE X.K (wUn rd ta)) :=
 PE.imp (B2 ho F) λσ H Q g9=>(by obtain⟨ρ,M,rs,rm,q⟩:=g9;exact⟨ρ,M,rs,rm,ma _ _ _ _ (λx J L v H1 O j z=>⟨x,J,j,z,hr _ _ _ _ (λd M' k=>k.ext O) L⟩) q⟩)
theorem wg {rd:R2d}(ho:IxR X (l2 X.K rd))(hr:au rd)(ma:ae ta)(mb:ae tb)(j:PE X a (lE X.K ta))(z:PE X b (lE X.K tb))(F:j8 b):PE X (.Subscript a b pos) (lE X.K (wOp rd ta tb)) :=
 PE.imp (B8 ho j z F) (fY hr ma mb)
theorem ck:PA X [] (lA X.K bo):=PA.imp fu λσ H Q g9=>(by obtain⟨ρ,M,rs,rm,q⟩:=g9;exact q _ H Ext.refl rm RDs.nil)
theorem rO (ma:ae ta)(mr:bn tr)(σ:St)(H:Hp)(Q:List V->Hp->Prop)(h:lA K (aI ta tr) σ H Q):w6 (lE K ta) (lA K tr) σ H Q:=by
 obtain⟨ρ,M,rs,rm,q⟩:=h;refine⟨ρ,M,rs,rm,ma _ _ _ _ (λx U Y v H1 L j z=>?_) q⟩;refine⟨ρ,U,rs.mono (L.stab rm),j,mr _ _ _ _ (λxs M2 Z vs H2 O F J=>?_) Y⟩;exact Z (v::vs) H2 (L.trans O) F (RDs.cons (z.mono (O.stab j)) J)
theorem bu (ma:ae ta)(mr:bn tr)(j:PE X e (lE X.K ta))(hr:PA X es (lA X.K tr))(z:FN (e::es) X.env=(false,eval e X.env)::FN es X.env) :
 PA X (e::es) (lA X.K (aI ta tr)):=PA.imp (ce j hr z) (rO ma mr)
theorem bp {rd:RAd}{t:TAd}(hr:aO rd)(mt:bn t)(σ:St)(H:Hp)(Q:VK)(h:lE K (wAr rd t) σ H Q):tCB (lR K rd) (lA K t) σ H Q:=by
 obtain⟨ρ,M,rs,rm,q⟩:=h;exact⟨ρ,M,rs,rm,mt _ _ _ _ (λds F J vs H1 L j z=>⟨ds,F,j,z,hr _ _ _ _ (λd M' k=>k.ext L) J⟩) q⟩
noncomputable def pK:RAd:=λds M Q=>ds.length<=Fz/\Q (.tup ds) M
noncomputable def pL:RAd:=λds M Q=>ds.length<=Fz /\ ∀ p,M p=none->Q (.ref p) (af M p (.lst ds))
theorem rP:aO pK:=λ_ _ _ _ h j=>(by obtain⟨z,q⟩:=j;exact⟨z,h _ _ q⟩)
theorem rQ:aO pL:=λ_ _ _ _ h j=>(by obtain⟨z,q⟩:=j;exact⟨z,λp n=>h _ _ (q p n)⟩)
theorem cA (rm:RM K M H)(rd:RDs K H ds vs)(q:KE' K M H Q (.tup ds) M)(n:H p=none):Q (.ref p) (upd H p (.tup vs)):=by
 have x:Ext M H M (upd H p (.tup vs)):=OR n;exact q (.ref p) _ x (rm.new n) (OU ⟨p,vs,rfl,al,rd.mono (x.stab rm)⟩)
theorem dl (rm:RM K M H)(rd:RDs K H ds vs)(q:∀ p,M p=none->KE' K M H Q (.ref p) (af M p (.lst ds)))(n:H p=none):Q (.ref p) (upd H p (.lst vs)):=by
 have x:Ext M H (af M p (.lst ds)) (upd H p (.lst vs)):=Ext.lay n;have x0:Ext M H M (upd H p (.lst vs)):=OR n;exact q p (rm.out n) (.ref p) _ x (rm.lay n ⟨vs,al,rd.mono (x0.stab rm)⟩) (OL.mpr rfl)
theorem zH {t:TAd}{k:Nat}(mt:bn t)(h:PA X es (lA X.K t)):PE X (.Tuple es k pos) (lE X.K (wAr pK t)) :=
 PE.imp (zq h) λσ H Q F=>(by obtain⟨ρ,M,rs,rm,q⟩:=F;exact⟨ρ,M,rs,rm,mt _ _ _ _ (λds U F vs H1 L J j=>(by obtain⟨z,O⟩:=F;exact⟨by rw[j.length];exact z,λp n=>cA J j (O.ext L) n⟩)) q⟩)
theorem zI {t:TAd}(mt:bn t)(h:PA X es (lA X.K t)):PE X (.List es pos) (lE X.K (wAr pL t)) :=
 PE.imp (zr h) λσ H Q F=>(by obtain⟨ρ,M,rs,rm,q⟩:=F;exact⟨ρ,M,rs,rm,mt _ _ _ _ (λds U F vs H1 L J j=>(by obtain⟨z,O⟩:=F;exact⟨by rw[j.length];exact z,λp n=>dl J j (λp' n'=>(O p' n').ext L) n⟩)) q⟩)
end
end
end Mi
namespace Mi
end Mi
section
theorem gO:fillsNumberSlot (.type "tuple") "mul" = pure false :=
 PyProof.Rows.fillsNumberSlot_seq (id:="tuple.__mul__") (r:=some (.builtin "tuple.__rmul__")) F.slot_tuple_mul.lookup (by decide +kernel) F.slot_tuple_rmul.lookup (by decide +kernel)
theorem lB:seqRepeat? (.type "tuple")=pure (some (.builtin "tuple.__mul__")):=by
 unfold seqRepeat?;rw[L8 (T:="tuple") (name:="__mul__") (id:="tuple.__mul__") F.slot_tuple_mul.lookup (by decide +kernel),L8 (T:="tuple") (name:="__rmul__") (id:="tuple.__rmul__") F.slot_tuple_rmul.lookup (by decide +kernel)]
 rfl
theorem jb (a:Int)(t:Tok)(l:Addr)(items:Array h8)(n:Nat)(d:Option Addr)(sl:Array (Option h8)) :
 Ou (Jj.«int.__rmul__» ⟨[.int a t,.ref l],[]⟩) (λ_ R s=>s.heap.get? l=some { cls:=.type "tuple",dict:=d,data:=.seq items n,slots:=sl }/\R (.ok (.ret Value.notImplemented)) s) :=
 .of_wp λprog w A R s h=>by obtain⟨j,g,d,tk,os⟩:=s;obtain⟨z,h⟩:=h;wp_walk;exact⟨_,rfl,h⟩
open AutoSeq1 (wpAny_loadPart') in
theorem rR (l:Addr)(items:Array h8)(n:Nat)(dd:Option Addr)(sl:Array (Option h8))(x:Int)(u:Tok)(h1 : -(2 ^ 63)<=x)(h2:x<2 ^ 63)(J:items.size*x.toNat<=Fz) :
 Ou (Jj.«tuple.__mul__» ⟨[.ref l,.int x u],[]⟩) (λ_ R s=>s.heap.get? l=some { cls:=.type "tuple",dict:=dd,data:=.seq items n,slots:=sl } /\
  (if items.isEmpty || x==1 then R (.ok (.ret (.ref l))) s else R (.ok (.ret (.ref s.heap.objs.size))) { s with heap:=s.heap.push { cls:=.type "tuple",data:=.seq ((Fw x.toNat items).foldl (· ++ ·) #[]) } })) :=
 .of_wp λprog w A R s h=>by
  obtain⟨Z,g,d,tk,os⟩:=s;obtain⟨z,h⟩:=h;have f1:=AutoSeq1.idx_int;have c0:(decide (x < -(2 ^ 63)) || decide (x≥2 ^ 63))=false:=by
   rw[decide_eq_false (by lia),decide_eq_false (by lia)];rfl
  wp_walk using Hf z
  refine wpAny_ite_false (decide_eq_false (by rw[c0];decide)) ?_
  dsimp only
  by_cases j:(items.isEmpty || x==1)=true
  ·rw[if_pos j]at h
   wp_walk using Hf z
   exact⟨_,rfl,h⟩
  ·rw[if_neg j]at h
   wp_walk using Hf z
   simp only[Jl,not_or]at j
   by_cases e2:x<=0
   ·have F:(decide (x<=0) || items.isEmpty)=true:=by rw[decide_eq_true e2];rfl
    rw[if_pos F];have L:x.toNat=0:=by lia
    rw[L]at h
    wp_walk
    exact⟨_,rfl,h⟩
   ·have F : ¬ (decide (x<=0) || items.isEmpty)=true:=by simp;exact⟨by lia,by simpa using j.1⟩
    rw[if_neg F];have hx:((items.size:Nat):Int)*x=((items.size*x.toNat:Nat):Int):=by
     rw[Int.natCast_mul,Int.toNat_of_nonneg (by lia)]
    have hs:Fz=16777216:=Fy;have O : ¬ ((items.size:Nat):Int)*x > (2 ^ 63 - 1) / 8:=by rw[hx];lia
    rw[if_neg O];have U : ¬ Ko (((items.size:Nat):Int)*x)=true:=by
     rw[hx];unfold Ko;intro Y;have h7:=of_decide_eq_true Y;lia
    rw[if_neg U]
    wp_walk
    have hsz:((Fw x.toNat items).foldl (· ++ ·) #[]).size<=Fz:=by
     have:∀ (k:Nat) (a:Array h8),((Fw k items).foldl (· ++ ·) a).size=a.size+items.size*k:=by
      intro k;induction k with
      |zero=>intro a;simp
      |succ k ih=>intro a;rw[GA,JW,ih,Array.size_append,Nat.mul_succ];lia
     rw[this];simpa using J
    refine wpAny_ite_false (decide_eq_false (Ot.mpr hsz)) ?_
    wp_walk
    exact⟨_,rfl,h⟩
end
section
section
variable {X:Cx}
noncomputable def wj (K:Frag):R2:=λx y H Q=>∃ l k xs,x = .ref l/\y = .int k/\SqT K H l xs /\ -(2 ^ 63)<=k/\k<2 ^ 63/\xs.length*k.toNat<=Fz /\
 ((xs=[]∨k=1)->Q (.ref l) H)/\(¬ (xs=[]∨k=1) -> ∀ p,H p=none->Q (.ref p) (upd H p (.tup (Fw k.toNat xs).flatten)))
theorem xk:OpR X (GP .Mult) (wj X.K):=by
 intro pins s σ H x y v u Q I rx ry h;obtain⟨l,k,xs,rfl,rfl,L,h1,h2,j,O,Y⟩:=h
 cases rx
 obtain⟨t,rfl⟩:=ry;obtain⟨its,r,Z,_⟩:=I.tuple L;have hl:=r.length;obtain⟨⟨cls,dd,dat,sl⟩,e,J,n,hd⟩:=Z;dsimp only at J hd;subst J hd;have hlen:its.toArray.size*k.toNat<=Fz:=by rw[FJ,<- hl];exact j
 have f0:∀ m:Nat,MQ (λx1 x2=>x1++x2) #[] (Fw m its.toArray)=(Fw m its).flatten.toArray:=λm=>by
  have:=fw its m [];rw[LB]at this;exact this
 refine Kv (T:="tuple") (U:="int") (by decide) ⟨_,e,rfl⟩ (λs'=>Lq s' k t) gO Oc JX lB F.slot_int_index.lookup
  (Ii JX (Lq s k t) NL (Nl _ _) (jb k t l its.toArray n dd sl)
    ⟨e,rfl,⟨_,e,rfl⟩,Ii F.slot_tuple_mul ⟨_,e,rfl⟩ F.entry_tuple_mul (F.args_tuple_mul_2 _ _) (rR l its.toArray n dd sl k t h1 h2 hlen) ⟨e,?_⟩⟩)
 have hi:(its.toArray.isEmpty || k==1)=true↔(xs=[]∨k=1):=by
  rw[<- r.nil_iff];simp
 split
 ·next c=>exact⟨.ref l,H,I,rfl,O (hi.mp c)⟩
 ·next c =>
  rw[f0];refine⟨.ref s.heap.objs.size,_,I.laid (t':=s.toks) (o:=.tup (Fw k.toNat xs).flatten) (λb ob q=>td _ q) (FE _) ?_,rfl,Y (λz=>c (hi.mpr z)) _ (I.hok.fresh (FE _))⟩;exact⟨by rw[nX,Lr];exact j,_,r.rep k.toNat,JC _ _⟩
end
end
section
section
variable {X:Cx}
theorem xl:OpR X (GP .Add) (λx y H Q=>∃ a b ys,x = .ref a/\y = .ref b/\SqT X.K H a []/\SqT X.K H b ys/\Q (.ref b) H):=by
 intro pins s σ H x y v u Q I rx ry h;obtain⟨a,b,ys,rfl,rfl,Z,hb,q⟩:=h
 cases rx
 cases ry
 obtain⟨its,r1,p1,_⟩:=I.tuple Z;obtain⟨j,r2,p2,_⟩:=I.tuple hb;have e0:its=[]:=r1.nil_iff.mpr rfl;obtain⟨⟨cls,dd,data,sl⟩,ho,U,n,hd⟩:=id p1;obtain⟨⟨Y,L,data2,O⟩,z,J,n2,hd2⟩:=id p2;simp only at U hd J hd2;subst U hd J hd2;exact Ni ⟨_,ho,rfl⟩ ⟨_,z,rfl⟩ L3 Mx Jx Jr (Jc _ _)
  (tuple_addW0 a b its.toArray j.toArray n n2 dd L sl O (by simp[e0])) ⟨ho,z,⟨.ref b,H,I,rfl,q⟩⟩
end
end
namespace Mi
variable {K:Frag}{M:Mem}{H:Hp}{Q:VK}{v:V}
section
def MulOk (i j:Int):Prop:=(-(2 ^ 64)<i/\i<2 ^ 64)∨(-(2 ^ 64)<j/\j<2 ^ 64)∨(Ms i<=2 ^ 20/\Ms j<=2 ^ 20)
theorem MulOk.ok {i j:Int}(h:MulOk i j):IntMulOk i j:=by
 rcases h with h|h|h
 ·exact IntMulOk.of_left (intBits_le_64 h.1 h.2)
 ·exact IntMulOk.of_right (intBits_le_64 h.1 h.2)
 ·exact IntMulOk.of_bits h.1 h.2
noncomputable def et:R2d
 |.int i,.int j,M,Q=>Q (.int (i+j)) M
 |.tup a,.tup b,M,Q=>(a≠[]∨True)/\a.length+b.length<=Fz/\Q (.tup (a++b)) M
 |.ref a,.ref b,M,Q=>∃ xs ys,M a=some (.lst xs)/\M b=some (.lst ys)/\xs.length+ys.length<=Fz /\ ∀ p,M p=none->Q (.ref p) (af M p (.lst (xs++ys)))
 |.str x,.str y,M,Q=>x.length+y.length<=Fz/\Q (.str (x++y)) M
 |_,_,_,_=>False
noncomputable def lF:R2d
 |.int i,.int j,M,Q=>Q (.int (i - j)) M
 |_,_,_,_=>False
noncomputable def eP:R2d
 |.int i,.int j,M,Q=>MulOk i j/\Q (.int (i*j)) M
 |.ref a,.int k,M,Q=>∃ xs,M a=some (.lst xs) /\ -(2 ^ 63)<=k/\k<2 ^ 63/\xs.length*k.toNat<=Fz /\ ∀ p,M p=none->Q (.ref p) (af M p (.lst (Fw k.toNat xs).flatten))
 |.tup ds,.int k,M,Q=>-(2 ^ 63)<=k/\k<2 ^ 63/\ds.length*k.toNat<=Fz/\Q (.tup (Fw k.toNat ds).flatten) M
 |_,_,_,_=>False
noncomputable def ip:R2d
 |.int i,.int j,M,Q=>0<j/\j<2 ^ 256/\Q (.int (i / j)) M
 |_,_,_,_=>False
noncomputable def lH:R2d
 |.int i,.int j,M,Q=>0<j/\Q (.int (i % j)) M
 |_,_,_,_=>False
noncomputable def lJ:R2d
 |.int i,.int j,M,Q=>0<=j/\j<=1000000/\i.natAbs<2 ^ 64/\Q (.int (i ^ j.toNat)) M
 |_,_,_,_=>False
theorem uu:au et:=by
 intro x y M Q Q' h q
 cases x <;> cases y <;> first
  |exact q.elim
  |exact h _ _ q
  |exact⟨q.1,h _ _ q.2⟩
  |exact⟨q.1,q.2.1,h _ _ q.2.2⟩
  |(obtain⟨xs,ys,j,F,z,q⟩:=q;exact⟨xs,ys,j,F,z,λp n=>h _ _ (q p n)⟩)
theorem uv:au lF:=by
 intro x y M Q Q' h q
 cases x <;> cases y <;> first|exact q.elim|exact h _ _ q
theorem uw:au eP:=by
 intro x y M Q Q' h q
 cases x <;> cases y <;> first
  |exact q.elim
  |exact⟨q.1,h _ _ q.2⟩
  |exact⟨q.1,q.2.1,q.2.2.1,h _ _ q.2.2.2⟩
  |(obtain⟨xs,j,z,F,J,q⟩:=q;exact⟨xs,j,z,F,J,λp n=>h _ _ (q p n)⟩)
theorem rS:au ip:=by
 intro x y M Q Q' h q
 cases x <;> cases y <;> first|exact q.elim|exact⟨q.1,q.2.1,h _ _ q.2.2⟩
theorem uz:au lH:=by
 intro x y M Q Q' h q
 cases x <;> cases y <;> first|exact q.elim|exact⟨q.1,h _ _ q.2⟩
theorem uA:au lJ:=by
 intro x y M Q Q' h q
 cases x <;> cases y <;> first|exact q.elim|exact⟨q.1,q.2.1,q.2.2.1,h _ _ q.2.2.2⟩
section
variable {X:Cx}
theorem OpR.of {f:h8->h8->Sem h8}{r r':R2}(h:OpR X f r)(i:∀ v u H Q,r' v u H Q->r v u H Q):OpR X f r':=λpins s σ H x y v u Q I rx ry q=>h pins s σ H x y v u Q I rx ry (i _ _ _ _ q)
theorem IxR.of {r r':R2}(h:IxR X r)(i:∀ v u H Q,r' v u H Q->r v u H Q):IxR X r':=λa b pins s σ H x y v u Q I rx ry q=>h a b pins s σ H x y v u Q I rx ry (i _ _ _ _ q)
theorem CallR.of {f:h8}{r r':List V->Hp->VK->Prop}(h:CallR X f r)(i:∀ vs H Q,r' vs H Q->r vs H Q):CallR X f r':=λpins s σ H xs us Q I rx q=>h pins s σ H xs us Q I rx (i _ _ _ q)
theorem Bo {a b:List D}{u:V}(rm:RM K M H)(rx:RD K H (.tup a) v)(ry:RD K H (.tup b) u)(q:et (.tup a) (.tup b) M (KE' K M H Q)):wa K v u H Q∨∃ a b ys,v = .ref a/\u = .ref b/\SqT K H a []/\SqT K H b ys/\Q (.ref b) H:=by
 obtain⟨a',vs,rfl,z,j⟩:=OO rx;obtain⟨b',us,rfl,F,J⟩:=OO ry;obtain⟨_,O,q⟩:=q;have l1:=j.length;have l2:=J.length
 by_cases L:a=[]
 ·subst L;have:vs=[]:=RDs.nil_iff.mp j;subst this;exact .inr ⟨a',b',us,rfl,rfl,z,F,q _ H Ext.refl rm ry⟩
 refine .inl ⟨a',b',vs,us,rfl,rfl,z,F,λe=>L (GG.mp (by rw[<- l1,e];rfl)),by lia,λe=>?_,λ_ p n=>cA rm (j.append J) q n⟩
 have eb:b=[]:=GG.mp (by rw[<- l2,e];rfl)
 subst eb;rw[Hz]at q;exact q _ H Ext.refl rm rx
theorem uB:OpR X (GP .Add) (l2 X.K et):=by
 refine OpR.of (op_add.or ((op_catT.or xl).or (op_cat.or pj))) λv u H Q h=>?_;obtain⟨x,y,M,rm,rx,ry,q⟩:=h
 cases x <;> cases y <;> first
  |exact q.elim
  |(cases OI.mp rx;cases OI.mp ry;exact .inl ⟨_,_,rfl,rfl,q _ H Ext.refl rm (OI.mpr rfl)⟩)
  |exact .inr (.inl (Bo rm rx ry q))
  | (cases OL.mp rx;cases OL.mp ry
     obtain⟨xs,ys,J,L,z,q⟩:=q;obtain⟨vs,h1,j⟩:=rm _ _ J;obtain⟨us,h2,F⟩:=rm _ _ L;have l1:=j.length;have l2:=F.length;refine .inr (.inr (.inl ⟨_,_,vs,us,rfl,rfl,h1,h2,by lia,λp n=>dl rm (j.append F) q n⟩)))
  |(cases OJ.mp rx;cases OJ.mp ry;exact .inr (.inr (.inr ⟨_,_,rfl,rfl,q.1,q.2 _ H Ext.refl rm (OJ.mpr rfl)⟩)))
theorem uE:OpR X (GP .Sub) (l2 X.K lF):=by
 refine OpR.of zh λv u H Q h=>?_;obtain⟨x,y,M,rm,rx,ry,q⟩:=h
 cases x <;> cases y <;> first
  |exact q.elim
  |(cases OI.mp rx;cases OI.mp ry;exact⟨_,_,rfl,rfl,q _ H Ext.refl rm (OI.mpr rfl)⟩)
theorem op_mul_i:OpR X (GP .Mult) (rI MulOk λi j=>.int (i*j)):=opI λ_ _ _ _ _ _ _ z q=>mul_int q z.ok
theorem Bp {a:List D}{k:Int}{u:V}(rm:RM K M H)(rx:RD K H (.tup a) v)(ry:RD K H (.int k) u)(q:eP (.tup a) (.int k) M (KE' K M H Q)):wj K v u H Q:=by
 obtain⟨a',vs,rfl,z,j⟩:=OO rx
 cases OI.mp ry
 obtain⟨F,J,L,q⟩:=q;have l1:=j.length;refine⟨a',k,vs,rfl,rfl,z,F,J,by rw[l1];exact L,λe=>?_,λ_ p n=>cA rm (j.rep _) q n⟩
 have ea:(Fw k.toNat a).flatten=a:=by
  rcases e with e|e
  ·have:a=[]:=GG.mp (by rw[<- l1,e];rfl)
   subst this;simp
  ·subst e;simp
 rw[ea]at q;exact q _ H Ext.refl rm rx
theorem uF:OpR X (GP .Mult) (l2 X.K eP):=by
 refine OpR.of (op_mul_i.or (op_rep.or xk)) λv u H Q h=>?_;obtain⟨x,y,M,rm,rx,ry,q⟩:=h
 cases x <;> cases y <;> first
  |exact q.elim
  |(cases OI.mp rx;cases OI.mp ry;exact .inl ⟨_,_,rfl,rfl,q.1,q.2 _ H Ext.refl rm (OI.mpr rfl)⟩)
  | (cases OL.mp rx;cases OI.mp ry
     obtain⟨xs,z,F,J,L,q⟩:=q;obtain⟨vs,h1,j⟩:=rm _ _ z;have l1:=j.length;exact .inr (.inl ⟨_,_,vs,rfl,rfl,h1,F,J,by rw[l1];exact L,λp n=>dl rm (j.rep _) q n⟩))
  |exact .inr (.inr (Bp rm rx ry q))
theorem uG:OpR X (GP .FloorDiv) (rI (λ_ j=>0<j/\j<2 ^ 256) λi j=>.int (i / j)):=L2.opI λi j _ _ _ _ _ z q=>by
 have h1:(0:Int)<j:=z.1;have h2:j<2 ^ 256:=z.2;have F:j.natAbs.log2<256:=(JT (by lia)).mpr (by lia)
 exact floordiv_int (by lia) (by rw[Int.fdiv_eq_ediv_of_nonneg i (by lia)];exact q) (.inl (PyProof.noPylong_of_log2 (by lia)))
theorem rT:OpR X (GP .FloorDiv) (l2 X.K ip):=by
 refine OpR.of uG λv u H Q h=>?_;obtain⟨x,y,M,rm,rx,ry,q⟩:=h
 cases x <;> cases y <;> first
  |exact q.elim
  |(cases OI.mp rx;cases OI.mp ry;exact⟨_,_,rfl,rfl,⟨q.1,q.2.1⟩,q.2.2 _ H Ext.refl rm (OI.mpr rfl)⟩)
theorem uH:OpR X (GP .Mod) (l2 X.K lH):=by
 refine OpR.of zi λv u H Q h=>?_;obtain⟨x,y,M,rm,rx,ry,q⟩:=h
 cases x <;> cases y <;> first
  |exact q.elim
  |(cases OI.mp rx;cases OI.mp ry;exact⟨_,_,rfl,rfl,q.1,q.2 _ H Ext.refl rm (OI.mpr rfl)⟩)
theorem uI:OpR X (GP .Pow) (l2 X.K lJ):=by
 refine OpR.of zj λv u H Q h=>?_;obtain⟨x,y,M,rm,rx,ry,q⟩:=h
 cases x <;> cases y <;> first
  |exact q.elim
  |(cases OI.mp rx;cases OI.mp ry;exact⟨_,_,rfl,rfl,⟨q.1,q.2.1,q.2.2.1⟩,q.2.2.2 _ H Ext.refl rm (OI.mpr rfl)⟩)
noncomputable def lK:R1d
 |.int i,M,Q=>Q (.int (-i)) M
 |_,_,_=>False
theorem lL:pJ lK:=by
 intro x M Q Q' h q
 cases x <;> first|exact q.elim|exact h _ _ q
theorem UnR.of {f:h8->Sem h8}{r r':V->Hp->VK->Prop}(h:UnR X f r)(i:∀ v H Q,r' v H Q->r v H Q):UnR X f r':=λpins s σ H x v Q I rx q=>h pins s σ H x v Q I rx (i _ _ _ q)
theorem uJ:UnR X (unaryOp .USub) (l1 X.K lK):=by
 refine UnR.of zk λv H Q h=>?_;obtain⟨x,M,rm,rx,q⟩:=h
 cases x <;> first
  |exact q.elim
  |(cases OI.mp rx;exact⟨_,rfl,q _ H Ext.refl rm (OI.mpr rfl)⟩)
noncomputable def az {α β:Type} (f : α -> Option β):List α -> Option (List β)
 |[]=>some []
 |x::xs=>(f x).bind λy=>(az f xs).map (y :: ·)
noncomputable def rb:Nat->Mem->D->Option Ov
 |_,_,.non=>some .none
 |_,_,.bl b=>some (.bool b)
 |_,_,.int i=>some (.int i)
 |_,_,.str x=>if Gd x=true then some (.str x) else none
 |n+1,M,.tup ds=>(az (rb n M) ds).map PyData.tuple
 |n+1,M,.con ds=>(az (rb n M) ds).map O7
 | n+1,M,.ref a=>match M a with
   |some (.lst ds)=>(az (rb n M) ds).map O7
   |_=>none
 |0,_,.tup _=>none
 |0,_,.con _=>none
 |0,_,.ref _=>none
 |_,_,.fn _=>none
theorem cY {n:Nat}{M:Mem}(ih:∀ d p,rb n M d=some p->p.depth<=n/\p.canLay0=true):∀ {ds:List D} {ps:List Ov},az (rb n M) ds=some ps->Of ps<=n/\Nv ps=true
 |[],ps,h=>by
  simp[az]at h;subst h;exact⟨GX _,rfl⟩
 | d::ds,ps,h=>by
   simp only[az]at h
   cases e1:rb n M d with
   |none=>rw[e1]at h;cases h
   | some p =>
     rw[e1]at h
     cases e2:az (rb n M) ds with
     |none=>simp[e2]at h
     | some qs =>
       simp[e2]at h;subst h;obtain⟨a1,a2⟩:=ih d p e1;obtain⟨b1,b2⟩:=cY ih e2;refine⟨?_,?_⟩
       ·show max p.depth (Of qs)<=n;lia
       ·show (p.canLay0&&Nv qs)=true;rw[a2,b2];rfl
theorem bV {M:Mem}:∀ (n:Nat) (d:D) (p:Ov),rb n M d=some p->p.depth<=n/\p.canLay0=true
 |n,.non,p,h=>by simp[rb]at h;subst h;exact⟨GX _,rfl⟩
 |n,.bl b,p,h=>by simp[rb]at h;subst h;exact⟨GX _,rfl⟩
 |n,.int b,p,h=>by simp[rb]at h;subst h;exact⟨GX _,rfl⟩
 | n,.str x,p,h=>by
   simp[rb]at h;obtain⟨h1,h2⟩:=h;subst h2;exact⟨GX _,h1⟩
 |0,.tup _,p,h=>by simp[rb]at h
 |0,.con _,p,h=>by simp[rb]at h
 |0,.ref _,p,h=>by simp[rb]at h
 |n,.fn _,p,h=>by simp[rb]at h
 | n+1,.tup ds,p,h=>by
   simp only[rb]at h
   cases e:az (rb n M) ds with
   |none=>rw[e]at h;cases h
   | some ps =>
     rw[e]at h;cases h;obtain⟨a,b⟩:=cY (bV n) e;exact⟨L9 a,b⟩
 | n+1,.con ds,p,h=>by
   simp only[rb]at h
   cases e:az (rb n M) ds with
   |none=>rw[e]at h;cases h
   | some ps =>
     rw[e]at h;cases h;obtain⟨a,b⟩:=cY (bV n) e;exact⟨L9 a,b⟩
 | n+1,.ref a,p,h=>by
   simp only[rb]at h
   cases e0:M a with
   |none=>rw[e0]at h;cases h
   | some o =>
     rw[e0]at h
     cases o with
     |dct _ _=>cases h
     |fdc _=>cases h
     |dcn _=>cases h
     |tab _ _=>cases h
     |fdn _=>cases h
     | lst ds =>
       simp only at h
       cases e:az (rb n M) ds with
       |none=>rw[e]at h;cases h
       | some ps =>
         rw[e]at h;cases h;obtain⟨a,b⟩:=cY (bV n) e;exact⟨L9 a,b⟩
theorem cZ {K:Frag}{H:Hp}{n:Nat}{M:Mem}{h:Heap}(ih:∀ d p v u,rb n M d=some p->RD K H d v->RelV v u -> ∃ as,Reads h u p as) :
 ∀ {ds:List D} {ps:List Ov} {vs:List V} {us:List h8},az (rb n M) ds=some ps->RDs K H ds vs->Vals vs us -> ∃ as,ReadsAll h us ps as
 |[],ps,vs,us,hm,r,rv=>by
  simp[az]at hm;subst hm;rw[RDs.nil_iff.mp r]at rv
  cases rv
  exact⟨_,.nil⟩
 | d::ds,ps,vs,us,hm,r,rv=>by
   obtain⟨v,vr,rfl,j,z⟩:=OM.mp r
   cases rv with
   | cons F J =>
     simp only[az]at hm
     cases e1:rb n M d with
     |none=>rw[e1]at hm;cases hm
     | some p =>
       rw[e1]at hm
       cases e2:az (rb n M) ds with
       |none=>simp[e2]at hm
       | some qs =>
         simp[e2]at hm;subst hm;obtain⟨as,ra⟩:=ih d p v _ e1 j F;obtain⟨bs,rbs⟩:=cZ ih e2 z J;exact⟨_,.cons ra rbs⟩
theorem bW {pins:List (Addr×Obj)}{σ:St}{H:Hp}{s:Ft}{M:Mem}(I:Inv X pins σ H s)(rm:RM X.K M H):∀ (n:Nat) (d:D) (p:Ov) (v:V) (u:h8),rb n M d=some p->RD X.K H d v->RelV v u -> ∃ as,Reads s.heap u p as
 |n,.non,p,v,u,h,r,q=>by simp[rb]at h;subst h;cases ON.mp r;cases q;exact⟨_,.none⟩
 |n,.bl b,p,v,u,h,r,q=>by simp[rb]at h;subst h;cases OK.mp r;cases q;exact⟨_,.bool b⟩
 |n,.int b,p,v,u,h,r,q=>by simp[rb]at h;subst h;cases OI.mp r;obtain⟨t,rfl⟩:=q;exact⟨_,.int b t⟩
 | n,.str x,p,v,u,h,r,q=>by
   simp[rb]at h;obtain⟨_,h2⟩:=h;subst h2;cases OJ.mp r;obtain⟨t,rfl⟩:=q;exact⟨_,.str x t⟩
 |0,.tup _,p,_,_,h,_,_=>by simp[rb]at h
 |0,.con _,p,_,_,h,_,_=>by simp[rb]at h
 |0,.ref _,p,_,_,h,_,_=>by simp[rb]at h
 |n,.fn _,p,_,_,h,_,_=>by simp[rb]at h
 | n+1,.tup ds,p,v,u,h,r,q=>by
   simp only[rb]at h
   cases e:az (rb n M) ds with
   |none=>rw[e]at h;cases h
   | some ps =>
     rw[e]at h;cases h;obtain⟨a,vs,rfl,j,rs⟩:=OO r
     cases q
     obtain⟨its,rv,⟨o,ho,z,k,hd⟩,_⟩:=I.tuple j;obtain⟨as,ra⟩:=cZ (bW I rm n) e rs rv;exact⟨_,.tuple ho z hd (by simpa using ra)⟩
 | n+1,.con ds,p,v,u,h,r,q=>by
   simp only[rb]at h
   cases e:az (rb n M) ds with
   |none=>rw[e]at h;cases h
   | some ps =>
     rw[e]at h;cases h;obtain⟨a,vs,rfl,j,rs⟩:=OQ.mp r
     cases q
     obtain⟨its,rv,⟨o,k,ho,z,_,hd⟩,_⟩:=I.list j.sq;obtain⟨as,ra⟩:=cZ (bW I rm n) e rs rv;exact⟨_,.list ho z hd (by simpa using ra)⟩
 | n+1,.ref a,p,v,u,h,r,q=>by
   simp only[rb]at h
   cases e0:M a with
   |none=>rw[e0]at h;cases h
   | some o =>
     rw[e0]at h
     cases o with
     |dct _ _=>cases h
     |fdc _=>cases h
     |dcn _=>cases h
     |tab _ _=>cases h
     |fdn _=>cases h
     | lst ds =>
       simp only at h
       cases e:az (rb n M) ds with
       |none=>rw[e]at h;cases h
       | some ps =>
         rw[e]at h;cases h
         cases OL.mp r
         cases q
         obtain⟨vs,j,rs⟩:=rm _ _ e0;obtain⟨its,rv,⟨o,k,ho,z,_,hd⟩,_⟩:=I.list (SqL.of j);obtain⟨as,ra⟩:=cZ (bW I rm n) e rs rv;exact⟨_,.list ho z hd (by simpa using ra)⟩
noncomputable def wEq:R2d:=λx y M Q=>∃ p q,rb 16 M x=some p/\rb 16 M y=some q/\Q (.bl (GI p q)) M
noncomputable def wNe:R2d:=λx y M Q=>∃ p q,rb 16 M x=some p/\rb 16 M y=some q/\Q (.bl (!PyData.eqv p q)) M
theorem xm:au wEq:=λ_ _ _ _ _ h j=>(by obtain⟨p,q,a,b,c⟩:=j;exact⟨p,q,a,b,h _ _ c⟩)
theorem xo:au wNe:=λ_ _ _ _ _ h j=>(by obtain⟨p,q,a,b,c⟩:=j;exact⟨p,q,a,b,h _ _ c⟩)
theorem xq (J:X.A.units+16<LP):OpR X (G6 .Eq) (l2 X.K wEq):=by
 intro pins s σ H x y v u Q I rx ry h;obtain⟨d,e,M,rm,rd,re,p,q,j,z,k⟩:=h;obtain⟨as,ra⟩:=bW I rm _ _ _ _ _ j rd rx;obtain⟨bs,rb'⟩:=bW I rm _ _ _ _ _ z re ry;obtain⟨L,p2⟩:=bV _ _ _ j;obtain⟨O,F⟩:=bV _ _ _ z;exact SeqAt.compareEq_reads ra rb' p2 F (by lia) ⟨.bl _,H,I,rfl,k _ H Ext.refl rm (OK.mpr rfl)⟩
theorem xt (J:X.A.units+16<LP):OpR X (G6 .NotEq) (l2 X.K wNe):=by
 intro pins s σ H x y v u Q I rx ry h;obtain⟨d,e,M,rm,rd,re,p,q,j,z,k⟩:=h;obtain⟨as,ra⟩:=bW I rm _ _ _ _ _ j rd rx;obtain⟨bs,rb'⟩:=bW I rm _ _ _ _ _ z re ry;obtain⟨L,p2⟩:=bV _ _ _ j;obtain⟨O,F⟩:=bV _ _ _ z;exact SeqAt.compareNe_reads ra rb' p2 F (by lia) ⟨.bl _,H,I,rfl,k _ H Ext.refl rm (OK.mpr rfl)⟩
noncomputable def wLt:R2d
 |.int i,.int j,M,Q=>Q (.bl (decide (i<j))) M
 |_,_,_,_=>False
noncomputable def wLe:R2d
 |.int i,.int j,M,Q=>Q (.bl (decide (i<=j))) M
 |_,_,_,_=>False
noncomputable def wGt:R2d
 |.int i,.int j,M,Q=>Q (.bl (decide (j<i))) M
 |_,_,_,_=>False
noncomputable def wGe:R2d
 |.int i,.int j,M,Q=>Q (.bl (decide (j<=i))) M
 |_,_,_,_=>False
theorem xu:au wLt:=by
 intro x y M Q Q' h q
 cases x <;> cases y <;> first|exact q.elim|exact h _ _ q
theorem xv:au wLe:=by
 intro x y M Q Q' h q
 cases x <;> cases y <;> first|exact q.elim|exact h _ _ q
theorem xw:au wGt:=by
 intro x y M Q Q' h q
 cases x <;> cases y <;> first|exact q.elim|exact h _ _ q
theorem xx:au wGe:=by
 intro x y M Q Q' h q
 cases x <;> cases y <;> first|exact q.elim|exact h _ _ q
theorem xz:OpR X (G6 .Lt) (l2 X.K wLt):=by
 refine OpR.of B3 λv u H Q h=>?_;obtain⟨x,y,M,rm,rx,ry,q⟩:=h
 cases x <;> cases y <;> first
  |exact q.elim
  |(cases OI.mp rx;cases OI.mp ry;exact⟨_,_,rfl,rfl,q _ H Ext.refl rm (OK.mpr rfl)⟩)
theorem xA:OpR X (G6 .LtE) (l2 X.K wLe):=by
 refine OpR.of B4 λv u H Q h=>?_;obtain⟨x,y,M,rm,rx,ry,q⟩:=h
 cases x <;> cases y <;> first
  |exact q.elim
  |(cases OI.mp rx;cases OI.mp ry;exact⟨_,_,rfl,rfl,q _ H Ext.refl rm (OK.mpr rfl)⟩)
theorem xB:OpR X (G6 .Gt) (l2 X.K wGt):=by
 refine OpR.of B5 λv u H Q h=>?_;obtain⟨x,y,M,rm,rx,ry,q⟩:=h
 cases x <;> cases y <;> first
  |exact q.elim
  |(cases OI.mp rx;cases OI.mp ry;exact⟨_,_,rfl,rfl,q _ H Ext.refl rm (OK.mpr rfl)⟩)
theorem xC:OpR X (G6 .GtE) (l2 X.K wGe):=by
 refine OpR.of B6 λv u H Q h=>?_;obtain⟨x,y,M,rm,rx,ry,q⟩:=h
 cases x <;> cases y <;> first
  |exact q.elim
  |(cases OI.mp rx;cases OI.mp ry;exact⟨_,_,rfl,rfl,q _ H Ext.refl rm (OK.mpr rfl)⟩)
end
end
variable {a:Addr}{ds:List D}{vs:List V}{d x:D}
section
noncomputable def wIx:R2d:=λx y M Q=>match x with
 |.tup ds=>∃ i d,y = .int i/\atI ds i=some d/\Q d M
 |.con ds=>∃ i d,y = .int i/\atI ds i=some d/\Q d M
 |.ref a=>(∃ ds i d,M a=some (.lst ds)/\y = .int i/\atI ds i=some d/\Q d M)∨(∃ t kvs d,M a=some (.dct t kvs)/\pH t y=true/\cj kvs y=some d/\Q d M)∨∃ kvs d,M a=some (.fdc kvs)/\dC y=true/\cj kvs y=some d/\Q d M
 |_=>False
theorem oi:au wIx:=by
 intro x y M Q Q' h q
 cases x with
 |tup ds=>obtain⟨i,d,e,j,q⟩:=q;exact⟨i,d,e,j,h _ _ q⟩
 |con ds=>obtain⟨i,d,e,j,q⟩:=q;exact⟨i,d,e,j,h _ _ q⟩
 | ref a =>
   rcases q with⟨ds,i,d,z,j,F,q⟩|⟨t,kvs,d,z,j,F,q⟩|⟨kvs,d,z,j,F,q⟩
   ·exact .inl ⟨ds,i,d,z,j,F,h _ _ q⟩
   ·exact .inr (.inl ⟨t,kvs,d,z,j,F,h _ _ q⟩)
   ·exact .inr (.inr ⟨kvs,d,z,j,F,h _ _ q⟩)
 |_=>exact q.elim
theorem lP {i:Int}(r:RDs K H ds vs)(e:atI ds i=some d):∃ v,atI vs i=some v/\RD K H d v:=by
 unfold atI at e ⊢;rw[r.length]
 cases q:ixN ds.length i with
 |none=>rw[q]at e;cases e
 | some j =>
   rw[q]at e;exact r.get e
theorem jc {k:D}{q:Key}(r:RKey k q)(h:RD K H k v):v=kV q:=by
 cases k <;> first
  |exact r.elim
  |(cases (show q=_ from r);first|exact OI.mp h|exact OJ.mp h)
theorem gP {K:Frag}{H:Hp}:∀ {ds:List D} {ks:List Key} {vs:List V},GZ RKey ds ks->RDs K H ds vs->vs=ks.map kV
 |_,_,vs,.nil,h=>by rw[RDs.nil_iff.mp h];rfl
 | _,_,vs,.cons r t,h=>by
   obtain⟨v,vr,rfl,h1,h2⟩:=OM.mp h;rw[jc r h1,gP t h2];rfl
theorem RKey.inj {e:D}{k:Key}(a:RKey d k)(b:RKey e k):d=e:=by
 cases d <;> first
  |exact a.elim
  |(cases e <;> first|exact b.elim|(cases (show k=_ from a);injection (show _=_ from b) with z;rw[z])|(cases (show k=_ from a);cases (show _=_ from b)))
theorem RKeysP.inj:∀ {d e:List D} {k:List Key},GZ RKey d k->GZ RKey e k->d=e
 |_,_,_,.nil,.nil=>rfl
 |_,_,_,.cons r t,.cons r' t'=>by rw[r.inj r',RKeysP.inj t t']
theorem RKeys.inj {e:D}{k:List Key}(a:RKeys d k)(b:RKeys e k):d=e:=by
 cases d <;> first
  |exact a.elim
  |(cases e <;> first|exact b.elim|exact congrArg D.tup (RKeysP.inj a b))
theorem RKey.fun {k k':Key}(a:RKey d k)(b:RKey d k'):k=k':=by
 cases d <;> first
  |exact a.elim
  |(cases (show k=_ from a);cases (show k'=_ from b);rfl)
theorem RKeysP.fun:∀ {d:List D} {k k':List Key},GZ RKey d k->GZ RKey d k'->k=k'
 |_,_,_,.nil,.nil=>rfl
 |_,_,_,.cons r t,.cons r' t'=>by rw[r.fun r',RKeysP.fun t t']
theorem RKeys.fun {k k':List Key}(a:RKeys d k)(b:RKeys d k'):k=k':=by
 cases d <;> first
  |exact a.elim
  |exact RKeysP.fun a b
section
variable {κ:Type} [DecidableEq κ] {K:Frag} {H:Hp} {RK:D -> κ -> Prop} (inj:∀ {d e:D} {k : κ},RK d k->RK e k->d=e) (fn:∀ {d:D} {k k' : κ},RK d k->RK d k'->k=k')
include inj fn
theorem gQ {k:D}{q : κ}(hk:RK k q):∀ {kvs:List (D×D)} {ps:List (κ × V)},GZ (λp r=>RK p.1 r.1/\RD K H p.2 r.2) kvs ps ->
 (∀ d,cj kvs k=some d -> ∃ v,bE ps q=some v/\RD K H d v)/\(cj kvs k=none->bE ps q=none)
 |_,_,.nil=>⟨λd e=>by simp[cj]at e,λ_=>rfl⟩
 | _,_,.cons (a:=p) (b:=r) (l₂:=ps) hr t=>by
   obtain⟨j,F⟩:=gQ hk t
   by_cases e:p.1=k
   ·have e':r.1=q:=by
     have h1:=hr.1;rw[e]at h1;exact fn h1 hk
    refine⟨λd he=>?_,λhe=>?_⟩
    ·simp[cj,He,e]at he;subst he;exact⟨r.2,eM e',hr.2⟩
    ·simp[cj,He,e]at he
   ·have e' : ¬ r.1=q:=fun z=>e (by
     have h1:=hr.1;rw[z]at h1;exact inj h1 hk)
    have eq1:∀ l:List (D×D),cj (p::l) k=cj l k:=λl=>by simp[cj,He,e]
    have eq2:bE (r::ps) q=bE ps q:=eN e';refine⟨λd he=>?_,λhe=>?_⟩
    ·rw[eq1]at he;rw[eq2];exact j d he
    ·rw[eq1]at he;rw[eq2];exact F he
end
section
variable {X:Cx}
theorem rV {ps:List (List Key×V)}{kvs:List (D×D)}{k:D}(F:Rd H a (.dT ps))(pr:GZ (λ(p:D×D) (q:List Key×V)=>RKeys p.1 q.1/\RD K H p.2 q.2) kvs ps)(ok:dC k=true)(rk:RD K H k v) :
 ∃ o,DGet H a v o/\(∀ d,cj kvs k=some d -> ∃ w,o=some w/\RD K H d w)/\(cj kvs k=none->o=none):=by
 obtain⟨q,j⟩:=og ok;obtain⟨g1,g2⟩:=gQ (RK:=RKeys) RKeys.inj RKeys.fun j pr;refine⟨bE ps q,?_,g1,g2⟩
 cases k <;> first
  |exact j.elim
  | (obtain ⟨b,us,rfl,z,ru⟩:=P1 (oh ok) rk
     rw[gP j ru]at z;exact .inr ⟨ps,q,b,F,rfl,z,rfl⟩)
theorem xE {t:Bool}{kvs:List (D×D)}{k:D}(rm:RM K M H)(e:M a=some (.dct t kvs))(ok:pH t k=true)(rk:RD K H k v) :
 ∃ o,DGet H a v o/\(∀ d,cj kvs k=some d -> ∃ w,o=some w/\RD K H d w)/\(cj kvs k=none->o=none):=by
 have ro:=rm a _ e
 cases t with
 | false =>
   obtain⟨ps,j,pr⟩:=ro;obtain⟨q,z⟩:=lr (show eO k=true from ok);obtain⟨g1,g2⟩:=gQ (RK:=RKey) RKey.inj RKey.fun z pr;refine⟨bE ps q,?_,g1,g2⟩;rw[jc z rk];exact DGet.k j
 | true =>
   obtain⟨ps,j,pr⟩:=ro;exact rV (.inl j) pr ok rk
theorem xF (j:X.A.units+1<LP):IxR X (λx y H Q=>∃ a v,x = .ref a/\DGet H a y (some v)/\Q v H):=by
 intro value slice pins s σ H x y v u Q I rx ry h hs;obtain⟨a,w,rfl,g,q⟩:=h
 cases rx
 have hd:IsD H a:=by
  rcases g with⟨kvs,k,e,_⟩|⟨kvs,k,b,e,_⟩
  ·exact .inl ⟨kvs,e⟩
  ·exact .inr ⟨kvs,e⟩
 obtain⟨z,_⟩:=zx I hd;exact tail_any z PySem.F.slot_dict_getitem.lookup (rG j I g ry λw' s' I' r'=>⟨w,H,I',r',q⟩) hs
theorem CC (L:X.A.units+1<LP):IxR X (l2 X.K wIx):=by
 refine IxR.of (ix_list.or (ix_tup.or (xF L))) λv u H Q h=>?_;obtain⟨x,y,M,rm,rx,ry,q⟩:=h
 cases x with
 | tup ds =>
   obtain⟨i,d,rfl,e,q⟩:=q;obtain⟨a,vs,rfl,j,rs⟩:=OO rx
   cases OI.mp ry
   obtain⟨w,hw,rw'⟩:=lP rs e;exact .inr (.inl ⟨a,vs,i,w,rfl,rfl,j,hw,q w H Ext.refl rm rw'⟩)
 | con ds =>
   obtain⟨i,d,rfl,e,q⟩:=q;obtain⟨a,vs,rfl,j,rs⟩:=OQ.mp rx
   cases OI.mp ry
   obtain⟨w,hw,rw'⟩:=lP rs e;exact .inl ⟨a,vs,i,w,rfl,rfl,j.sq,hw,q w H Ext.refl rm rw'⟩
 | ref a =>
   cases OL.mp rx
   rcases q with⟨ds,i,d,z,rfl,F,q⟩|⟨t,kvs,d,z,J,F,q⟩|⟨kvs,d,z,J,F,q⟩
   ·cases OI.mp ry
    obtain⟨vs,j,rs⟩:=rm _ _ z;obtain⟨w,hw,rw'⟩:=lP rs F;exact .inl ⟨a,vs,i,w,rfl,rfl,SqL.of j,hw,q w H Ext.refl rm rw'⟩
   ·obtain⟨o,g,g1,_⟩:=xE rm z J ry;obtain⟨w,rfl,rw'⟩:=g1 d F;exact .inr (.inr ⟨a,w,rfl,g,q w H Ext.refl rm rw'⟩)
   ·obtain⟨ob,ps,O,pr⟩:=rm _ _ z;obtain⟨o,g,g1,_⟩:=rV (.inr ⟨ob,O⟩) pr J ry;obtain⟨w,rfl,rw'⟩:=g1 d F;exact .inr (.inr ⟨a,w,rfl,g,q w H Ext.refl rm rw'⟩)
 |_=>exact q.elim
noncomputable def lQ (M:Mem):D->Option Nat
 |.tup ds=>some ds.length
 |.con ds=>some ds.length
 |.ref a=>match M a with
  |some (.lst ds)=>some ds.length
  |_=>none
 |_=>none
noncomputable def eQ:RAd:=λxs M Q=>∃ x n,xs=[x]/\lQ M x=some n/\Q (.int n) M
theorem lU:aO eQ:=λ_ _ _ _ h j=>(by obtain⟨x,n,e,l,q⟩:=j;exact⟨x,n,e,l,h _ _ q⟩)
theorem RDs.one (h:RDs K H [d] vs):∃ v,vs=[v]/\RD K H d v:=by
 obtain⟨v,r,rfl,h1,h2⟩:=OM.mp h;rw[RDs.nil_iff.mp h2];exact⟨v,rfl,h1⟩
theorem RDs.two {e:D}(h:RDs K H [d,e] vs):∃ v u,vs=[v,u]/\RD K H d v/\RD K H e u:=by
 obtain⟨v,r,rfl,h1,h2⟩:=OM.mp h;obtain⟨u,rfl,j⟩:=RDs.one h2;exact⟨v,u,rfl,h1,j⟩
theorem pM:CallR X (.builtin "len") (lR X.K eQ):=by
 refine CallR.of kX λvs H Q h=>?_;obtain⟨ds,M,rm,rs,x,n,rfl,l,q⟩:=h;obtain⟨v,rfl,r⟩:=rs.one;refine⟨v,n,rfl,?_,q _ H Ext.refl rm (OI.mpr rfl)⟩
 cases x with
 | tup ds =>
   cases l
   obtain⟨a,us,rfl,j,ru⟩:=OO r;exact .inr ⟨us,j,ru.length.symm⟩
 | con ds =>
   cases l
   obtain⟨a,us,rfl,j,ru⟩:=OQ.mp r;exact .inl ⟨us,j.sq,ru.length.symm⟩
 | ref a =>
   cases OL.mp r
   simp only[lQ]at l
   cases e:M a with
   |none=>rw[e]at l;cases l
   | some o =>
     rw[e]at l
     cases o with
     |dct _ _=>cases l
     |fdc _=>cases l
     |dcn _=>cases l
     |tab _ _=>cases l
     |fdn _=>cases l
     | lst ds =>
       cases l
       obtain⟨us,j,ru⟩:=rm _ _ e;exact .inl ⟨us,SqL.of j,ru.length.symm⟩
 |_=>cases l
noncomputable def jd:RAd:=λxs M Q=>∃ i,xs=[.int i]/\Q (.int (if i<0 then -i else i)) M
noncomputable def iq:RAd:=λxs M Q=>∃ i j,xs=[.int i,.int j]/\Q (.int (if j > i then j else i)) M
noncomputable def ir:RAd:=λxs M Q=>∃ i j,xs=[.int i,.int j]/\Q (.int (if j<i then j else i)) M
noncomputable def je:RAd:=λxs M Q=>(∃ i,xs=[.int i]/\Q (.int i) M)∨∃ k,xs=[.bl k]/\Q (.int (if k then 1 else 0)) M
theorem lV:aO jd:=λ_ _ _ _ h j=>(by obtain⟨i,e,q⟩:=j;exact⟨i,e,h _ _ q⟩)
theorem jM:aO iq:=λ_ _ _ _ h z=>(by obtain⟨i,j,e,q⟩:=z;exact⟨i,j,e,h _ _ q⟩)
theorem jN:aO ir:=λ_ _ _ _ h z=>(by obtain⟨i,j,e,q⟩:=z;exact⟨i,j,e,h _ _ q⟩)
theorem lW:aO je:=λ_ _ _ _ h q=>q.elim (λj=>(by obtain⟨i,e,q⟩:=j;exact .inl ⟨i,e,h _ _ q⟩)) λj=>(by obtain⟨i,e,q⟩:=j;exact .inr ⟨i,e,h _ _ q⟩)
theorem pN:CallR X (.builtin "abs") (lR X.K jd):=by
 refine CallR.of uc λvs H Q h=>?_;obtain⟨ds,M,rm,rs,i,rfl,q⟩:=h;obtain⟨v,rfl,r⟩:=rs.one
 cases OI.mp r
 exact⟨i,rfl,q _ H Ext.refl rm (OI.mpr rfl)⟩
theorem nH (z:X.calm=true):CallR X (.builtin "max") (lR X.K iq):=by
 refine CallR.of (rp z) λvs H Q h=>?_;obtain⟨ds,M,rm,rs,i,j,rfl,q⟩:=h;obtain⟨v,u,rfl,F,J⟩:=rs.two
 cases OI.mp F
 cases OI.mp J
 exact⟨i,j,rfl,q _ H Ext.refl rm (OI.mpr rfl)⟩
theorem nI (z:X.calm=true):CallR X (.builtin "min") (lR X.K ir):=by
 refine CallR.of (rq z) λvs H Q h=>?_;obtain⟨ds,M,rm,rs,i,j,rfl,q⟩:=h;obtain⟨v,u,rfl,F,J⟩:=rs.two
 cases OI.mp F
 cases OI.mp J
 exact⟨i,j,rfl,q _ H Ext.refl rm (OI.mpr rfl)⟩
theorem pO:CallR X (.type "int") (lR X.K je):=by
 refine CallR.of rz λvs H Q h=>?_;obtain⟨ds,M,rm,rs,⟨i,rfl,q⟩|⟨i,rfl,q⟩⟩:=h
 ·obtain⟨v,rfl,r⟩:=rs.one
  cases OI.mp r
  exact .inl ⟨i,rfl,q _ H Ext.refl rm (OI.mpr rfl)⟩
 ·obtain⟨v,rfl,r⟩:=rs.one
  cases OK.mp r
  exact .inr ⟨i,rfl,q _ H Ext.refl rm (OI.mpr rfl)⟩
noncomputable def aJ (M:Mem):D->Option (List D)
 |.tup ds=>some ds
 |.con ds=>some ds
 |.ref a=>match M a with
  |some (.lst ds)=>some ds
  |_=>none
 |_=>none
theorem zJ (rm:RM K M H)(r:RD K H x v)(e:aJ M x=some ds):∃ p vs,v = .ref p/\(SqL K H p vs∨SqT K H p vs)/\RDs K H ds vs:=by
 cases x with
 | tup es =>
   cases e
   obtain⟨a,us,rfl,j,ru⟩:=OO r;exact⟨a,us,rfl,.inr j,ru⟩
 | con es =>
   cases e
   obtain⟨a,us,rfl,j,ru⟩:=OQ.mp r;exact⟨a,us,rfl,.inl j.sq,ru⟩
 | ref a =>
   cases OL.mp r
   simp only[aJ]at e
   cases e0:M a with
   |none=>rw[e0]at e;cases e
   | some o =>
     rw[e0]at e
     cases o with
     |dct _ _=>cases e
     |fdc _=>cases e
     |dcn _=>cases e
     |tab _ _=>cases e
     |fdn _=>cases e
     | lst es =>
       cases e
       obtain⟨us,j,ru⟩:=rm _ _ e0;exact⟨a,us,rfl,.inl (SqL.of j),ru⟩
 |_=>cases e
noncomputable def iu:RAd:=λxs M Q=>∃ x ds,xs=[x]/\aJ M x=some ds/\Q (.tup ds) M
theorem iw:aO iu:=λ_ _ _ _ h j=>(by obtain⟨x,ds,e,l,q⟩:=j;exact⟨x,ds,e,l,h _ _ q⟩)
theorem lX:CallR X (.type "tuple") (lR X.K iu):=by
 refine CallR.of kj λvs H Q h=>?_;obtain⟨ds,M,rm,rs,x,es,rfl,l,q⟩:=h;obtain⟨v,rfl,r⟩:=rs.one
 cases x with
 | tup ds' =>
   cases l
   obtain⟨a,us,rfl,j,ru⟩:=OO r;exact⟨a,us,rfl,.inr ⟨j,q _ H Ext.refl rm r⟩⟩
 | con ds' =>
   cases l
   obtain⟨a,us,rfl,j,ru⟩:=OQ.mp r;exact⟨a,us,rfl,.inl ⟨j.sq,λl' n=>cA rm ru q n⟩⟩
 | ref a =>
   cases OL.mp r
   simp only[aJ]at l
   cases e0:M a with
   |none=>rw[e0]at l;cases l
   | some o =>
     rw[e0]at l
     cases o with
     |dct _ _=>cases l
     |fdc _=>cases l
     |dcn _=>cases l
     |tab _ _=>cases l
     |fdn _=>cases l
     | lst es' =>
       cases l
       obtain⟨us,j,ru⟩:=rm _ _ e0;exact⟨a,us,rfl,.inl ⟨SqL.of j,λl' n=>cA rm ru q n⟩⟩
 |_=>cases l
end
end
variable {e:Expr}{tA:TTd}
section
section
variable {X:Cx}
noncomputable def uK (M:Mem):D->Option Bool
 |.non=>some false
 |.bl b=>some b
 |.int i=>some (i != 0)
 |.tup ds=>some (!ds.isEmpty)
 |.con ds=>some (!ds.isEmpty)
 |.ref a=>match M a with
  |some (.lst ds)=>some (!ds.isEmpty)
  |_=>none
 |_=>none
noncomputable def pP (t:TEd):TTd:=λρ M Q=>t ρ M λx M1=>∃ b,uK M1 x=some b/\Q b M1
theorem uL {t:TEd}(h:ae t):aA (pP t):=λρ M Q Q' i q=>h _ _ _ _ (λx F j=>(by obtain⟨k,e,z⟩:=j;exact⟨k,e,i _ _ z⟩)) q
theorem zK {b:Bool}(rm:RM K M H)(r:RD K H x v)(e:uK M x=some b):ua K v H b:=by
 have emp:∀ {ds:List D} {vs:List V},RDs K H ds vs->(!ds.isEmpty) = !vs.isEmpty:=λ{ds vs} h=>by
  have l:=h.length
  cases ds <;> cases vs <;> first|rfl|(simp at l)
 cases x with
 |non=>cases e;cases ON.mp r;rfl
 |bl k=>cases e;cases OK.mp r;rfl
 |int i=>cases e;cases OI.mp r;rfl
 | tup ds =>
   cases e
   obtain⟨a,vs,rfl,j,rs⟩:=OO r;exact .inr (.inl ⟨vs,j,emp rs⟩)
 | con ds =>
   cases e
   obtain⟨a,vs,rfl,j,rs⟩:=OQ.mp r;exact .inl ⟨vs,j.sq,emp rs⟩
 | ref a =>
   cases OL.mp r
   simp only[uK]at e
   cases e0:M a with
   |none=>rw[e0]at e;cases e
   | some o =>
     rw[e0]at e
     cases o with
     |dct _ _=>cases e
     |fdc _=>cases e
     |dcn _=>cases e
     |tab _ _=>cases e
     |fdn _=>cases e
     | lst ds =>
       cases e
       obtain⟨vs,j,rs⟩:=rm _ _ e0;exact .inl ⟨vs,SqL.of j,emp rs⟩
 |str _=>cases e
 |fn _=>cases e
variable {a b:Expr} {ta tb:TEd} {pos:Pos}
theorem zL (m:ae ta)(F:PE X a (lE X.K ta))(he:∀ whole,isTrue a X.env whole=(do let v <- whole;Jv a.pos;holding [v] (truthy v))):PT X a (lT X.K (pP ta)):=by
 refine PT.imp (ub F he) λσ H Q h=>?_;obtain⟨ρ,M,rs,rm,q⟩:=h;exact⟨ρ,M,rs,rm,m _ _ _ _ (λx U J v H1 L j z=>(by obtain⟨k,e,O⟩:=J;exact⟨k,zK j z e,O H1 L j⟩)) q⟩
noncomputable def ko (t:TTd):TTd:=λρ M Q=>t ρ M λc M1=>Q (!c) M1
theorem rW {t:TTd}(h:aA t):aA (ko t):=λρ M Q Q' i q=>h _ _ _ _ (λc z j=>i _ _ j) q
theorem zM (m:aA tA)(j:PT X a (lT X.K tA)):PT X (.UnaryOp .Not a pos) (lT X.K (ko tA)):=by
 refine PT.imp (yX j) λσ H Q h=>?_;obtain⟨ρ,M,rs,rm,q⟩:=h;exact⟨ρ,M,rs,rm,m _ _ _ _ (λc F z=>z) q⟩
noncomputable def kr (t u:TTd):TTd:=λρ M Q=>t ρ M λc M1=>if c=true then u ρ M1 Q else Q false M1
noncomputable def pQ (t u:TTd):TTd:=λρ M Q=>t ρ M λc M1=>if c=true then Q true M1 else u ρ M1 Q
theorem rX {t u:TTd}(h:aA t)(k:aA u):aA (kr t u):=λρ M Q Q' i q=>h _ _ _ _ (λc z j=>by
 cases c with
 |true=>rw[if_pos rfl]at j ⊢;exact k _ _ _ _ i j
 |false=>rw[if_neg Fu]at j ⊢;exact i _ _ j) q
theorem uM {t u:TTd}(h:aA t)(k:aA u):aA (pQ t u):=λρ M Q Q' i q=>h _ _ _ _ (λc z j=>by
 cases c with
 |true=>rw[if_pos rfl]at j ⊢;exact i _ _ j
 |false=>rw[if_neg Fu]at j ⊢;exact k _ _ _ _ i j) q
theorem xG (j:PT X a (lT X.K tA)):PW X (.BoolOp .And [a] pos) (lT X.K tA):=wQ j
theorem zN (j:PT X a (lT X.K tA)):PW X (.BoolOp .Or [a] pos) (lT X.K tA):=yV j
theorem zO {tB:TTd}{rest:List Expr}(mA:aA tA)(mB:aA tB)(J:PT X a (lT X.K tA))(L:PW X (.BoolOp .And (b::rest) pos) (lT X.K tB)):PW X (.BoolOp .And (a::b::rest) pos) (lT X.K (kr tA tB)):=by
 refine PW.imp (yW J L) λσ H Q h=>?_;obtain⟨ρ,M,rs,rm,q⟩:=h;refine⟨ρ,M,rs,rm,mA _ _ _ _ (λc O z H1 F j=>?_) q⟩
 cases c with
 |true=>rw[if_pos rfl]at z ⊢;exact⟨ρ,O,rs.mono (F.stab rm),j,mB _ _ _ _ (λd U k=>k.ext F) z⟩
 |false=>rw[if_neg Fu]at z ⊢;exact z H1 F j
theorem Bq {tB:TTd}{rest:List Expr}(mA:aA tA)(mB:aA tB)(J:PT X a (lT X.K tA))(L:PW X (.BoolOp .Or (b::rest) pos) (lT X.K tB)):PW X (.BoolOp .Or (a::b::rest) pos) (lT X.K (pQ tA tB)):=by
 refine PW.imp (AV J L) λσ H Q h=>?_;obtain⟨ρ,M,rs,rm,q⟩:=h;refine⟨ρ,M,rs,rm,mA _ _ _ _ (λc O z H1 F j=>?_) q⟩
 cases c with
 |true=>rw[if_pos rfl]at z ⊢;exact z H1 F j
 |false=>rw[if_neg Fu]at z ⊢;exact⟨ρ,O,rs.mono (F.stab rm),j,mB _ _ _ _ (λd U k=>k.ext F) z⟩
noncomputable def ku (ta tb:TEd):TEd:=λρ M Q=>ta ρ M λx M1=>∃ c,x = .bl c/\if c=true then tb ρ M1 Q else Q (.bl false) M1
noncomputable def pR (ta tb:TEd):TEd:=λρ M Q=>ta ρ M λx M1=>∃ c,x = .bl c/\if c=true then Q (.bl true) M1 else tb ρ M1 Q
noncomputable def kx (ta:TEd):TEd:=λρ M Q=>ta ρ M λx M1=>∃ c,x = .bl c/\Q (.bl (!c)) M1
theorem rY (h:ae ta)(k:ae tb):ae (ku ta tb):=λρ M Q Q' i q=>h _ _ _ _ (λx z ⟨c,e,j⟩=>⟨c,e,by
 cases c with
 |true=>rw[if_pos rfl]at j ⊢;exact k _ _ _ _ i j
 |false=>rw[if_neg Fu]at j ⊢;exact i _ _ j⟩) q
theorem uN (h:ae ta)(k:ae tb):ae (pR ta tb):=λρ M Q Q' i q=>h _ _ _ _ (λx z ⟨c,e,j⟩=>⟨c,e,by
 cases c with
 |true=>rw[if_pos rfl]at j ⊢;exact i _ _ j
 |false=>rw[if_neg Fu]at j ⊢;exact k _ _ _ _ i j⟩) q
theorem rZ (h:ae ta):ae (kx ta):=λρ M Q Q' i q=>h _ _ _ _ (λx F j=>(by obtain⟨c,e,z⟩:=j;exact⟨c,e,i _ _ z⟩)) q
theorem s9 {op:BoolOp}{t:TEd}(h:PE X a (lE X.K t)):PE X (.BoolOp op [a] pos) (lE X.K t):=yY h
theorem zP {rest:List Expr}(ma:ae ta)(mb:ae tb)(L:PE X a (lE X.K ta))(O:PE X (.BoolOp .And (b::rest) pos) (lE X.K tb)):PE X (.BoolOp .And (a::b::rest) pos) (lE X.K (ku ta tb)):=by
 refine PE.imp (yZ L O) λσ H Q h=>?_;obtain⟨ρ,M,rs,rm,q⟩:=h;refine⟨ρ,M,rs,rm,ma _ _ _ _ (λx U g9 v H1 F j J=>?_) q⟩;obtain⟨c,e,z⟩:=g9;subst e;refine⟨c,OK.mp J,?_⟩
 cases c with
 |true=>rw[if_pos rfl]at z ⊢;exact⟨ρ,U,rs.mono (F.stab rm),j,mb _ _ _ _ (λd Y k=>k.ext F) z⟩
 |false=>rw[if_neg Fu]at z ⊢;exact z _ H1 F j (OK.mpr rfl)
theorem Br {rest:List Expr}(ma:ae ta)(mb:ae tb)(L:PE X a (lE X.K ta))(O:PE X (.BoolOp .Or (b::rest) pos) (lE X.K tb)):PE X (.BoolOp .Or (a::b::rest) pos) (lE X.K (pR ta tb)):=by
 refine PE.imp (AY L O) λσ H Q h=>?_;obtain⟨ρ,M,rs,rm,q⟩:=h;refine⟨ρ,M,rs,rm,ma _ _ _ _ (λx U g9 v H1 F j J=>?_) q⟩;obtain⟨c,e,z⟩:=g9;subst e;refine⟨c,OK.mp J,?_⟩
 cases c with
 |true=>rw[if_pos rfl]at z ⊢;exact z _ H1 F j (OK.mpr rfl)
 |false=>rw[if_neg Fu]at z ⊢;exact⟨ρ,U,rs.mono (F.stab rm),j,mb _ _ _ _ (λd Y k=>k.ext F) z⟩
theorem zQ (ma:ae ta)(F:PE X a (lE X.K ta)):PE X (.UnaryOp .Not a pos) (lE X.K (kx ta)):=by
 refine PE.imp (z0 F) λσ H Q h=>?_;obtain⟨ρ,M,rs,rm,q⟩:=h;refine⟨ρ,M,rs,rm,ma _ _ _ _ (λx O g9 v H1 L j z=>?_) q⟩;obtain⟨c,e,J⟩:=g9;subst e;exact⟨c,OK.mp z,J _ H1 L j (OK.mpr rfl)⟩
noncomputable def wIf (t:TTd) (ta tb:TEd):TEd:=λρ M Q=>t ρ M λc M1=>if c=true then ta ρ M1 Q else tb ρ M1 Q
theorem xH {t:TTd}(h:aA t)(z:ae ta)(F:ae tb):ae (wIf t ta tb):=λρ M Q Q' i q=>h _ _ _ _ (λc J j=>by
 cases c with
 |true=>rw[if_pos rfl]at j ⊢;exact z _ _ _ _ i j
 |false=>rw[if_neg Fu]at j ⊢;exact F _ _ _ _ i j) q
theorem Bs {c:Expr}{t:TTd}(mt:aA t)(ma:ae ta)(mb:ae tb)(L:PT X c (lT X.K t))(O:PE X a (lE X.K ta))(U:PE X b (lE X.K tb)):PE X (.IfExp c a b pos) (lE X.K (wIf t ta tb)):=by
 refine PE.imp (kR L O U) λσ H Q h=>?_;obtain⟨ρ,M,rs,rm,q⟩:=h;refine⟨ρ,M,rs,rm,mt _ _ _ _ (λx J z H1 F j=>?_) q⟩
 cases x with
 |true=>rw[if_pos rfl]at z ⊢;exact⟨ρ,J,rs.mono (F.stab rm),j,ma _ _ _ _ (λd Y k=>k.ext F) z⟩
 |false=>rw[if_neg Fu]at z ⊢;exact⟨ρ,J,rs.mono (F.stab rm),j,mb _ _ _ _ (λd Y k=>k.ext F) z⟩
noncomputable def bF (xs:List D) (lo hi:Option Int):List D:=(xs.drop (HT.sIx xs.length 0 lo)).take (HT.sIx xs.length xs.length hi - HT.sIx xs.length 0 lo)
theorem lY (r:RDs K H ds vs)(lo hi:Option Int):RDs K H (bF ds lo hi) (fv vs lo hi):=by
 unfold bF fv;rw[r.length];exact(r.drop _).take _
noncomputable abbrev TOd:=ao->Mem->(Option Int->Mem->Prop)->Prop
def cm (T:TOd):Prop:=∀ ρ M Q Q',(∀ d M',Q d M'->Q' d M')->T ρ M Q->T ρ M Q'
noncomputable def fZ:TOd:=λ_ M Q=>Q none M
noncomputable def ky (t:TEd):TOd:=λρ M Q=>t ρ M λx M1=>∃ i,x = .int i/\Q (some i) M1
theorem nJ:cm fZ:=λ_ _ _ _ h q=>h _ _ q
theorem se (h:ae ta):cm (ky ta):=λρ M Q Q' i q=>h _ _ _ _ (λx F j=>(by obtain⟨c,e,z⟩:=j;exact⟨c,e,i _ _ z⟩)) q
noncomputable def lO (K:Frag) (T:TOd):TO:=λσ H Q=>∃ ρ M,RS K H σ ρ /\ RM K M H/\T ρ M (λo M'=>∀ H',Ext M H M' H'->RM K M' H'->Q o H')
theorem xI:PO X none (lO X.K fZ):=λpins s σ H Q I h=>by
 obtain⟨ρ,M,rs,rm,q⟩:=h;exact j6 pins s σ H Q I (q H Ext.refl rm)
theorem xJ (m:ae ta)(h:PE X e (lE X.K ta)):PO X (some e) (lO X.K (ky ta)):=λpins s σ H Q I hq=>by
 obtain⟨ρ,M,rs,rm,q⟩:=hq;refine xa h pins s σ H Q I ⟨ρ,M,rs,rm,m _ _ _ _ (λx L g9 v H1 J j z=>?_) q⟩;obtain⟨i,e,F⟩:=g9;subst e;exact⟨i,OI.mp z,F H1 J j⟩
noncomputable def dD:D->Option Int->Option Int->Mem->QD->Prop:=λx lo hi M Q=>match x with
 |.tup ds=>Q (.tup (bF ds lo hi)) M
 |.ref a=>∃ ds,M a=some (.lst ds) /\ ∀ p,M p=none->Q (.ref p) (af M p (.lst (bF ds lo hi)))
 |.con ds=>∀ p,M p=none->Q (.ref p) (af M p (.lst (bF ds lo hi)))
 |_=>False
noncomputable def wSl (te:TEd) (tl th:TOd):TEd:=λρ M Q=>te ρ M λx M1=>tl ρ M1 λl M2=>th ρ M2 λu M3=>dD x l u M3 Q
theorem pS {lo hi:Option Int}{Q Q':QD}(h:∀ d M',Q d M'->Q' d M')(q:dD x lo hi M Q):dD x lo hi M Q':=by
 cases x with
 |tup ds=>exact h _ _ q
 |ref a=>obtain⟨ds,e,q⟩:=q;exact⟨ds,e,λp n=>h _ _ (q p n)⟩
 |con ds=>exact λp n=>h _ _ (q p n)
 |_=>exact q.elim
theorem xK {tl th:TOd}(m:ae ta)(ml:cm tl)(mh:cm th):ae (wSl ta tl th):=λρ M Q Q' i q =>
 m _ _ _ _ (λx J j=>ml _ _ _ _ (λl L z=>mh _ _ _ _ (λu O F=>pS i F) z) j) q
theorem Bt {lo hi:Option Expr}{tl th:TOd}{p2:Pos}(m:ae ta)(ml:cm tl)(mh:cm th)(he:PE X e (lE X.K ta))(hl:PO X lo (lO X.K tl))(hu:PO X hi (lO X.K th)) :
 PE X (.Subscript e (.Slice lo hi none p2) pos) (lE X.K (wSl ta tl th)):=by
 refine PE.imp (gM (sl_tup.or (sl_list.or uk)) he hl hu) λσ H Q h=>?_;obtain⟨ρ,M,rs,rm,q⟩:=h;refine⟨ρ,M,rs,rm,m _ _ _ _ (λx M1 q1 v H1 Y L Z=>?_) q⟩;refine⟨ρ,M1,rs.mono (Y.stab rm),L,ml _ _ _ _ (λl M2 q2 H2 x2 U=>?_) q1⟩;refine⟨ρ,M2,(rs.mono (Y.stab rm)).mono (x2.stab L),U,mh _ _ _ _ (λu M3 z H3 x3 j=>?_) q2⟩;have F:=Y.trans (x2.trans x3);have J:=(Z.mono (x2.stab L)).mono (x3.stab U)
 cases x with
 | tup ds =>
   obtain⟨a,vs,rfl,O,r⟩:=OO J
   by_cases hw:HT.sIx vs.length 0 l=0/\HT.sIx vs.length vs.length u=vs.length
   ·refine .inr (.inr ⟨a,vs,rfl,O,hw,?_⟩);have e:bF ds l u=ds:=by
     unfold bF;rw[<- r.length,hw.1,hw.2,r.length];simp
    simp only[dD]at z;rw[e]at z;exact z.ext F _ H3 Ext.refl j J
   ·simp only[dD]at z;exact .inl ⟨a,vs,rfl,O,hw,λp n=>cA j (lY r l u) (z.ext F) n⟩
 | ref a =>
   cases OL.mp J
   obtain⟨ds,e,z⟩:=z;obtain⟨vs,O,r⟩:=j _ _ e;exact .inr (.inl ⟨a,vs,rfl,SqL.of O,λp n=>dl j (lY r l u) (λp' n'=>(z p' n').ext F) n⟩)
 | con ds =>
   obtain⟨a,vs,rfl,O,r⟩:=OQ.mp J;exact .inr (.inl ⟨a,vs,rfl,O.sq,λp n=>dl j (lY r l u) (λp' n'=>(z p' n').ext F) n⟩)
 |_=>exact z.elim
end
end
variable {ta:TEd}{pos:Pos}{tg:Expr}{H1:Hp}
section
section
variable {X:Cx}
noncomputable def tyN (M:Mem):D->Option String
 |.non=>some "NoneType"
 |.bl _=>some "bool"
 |.int _=>some "int"
 |.str _=>some "str"
 |.tup _=>some "tuple"
 |.ref a=>match M a with
  |some (.lst _)=>some "list"
  |some (.dct _ _)=>some "dict"
  |_=>none
 |.con _=>none
 |.fn _=>none
noncomputable def uO (T t:String):Bool:=t==T || (t == "bool" && T == "int")
theorem Bu {t:String}(rm:RM K M H)(r:RD K H x v)(e:tyN M x=some t):cg K H v (.type t):=by
 cases x with
 |non=>cases e;cases ON.mp r;exact .non
 |bl k=>cases e;cases OK.mp r;exact .bl k
 |int i=>cases e;cases OI.mp r;exact .int i
 |str i=>cases e;cases OJ.mp r;exact .str i
 | tup ds =>
   cases e
   obtain⟨a,vs,rfl,j,rs⟩:=OO r;exact .tup j
 |con ds=>cases e
 |fn _=>cases e
 | ref a =>
   cases OL.mp r
   simp only[tyN]at e
   cases e0:M a with
   |none=>rw[e0]at e;cases e
   | some o =>
     rw[e0]at e
     cases o with
     | lst ds =>
       cases e
       obtain⟨vs,j,rs⟩:=rm _ _ e0;exact .lst j
     | dct t kvs =>
       cases e
       have ro:=rm _ _ e0
       cases t with
       |false=>obtain⟨ps,j,_⟩:=ro;exact .dK j
       |true=>obtain⟨ps,j,_⟩:=ro;exact .dT j
     |fdc kvs=>cases e
     |dcn _=>cases e
     |tab _ _=>cases e
     |fdn _=>cases e
noncomputable def dn:List String:=["NoneType","bool","int","str","tuple","list","dict"]
theorem xL (K:Frag):∀ T∈["bool","int","str","tuple","list","dict"],∀ t∈dn,Ki K (.type t) (.type T)=some (uO T t):=by
 intro T j t z;simp only[dn,FA,FQ,or_false]at j z
 rcases j with rfl|rfl|rfl|rfl|rfl|rfl <;> rcases z with rfl|rfl|rfl|rfl|rfl|rfl|rfl <;> rfl
noncomputable def kz (T:String) (ta:TEd):TEd:=λρ M Q=>ta ρ M λx M1=>∃ t,tyN M1 x=some t/\Q (.bl (uO T t)) M1
theorem sf {T:String}(h:ae ta):ae (kz T ta):=λρ M Q Q' i q=>h _ _ _ _ (λx F j=>(by obtain⟨t,e,z⟩:=j;exact⟨t,e,i _ _ z⟩)) q
theorem xM {t:String}(e:tyN M x=some t):t∈dn:=by
 cases x with
 | ref a =>
   simp only[tyN]at e
   cases e0:M a with
   |none=>rw[e0]at e;cases e
   |some o=>rw[e0]at e;cases o <;> cases e <;> simp[dn]
 |con _=>cases e
 |fn _=>cases e
 |_=>cases e;simp[dn]
theorem sg (T:String)(j:T∈["bool","int","str","tuple","list","dict"]):CallR X (.builtin "isinstance") (λvs H Q=>∃ v t,vs=[v,.ty T]/\cg X.K H v (.type t)/\t∈dn/\Q (.bl (uO T t)) H):=by
 intro pins s σ H xs us Q I r h;obtain⟨v,t,rfl,ty,z,q⟩:=h;obtain⟨u,c,rfl,ru,rc⟩:=pq r
 cases rc
 exact rB I ru ty (xL X.K T j t z) λtk=>⟨.bl _,H,I.tok tk,rfl,q⟩
theorem xN {T:String}{y:Str}{p p2:Pos}(Y:T∈["bool","int","str","tuple","list","dict"])(m:ae ta)(he:PE X e (lE X.K ta))(Z:Gl X "isinstance")(hm:X.mg "isinstance" = none)(z:Gl X y)(F:X.mg y=none)(hv:Iw y=some (.type T))(hn:y ≠ "__name__")(J:(y==("__debug__":Str))=false)(U:FN [e,.Name y p2] X.env=(false,eval e X.env)::FN [.Name y p2] X.env)(L:(GY pos (FN [.Name y p2] X.env)).any (·.1)=false) :
 PE X (.Call (.Name "isinstance" p) [e,.Name y p2] [] pos) (lE X.K (kz T ta)):=by
 have h2:PE X (.Name y p2) (tC (.ty T)):=wP z F hv rfl hn J;refine PE.imp (bw (sg T Y) Z hm (by decide +kernel) (ce he (ce h2 fu rfl) U) (by decide) (by decide) U L) λσ H Q h=>?_
 obtain⟨ρ,M,rs,rm,q⟩:=h;exact⟨ρ,M,rs,rm,m _ _ _ _ (λx M1 g9 v H1 x1 j O=>(by obtain⟨t,e,q1⟩:=g9;exact⟨v,t,rfl,Bu j O e,xM e,q1 _ H1 x1 j (OK.mpr rfl)⟩)) q⟩
noncomputable def wBM (rd:D->List D->Mem->QD->Prop) (to:TEd) (t:TAd):TEd:=λρ M Q=>to ρ M λx M1=>(∃ a xs,x = .ref a/\M1 a=some (.lst xs))/\t ρ M1 λds M2=>rd x ds M2 Q
def dZ (rd:D->List D->Mem->QD->Prop):Prop:=∀ x ds M Q Q',(∀ d M',Q d M'->Q' d M')->rd x ds M Q->rd x ds M Q'
theorem xO {rd:D->List D->Mem->QD->Prop}{to:TEd}{t:TAd}(hr:dZ rd)(mo:ae to)(mt:bn t):ae (wBM rd to t):=λρ M Q Q' i q =>
 mo _ _ _ _ (λx J j=>(by obtain⟨e,z⟩:=j;exact⟨e,mt _ _ _ _ (λds L F=>hr _ _ _ _ _ i F) z⟩)) q
theorem Bv (rm:RM K M H)(r:RD K H x v)(h:∃ a xs,x = .ref a/\M a=some (.lst xs)):tyV K "list" v H:=by
 obtain⟨a,xs,rfl,e⟩:=h
 cases OL.mp r
 obtain⟨vs,j,_⟩:=rm _ _ e;exact .inl ⟨rfl,vs,SqL.of j⟩
theorem jf {rd:D->List D->Mem->QD->Prop}{r:V->List V->Hp->VK->Prop}{to:TEd}{t:TAd}(hr:dZ rd)(mo:ae to)(mt:bn t)(U:∀ v vs H Q,lMt K rd v vs H Q->r v vs H Q)(σ:St)(H:Hp)(Q:VK)(h:lE K (wBM rd to t) σ H Q):tBM K "list" r (lE K to) (lA K t) σ H Q:=by
 obtain⟨ρ,M,rs,rm,q⟩:=h;refine⟨ρ,M,rs,rm,mo _ _ _ _ (λx Y ⟨e,Z⟩ v H1 L j z=>⟨Bv j z e,?_⟩) q⟩;refine⟨ρ,Y,rs.mono (L.stab rm),j,mt _ _ _ _ (λds M2 q2 vs H2 O F J=>?_) Z⟩;exact U v vs H2 Q ⟨x,ds,M2,F,z.mono (O.stab j),J,hr _ _ _ _ _ (λd M' k=>k.ext (L.trans O)) q2⟩
noncomputable def gb:D->List D->Mem->QD->Prop:=λx ds M Q=>∃ a xs y,x = .ref a/\ds=[y]/\M a=some (.lst xs)/\xs.length<Fz/\Q .non (af M a (.lst (xs++[y])))
theorem gF:dZ gb:=λ_ _ _ _ _ h j=>(by obtain⟨a,xs,y,F,J,L,z,q⟩:=j;exact⟨a,xs,y,F,J,L,z,h _ _ q⟩)
theorem xP {o0:O}(rm:RM K M H)(m:M a=some o0)(rd:RDs K H ds vs)(r:RD K H d v)(q:KE' K M H Q d (af M a (.lst ds)))(w:fz (some o0)=false:=by rfl) :
 Q v (upd H a (.lst vs)):=by
 have st:Stab H (upd H a (.lst vs)):=rm.stabPut m w;exact q v _ (Ext.put m w) (rm.put m ⟨vs,al,rd.mono st⟩ w) (r.mono st)
theorem uP (v:V)(vs:List V)(H:Hp)(Q:VK)(h:lMt K gb v vs H Q):nW v vs H Q:=by
 obtain⟨x,ds,M,rm,rx,rs,a,xs,y,rfl,rfl,e,z,q⟩:=h
 cases OL.mp rx
 obtain⟨w,rfl,rw'⟩:=rs.one;obtain⟨us,j,ru⟩:=rm _ _ e;exact⟨a,us,w,rfl,rfl,j,by rw[ru.length];exact z,xP rm e (ru.append (RDs.cons rw' RDs.nil)) (ON.mpr rfl) q⟩
noncomputable abbrev BT:=D->ao->Option ao
noncomputable abbrev BTs:=List D->ao->Option ao
noncomputable def bO (i:Nat):BT:=λd ρ=>some (ρ.set i (some d))
noncomputable def gR:BTs:=λds ρ=>match ds with|[]=>some ρ|_=>none
noncomputable def bP (b:BT) (bs:BTs):BTs:=λds ρ=>match ds with|d::r=>(b d ρ).bind λρ'=>bs r ρ'|[]=>none
noncomputable def uQ (bs:BTs):BT:=λd ρ=>match d with|.tup ds=>bs ds ρ|_=>none
noncomputable def lG (K:Frag) (b:BT):TG:=λv σ H Q=>∃ d ρ ρ',RD K H d v/\RS K H σ ρ /\ b d ρ = some ρ' /\ ∀ σ',RS K H σ' ρ'->Q σ' H
noncomputable def lGs (K:Frag) (b:BTs):TGs:=λvs σ H Q=>∃ ds ρ ρ',RDs K H ds vs/\RS K H σ ρ /\ b ds ρ = some ρ' /\ ∀ σ',RS K H σ' ρ'->Q σ' H
theorem PG.imp {t t':TG}(h:PG X e t)(i:∀ v σ H Q,t' v σ H Q->t v σ H Q):PG X e t':=λpins s σ H v u Q I r q=>h pins s σ H v u Q I r (i _ _ _ _ q)
theorem PGs.imp {e:List Expr}{t t':TGs}(h:PGs X e t)(i:∀ v σ H Q,t' v σ H Q->t v σ H Q):PGs X e t':=λpins s σ H v u Q I r q=>h pins s σ H v u Q I r (i _ _ _ _ q)
theorem xQ {i:Nat}{x:Str}(j:X.N.Nodup)(hi:X.N[i]? = some x)(hx:Loc X.env.scope x)(hf:X.fn x=true∨X.env.scope.names.lookup x=some .local):PG X (.Name x pos) (lG X.K (bO i)) :=
 PG.imp (nR j hi hx hf) λv σ H Q ⟨d,ρ,ρ',r,rs,e,q⟩=>by
  cases e
  exact q _ (rs.set i r)
theorem xR:PGs X [] (lGs X.K gR):=PGs.imp wV λvs σ H Q ⟨ds,ρ,ρ',r,rs,e,q⟩=>by
 cases ds with
 |nil=>cases e;exact⟨RDs.nil_iff.mp r,q σ rs⟩
 |cons _ _=>cases e
theorem uR {es:List Expr}{b:BT}{bs:BTs}(h1:PG X e (lG X.K b))(h2:PGs X es (lGs X.K bs))(z:(Hm (e::es) X.env).map (·.2)=assign e X.env::(Hm es X.env).map (·.2)) :
 PGs X (e::es) (lGs X.K (bP b bs)):=PGs.imp (u3 h1 h2 z) λvs σ H Q ⟨ds,ρ,ρ',r,rs,e,q⟩=>by
 cases ds with
 |nil=>cases e
 | cons d ds =>
   obtain⟨v,vr,rfl,F,J⟩:=OM.mp r;simp only[bP]at e
   cases j:b d ρ with
   |none=>rw[j]at e;cases e
   | some ρ1 =>
     rw[j]at e;exact⟨v,vr,rfl,d,ρ,ρ1,F,rs,j,λσ' rs'=>⟨ds,ρ1,ρ',J,rs',e,q⟩⟩
theorem zR {es:List Expr}{k:Nat}{bs:BTs}{n:Nat}(z:X.calm=true)(hlen:∀ ds ρ ρ',bs ds ρ = some ρ'->ds.length=n)(h:PGs X es (lGs X.K bs))(F:(Hm es X.env).length=n)(j:(Hm es X.env).findIdx? (·.1)=none) :
 PG X (.Tuple es k pos) (lG X.K (uQ bs)):=PG.imp (zc z h F j) λv σ H Q ⟨d,ρ,ρ',r,rs,e,q⟩=>by
 cases d with
 | tup ds =>
   obtain⟨a,vs,rfl,J,rv⟩:=OO r;exact⟨a,vs,rfl,J,by rw[rv.length];exact hlen _ _ _ e,ds,ρ,ρ',rv,rs,e,q⟩
 |_=>cases e
noncomputable abbrev TId:=ao->Mem->(List D->(Mem->Prop)->Mem->Prop)->Prop
def bx (T:TId):Prop:=∀ ρ M Q Q',(∀ xs c M',Q xs c M'->Q' xs c M')->T ρ M Q->T ρ M Q'
def Yl (H H':Hp):Prop:=H'=H∨∃ q vs,H q=none/\H'=upd H q (.tup vs)
def eR (K:Frag) (H1:Hp) (xs:List D) (chk:Mem->Prop) (J:It):Prop:=∀ M H,Stab H1 H->RM K M H->chk M -> ∀ i,(xs.length<=i->J.stop i H)/\(i<xs.length->J.go i H /\
 ∀ x H',J.yld i H x H'->Yl H H' /\ ∃ d,xs[i]? = some d/\RD K H' d x)
noncomputable def lI (K:Frag) (T:TId):TI:=λσ H R=>∃ ρ M,RS K H σ ρ /\ RM K M H/\T ρ M (λxs chk M1=>∀ J H1,Ext M H M1 H1->RM K M1 H1->eR K H1 xs chk J->R J H1)
theorem PI.imp {t t':TI}(h:PI X tg e t)(i:∀ σ H Q,t' σ H Q->t σ H Q):PI X tg e t':=λpins s σ H Q I q=>h pins s σ H Q I (i _ _ _ q)
theorem Yl.ext {H':Hp}(rm:RM K M H)(y:Yl H H'):Ext M H M H'/\RM K M H':=by
 rcases y with rfl|⟨q,vs,n,rfl⟩
 ·exact⟨Ext.refl,rm⟩
 ·exact⟨OR n,rm.new n⟩
noncomputable def CD (K:Frag) (tl:TE):TI:=λσ H R=>tl σ H λx H1=>∃ a,x = .ref a/\(((∃ xs,SqL K H1 a xs)/\R (Itl K a) H1)∨((∃ xs,SqT K H1 a xs)/\R (Itt K a) H1))
theorem zS {l:Expr}{tl:TE}(J:PE X l tl):PI X tg l (CD X.K tl):=by
 intro pins s σ H R I h;refine thn (J pins s σ H _ I h) λv s1 L=>?_;obtain⟨x,H1,j,O,U⟩:=L;obtain⟨a,e,q⟩:=U;subst e
 cases O
 rcases q with⟨⟨xs,z⟩,q⟩|⟨⟨xs,z⟩,q⟩
 ·obtain⟨its,rv,p,Y⟩:=j.list z;refine Hb p.isList ?_;refine⟨s1.heap.objs.size,[s1.heap.objs.size],_,_,H1,rfl,j.kept (t':=s1.toks) λb o e=>td _ e,r9 a _,⟨_,FK _ rfl,rfl,rfl⟩,λb F=>?_,q⟩;have e:b=s1.heap.objs.size:=by simpa using F
  subst e;exact j.fpOk (FE _) (j.hok.fresh (FE _))
 ·obtain⟨its,rv,p,Y⟩:=j.tuple z;refine GR (show s1.heap.IsTuple a its.toArray from p) ?_;refine⟨s1.heap.objs.size,[s1.heap.objs.size],_,_,H1,rfl,j.kept (t':=s1.toks) λb o e=>td _ e,oZ a _,⟨_,FK _ rfl,rfl,rfl⟩,λb F=>?_,q⟩;have e:b=s1.heap.objs.size:=by simpa using F
  subst e;exact j.fpOk (FE _) (j.hok.fresh (FE _))
noncomputable def pT (ta:TEd):TId:=λρ M R=>ta ρ M λx M1=>∃ ds,aJ M1 x=some ds/\R ds (λM=>aJ M x=some ds) M1
theorem uS (h:ae ta):bx (pT ta):=λρ M Q Q' i q=>h _ _ _ _ (λx F j=>(by obtain⟨ds,e,z⟩:=j;exact⟨ds,e,i _ _ _ z⟩)) q
theorem sh {chk:Mem->Prop}(h:∀ M H,Stab H1 H->RM K M H->chk M -> ∃ vs,SqL K H a vs/\RDs K H ds vs):eR K H1 ds chk (Itl K a):=λM H st rm c i=>by
 obtain⟨vs,sq,r⟩:=h M H st rm c;have l:=r.length;refine⟨λhi=>⟨vs,sq,by lia⟩,λhi=>⟨⟨vs,vs[i]'(by lia),sq,FP (by lia)⟩,λx H' y=>?_⟩⟩
 obtain⟨e,y⟩:=y;subst e;exact⟨.inl rfl,r.getV (y vs sq)⟩
theorem zT {chk:Mem->Prop}(h:∀ M H,Stab H1 H->RM K M H->chk M -> ∃ vs,SqT K H a vs/\RDs K H ds vs):eR K H1 ds chk (Itt K a):=λM H st rm c i=>by
 obtain⟨vs,sq,r⟩:=h M H st rm c;have l:=r.length;refine⟨λhi=>⟨vs,sq,by lia⟩,λhi=>⟨⟨vs,vs[i]'(by lia),sq,FP (by lia)⟩,λx H' y=>?_⟩⟩
 obtain⟨e,y⟩:=y;subst e;exact⟨.inl rfl,r.getV (y vs sq)⟩
theorem zU {l:Expr}(m:ae ta)(L:PE X l (lE X.K ta)):PI X tg l (lI X.K (pT ta)):=by
 refine PI.imp (zS L) λσ H R h=>?_;obtain⟨ρ,M,rs,rm,q⟩:=h;refine⟨ρ,M,rs,rm,m _ _ _ _ (λx U g9 v H1 J j rd1=>?_) q⟩;obtain⟨ds,e,F⟩:=g9
 cases x with
 | tup es =>
   cases e
   obtain⟨a,vs,rfl,z,rv⟩:=OO rd1;exact⟨a,rfl,.inr ⟨⟨vs,z⟩,F _ H1 J j (zT λM' H' st _ _=>⟨vs,st.sqT z,rv.mono st⟩)⟩⟩
 | con es =>
   cases e
   obtain⟨a,vs,rfl,z,rv⟩:=OQ.mp rd1;exact⟨a,rfl,.inl ⟨⟨vs,z.sq⟩,F _ H1 J j (sh λM' H' st _ _=>⟨vs,(st.sqF z).sq,rv.mono st⟩)⟩⟩
 | ref a =>
   cases OL.mp rd1
   have get:∀ {M':Mem} {es:List D},aJ M' (.ref a)=some es->M' a=some (.lst es):=λ{M' es} e=>by
    simp only[aJ]at e
    cases e0:M' a with
    |none=>rw[e0]at e;cases e
    | some o =>
      rw[e0]at e
      cases o with
      |dct _ _=>cases e
      |fdc _=>cases e
      |dcn _=>cases e
      |tab _ _=>cases e
      |fdn _=>cases e
      |lst es'=>cases e;rfl
   obtain⟨vs,z,rv⟩:=j _ _ (get e);exact⟨a,rfl,.inl ⟨⟨vs,SqL.of z⟩,F _ H1 J j (sh λM' H' st rm' c=>by
    obtain⟨us,O,ru⟩:=rm' _ _ (get c);exact⟨us,SqL.of O,ru⟩)⟩⟩
 |_=>cases e
noncomputable def dE (lo:Int) (n:Nat):List D:=(Hx n).map λi=>.int (lo+(i:Nat))
theorem zV {lo:Int}{n:Nat}:eR K H1 (dE lo n) (λ_=>True) (Itr lo n):=λM H st rm c i=>by
 have l:(dE lo n).length=n:=by simp[dE]
 refine⟨λhi=>by show n<=i;lia,λhi=>⟨by show i<n;lia,λx H' y=>?_⟩⟩
 obtain⟨e,y⟩:=y;subst e y;refine⟨.inl rfl,.int (lo+i),?_,OI.mpr rfl⟩;simp only[dE,Gj,List.getElem?_range (show i<n by lia),HX]
noncomputable def kA (ta:TAd):TId:=λρ M R=>ta ρ M λds M1=>∃ j:Int,ds=[.int j] /\ -(2 ^ 62)<=j/\j<2 ^ 62/\R (dE 0 j.toNat) (λ_=>True) M1
theorem si {ta:TAd}(h:bn ta):bx (kA ta):=λρ M Q Q' i q=>h _ _ _ _ (λx J z=>(by obtain⟨j,e,a,b,F⟩:=z;exact⟨j,e,a,b,i _ _ _ F⟩)) q
theorem xS {a:Expr}{ta:TAd}{p:Pos}(m:bn ta)(F:Gl X "range")(hm:X.mg "range" = none)(J:PA X [a] (lA X.K ta))(L:FN [a] X.env=[(false,eval a X.env)]):PI X tg (.Call (.Name "range" p) [a] [] pos) (lI X.K (kA ta)):=by
 refine PI.imp (rg F hm J L) λσ H R h=>?_;obtain⟨ρ,M,rs,rm,q⟩:=h;refine⟨ρ,M,rs,rm,m _ _ _ _ (λds M1 g9 vs H1 Z z rd1=>?_) q⟩;obtain⟨j,e,O,U,Y⟩:=g9;subst e;obtain⟨v,rfl,r⟩:=rd1.one
 cases OI.mp r
 exact⟨j,rfl,O,U,Y _ H1 Z z zV⟩
end
end
end Mi
namespace Mi
end Mi
namespace Mi
variable {K:Frag}{M:Mem}{H H1:Hp}{x:D}{ta:TEd}{xs:List D}{pos:Pos}
section
section
variable {X:Cx}
noncomputable def isT:D->Bool|.tup _=>true|_=>false
theorem dF {ds:List D}{v:V}(rm:RM K M H)(r:RD K H x v)(e:aJ M x=some ds):∃ p vs,v = .ref p/\SqV K (isT x) H p vs/\RDs K H ds vs:=by
 cases x with
 | tup es =>
   cases e
   obtain⟨a,vs,rfl,j,rv⟩:=OO r;exact⟨a,vs,rfl,j,rv⟩
 | con es =>
   cases e
   obtain⟨a,vs,rfl,j,rv⟩:=OQ.mp r;exact⟨a,vs,rfl,j.sq,rv⟩
 | ref a =>
   cases OL.mp r
   simp only[aJ]at e
   cases e0:M a with
   |none=>rw[e0]at e;cases e
   | some o =>
     rw[e0]at e
     cases o with
     |dct _ _=>cases e
     |fdc _=>cases e
     |dcn _=>cases e
     |tab _ _=>cases e
     |fdn _=>cases e
     | lst es =>
       cases e
       obtain⟨vs,j,rv⟩:=rm _ _ e0;exact⟨a,vs,rfl,SqL.of j,rv⟩
 |_=>cases e
noncomputable def gc (x y:D):D:=.tup [x,y]
noncomputable def jg (ta tb:TEd):TId:=λρ M R=>aI ta (aI tb bo) ρ M λds M1=>∃ x y xs ys,ds=[x,y]/\aJ M1 x=some xs/\aJ M1 y=some ys/\R (Lv gc xs ys) (λM=>aJ M x=some xs/\aJ M y=some ys) M1
theorem uT {tb:TEd}(j:ae ta)(z:ae tb):bx (jg ta tb):=λρ M Q Q' i q=>aw j (aw z av) _ _ _ _ (λds U F=>(by obtain⟨x,y,xs,ys,e,J,L,O⟩:=F;exact⟨x,y,xs,ys,e,J,L,i _ _ _ O⟩)) q
theorem gT {p:Addr}{o:HO}(n:H p=none):Stab H (upd H p o):=⟨λa xs e=>by rw[ag (λz=>by rw[z,n]at e;cases e)];exact e,λa o u e=>by rw[ag (λz=>by rw[z,n]at e;cases e)];exact e⟩
theorem zW {y:D}{ys:List D}{a b:Addr}(rx:RD K H1 x (.ref a))(ry:RD K H1 y (.ref b)):eR K H1 (Lv gc xs ys) (λM=>aJ M x=some xs/\aJ M y=some ys) (Itz K (isT x) (isT y) a b):=λM H st rm c i=>by
 obtain⟨p1,vs,Y,j,O⟩:=dF rm (rx.mono st) c.1;obtain⟨p2,us,Z,z,U⟩:=dF rm (ry.mono st) c.2
 cases Y
 cases Z
 have l1:=O.length;have l2:=U.length;have lz:(Lv gc xs ys).length=min xs.length ys.length:=List.length_zipWith;refine⟨λhi=>⟨vs,us,j,z,by lia⟩,λhi=>⟨⟨vs,us,vs[i]'(by lia),us[i]'(by lia),j,z,FP (by lia),FP (by lia)⟩,λv H' hy=>?_⟩⟩
 obtain⟨p,v1,v2,n,rfl,rfl,g⟩:=hy;obtain⟨g1,g2⟩:=g vs us j z;obtain⟨d1,F,J⟩:=O.getV g1;obtain⟨d2,hd2,L⟩:=U.getV g2;have sb:=gT (o:=.tup [v1,v2]) n;refine⟨.inr ⟨p,[v1,v2],n,rfl⟩,.tup [d1,d2],?_,OU ⟨p,[v1,v2],rfl,al,RDs.cons (J.mono sb) (RDs.cons (L.mono sb) RDs.nil)⟩⟩;rw[List.getElem?_zipWith,F,hd2];rfl
theorem zX {elts:List Expr}{cx}{p pos':Pos}{a b:Expr}{tb:TEd}(ma:ae ta)(mb:ae tb)(L:Gl X "zip")(hm:X.mg "zip" = none)(O:PA X [a,b] (lA X.K (aI ta (aI tb bo))))(U:FN [a,b] X.env=[(false,eval a X.env),(false,eval b X.env)])(z:FN [b] X.env=[(false,eval b X.env)]) :
 PI X (.Tuple elts cx pos) (.Call (.Name "zip" p) [a,b] [] pos') (lI X.K (jg ta tb)):=by
 refine PI.imp (zA L hm O U z) λσ H R h=>?_;obtain⟨ρ,M,rs,rm,q⟩:=h;refine⟨ρ,M,rs,rm,aw ma (aw mb av) _ _ _ _ (λds M1 g9 vs H1 x1 j rd1=>?_) q⟩;obtain⟨x,y,xs,ys,e,Y,Z,q1⟩:=g9;subst e;obtain⟨v,u,rfl,F,J⟩:=rd1.two;obtain⟨p1,vs,rfl,s1,_⟩:=dF j F Y;obtain⟨p2,us,rfl,s2,_⟩:=dF j J Z;exact⟨p1,p2,isT x,isT y,vs,us,rfl,s1,s2,q1 _ H1 x1 j (zW F J)⟩
end
end
section
section
variable {X:Cx}
noncomputable def eU (xs:List D):List D:=xs.mapIdx λi x=>.tup [.int (i:Nat),x]
noncomputable def kB (ta:TEd):TId:=λρ M R=>ta ρ M λx M1=>∃ xs,aJ M1 x=some xs/\R (eU xs) (λM=>aJ M x=some xs) M1
theorem sj (h:ae ta):bx (kB ta):=λρ M Q Q' i q=>h _ _ _ _ (λx F j=>(by obtain⟨ds,e,z⟩:=j;exact⟨ds,e,i _ _ _ z⟩)) q
theorem zY {a:Addr}(rx:RD K H1 x (.ref a)):eR K H1 (eU xs) (λM=>aJ M x=some xs) (Ite K (isT x) a):=λM H st rm c i=>by
 obtain⟨U,vs,L,j,J⟩:=dF rm (rx.mono st) c
 cases L
 have l1:=J.length;have lz:(eU xs).length=xs.length:=by simp[eU]
 refine⟨λhi=>⟨vs,j,by lia⟩,λhi=>⟨⟨vs,vs[i]'(by lia),j,FP (by lia)⟩,λv H' O=>?_⟩⟩
 obtain⟨p,v1,n,rfl,rfl,g⟩:=O;obtain⟨d1,z,F⟩:=J.getV (g vs j);have sb:=gT (o:=.tup [.int (i:Nat),v1]) n;refine⟨.inr ⟨p,[.int (i:Nat),v1],n,rfl⟩,.tup [.int (i:Nat),d1],?_,OU ⟨p,[.int (i:Nat),v1],rfl,al,RDs.cons (OI.mpr rfl) (RDs.cons (F.mono sb) RDs.nil)⟩⟩;simp[eU,IS,z]
theorem xT {elts:List Expr}{cx}{p pos':Pos}{a:Expr}(ma:ae ta)(F:Gl X "enumerate")(hm:X.mg "enumerate" = none)(J:PA X [a] (lA X.K (aI ta bo)))(L:FN [a] X.env=[(false,eval a X.env)]) :
 PI X (.Tuple elts cx pos) (.Call (.Name "enumerate" p) [a] [] pos') (lI X.K (kB ta)):=by
 refine PI.imp (xi F hm J L) λσ H R h=>?_;obtain⟨ρ,M,rs,rm,q⟩:=h;refine⟨ρ,M,rs,rm,ma _ _ _ _ (λx M1 g9 vs H1 Y j rd1=>?_) q⟩;obtain⟨xs,O,U⟩:=g9;obtain⟨v,rfl,z⟩:=rd1.one;obtain⟨Z,us,rfl,s1,_⟩:=dF j z O;exact⟨Z,isT x,us,rfl,s1,U _ H1 Y j (zY z)⟩
end
end
variable {b:BT}{vs:List V}{te:TEd}{src:TId}
section
noncomputable abbrev NC:=ao->Mem->List D->Prop
noncomputable abbrev TCd:=ao->Mem->List D->NC->Prop
def bI (T:TCd):Prop:=∀ ρ M acc N N',(∀ ρ' M' acc',N ρ' M' acc'->N' ρ' M' acc')->T ρ M acc N->T ρ M acc N'
structure ExtP (p:Addr) (M:Mem) (H:Hp) (M':Mem) (H':Hp):Prop where
 kp:∀ a o,a≠p->fz (M a)=true->H a=some o->H' a=some o
 nw:∀ a o,fz (M a)=true->H a=some o->M' a=M a
section
variable {K:Frag} {M M' M'':Mem} {H H' H'':Hp} {p:Addr}
theorem ExtP.new (x:ExtP p M H M' H')(a:Addr)(o:HO)(n:M a=none)(e:H a=some o):M' a=none:=(x.nw a o (by rw[n];rfl) e).trans n
theorem Ext.toP (x:Ext M H M' H'):ExtP p M H M' H':=⟨λa o _=>x.kp a o,x.nw⟩
theorem ExtP.refl:ExtP p M H M H:=⟨λ_ _ _ _ h=>h,λ_ _ _ _=>rfl⟩
theorem ExtP.trans (a:ExtP p M H M' H')(F:H p=some (.lst vs))(j:∃ vs',H' p=some (.lst vs'))(b:ExtP p M' H' M'' H''):ExtP p M H M'' H'' :=
 ⟨fun c o ne n h=>b.kp c o ne (by rw [a.nw c o n h];exact n) (a.kp c o ne n h),fun c o n h=>by
   have n':fz (M' c)=true:=by rw[a.nw c o n h];exact n
   refine Eq.trans ?_ (a.nw c o n h)
   by_cases z:c=p
   ·subst z;obtain⟨vs',e⟩:=j;exact b.nw c _ n' e
   ·exact b.nw c o n' (a.kp c o z n h)⟩
theorem ExtP.stab (r:RM K M H)(j:H p=some (.lst vs))(x:ExtP p M H M' H'):Stab H H' where
 tup:=λa xs e=>x.kp a _ (λz=>by subst z;rw[j]at e;cases e) (by rw[r.fzT e];rfl) e
 frz:=λa o u e=>x.kp a _ (λz=>by subst z;rw[j]at e;cases e) (r.fzF e) e
theorem lZ {ho:HO}(j:H p=some (.lst vs)):Stab H (upd H p ho) :=
 ⟨λa xs e=>by rw[ag (λz=>by subst z;rw[j]at e;cases e)];exact e,λa o u e=>by rw[ag (λz=>by subst z;rw[j]at e;cases e)];exact e⟩
theorem RM.side {ho:HO}(r:RM K M H)(n:M p=none)(j:H p=some (.lst vs)):RM K M (upd H p ho):=λa o e=>by
 have ne:a≠p:=λz=>by subst z;rw[n]at e;cases e
 exact(r a o e).mono (lZ j) λF q=>by rw[ag ne];exact q
end
def gd (K:Frag) (H:Hp) (p:Addr) (acc:List D):Prop:=∃ vs,H p=some (.lst vs)/\RDs K H acc vs
noncomputable def KC (K:Frag) (p:Addr) (M:Mem) (H:Hp) (N:St->Hp->Prop):NC:=λρ' M' acc'=>∀ σ' H',ExtP p M H M' H'->RS K H' σ' ρ'->RM K M' H'->gd K H' p acc'->N σ' H'
noncomputable def lC (K:Frag) (p:Addr) (T:TCd):TC:=λσ H N=>∃ ρ M acc,RS K H σ ρ /\ RM K M H/\M p=none/\gd K H p acc/\T ρ M acc (KC K p M H N)
theorem KC.ext {p:Addr}{z M':Mem}{H2:Hp}{N:St->Hp->Prop}{ρ:ao}{acc:List D}(F:H p=some (.lst vs))(j:∃ vs',H2 p=some (.lst vs'))(x:ExtP p M H z H2)(h:KC K p M H N ρ M' acc):KC K p z H2 N ρ M' acc :=
 λσ' H' y=>h σ' H' (x.trans F j y)
noncomputable def ef (te:TEd):TCd:=λρ M acc N=>te ρ M λx M1=>acc.length<Fz/\N ρ M1 (acc++[x])
noncomputable def ba:List TTd->TCd->TCd
 |[],tb=>tb
 |t::r,tb=>λρ M acc N=>t ρ M λb M1=>if b=true then ba r tb ρ M1 acc N else N ρ M1 acc
noncomputable def cH (b:BT) (tb:TCd) (chk:Mem->Prop) (N:NC):List D->NC
 |[]=>λρ M acc=>chk M/\N ρ M acc
 |x::xs=>λρ M acc=>chk M /\ ∃ ρ',b x ρ = some ρ'/\tb ρ' M acc (cH b tb chk N xs)
noncomputable def dq (src:TId) (b:BT) (tb:TCd):TCd:=λρ M acc N=>src ρ M λxs chk M1=>cH b tb chk N xs ρ M1 acc
noncomputable def gf (fr:List (Option Nat)) (src:TId) (b:BT) (tb:TCd):TEd:=λρ M Q=>src ρ M λxs chk M1=>cH b tb chk (λ_ M' acc=>∀ p,M' p=none->Q (.ref p) (af M' p (.lst acc))) xs (pI fr ρ) M1 []
theorem bv (h:ae te):bI (ef te):=λρ M acc N N' i q=>h _ _ _ _ (λx J j=>(by obtain⟨z,F⟩:=j;exact⟨z,i _ _ _ F⟩)) q
theorem aM {tb:TCd}(z:bI tb):∀ {ts:List TTd},(∀ t∈ts,aA t)->bI (ba ts tb)
 |[],_=>z
 | t::r,h=>fun ρ M acc N N' i q=>h t GH _ _ _ _ (fun b J j=>by
   cases b with
   |true=>rw[if_pos rfl]at j ⊢;exact aM z (λt' F=>h t' (FL _ F)) _ _ _ _ _ i j
   |false=>rw[if_neg Fu]at j ⊢;exact i _ _ _ j) q
theorem fF {b:BT}{tb:TCd}(z:bI tb){chk:Mem->Prop}{N N':NC}(i:∀ ρ' M' acc',N ρ' M' acc'->N' ρ' M' acc'):∀ (xs:List D) (ρ:ao) (M:Mem) (acc:List D),cH b tb chk N xs ρ M acc->cH b tb chk N' xs ρ M acc
 |[],ρ,M,acc,h=>⟨h.1,i _ _ _ h.2⟩
 |x::xs,ρ,M,acc,⟨c,ρ',e,q⟩=>⟨c,ρ',e,z _ _ _ _ _ (λρ2 F j J=>fF z i xs ρ2 F j J) q⟩
theorem gG {tb:TCd}(j:bx src)(z:bI tb):bI (dq src b tb):=λρ M acc N N' i q=>j _ _ _ _ (λxs c J F=>fF z i xs _ _ _ F) q
theorem jO {fr:List (Option Nat)}{tb:TCd}(j:bx src)(z:bI tb):ae (gf fr src b tb):=λρ M Q Q' i q =>
 j _ _ _ _ (λxs c L F=>fF z (λ_ M' acc J p n=>i _ _ (J p n)) xs _ _ _ F) q
section
variable {K:Frag} {p:Addr}
theorem fG (m:ae te)(σ:St)(H:Hp)(N:St->Hp->Prop)(h:lC K p (ef te) σ H N):we p (lE K te) σ H N:=by
 obtain⟨ρ,M,acc,rs,rm,n,⟨vs,U,ra⟩,q⟩:=h;refine⟨ρ,M,rs,rm,m _ _ _ _ (λx M1 g9 v H1 J L O=>?_) q⟩;obtain⟨z,Y⟩:=g9;have j:=J.keep p _ n U;have Z:=J.new p _ n U;have st:=J.stab rm;have F:Stab H1 (upd H1 p (.lst (vs++[v]))):=lZ j;refine⟨vs,j,by rw[ra.length];exact z,Y σ _ ⟨λa o ne m' e=>?_,J.nw⟩ ((rs.mono st).mono F) (L.side Z j) ⟨vs++[v],al,((ra.mono st).mono F).append (RDs.cons (O.mono F) RDs.nil)⟩⟩
 rw[ag ne];exact J.kp a o m' e
theorem iy {tb:TCd}(mb:bI tb):∀ {ts:List TTd},(∀ t∈ts,aA t) -> ∀ (σ:St) (H:Hp) (N:St->Hp->Prop),lC K p (ba ts tb) σ H N->ij (ts.map (lT K)) (lC K p tb) σ H N
 |[],_,σ,H,N,h=>h
 | t::r,hm,σ,H,N,h=>by
   obtain⟨ρ,M,acc,rs,rm,n,⟨vs,L,ra⟩,q⟩:=h;refine⟨ρ,M,rs,rm,hm t GH _ _ _ _ (λb U J H1 z F=>?_) q⟩;have j:=z.keep p _ n L;have Y:=z.new p _ n L;have st:=z.stab rm
   cases b with
   | false =>
     rw[if_neg Fu]at J;dsimp only;rw[if_neg Fu];exact J σ H1 z.toP (rs.mono st) F ⟨vs,j,ra.mono st⟩
   | true =>
     rw[if_pos rfl]at J;dsimp only;rw[if_pos rfl];exact iy mb (λt' O=>hm t' (FL _ O)) σ H1 N ⟨ρ,U,acc,rs.mono st,F,Y,⟨vs,j,ra.mono st⟩,
      aM mb (λt' O=>hm t' (FL _ O)) _ _ _ _ _ (λρ' M' acc' k=>k.ext L ⟨vs,j⟩ z.toP) J⟩
theorem jP {tb:TCd}(mb:bI tb){chk:Mem->Prop}{J:It}{F:Mem}{Nd:NC}{N:St->Hp->Prop}{σ:St}{ρ:ao}{acc:List D}(it:eR K H1 xs chk J)(rs:RS K H1 σ ρ)(rm:RM K F H1)(n:F p=none)(ac:gd K H1 p acc)(q:cH b tb chk Nd xs ρ F acc)(hN:∀ ρ' M' acc' σ' H',ExtP p F H1 M' H'->RS K H' σ' ρ'->RM K M' H'->gd K H' p acc'->Nd ρ' M' acc'->N σ' H') :
 fV J (lG K b) (lC K p tb) N σ H1:=by
 obtain⟨EK,L,_⟩:=id ac;refine⟨λi m σ H=>m=xs.length - i/\i<=xs.length /\ ∃ ρ M acc,RS K H σ ρ /\ RM K M H/\M p=none/\gd K H p acc/\ExtP p F H1 M H/\cH b tb chk Nd (xs.drop i) ρ M acc,⟨xs.length,by simp,GX _,ρ,F,acc,rs,rm,n,ac,ExtP.refl,q⟩,?_⟩
 rintro i m σ H ⟨rfl,hi,ρ,M,acc,rs,j,n,ac,x,q⟩;have st:=x.stab rm L;obtain⟨vs,hp,ra⟩:=id ac
 by_cases z:i<xs.length
 ·rw[HV z]at q;obtain⟨c,ρ',hb,q⟩:=q;obtain⟨go,yl⟩:=(it M H st j c i).2 z;refine .inr ⟨go,λσ' H'=>∃ m',m'<xs.length - i/\(m'=xs.length - (i+1)/\i+1<=xs.length /\ ∃ ρ M acc,RS K H' σ' ρ /\ RM K M H'/\M p=none/\gd K H' p acc/\ExtP p F H1 M H'/\cH b tb chk Nd (xs.drop (i+1)) ρ M acc),λσ' H' h=>h,λx' H' y=>?_⟩;obtain⟨yy,d,hd,rd⟩:=yl x' H' y;rw[FP z]at hd
  cases hd
  obtain⟨xy,rmy⟩:=yy.ext j;have sty:=xy.stab j;have O:=xy.keep p _ n hp;refine⟨_,ρ,ρ',rd,rs.mono sty,hb,λσ2 Y=>?_⟩;refine⟨ρ',M,acc,Y,rmy,n,⟨vs,O,ra.mono sty⟩,mb _ _ _ _ _ (λρ3 M3 U q3 σ3 H3 x3 Z EI EJ=>?_) q⟩;have n3:M3 p=none:=x3.new p _ n O;exact⟨xs.length - (i+1),by lia,rfl,z,ρ3,M3,U,Z,EI,n3,EJ,(x.trans L ⟨vs,hp⟩ xy.toP).trans L ⟨vs,O⟩ x3,q3⟩
 ·have e:i=xs.length:=by lia
  subst e;rw[J1]at q;exact .inl ⟨(it M H st j q.1 _).1 (FE _),hN ρ M acc σ H x rs j ac q.2⟩
theorem gH {tb:TCd}(ms:bx src)(mb:bI tb)(σ:St)(H:Hp)(N:St->Hp->Prop)(h:lC K p (dq src b tb) σ H N):(lI K src) σ H λJ H1=>fV J (lG K b) (lC K p tb) N σ H1:=by
 obtain⟨ρ,M,acc,rs,rm,n,⟨vs,F,ra⟩,q⟩:=h;refine⟨ρ,M,rs,rm,ms _ _ _ _ (λxs chk Y O J H1 z L it=>?_) q⟩;have j:=z.keep p _ n F;have U:=z.new p _ n F;have st:=z.stab rm;exact jP mb it (rs.mono st) L U ⟨vs,j,ra.mono st⟩ O λρ' M' acc' σ' H' x2 rs' rm' ac' k=>k σ' H' (z.toP.trans F ⟨vs,j⟩ x2) rs' rm' ac'
theorem eg {fr:List (Option Nat)}{tb:TCd}(ms:bx src)(mb:bI tb)(σ:St)(H:Hp)(Q:VK)(h:lE K (gf fr src b tb) σ H Q):pG (lI K src) (lG K b) (λp=>lC K p tb) fr σ H Q:=by
 obtain⟨ρ,M,rs,rm,q⟩:=h;refine⟨ρ,M,rs,rm,ms _ _ _ _ (λxs chk O Z J H1 L j it p n=>?_) q⟩;have st:=L.stab rm;have xn:Ext O H1 O (upd H1 p (.lst [])):=OR n;have stn:=xn.stab j;have Y:O p=none:=j.out n;refine jP (p:=p) mb (xs:=xs) (chk:=chk) (λM' H' st'=>it M' H' ⟨λa xs e=>st'.tup _ _ (stn.tup _ _ e),λa o u e=>st'.frz _ _ _ (stn.frz _ _ _ e)⟩) (((rs.mono st).mono stn).inh fr) (j.new n) Y ⟨[],al,RDs.nil⟩ Z λρ' M' acc' σ' H' U rs' rm' ac' k=>?_;obtain⟨vs,hp,ra⟩:=ac';have n':M' p=none:=U.new p _ Y al;refine k p n' (.ref p) H' ⟨λa o m e=>?_,λa o m e=>?_⟩ (λa o e=>?_) (OL.mpr rfl)
 ·have F:=L.kp a o m e;have ne:a≠p:=λz=>by subst z;rw[n]at F;cases F
  exact U.kp a o ne (by rw[L.nw a o m e];exact m) (by rw[ag ne];exact F)
 ·have F:=L.kp a o m e;have ne:a≠p:=λz=>by subst z;rw[n]at F;cases F
  rw[aB ne];exact(U.nw a o (by rw[L.nw a o m e];exact m) (by rw[ag ne];exact F)).trans (L.nw a o m e)
 ·by_cases z:a=p
  ·subst z;rw[aa]at e;cases e;exact⟨vs,hp,ra⟩
  ·rw[aB z]at e;exact rm' a o e
end
end
variable {u:TSd}{c:TTd}
section
noncomputable def eV:TSd:=λD ρ M=>D.nx ρ M
noncomputable def fH (t u:TSd):TSd:=λD ρ M=>t { D with nx:=u D } ρ M
noncomputable def iz:TSd:=λD ρ M=>D.bk ρ M
noncomputable def kC:TSd:=λD ρ M=>D.ct ρ M
noncomputable def kD (te:TEd):TSd:=λD ρ M=>te ρ M λ_ M1=>D.nx ρ M1
noncomputable def gU (te:TEd):TSd:=λD ρ M=>te ρ M D.rt
noncomputable def sIf (c:TTd) (t u:TSd):TSd:=λD ρ M=>c ρ M λb M1=>if b=true then t D ρ M1 else u D ρ M1
noncomputable def fJ (te:TEd) (b:BT):TSd:=λD ρ M=>te ρ M λx M1=>∃ ρ',b x ρ = some ρ'/\D.nx ρ' M1
noncomputable def pU (ta:TAd) (bs:BTs):TSd:=λD ρ M=>ta ρ M λxs M1=>∃ ρ',bs xs ρ = some ρ'/\D.nx ρ' M1
noncomputable def bh (b:BT) (tb:TSd) (chk:Mem->Prop) (D:bj):List Mi.D->ao->Mem->Prop
 |[]=>λρ M=>chk M/\D.nx ρ M
 |x::xs=>λρ M=>chk M /\ ∃ ρ',b x ρ = some ρ'/\tb { D with nx:=bh b tb chk D xs,ct:=bh b tb chk D xs,bk:=D.nx } ρ' M
noncomputable def jh (src:TId) (b:BT) (tb:TSd):TSd:=λD ρ M=>src ρ M λxs chk M1=>bh b tb chk D xs ρ M1
noncomputable def bb (c:TTd) (tb:TSd) (D:bj):Nat->ao->Mem->Prop
 |0=>λ_ _=>False
 |n+1=>λρ M=>c ρ M λb M1=>if b=true then tb { D with nx:=bb c tb D n,ct:=bb c tb D n,bk:=D.nx } ρ M1 else D.nx ρ M1
noncomputable def iA (c:TTd) (tb:TSd):TSd:=λD ρ M=>∃ n,bb c tb D n ρ M
theorem jQ:aG eV:=λ_ _ _ _ h q=>h.nx _ _ q
theorem pV:aG iz:=λ_ _ _ _ h q=>h.bk _ _ q
theorem sk:aG kC:=λ_ _ _ _ h q=>h.ct _ _ q
theorem sm {t:TSd}(j:aG t)(z:aG u):aG (fH t u):=λa b ρ M h q=>j { a with nx:=u a } { b with nx:=u b } _ _ ⟨λρ' M' q'=>z _ _ _ _ h q',h.rt,h.bk,h.ct⟩ q
theorem so (h:ae te):aG (kD te):=λa b ρ M i q=>h _ _ _ _ (λ_ z j=>i.nx _ _ j) q
theorem uU (h:ae te):aG (gU te):=λa b ρ M i q=>h _ _ _ _ (λd z j=>i.rt _ _ j) q
theorem uV {t:TSd}(z:aA c)(F:aG t)(J:aG u):aG (sIf c t u):=λa b ρ M i q=>z _ _ _ _ (λk L j=>by
 cases k with
 |true=>rw[if_pos rfl]at j ⊢;exact F _ _ _ _ i j
 |false=>rw[if_neg Fu]at j ⊢;exact J _ _ _ _ i j) q
theorem uW {bt:BT}(h:ae te):aG (fJ te bt):=λa b ρ M i q=>h _ _ _ _ (λd F j=>(by obtain⟨ρ',e,z⟩:=j;exact⟨ρ',e,i.nx _ _ z⟩)) q
theorem uX {ta:TAd}{bs:BTs}(h:bn ta):aG (pU ta bs):=λa b ρ M i q=>h _ _ _ _ (λd F j=>(by obtain⟨ρ',e,z⟩:=j;exact⟨ρ',e,i.nx _ _ z⟩)) q
theorem fK {bt:BT}{tb:TSd}(j:aG tb){chk:Mem->Prop}{a b:bj}(i:LeD a b):∀ (xs:List D) (ρ:ao) (M:Mem),bh bt tb chk a xs ρ M->bh bt tb chk b xs ρ M
 |[],ρ,M,h=>⟨h.1,i.nx _ _ h.2⟩
 |x::xs,ρ,M,⟨c,ρ',e,q⟩=>⟨c,ρ',e,j { a with nx:=bh bt tb chk a xs,ct:=bh bt tb chk a xs,bk:=a.nx } { b with nx:=bh bt tb chk b xs,ct:=bh bt tb chk b xs,bk:=b.nx } _ _ ⟨λρ2 z F=>fK j i xs ρ2 z F,i.rt,i.nx,λρ2 z F=>fK j i xs ρ2 z F⟩ q⟩
theorem uY {bt:BT}{tb:TSd}(j:bx src)(z:aG tb):aG (jh src bt tb):=λa b ρ M i q=>j _ _ _ _ (λxs c J F=>fK z i xs _ _ F) q
theorem eA {c:TTd}{tb:TSd}(z:aA c)(F:aG tb){a b:bj}(i:LeD a b):∀ (n:Nat) (ρ:ao) (M:Mem),bb c tb a n ρ M->bb c tb b n ρ M
 |0,ρ,M,h=>h
 | n+1,ρ,M,h=>z _ _ _ _ (fun k O j=>by
   cases k with
   |true=>rw[if_pos rfl]at j ⊢;exact F { a with nx:=bb c tb a n,ct:=bb c tb a n,bk:=a.nx } { b with nx:=bb c tb b n,ct:=bb c tb b n,bk:=b.nx } _ _ ⟨λρ2 J L=>eA z F i n ρ2 J L,i.rt,i.nx,λρ2 J L=>eA z F i n ρ2 J L⟩ j
   |false=>rw[if_neg Fu]at j ⊢;exact i.nx _ _ j) h
theorem pW {tb:TSd}(j:aA c)(z:aG tb):aG (iA c tb):=λa b ρ M i g9=>(by obtain⟨n,q⟩:=g9;exact⟨n,eA j z i n _ _ q⟩)
section
variable {K:Frag}
theorem jR (D:br)(σ:St)(H:Hp)(h:lS K eV D σ H):oW D σ H:=by
 obtain⟨ρ,M,A,rs,rm,l,q⟩:=h;exact l.nx ρ M σ H Ext.refl rs rm q
theorem pX (D:br)(σ:St)(H:Hp)(h:lS K iz D σ H):qY D σ H:=by
 obtain⟨ρ,M,A,rs,rm,l,q⟩:=h;exact l.bk ρ M σ H Ext.refl rs rm q
theorem sr (D:br)(σ:St)(H:Hp)(h:lS K kC D σ H):vZ D σ H:=by
 obtain⟨ρ,M,A,rs,rm,l,q⟩:=h;exact l.ct ρ M σ H Ext.refl rs rm q
theorem uZ {t:TSd}(mt:aG t)(mu:aG u)(D:br)(σ:St)(H:Hp)(h:lS K (fH t u) D σ H):z9 (lS K t) (lS K u) D σ H:=by
 obtain⟨ρ,M,A,rs,rm,l,q⟩:=h;exact⟨ρ,M,{ A with nx:=u A },rs,rm,⟨λρ' M' σ' H' x rs' rm' q'=>⟨ρ',M',A,rs',rm',l.ext x,q'⟩,l.rt,l.bk,l.ct⟩,q⟩
theorem su (m:ae te)(D:br)(σ:St)(H:Hp)(h:lS K (kD te) D σ H):w5 (lE K te) D σ H:=by
 obtain⟨ρ,M,A,rs,rm,l,q⟩:=h;exact⟨ρ,M,rs,rm,m _ _ _ _ (λd F J v H1 z j L=>l.nx ρ F σ H1 z (rs.mono (z.stab rm)) j J) q⟩
theorem v5 (m:ae te)(D:br)(σ:St)(H:Hp)(h:lS K (gU te) D σ H):za (lE K te) D σ H:=by
 obtain⟨ρ,M,A,rs,rm,l,q⟩:=h;exact⟨ρ,M,rs,rm,m _ _ _ _ (λd F J v H1 L j z=>l.rt d F v H1 L j z J) q⟩
theorem xU {t:TSd}(mc:aA c)(D:br)(σ:St)(H:Hp)(h:lS K (sIf c t u) D σ H):zb (lT K c) (lS K t) (lS K u) D σ H:=by
 obtain⟨ρ,M,A,rs,rm,l,q⟩:=h;refine⟨ρ,M,rs,rm,mc _ _ _ _ (λk J z H1 F j=>?_) q⟩
 cases k with
 |true=>rw[if_pos rfl]at z ⊢;exact⟨ρ,J,A,rs.mono (F.stab rm),j,l.ext F,z⟩
 |false=>rw[if_neg Fu]at z ⊢;exact⟨ρ,J,A,rs.mono (F.stab rm),j,l.ext F,z⟩
theorem v6 (m:ae te)(D:br)(σ:St)(H:Hp)(h:lS K (fJ te b) D σ H):kS (lE K te) (lG K b) D σ H:=by
 obtain⟨ρ,M,A,rs,rm,l,q⟩:=h;refine⟨ρ,M,rs,rm,m _ _ _ _ (λd J g9 v H1 F j z=>?_) q⟩;obtain⟨ρ',e,L⟩:=g9;exact⟨d,ρ,ρ',z,rs.mono (F.stab rm),e,λσ' rs'=>l.nx ρ' J σ' H1 F rs' j L⟩
theorem jS {i:Nat}(m:ae te)(D:br)(σ:St)(H:Hp)(h:lS K (fJ te (bO i)) D σ H):kS (lE K te) (fU i) D σ H:=by
 obtain⟨ρ,M,A,rs,rm,l,q⟩:=h;refine⟨ρ,M,rs,rm,m _ _ _ _ (λd z g9 v H1 j rm1 rd1=>?_) q⟩;obtain⟨ρ',e,F⟩:=g9
 cases e
 exact l.nx _ z _ H1 j ((rs.mono (j.stab rm)).set i rd1) rm1 F
theorem v7 {tb:TSd}(ms:bx src)(mb:aG tb)(D:br)(σ:St)(H:Hp)(h:lS K (jh src b tb) D σ H):u6 (lI K src) (lG K b) (lS K tb) D σ H:=by
 obtain⟨ρ,M,A,rs,rm,l,q⟩:=h;refine⟨ρ,M,rs,rm,ms _ _ _ _ (λxs chk M1 q1 J H1 x1 U it=>?_) q⟩;refine⟨λi m σ H'=>m=xs.length - i/\i<=xs.length /\ ∃ ρ F,RS K H' σ ρ /\ RM K F H'/\Ext M1 H1 F H'/\bh b tb chk A (xs.drop i) ρ F,⟨xs.length,by simp,GX _,ρ,M1,rs.mono (x1.stab rm),U,Ext.refl,q1⟩,?_⟩
 rintro i m σ2 H2 ⟨rfl,hi,ρ2,F,Y,j,x2,Z⟩;have EI:=x2.stab U
 by_cases L:i<xs.length
 ·rw[HV L]at Z;obtain⟨c,ρ',hb,q3⟩:=Z;obtain⟨go,yl⟩:=(it F H2 EI j c i).2 L;refine .inr ⟨go,λσ' H'=>∃ m',m'<xs.length - i/\(m'=xs.length - (i+1)/\i+1<=xs.length /\ ∃ ρ M,RS K H' σ' ρ /\ RM K M H'/\Ext M1 H1 M H'/\bh b tb chk A (xs.drop (i+1)) ρ M),λσ' H' h=>h,λx' H' y=>?_⟩;obtain⟨yy,d,hd,rd⟩:=yl x' H' y;rw[FP L]at hd
  cases hd
  obtain⟨xy,rmy⟩:=yy.ext j;have EJ:=x1.trans (x2.trans xy);refine⟨_,ρ2,ρ',rd,Y.mono (xy.stab j),hb,λσ3 EK=>?_⟩;have nx:∀ ρ5 O σ5 z,Ext F H' O z->RS K z σ5 ρ5->RM K O z->bh b tb chk A (xs.drop (i+1)) ρ5 O -> ∃ m',m'<xs.length - i/\(m'=xs.length - (i+1)/\i+1<=xs.length /\ ∃ ρ M,RS K z σ5 ρ /\ RM K M z/\Ext M1 H1 M z/\bh b tb chk A (xs.drop (i+1)) ρ M) :=
   λρ5 O σ5 z x5 EL EM q5=>⟨xs.length - (i+1),by lia,rfl,L,ρ5,O,EL,EM,(x2.trans xy).trans x5,q5⟩
  refine⟨ρ',F,{ A with nx:=bh b tb chk A (xs.drop (i+1)),ct:=bh b tb chk A (xs.drop (i+1)),bk:=A.nx },EK,rmy,⟨nx,λd O v z x5=>l.rt d O v z (EJ.trans x5),λρ5 O σ5 z x5=>l.nx ρ5 O σ5 z (EJ.trans x5),nx⟩,q3⟩
 ·have e:i=xs.length:=by lia
  subst e;rw[J1]at Z;exact .inl ⟨(it F H2 EI j Z.1 _).1 (FE _),l.nx ρ2 F σ2 H2 (x1.trans x2) Y j Z.2⟩
theorem pY {tb:TSd}(mc:aA c)(mb:aG tb)(D:br)(σ:St)(H:Hp)(h:lS K (iA c tb) D σ H):r8 (lT K c) (lS K tb) D σ H:=by
 obtain⟨ρ,M,A,rs,rm,l,n,q⟩:=h;refine⟨λm σ' H'=>∃ ρ' M',RS K H' σ' ρ'/\RM K M' H'/\Ext M H M' H'/\bb c tb A m ρ' M',⟨n,ρ,M,rs,rm,Ext.refl,q⟩,?_⟩;rintro m σ1 H1 ⟨ρ1,M1,O,U,x1,q1⟩
 cases m with
 |zero=>exact q1.elim
 | succ m =>
   refine⟨ρ1,M1,O,U,mc _ _ _ _ (λk M2 q2 H2 x2 Y=>?_) q1⟩;have j:=x1.trans x2;have Z:=O.mono (x2.stab U)
   cases k with
   |false=>rw[if_neg Fu]at q2;dsimp only;rw[if_neg Fu];exact l.nx ρ1 M2 σ1 H2 j Z Y q2
   | true =>
     rw[if_pos rfl]at q2;dsimp only;rw[if_pos rfl];refine⟨λσ' H'=>∃ ρ' M',RS K H' σ' ρ'/\RM K M' H'/\Ext M H M' H'/\bb c tb A m ρ' M',λσ' H' h=>⟨m,Nat.lt_succ_self m,h⟩,ρ1,M2,{ A with nx:=bb c tb A m,ct:=bb c tb A m,bk:=A.nx },Z,Y,⟨?_,λd z v H5 F=>l.rt d z v H5 (j.trans F),λρ5 z σ5 H5 F=>l.nx ρ5 z σ5 H5 (j.trans F),?_⟩,q2⟩
     ·exact λρ5 z σ5 H5 F J L q5=>⟨ρ5,z,J,L,j.trans F,q5⟩
     ·exact λρ5 z σ5 H5 F J L q5=>⟨ρ5,z,J,L,j.trans F,q5⟩
end
noncomputable def iB:D->D->D->Mem->(Mem->Prop)->Prop:=λo i v M Q=>∃ a,o = .ref a /\
 ((∃ xs k j,i = .int k/\M a=some (.lst xs)/\ixN xs.length k=some j/\Q (af M a (.lst (xs.set j v)))) ∨
  ∃ t kvs,M a=some (.dct t kvs)/\pH t i=true/\kvs.length<Fz/\Q (af M a (.dct t (lq kvs i v))))
noncomputable def pZ (te to ti:TEd):TSd:=λD ρ M=>te ρ M λv M1=>to ρ M1 λo M2=>ti ρ M2 λi M3=>iB o i v M3 λM4=>D.nx ρ M4
theorem sv {o i v:D}{Q Q':Mem->Prop}(h:∀ M',Q M'->Q' M')(q:iB o i v M Q):iB o i v M Q':=by
 obtain⟨a,e,⟨xs,k,j,z,F,J,q⟩|⟨t,kvs,z,F,J,q⟩⟩:=q
 ·exact⟨a,e,.inl ⟨xs,k,j,z,F,J,h _ q⟩⟩
 ·exact⟨a,e,.inr ⟨t,kvs,z,F,J,h _ q⟩⟩
theorem v8 {to ti:TEd}(he:ae te)(ho:ae to)(hi:ae ti):aG (pZ te to ti):=λa b ρ M i q =>
 he _ _ _ _ (λv J j=>ho _ _ _ _ (λo L z=>hi _ _ _ _ (λk O F=>sv (λM' q'=>i.nx _ _ q') F) z) j) q
section
variable {X:Cx} {K:Frag}
theorem v9 (j:X.A.units+1<LP):PSet X (λo i v H Q=>∃ a H',o = .ref a/\DPut H a i v H'/\Q H'):=by
 intro pins s σ H o i v ov iv u Q I ro ri rv h;obtain⟨a,H',rfl,g,q⟩:=h
 cases ro
 exact rH j I g ri rv λs' I'=>⟨H',I',q⟩
theorem PSet.or {t t':oY}(h:PSet X t)(h':PSet X t'):PSet X (λo i v H Q=>t o i v H Q∨t' o i v H Q):=by
 intro pins s σ H o i v ov iv u Q I ro ri rv q
 rcases q with q|q
 ·exact h pins s σ H o i v ov iv u Q I ro ri rv q
 ·exact h' pins s σ H o i v ov iv u Q I ro ri rv q
section
variable {κ:Type} [DecidableEq κ] {H:Hp} {RK:D -> κ -> Prop} (inj:∀ {d e:D} {k : κ},RK d k->RK e k->d=e) (fn:∀ {d:D} {k k' : κ},RK d k->RK d k'->k=k')
include inj fn
theorem oj {k:D}{q : κ}(hk:RK k q):∀ {kvs:List (D×D)} {ps:List (κ × V)},GZ (λp r=>RK p.1 r.1/\RD K H p.2 r.2) kvs ps ->
 (kvs.any λp=>decide (p.1=k))=(ps.any λp=>decide (p.1=q))
 |_,_,.nil=>rfl
 | _,_,.cons (a:=p) (b:=r) hr t=>by
   rw[Ij,Ij,oj hk t];congr 1
   by_cases e:p.1=k
   ·have e':r.1=q:=by have h1:=hr.1;rw[e]at h1;exact fn h1 hk
    rw[decide_eq_true e,decide_eq_true e']
   ·have e' : ¬ r.1=q:=λz=>e (by have h1:=hr.1;rw[z]at h1;exact inj h1 hk)
    rw[decide_eq_false e,decide_eq_false e']
theorem ol {k:D}{q : κ}(hk:RK k q){d:D}{v:V}(j:RD K H d v):∀ {kvs:List (D×D)} {ps:List (κ × V)},GZ (λp r=>RK p.1 r.1/\RD K H p.2 r.2) kvs ps ->
 GZ (λp r=>RK p.1 r.1/\RD K H p.2 r.2) (kvs.map λp=>if p.1=k then (p.1,d) else p) (ps.map λp=>if p.1=q then (p.1,v) else p)
 |_,_,.nil=>.nil
 | _,_,.cons (a:=p) (b:=r) hr t=>by
   refine .cons ?_ (ol hk j t)
   by_cases e:p.1=k
   ·have e':r.1=q:=by have h1:=hr.1;rw[e]at h1;exact fn h1 hk
    dsimp only;rw[if_pos e,if_pos e'];exact⟨hr.1,j⟩
   ·have e' : ¬ r.1=q:=λz=>e (by have h1:=hr.1;rw[z]at h1;exact inj h1 hk)
    dsimp only;rw[if_neg e,if_neg e'];exact hr
theorem m3 {k:D}{q : κ}(hk:RK k q){d:D}{v:V}(j:RD K H d v){kvs:List (D×D)}{ps:List (κ × V)}(r:GZ (λp r=>RK p.1 r.1/\RD K H p.2 r.2) kvs ps) :
 GZ (λp r=>RK p.1 r.1/\RD K H p.2 r.2) (lq kvs k d) (bK ps q v):=by
 unfold lq bK;rw[oj (K:=K) (H:=H) (RK:=RK) inj fn hk r]
 by_cases e:(ps.any λp=>decide (p.1=q))=true
 ·rw[if_pos e,if_pos e];exact ol (RK:=RK) inj fn hk j r
 ·rw[if_neg e,if_neg e];exact r.snoc ⟨hk,j⟩
end
theorem va {o i v:D}{ov iv vv:V}{Qd:Mem->Prop}{Q:Hp->Prop}(rm:RM K M H)(ro:RD K H o ov)(ri:RD K H i iv)(rv:RD K H v vv)(h:iB o i v M Qd)(U:∀ M' H',Ext M H M' H'->RM K M' H'->Qd M'->Q H') :
 wb ov iv vv H Q∨∃ a H',ov = .ref a/\DPut H a iv vv H'/\Q H':=by
 obtain⟨a,rfl,⟨xs,k,j,rfl,F,O,q⟩|⟨t,kvs,J,F,O,q⟩⟩:=h
 ·cases OL.mp ro
  cases OI.mp ri
  obtain⟨vs,ha,rs⟩:=rm _ _ F;have st:Stab H (upd H a (.lst (vs.set j vv))):=rm.stabPut F;exact .inl ⟨a,vs,k,j,rfl,rfl,ha,by rw[rs.length];exact O,U _ _ (Ext.put F) (rm.put (o:=.lst (xs.set j v)) F ⟨_,al,(rs.set j rv).mono st⟩) q⟩
 ·cases OL.mp ro
  have ro':=rm _ _ J
  cases t with
  | false =>
    obtain⟨ps,Y,pr⟩:=ro';obtain⟨kq,hk⟩:=lr (show eO i=true from F);have st:Stab H (upd H a (.dK (bK ps kq vv))):=rm.stabPut J;have L:=m3 (RK:=RKey) RKey.inj RKey.fun hk rv pr;rw[jc hk ri];refine .inr ⟨a,_,rfl,DPut.k Y (by rw[<- Ja pr];exact O),U _ _ (Ext.put J) (rm.put (o:=.dct false (lq kvs i v)) J ⟨_,al,OP L λ_ _ z=>⟨z.1,z.2.mono st⟩⟩) q⟩
  | true =>
    obtain⟨ps,Y,pr⟩:=ro';obtain⟨kq,hk⟩:=og (show dC i=true from F);have st:Stab H (upd H a (.dT (bK ps kq vv))):=rm.stabPut J;have L:=m3 (RK:=RKeys) RKeys.inj RKeys.fun hk rv pr
    cases i <;> first
     |exact hk.elim
     | (obtain ⟨b,us,rfl,Z,ru⟩:=P1 (oh F) ri
        rw[gP hk ru]at Z;exact .inr ⟨a,_,rfl,DPut.t Y Z (by rw[<- Ja pr];exact O),U _ _ (Ext.put J) (rm.put (o:=.dct true (lq kvs _ v)) J ⟨_,al,OP L λ_ _ z=>⟨z.1,z.2.mono st⟩⟩) q⟩)
theorem zZ {o i e:Expr}{to ti:TEd}{tpos:Pos}(hu:X.A.units+1 < LP)(me:ae te)(mo:ae to)(mi:ae ti)(he:PE X e (lE X.K te))(ho:PE X o (lE X.K to))(hi:PE X i (lE X.K ti))(hs:Jb [.Subscript o i tpos] e pos.line X.env=pure false)(hw:Ie [.Subscript o i tpos] e X.env=pure none)(ha:∀ v,assign (.Subscript o i tpos) X.env v=(do
   let ov <- holding [v] (eval o X.env)
   let iv <- holding [v,ov] (eval i X.env)
   Jv tpos
   holding [v,ov,iv] (setItem ov iv v)
   release [v,ov,iv] [])):PS X (.Assign [.Subscript o i tpos] e pos) (lS X.K (pZ te to ti)):=by
 refine PS.imp (qZ he (zd ho hi (PSet.or ug (v9 hu)) ha) hs hw rfl) λD σ H h=>?_;obtain⟨ρ,M,A,rs,rm,l,q⟩:=h;refine⟨ρ,M,rs,rm,me _ _ _ _ (λv M1 q1 vv H1 J j L=>?_) q⟩;refine⟨ρ,M1,rs.mono (J.stab rm),j,mo _ _ _ _ (λov M2 q2 vo H2 O z U=>?_) q1⟩;refine⟨ρ,M2,(rs.mono (J.stab rm)).mono (O.stab j),z,mi _ _ _ _ (λiv M3 q3 vi H3 Y Z EI=>?_) q2⟩;have F:=J.trans (O.trans Y);exact va Z (U.mono (Y.stab z)) EI ((L.mono (O.stab j)).mono (Y.stab z)) q3 λM' H' x4 EJ q4=>l.nx ρ M' σ H' (F.trans x4) (rs.mono ((F.trans x4).stab rm)) EJ q4
end
end
end Mi
namespace Mi
variable {K:Frag}
theorem sx {ta:TAd}{i j:Nat}(m:bn ta)(D:br)(σ:St)(H:Hp)(h:lS K (pU ta (bP (bO i) (bP (bO j) gR))) D σ H):ze i j (lA K ta) D σ H:=by
 obtain⟨ρ,M,A,rs,rm,l,q⟩:=h;refine⟨ρ,M,rs,rm,m _ _ _ _ (λds L g9 vs H1 J F z=>?_) q⟩;obtain⟨ρ',e,O⟩:=g9
 match ds,e,z with
 |[d1,d2],e,z =>
  obtain⟨v,u,rfl,U,Y⟩:=z.two;simp only[bP,bO,gR,Ho,Nw]at e;subst e;exact⟨v,u,rfl,l.nx _ L _ H1 J (((rs.mono (J.stab rm)).set i U).set j Y) F O⟩
end Mi
namespace Mi
end Mi
namespace Mi
variable {A:G3}{s:Ft}{v:V}{b:Bool}{H:Hp}{u:h8}{r r':R2d}{ta tb tc:TEd}
section
section
variable {X:Cx}
noncomputable def isD:D->D->Option Bool
 |x,.non=>some (match x with|.non=>true|_=>false)
 |x,.bl b=>some (match x with|.bl c=>c==b|_=>false)
 |_,_=>none
noncomputable def wIs:R2d:=λx y M Q=>∃ k,isD x y=some k/\Q (.bl k) M
noncomputable def q9:R2d:=λx y M Q=>∃ k,isD x y=some k/\Q (.bl (!k)) M
theorem xV:au wIs:=λ_ _ _ _ _ h j=>(by obtain⟨k,e,q⟩:=j;exact⟨k,e,h _ _ q⟩)
theorem vb:au q9:=λ_ _ _ _ _ h j=>(by obtain⟨k,e,q⟩:=j;exact⟨k,e,h _ _ q⟩)
theorem xW {M:Kd}{E Q:h8->Ft->Prop}{v:h8}(j:∀ id,v ≠ .builtin id)(h:Q (.bool (v == .bool b)) s):FG M A (G6 .Is v (.bool b)) Q E s:=by
 cases v <;> first|exact Fv h|exact absurd rfl (j _)
theorem vc {M:Kd}{E Q:h8->Ft->Prop}{v:h8}(j:∀ id,v ≠ .builtin id)(h:Q (.bool (!(v == .bool b))) s):FG M A (G6 .IsNot v (.bool b)) Q E s:=by
 cases v <;> first|exact Fv h|exact absurd rfl (j _)
theorem sy {K:Frag}{x y:D}{w:V}{t:h8}{k:Bool}(e:isD x y=some k)(rx:RD K H x v)(ry:RD K H y w)(ru:RelV v u)(rt:RelV w t):(t = .none/\(u == .none)=k)∨∃ b,t = .bool b/\(u == .bool b)=k /\ ∀ id,u ≠ .builtin id:=by
 cases y with
 | non =>
   cases ON.mp ry
   cases rt
   refine .inl ⟨rfl,?_⟩
   cases x with
   |non=>cases ON.mp rx;cases ru;cases e;rfl
   |bl c=>cases OK.mp rx;cases ru;cases e;rfl
   |int i=>cases OI.mp rx;obtain⟨tk,rfl⟩:=ru;cases e;rfl
   |str z=>cases OJ.mp rx;obtain⟨tk,rfl⟩:=ru;cases e;rfl
   |tup ds=>obtain⟨a,vs,rfl,_⟩:=OO rx;cases ru;cases e;rfl
   |con ds=>obtain⟨a,vs,rfl,_⟩:=OQ.mp rx;cases ru;cases e;rfl
   |ref a=>cases OL.mp rx;cases ru;cases e;rfl
   |fn z=>obtain⟨a,rfl,_⟩:=OZ.mp rx;cases ru;cases e;rfl
 | bl b =>
   cases OK.mp ry
   cases rt
   refine .inr ⟨b,rfl,?_⟩
   cases x with
   |non=>cases ON.mp rx;cases ru;cases e;exact⟨rfl,λ_ z=>by cases z⟩
   |bl c=>cases OK.mp rx;cases ru;cases e;exact⟨by cases b <;> cases c <;> rfl,λ_ z=>by cases z⟩
   |int i=>cases OI.mp rx;obtain⟨tk,rfl⟩:=ru;cases e;exact⟨rfl,λ_ z=>by cases z⟩
   |str z=>cases OJ.mp rx;obtain⟨tk,rfl⟩:=ru;cases e;exact⟨rfl,λ_ z=>by cases z⟩
   |tup ds=>obtain⟨a,vs,rfl,_⟩:=OO rx;cases ru;cases e;exact⟨rfl,λ_ z=>by cases z⟩
   |con ds=>obtain⟨a,vs,rfl,_⟩:=OQ.mp rx;cases ru;cases e;exact⟨rfl,λ_ z=>by cases z⟩
   |ref a=>cases OL.mp rx;cases ru;cases e;exact⟨rfl,λ_ z=>by cases z⟩
   |fn z=>obtain⟨a,rfl,_⟩:=OZ.mp rx;cases ru;cases e;exact⟨rfl,λ_ z=>by cases z⟩
 |_=>cases e
theorem xX:OpR X (G6 .Is) (l2 X.K wIs):=by
 intro pins s σ H v w u t Q I ru rt h;obtain⟨x,y,M,rm,rx,ry,k,e,q⟩:=h;have fin:EP X pins σ Q (.bool k) s:=⟨.bl k,H,I,rfl,q _ H Ext.refl rm (OK.mpr rfl)⟩
 rcases sy e rx ry ru rt with⟨rfl,j⟩|⟨b,rfl,j,nb⟩
 ·exact is_none_gen (by rw[j];exact fin)
 ·exact xW nb (by rw[j];exact fin)
theorem vd:OpR X (G6 .IsNot) (l2 X.K q9):=by
 intro pins s σ H v w u t Q I ru rt h;obtain⟨x,y,M,rm,rx,ry,k,e,q⟩:=h;have fin:EP X pins σ Q (.bool (!k)) s:=⟨.bl (!k),H,I,rfl,q _ H Ext.refl rm (OK.mpr rfl)⟩
 rcases sy e rx ry ru rt with⟨rfl,j⟩|⟨b,rfl,j,nb⟩
 ·exact isnot_none_gen (by rw[j];exact fin)
 ·exact vc nb (by rw[j];exact fin)
noncomputable def bM (r r':R2d) (ta tb tc:TEd):TEd:=λρ M Q=>ta ρ M λx M1=>tb ρ M1 λy M2=>r x y M2 λz M3=>∃ k,z = .bl k/\(if k=true then tc ρ M3 λw M4=>r' y w M4 Q else Q (.bl false) M3)
theorem eW (hr:au r)(F:au r')(J:ae ta)(L:ae tb)(O:ae tc):ae (bM r r' ta tb tc):=λρ M Q Q' i q =>
 J _ _ _ _ (λx M1 U=>L _ _ _ _ (λy M2 Y=>hr _ _ _ _ _ (λz M3 ⟨k,e,j⟩=>⟨k,e,by
  cases k with
  |true=>rw[if_pos rfl]at j ⊢;exact O _ _ _ _ (λw M4 Z=>F _ _ _ _ _ i Z) j
  |false=>rw[if_neg Fu]at j ⊢;exact i _ _ j⟩) Y) U) q
theorem iD (hr:au r)(EI:au r')(ma:ae ta)(mb:ae tb)(mc:ae tc)(σ:St)(H:Hp)(Q:VK)(h:lE X.K (bM r r' ta tb tc) σ H Q):kU (l2 X.K r) (l2 X.K r') (lE X.K ta) (lE X.K tb) (lE X.K tc) σ H Q:=by
 obtain⟨ρ,M,rs,rm,q⟩:=h;refine⟨ρ,M,rs,rm,ma _ _ _ _ (λx M1 q1 v H1 O j EJ=>?_) q⟩;refine⟨ρ,M1,rs.mono (O.stab rm),j,mb _ _ _ _ (λy M2 q2 w H2 U F L=>?_) q1⟩;refine⟨x,y,M2,F,EJ.mono (U.stab j),L,hr _ _ _ _ _ (λz M3 g9 v3 H3 Z J EK=>?_) q2⟩;obtain⟨k,e,Y⟩:=g9;subst e;refine⟨k,OK.mp EK,?_⟩
 cases k with
 | true =>
   rw[if_pos rfl]at Y ⊢;refine⟨ρ,M3,(((rs.mono (O.stab rm)).mono (U.stab j)).mono (Z.stab F)),J,mc _ _ _ _ (λw4 M4 q4 v4 H4 x4 EL EM=>?_) Y⟩;exact⟨y,w4,M4,EL,(L.mono (Z.stab F)).mono (x4.stab J),EM,EI _ _ _ _ _ (λd M5 k5=>k5.ext (((O.trans U).trans Z).trans x4)) q4⟩
 | false =>
   rw[if_neg Fu]at Y ⊢;exact Y (.bl false) H3 ((O.trans U).trans Z) J (OK.mpr rfl)
noncomputable def ji:D->Option Bool
 |.bl b=>some b
 |.int i=>some (i != 0)
 |_=>none
noncomputable def qf:RAd:=λxs M Q=>∃ x ds ts,xs=[x]/\aJ M x=some ds/\az ji ds=some ts/\Q (.bl (ts.all id)) M
noncomputable def qg:RAd:=λxs M Q=>∃ x ds ts,xs=[x]/\aJ M x=some ds/\az ji ds=some ts/\Q (.bl (ts.any id)) M
theorem m4:aO qf:=λ_ _ _ _ h j=>(by obtain⟨x,ds,ts,e,z,F,q⟩:=j;exact⟨x,ds,ts,e,z,F,h _ _ q⟩)
theorem m6:aO qg:=λ_ _ _ _ h j=>(by obtain⟨x,ds,ts,e,z,F,q⟩:=j;exact⟨x,ds,ts,e,z,F,h _ _ q⟩)
theorem m7 {α β:Type}{f : α -> Option β}:∀ {xs:List α} {ys:List β},az f xs=some ys->ys.length=xs.length /\ ∀ (i:Nat) x,xs[i]? = some x -> ∃ y,ys[i]? = some y/\f x=some y
 |[],ys,h=>by cases h;exact⟨rfl,λi x e=>by simp at e⟩
 | x::xs,ys,h=>by
   simp only[az]at h
   cases j:f x with
   |none=>rw[j]at h;cases h
   | some y =>
     rw[j]at h;simp only[Ho]at h
     cases e2:az f xs with
     |none=>rw[e2]at h;cases h
     | some r =>
       rw[e2]at h;cases h;obtain⟨l,g⟩:=m7 e2;refine⟨by simp[l],λi z e=>?_⟩
       cases i with
       |zero=>simp at e;subst e;exact⟨y,rfl,j⟩
       |succ i=>simp at e;simpa using g i z e
theorem xY {P:FT}{w:G8}{E:h8->Ft->Prop}{K:Frag}{d:D}{Q:Bool->Ft->Prop}(e:ji d=some b)(rd:RD K H d v)(ru:RelV v u)(q:Q b s):FG (model P w) A (truthy u) Q E s:=by
 cases d with
 |bl c=>cases OK.mp rd;cases ru;cases e;exact GC q
 |int i=>cases OI.mp rd;obtain⟨t,rfl⟩:=ru;cases e;exact PyProof.Rows.truthy_int q
 |_=>cases e
theorem range_all {ts:List Bool}:(Hx ts.length).all (λi=>ts.getD i false)=ts.all id/\(Hx ts.length).any (λi=>ts.getD i false)=ts.any id:=by
 have e:(Hx ts.length).map (λi=>ts.getD i false)=ts:=by
  apply List.ext_getElem
  ·simp
  ·intro i h1 h2;simp[Kp,FP h2]
 constructor
 ·conv=>rhs;rw[<- e]
  rw[Ka];rfl
 ·conv=>rhs;rw[<- e]
  rw[List.any_map];rfl
theorem m8 (U:X.calm=true){pins:List (Addr×Obj)}{σ:St}{M:Mem}{x:D}{ds:List D}{ts:List Bool}{Q:h8->Ft->Prop}{g:List Bool->Bool}(I:Inv X pins σ H s)(rm:RM X.K M H)(rd:RD X.K H x v)(ru:RelV v u)(e1:aJ M x=some ds)(e2:az ji ds=some ts)(fin:∀ h' tk,Inv X pins σ H { s with heap:=h',toks:=tk }->Q (.bool (g ts)) { s with heap:=h',toks:=tk })(gg:Nat->(Nat->Bool)->Bool)(Y:gg ts.length (λi=>ts.getD i false)=g ts) :
 FG (model X.prog X.w) X.A.in1 (MK u) (λit s₂=>∃ I fp wr n P St tr,it = .ref I/\Walks X.prog X.w X.A.in1 I fp wr n P St/\St 0 s₂.heap/\TruthOf X.prog X.w X.A.in1 P tr /\
  ∀ h' tk,(∀ b o,b∉wr->s₂.heap.get? b=some o->h'.get? b=some o)->Q (.bool (gg n tr)) { s₂ with heap:=h',toks:=tk }) X.xe s:=by
 obtain⟨p,vs,rfl,sq,Z⟩:=zJ rm rd e1
 cases ru
 obtain⟨lt,get⟩:=m7 e2;have lv:=Z.length;have tr:∀ (its:List h8),Vals vs its->TruthOf X.prog X.w X.A.in1 (λi w=>its.toArray[i]? = some w) (λi=>ts.getD i false):=by
  intro its rv i w s' Q' E' hP J;have z:its[i]? = some w:=by simpa using hP
  have li:=rv.length;have hi:i<its.length:=(G0.mp z).1;obtain⟨d,hd⟩:∃ d,ds[i]? = some d:=⟨ds[i]'(by lia),FP (by lia)⟩
  obtain⟨v',L,rd'⟩:=Z.get hd;obtain⟨u',F,ru'⟩:=rv.get L;rw[z]at F;cases F;obtain⟨b,hb,eb⟩:=get i d hd;have:ts.getD i false=b:=by rw[Kp,hb];rfl
  have J:Q' (ts.getD i false) s':=J;rw[this]at J;exact xY eb rd' ru' J
 rcases sq with sq|sq
 ·obtain⟨its,rv,pl,hz⟩:=I.list sq;have li:=rv.length;have j:p<s.heap.objs.size:=by obtain⟨o,n,e,_⟩:=pl;exact FF e
  refine Hb pl.isList ⟨s.heap.objs.size,_,_,_,_,_,_,rfl,Walks.list (by rw[MZ];exact I.ok.hd U) s.heap.objs.size p (Gb j) its.toArray,⟨⟨_,FK _ rfl,rfl,rfl⟩,pl.isList.at λo e=>td _ e⟩,tr its rv,λh' tk k=>?_⟩
  have O:its.toArray.size=ts.length:=by rw[FJ];lia
  rw[O,Y];exact fin h' tk (I.kept (t':=tk) λb o e=>k b o (by simp;exact Gb (FF e)) (td _ e))
 ·obtain⟨its,rv,pl,hz⟩:=I.tuple sq;have li:=rv.length;have j:p<s.heap.objs.size:=by obtain⟨o,e,_⟩:=pl;exact FF e
  have pt:s.heap.IsTuple p its.toArray:=pl;refine GR pt ⟨s.heap.objs.size,_,_,_,_,_,_,rfl,Walks.tuple (by rw[MZ];exact I.ok.hd U) s.heap.objs.size p (Gb j) its.toArray,⟨⟨_,FK _ rfl,rfl,rfl⟩,pt.push _⟩,tr its rv,λh' tk k=>?_⟩
  have O:its.toArray.size=ts.length:=by rw[FJ];lia
  rw[O,Y];exact fin h' tk (I.kept (t':=tk) λb o e=>k b o (by simp;exact Gb (FF e)) (td _ e))
theorem qh (j:X.calm=true):CallR X (.builtin "all") (lR X.K qf):=by
 intro pins s σ H xs us Q I rv h;obtain⟨ds,M,rm,rs,x,es,ts,rfl,z,F,q⟩:=h;obtain⟨v,rfl,r⟩:=rs.one;obtain⟨u,rfl,ru⟩:=cU rv;exact call_all_walk (m8 j I rm r ru z F (g:=λts=>ts.all id) (λh' tk I'=>⟨.bl _,H,I',rfl,q _ H Ext.refl rm (OK.mpr rfl)⟩) (λn tr=>(Hx n).all tr) range_all.1)
theorem qi (j:X.calm=true):CallR X (.builtin "any") (lR X.K qg):=by
 intro pins s σ H xs us Q I rv h;obtain⟨ds,M,rm,rs,x,es,ts,rfl,z,F,q⟩:=h;obtain⟨v,rfl,r⟩:=rs.one;obtain⟨u,rfl,ru⟩:=cU rv;exact call_any_walk (m8 j I rm r ru z F (g:=λts=>ts.any id) (λh' tk I'=>⟨.bl _,H,I',rfl,q _ H Ext.refl rm (OK.mpr rfl)⟩) (λn tr=>(Hx n).any tr) range_all.2)
theorem ve {op op':LN}{a b c:Expr}{pos:Pos}(ho:OpR X (G6 op) (l2 X.K r))(j:OpR X (G6 op') (l2 X.K r'))(hr:au r)(z:au r')(ma:ae ta)(mb:ae tb)(mc:ae tc)(F:PE X a (lE X.K ta))(J:PE X b (lE X.K tb))(L:PE X c (lE X.K tc))(hm:KW [op,op'] [b,c]=false) :
 PE X (.Compare a [op,op'] [b,c] pos) (lE X.K (bM r r' ta tb tc)):=PE.imp (u8 ho j F J L hm) (iD hr z ma mb mc)
theorem vf {op op':LN}{a b c:Expr}{pos:Pos}(ho:OpR X (G6 op) (l2 X.K r))(z:OpR X (G6 op') (l2 X.K r'))(hr:au r)(j:au r')(ma:ae ta)(mb:ae tb)(mc:ae tc)(F:PE X a (lE X.K ta))(J:PE X b (lE X.K tb))(L:PE X c (lE X.K tc))(hm:KW [op,op'] [b,c]=false) :
 PT X (.Compare a [op,op'] [b,c] pos) (lT X.K (cQ (bM r r' ta tb tc))):=PT.imp (u9 ho z F J L hm) λσ H Q h=>iD hr j ma mb mc σ H _ (lw (eW hr j ma mb mc) σ H Q h)
end
end
end Mi
namespace Srt
end Srt
namespace Srt
end Srt
namespace Srt
end Srt
namespace Srt
end Srt
namespace Srt
end Srt
namespace Srt
end Srt
namespace Srt
end Srt
namespace Srt
end Srt
namespace It
end It
namespace It
end It
namespace It
end It
namespace Mi
open L2.Srt
end Mi
namespace Mi
open L2.Srt
end Mi
namespace Mi
end Mi
namespace Mi
end Mi
namespace Mi
end Mi
namespace Mi
end Mi
namespace Mi
end Mi
namespace Dk
end Dk
namespace Mi
open L2.Srt
end Mi
namespace Mi
end Mi
namespace Mi
end Mi
namespace Mi
end Mi
namespace Mi
end Mi
namespace Mi
end Mi
namespace Mi
end Mi
namespace Mi
end Mi
namespace Mi
end Mi
namespace Mi
open L2.Srt
end Mi
namespace Srt
open AutoSeq1 (wpAny_loadPart')
open MeetsSeq MeetsSeq2 MeetsSeq3
end Srt
namespace Srt
end Srt
namespace Mi
open L2.Srt
end Mi
namespace ST
end ST
namespace ST
noncomputable abbrev Srt (l:List Nat):Prop:=l.Pairwise (· < ·)
noncomputable abbrev En:=Nat×Int×h8
end ST
namespace ST
end ST
namespace ST
end ST
namespace ST
end ST
namespace ST
end ST
namespace ST
end ST
namespace ST
end ST
namespace ST
end ST
namespace ST
end ST
namespace ST
end ST
namespace ST
end ST
namespace ST
end ST
namespace ST
end ST
namespace Mi
open L2.Srt
end Mi
namespace Mi
end Mi
namespace Mi
section
variable {X:Cx}
theorem RDs.strs_eq {K:Frag}{H:Hp}:∀ {ns:List Str} {vs:List V},RDs K H (ns.map D.str) vs->vs=ns.map V.str
 |[],vs,h=>RDs.nil_iff.mp h
 | n::ns,vs,h=>by
   obtain⟨v,r,rfl,h1,h2⟩:=OM.mp h;rw[OJ.mp h1,RDs.strs_eq h2];rfl
end
end Mi
namespace It
end It
namespace Mi
end Mi
section
section
variable {X:Cx}
def PF (X:Cx) (es:List Expr) (t:Str->TE):Prop :=
 ∀ (acc:Str) (pins:List (Addr×Obj)) (s:Ft) (σ:St) (H:Hp) (Q:VK),Inv X pins σ H s->t acc σ H Q ->
  Joins (model X.prog X.w) X.A X.xe (evalEach es X.env) acc (λout s1=>out.length<=Fz/\EP X pins σ Q (.str out s1.toks) { s1 with toks:=s1.toks+1 }) s
noncomputable def Bw (acc:Str):TE:=λ_ H Q=>acc.length<=Fz/\Q (.str acc) H
noncomputable def By (te:TE) (tr:Str->TE) (acc:Str):TE:=λσ H Q=>te σ H λx H1=>∃ y,x = .str y/\(acc++y).length<=Fz/\tr (acc++y) σ H1 Q
theorem A0:PF X [] Bw:=λacc pins s σ H Q I g9=>(by obtain⟨j,q⟩:=g9;exact⟨j,.str acc,H,I.tok _,⟨_,rfl⟩,q⟩)
theorem jj {e:Expr}{tr:Str->TE}(he:PE X e te)(hr:PF X es tr):PF X (e::es) (By te tr):=by
 intro acc pins s σ H Q I h;refine thn (he pins s σ H _ I h) λv s1 j=>?_;obtain⟨x,H1,z,F,y,hx,J,q⟩:=j;subst hx;obtain⟨t,rfl⟩:=F;exact⟨y,t,rfl,J,hr _ pins s1 σ H1 Q z q⟩
theorem xZ {j z:Expr}{t:Str->TE}(h:PF X (j::z::es) t):PE X (.JoinedStr (j::z::es) pos) (t KY) :=
 λpins s σ H Q I q=>wpAny_JoinedStr (h _ pins s σ H Q I q)
noncomputable def CF (te:TE):TE:=λσ H Q=>te σ H λx H1=>(∃ y:Str,x = .str y/\y.length<=Fz/\Q (.str y) H1)∨∃ i:Int,x = .int i/\i.natAbs.log2<1920/\Q (.str (Hh i)) H1
theorem A1 {e:Expr}(h:PE X e te):PE X (.FormattedValue e (-1) none pos) (CF te):=by
 intro pins s σ H Q I q;refine wpAny_FormattedValue_plain (thn (h pins s σ H _ I q) λv s1 L=>?_);obtain⟨x,H1,z,J,j⟩:=L
 rcases j with⟨y,rfl,F,j⟩|⟨i,rfl,F,j⟩
 ·obtain⟨t,rfl⟩:=J;exact wpAny_formatField_str ⟨.str y,H1,z,⟨_,rfl⟩,j⟩ ⟨.str y,H1,z.tok _,⟨_,rfl⟩,j⟩ F
 ·obtain⟨t,rfl⟩:=J;exact wpAny_formatField_int F ⟨.str _,H1,z.tok _,⟨_,rfl⟩,j⟩
noncomputable def wk:V->List V->Hp->VK->Prop:=λx vs H Q=>∃ (x0:Str) (b:Addr) (ys:List Str),x = .str x0/\vs=[.ref b]/\H b=some (.lst (ys.map .str))/\(ys.map (·.length)).sum+ys.length*x0.length<=16777216/\Q (.str (Ma x0 ys)) H
theorem eh:∀ {ys:List Str} {us:List h8},Vals (ys.map V.str) us->StrsAre us ys
 |[],_,.nil=>.nil
 |y::ys,_,.cons ⟨t,e⟩ r=>by subst e;exact .cons y t (eh r)
theorem y9:MtM X "str.join" wk:=by
 intro pins s σ H x vs v us Q I rx rv h;obtain⟨x0,b,ys,rfl,rfl,j,z,q⟩:=h;obtain⟨t,rfl⟩:=rx;obtain⟨u,rfl,ru⟩:=rv.one
 cases ru
 obtain⟨its,r,F,J⟩:=I.list (SqL.of j);exact join_list F.isList (eh r) z λt' k=>⟨.str _,H,I.tok _,⟨_,rfl⟩,q⟩
end
namespace Mi
section
variable {X:Cx}
noncomputable def kE:RAd:=λxs M Q=>∃ i:Int,xs=[.int i]/\i.natAbs.log2<1920/\Q (.str (Hh i)) M
theorem jT:aO kE:=λ_ _ _ _ h j=>(by obtain⟨i,e,z,q⟩:=j;exact⟨i,e,z,h _ _ q⟩)
theorem qj:CallR X (.type "str") (lR X.K kE):=by
 refine CallR.of kW λvs H Q h=>?_;obtain⟨ds,M,rm,rs,i,rfl,z,q⟩:=h;obtain⟨v,rfl,r⟩:=rs.one
 cases OI.mp r
 exact⟨i,rfl,z,q _ H Ext.refl rm (OJ.mpr rfl)⟩
noncomputable def kF (to te:TEd):TEd:=λρ M Q=>to ρ M λx M1=>(∃ x0,x = .str x0)/\te ρ M1 λy M2=>∃ (x0:Str) (b:Addr) (ys:List Str),x = .str x0/\y = .ref b/\M2 b=some (.lst (ys.map .str))/\(ys.map (·.length)).sum+ys.length*x0.length<=16777216/\Q (.str (Ma x0 ys)) M2
theorem sB {to te:TEd}(mo:ae to)(me:ae te):ae (kF to te):=λρ M Q Q' i q =>
 mo _ _ _ _ (λx Y j=>(by obtain⟨e,F⟩:=j;exact⟨e,me _ _ _ _ (λy Z j=>(by obtain⟨x0,b,ys,J,L,O,z,U⟩:=j;exact⟨x0,b,ys,J,L,O,z,i _ _ U⟩)) F⟩)) q
theorem RDs.strs {K:Frag}{H:Hp}:∀ {ys:List Str} {vs:List V},RDs K H (ys.map .str) vs->vs=ys.map .str
 |[],_,h=>h
 |y::ys,_,⟨v,r,e,h1,h2⟩=>by subst e;rw[RDs.strs h2,OJ.mp h1];rfl
theorem sC {K:Frag}{to te:TEd}(mo:ae to)(me:ae te)(σ:St)(H:Hp)(Q:VK)(h:lE K (kF to te) σ H Q):tBM K "str" wk (lE K to) (lA K (aI te bo)) σ H Q:=by
 obtain⟨ρ,M,rs,rm,q⟩:=h;refine⟨ρ,M,rs,rm,mo _ _ _ _ (λx Y g9 v H1 O F rd1=>?_) q⟩;obtain⟨⟨x0,e⟩,Z⟩:=g9;subst e
 cases OJ.mp rd1
 refine⟨rfl,ρ,Y,rs.mono (O.stab rm),F,me _ _ _ _ (λy M2 J vs H2 x2 j L=>?_) Z⟩;obtain⟨EI,b,ys,e1,e2,e3,z,J⟩:=J
 cases e1
 subst e2;obtain⟨v,rfl,r⟩:=L.one
 cases OL.mp r
 obtain⟨us,U,ru⟩:=j _ _ e3;rw[RDs.strs ru]at U;exact⟨x0,b,ys,rfl,rfl,U,z,J _ H2 (O.trans x2) j (OJ.mpr rfl)⟩
end
end Mi
end
section
section
variable {X:Cx}
noncomputable def sF:V->List V->Hp->VK->Prop:=λx vs H Q=>∃ x0 y0:Str,x = .str x0/\vs=[.str y0]/\(y0.length==0)=false/\x0.length+2<=Fz /\ ∀ q,H q=none->Q (.ref q) (upd H q (.lst ((FC x0 y0).map .str)))
theorem jU:∀ {l:List (Str×Tok)},Vals ((l.map (·.1)).map V.str) (strValues l)
 |[]=>.nil
 |(a,t)::l=>.cons ⟨t,rfl⟩ (jU (l:=l))
theorem vg:MtM X "str.split" sF:=by
 intro pins s σ H x vs v us Q I rx rv h;obtain⟨x0,j,rfl,rfl,L,O,q⟩:=h;obtain⟨t,rfl⟩:=rx;obtain⟨u,rfl,ru⟩:=rv.one;obtain⟨J,rfl⟩:=ru;have hle:(FC x0 j).length<=Fz:=Gn (split_le x0 j) O;have key:∀ (l:List (Str×Tok)) (k:Nat),l.map (·.1)=FC x0 j->EP X pins σ Q (.ref s.heap.objs.size) { s with heap:=s.heap.push { cls:=.type "list",data:=.seq (strValues l).toArray },toks:=k }:=λl k e=>by
  have ev:Vals ((FC x0 j).map V.str) (strValues l):=by rw[<- e];exact jU
  refine⟨.ref s.heap.objs.size,_,I.laid (t':=k) (o:=.lst ((FC x0 j).map .str)) (λb ob q=>td _ q) (FE _) ?_,rfl,q _ (I.hok.fresh (FE _))⟩;exact⟨by rw[FO];exact hle,_,0,ev,FK _ rfl⟩
 have U:x0.length<=Fz:=by lia
 cases h1:(decide (x0.length<j.length) || decide (Mt x0<Mt j))
 ·cases hf:(GF x0 j 0 x0.length (x0.length+1)).isEmpty
  ·have z:KQ x0 (GF x0 j 0 x0.length (x0.length+1)) j.length=FC x0 j:=by
    unfold FC;rw[if_neg (by rw[h1];nofun),if_neg (by rw[hf];nofun)]
   refine Ii La (Jn _ _ _) KI (Kq _ _) (meets_str_split_sep x0 j t J h1 L hf U (by rw[z];exact hle)) ?_
   show wants (EP X pins σ Q) X.xe _ { s with toks:=_,heap:=s.heap.push { cls:=.type "list",data:=.seq (strsFrom s.toks (KQ x0 (GF x0 j 0 x0.length (x0.length+1)) j.length)).toArray } }
   rw[strsFrom_eq];exact key (numbered s.toks _) _ ((numbered_texts _ _).trans z)
  ·have z : [x0]=FC x0 j:=by unfold FC;rw[if_neg (by rw[h1];nofun),if_pos hf]
   exact Ii La (Jn _ _ _) KI (Kq _ _) (meets_str_split_not_found x0 j t J h1 L hf) (key [(x0,t)] _ z)
 ·have z : [x0]=FC x0 j:=by unfold FC;rw[if_pos h1]
  exact Ii La (Jn _ _ _) KI (Kq _ _) (meets_str_split_cannot_occur x0 j t J h1) (key [(x0,t)] _ z)
noncomputable def cJ (x y:Str):List Str:=[(Gh x y).1,(Gh x y).2.1,(Gh x y).2.2]
noncomputable def wl:V->List V->Hp->VK->Prop:=λx vs H Q=>∃ x0 y0:Str,x = .str x0/\vs=[.str y0]/\(y0.length==0)=false/\x0.length<=Fz /\ ∀ q,H q=none->Q (.ref q) (upd H q (.tup ((cJ x0 y0).map .str)))
theorem ya:MtM X "str.partition" wl:=by
 intro pins s σ H x vs v us Q I rx rv h;obtain⟨x0,j,rfl,rfl,z,J,q⟩:=h;obtain⟨t,rfl⟩:=rx;obtain⟨u,rfl,ru⟩:=rv.one;obtain⟨L,rfl⟩:=ru;refine Ii F.slot_str_partition (Jn _ _ _) F.entry_str_partition (F.args_str_partition_2 _ _) (meets_str_partition x0 j t L z J) ?_;have key:∀ (a b c:Tok) (k:Nat),EP X pins σ Q (.ref s.heap.objs.size) { s with heap:=s.heap.push { cls:=.type "tuple",data:=.seq [.str (Gh x0 j).1 a,.str (Gh x0 j).2.1 b,.str (Gh x0 j).2.2 c].toArray },toks:=k }:=λa b c k=>by
  refine⟨.ref s.heap.objs.size,_,I.laid (t':=k) (o:=.tup ((cJ x0 j).map .str)) (λb ob q=>td _ q) (FE _) ?_,rfl,q _ (I.hok.fresh (FE _))⟩;refine⟨by rw[Fy];simp[cJ],[.str (Gh x0 j).1 a,.str (Gh x0 j).2.1 b,.str (Gh x0 j).2.2 c],.cons ⟨_,rfl⟩ (.cons ⟨_,rfl⟩ (.cons ⟨_,rfl⟩ .nil)),JC _ _⟩
 unfold Gh at key
 revert key
 cases GF x0 j 0 x0.length 1 with
 |nil=>intro key;exact key _ _ _ _
 |cons i r=>intro key;exact key _ _ _ _
noncomputable def om:V->List V->Hp->VK->Prop:=λx vs H Q=>∃ x0 y0:Str,x = .str x0/\vs=[.str y0]/\Q (.bl (Jy x0 y0)) H
theorem sH:MtM X "str.startswith" om:=by
 intro pins s σ H x vs v us Q I rx rv h;obtain⟨x0,j,rfl,rfl,q⟩:=h;obtain⟨t,rfl⟩:=rx;obtain⟨u,rfl,ru⟩:=rv.one;obtain⟨z,rfl⟩:=ru;exact SC.startswith ⟨.bl _,H,I,rfl,q⟩
theorem sJ:CallR X (.type "int") (λxs H Q=>∃ (x:Str) (n:Int),xs=[.str x]/\Mb x=some n/\x.length<=640/\Q (.int n) H):=by
 intro pins s σ H xs us Q I r h;obtain⟨x,n,rfl,e,j,q⟩:=h;obtain⟨u,rfl,rx⟩:=cU r;obtain⟨t,rfl⟩:=rx;exact PySem.W.KIN.call_text e j ⟨.int _,H,I.tok _,⟨_,rfl⟩,q⟩
noncomputable def CG:V->Option Int->Option Int->Hp->VK->Prop:=λx lo hi H Q=>∃ (x0:Str) (i:Int),x = .str x0/\lo=some i/\hi=none/\x0.length<=Fz/\Q (.str (Hc x0 (some i) none)) H
theorem A2:SlR X CG:=by
 intro pins s σ H x v vl vu lo hi sl Q I rx hs pl pu h;obtain⟨x0,i,rfl,rfl,rfl,j,q⟩:=h;obtain⟨t,rfl⟩:=rx
 cases pl with
 | int _ ui =>
   cases pu
   refine⟨"str",_,F.slot_str_getitem.lookup,Jn _ _ _,Lb (l:=some (i,ui)) (u:=none) (st:=none) hs rfl (post_val_or_str ⟨Gn (Kb x0 _ _) j,λt' k=>?_⟩)⟩;exact⟨.str _,H,I.tok _,⟨_,rfl⟩,q⟩
noncomputable def Its (x:Str):It:=⟨λi _=>i<x.cps.size,λi H v H'=>H'=H /\ ∃ c,x.cps[i]? = some c/\v = .str ⟨#[c]⟩,λi _=>x.cps.size<=i⟩
theorem iE {tg:Expr}{St:Nat->Heap->Prop}{n:String}(W:∀ A':G3,A'.handled=none->Walks P w A' it [it] [it] x.cps.size (SignAt x) St)(hs:∀ i h,St i h -> ∃ o vs,h.get? it=some o/\o.cls = .type n/\o.data = .fields vs)(he:∀ (A':G3),A'.handled=none -> ∀ (i:Nat) (s:Ft) (Q:Option h8->Ft->Prop) (E:h8->Ft->Prop),x.cps.size<=i->St i s.heap->(∀ h',(∀ b o,b≠it->s.heap.get? b=some o->h'.get? b=some o)->Q none { s with heap:=h' })->FG (model P w) A' (Kg (.ref it)) Q E s)(j:∀ (A:G3) (i:Nat) (s:Ft) (Q:h8->Ft->Prop) (E:h8->Ft->Prop),St i s.heap->Q (.ref it) s->FG (model P w) A (MK (.ref it)) Q E s)(hn : ["enumerate","zip","dict_itemiterator","dict_reverseitemiterator","odict_iterator","itertools.zip_longest","itertools.pairwise"].contains n=false):fq P w K tg (Its x) [it] it St where
 mem:=by simp
 obj:=λi h st b F=>by
  have e:b=it:=by simpa using F
  subst e;obtain⟨o,vs,e,c,d⟩:=hs i h st;exact⟨o,e,λv z=>by rw[d]at z;cases z⟩
 keep:=λi h h' st k=>(W { units:=0,handled:=none } rfl).frame i h h' st k
 item:=by
  intro X J hw L O i pins s σ H E I hf st hg;subst J hw L;obtain⟨f0,f1,f2,U,f4,Y⟩:=hf it (by simp)
  refine(W X.A (I.ok.hd O)).item i s _ E hg st λv h' tk hv st' sb=>?_;obtain⟨c,u,Z,rfl⟩:=hv;have I1:Inv X pins σ H { s with heap:=h',toks:=tk }:=I.turned (t':=tk) (λb o F e=>sb b o (by simpa using F) e) f0 f1 U f4 Y
  obtain⟨o,vs,e,c',d⟩:=hs _ _ st';exact⟨_,rfl,kn (s:={ s with heap:=h',toks:=tk }) e c' d hn ⟨.str _,H,I1,⟨_,rfl⟩,⟨rfl,c,Z,rfl⟩,st',λb F=>(hf b F).1⟩⟩
 done:=by
  intro X J hw L O i pins s σ H E I hf st hg;subst J hw L;obtain⟨f0,f1,f2,U,f4,Y⟩:=hf it (by simp)
  exact he X.A (I.ok.hd O) i s _ E hg st λh' sb=>⟨rfl,I.turned (t':=s.toks) (λb o F e=>sb b o F e) f0 f1 U f4 Y⟩
 self:=j
theorem gJ {n:String}{t:Tok}(i:Nat)(h:Heap)(st:h.IsStrIter it n x t i):∃ o vs,h.get? it=some o/\o.cls = .type n/\o.data = .fields vs:=by
 obtain⟨o,a,b,c⟩:=st;exact⟨o,_,a,b,c⟩
noncomputable def A3 (ta:TE):TI:=λσ H R=>ta σ H λx H1=>∃ x0,x = .str x0/\R (Its x0) H1
theorem vh {tg l:Expr}{ta:TE}(L:PE X l ta):PI X tg l (A3 ta):=by
 intro pins s σ H R I h;refine thn (L pins s σ H _ I h) λv s1 O=>?_;obtain⟨x,H1,F,U,Y⟩:=O;obtain⟨x0,rfl,q⟩:=Y;obtain⟨t,rfl⟩:=U;have fp:∀ b∈[s1.heap.objs.size],bT X pins H1 b:=λb z=>by
  have e:b=s1.heap.objs.size:=by simpa using z
  subst e;exact F.fpOk (FE _) (F.hok.fresh (FE _))
 cases ha:x0.cps.all (· < 128)
 ·refine wpAny_pyIter_wide ha ?_;refine⟨s1.heap.objs.size,[s1.heap.objs.size],_,_,H1,rfl,F.kept (t':=s1.toks) λb o e=>td _ e,iE (n:="str_iterator") (λA' j=>Walks.strWide j _ x0 t) gJ (λA' j i s Q E hi st J=>wpAny_pyNext_wide_end j st (by simpa using hi) λh' he=>J h' λb o z e=>he b o z e) (λ_ _ _ _ _ st h=>wpAny_pyIter_striter_wide st h) (by decide),⟨_,FK _ rfl,rfl,rfl⟩,fp,q⟩
 ·refine wpAny_pyIter_ascii ha ?_;refine⟨s1.heap.objs.size,[s1.heap.objs.size],_,_,H1,rfl,F.kept (t':=s1.toks) λb o e=>td _ e,iE (n:="str_ascii_iterator") (λA' j=>Walks.strAscii j _ x0 t) gJ (λA' j i s Q E hi st J=>wpAny_pyNext_ascii_end j st (by simpa using hi) λh' he=>J h' λb o z e=>he b o z e) (λ_ _ _ _ _ st h=>wpAny_pyIter_striter_ascii st h) (by decide),⟨_,FK _ rfl,rfl,rfl⟩,fp,q⟩
end
end
namespace En
open Sem (wp)
variable {T:String}
section
variable {prog:FT} {w:G8} {A:G3} {E:h8->Ft->Prop} {s:Ft}
theorem nK {newId initId:String}{Bn Bi:Jj}{args:List h8}{kw:List (Str×h8)}{S:PySem.Spec}{Q Q₁:h8->Ft->Prop}(ft:TypeCalled T newId initId)(Z:checkTypeCall T ⟨args,kw⟩=pure ())(J:IZ newId ⟨.type T::args,kw⟩=pure ())(entryN:entryFor table newId=some Bn)(entryI:entryFor table initId=some Bi)(g:Ou (Bn ⟨.type T::args,kw⟩) S)(h:S A.in1 (wants Q₁ E) s)(j:∀ obj s₁,Q₁ obj s₁ -> s₁.TypeIs obj T/\argsOk initId ⟨obj::args,kw⟩ /\ ∃ Si,Ou (Bi ⟨obj::args,kw⟩) Si/\Si A.in1 (wants (λr s₂=>r = .none/\Q obj s₂) E) s₁) :
 FG (model prog w) A (call (.type T) args kw) Q E s:=by
 obtain⟨c,tl,U⟩:=ft.mro;have L:=ft.made;have Y:=ft.sub;refine JD (LD ?_);show FG _ _ (callAny (.type T) _) _ _ _;refine Fv ⟨Kr _ (by decide +kernel),codeAny_builtin F.entry_type_call ?_⟩
 rw[Around.under_plain (weight_type_call_type T args kw) (units_type_call_type T args kw)];have h1:=ft.notType;have h2:=ft.canCreate
 repeat (any_goals (first|assumption|wp_step))
 refine I0 (Ht ft.plain entryN (O1 J (g prog w A.in1 _ s h))) λr s₁ hr=>?_
 cases r with
 |error e=>exact hr
 | ok fl =>
   cases fl with
   | ret obj =>
     obtain⟨hT,hok,Si,gi,O⟩:=j _ _ hr;have EI:=ft.init.lookup;have EJ:=ft.init.bind obj
     repeat (any_goals (first|assumption|wp_step))
     refine I0 (Ht ft.init.plain entryI (ft.init.check _ _ _ _ _ _ _ _ hT hok (gi prog w A.in1 _ s₁ O))) λr₂ s₂ z=>?_
     cases r₂ with
     |error e=>exact z
     | ok fl₂ =>
       cases fl₂ with
       | ret r =>
         obtain⟨rfl,hq⟩:=z
         repeat (any_goals (first|assumption|wp_step))
       |_=>exact z.elim
   |_=>exact hr.elim
theorem yb {newId:String}{self:h8}{rest:List h8}{k:Str×h8}(J:Oo (.type T) "__init__" = pure (some (.builtin "object.__init__")))(hm:Bind.madeBy (.type T)=pure (some newId))(z:(some newId != some "object.__new__")=true) :
 Ou (Jj.«object.__init__» ⟨self::rest,[k]⟩) (λ_ R s=>s.TypeIs self T/\R (.ok (.ret .none)) s):=by
 refine Meets.of_wp λprog w A R s F=>?_;obtain⟨L,j⟩:=F
 cases rest with
 | nil =>
   repeat (any_goals (first|assumption|wp_step))
   exact⟨_,rfl,j⟩
 | cons a rest =>
   repeat (any_goals (first|assumption|wp_step))
   exact⟨_,rfl,j⟩
open AutoSeq1 (wpAny_loadPart') in
theorem sK (l:Addr)(items:Array h8)(n:Nat)(dct:Option Addr)(sl:Array (Option h8))(t:Tok) :
 Ou (Jj.«enumerate.__new__» ⟨[.type "enumerate",.ref l],[("start",.int 1 t)]⟩) (λ_ R s=>s.heap.get? l=some { cls:=.type "list",dict:=dct,data:=.seq items n,slots:=sl } /\
  R (.ok (.ret (.ref (s.heap.push (Zp.itO false l)).objs.size))) { s with heap:=(s.heap.push (Zp.itO false l)).push { cls:=.type "enumerate",data:=.fields #[.none,.bool false,.ref s.heap.objs.size,HR 1,.none,.none] } }) :=
 .of_wp λprog w A R s h=>by
  obtain⟨J,g,d,tk,os⟩:=s;obtain⟨j,h⟩:=h;have z:=sub_enumerate;have F:KG (Ic ⟨J,g,d,tk,os⟩) l items:=⟨_,j,rfl,n,rfl⟩
  wp_walk using Hf j
  refine wpAny_stack_any λst=>Fv ?_
  split
  ·rename_i c _ _ _ _ _
   cases (c==Lj "enumerate") <;> (wp_walk using Hf j,Hb F;exact⟨_,rfl,h⟩)
  ·wp_walk using Hf j,Hb F
   exact⟨_,rfl,h⟩
end
section
variable {M:Kd} {A:G3} {E:h8->Ft->Prop} {s:Ft} {env:Env}
theorem m9 {f:h8}{x:Sem h8}{rest:List (Bool×Sem h8)}{keywords:List (Option Str×Sem h8)}{b:Bool}{Q:Args->Ft->Prop}(j:keywords.all (·.1.isSome)=true)(h:FG M A (spliced ((false,x)::rest)) (λvs s₁=>FG M A (evalAll (keywords.map (·.2))) (λkvs s₂=>Q ⟨vs,(keywords.filterMap (·.1)).zip kvs⟩ s₂) E s₁) E s) :
 FG M A (evalArgs f b ((false,x)::rest) keywords) Q E s:=by
 unfold evalArgs
 cases b <;>
 (show FG M A (spliced ((false,x)::rest) >>= _) Q E s
  refine gV (Ga h (λvs s' h'=>?_) λ_ _ x=>x);refine Gp ?_;rw[if_pos j];refine gV (Ga h' (λkvs s₂ z=>?_) λ_ _ x=>x);exact gV (Fv (Fv z)))
theorem callWith_type_kw {pos:Pos}{e:Expr}{rest:List Expr}{kws:List JL}{Q:h8->Ft->Prop}(h:FG M A (spliced (GY pos (FN (e::rest) env))) (fun vs s₁=>FG M A (evalAll ((Jd pos (HE kws env)).map (·.2)))
   (λkvs s₂=>FG M A (call (.type T) vs (((Jd pos (HE kws env)).filterMap (·.1)).zip kvs)) Q E s₂) E s₁) E s)(he:GY pos (FN (e::rest) env)=(false,eval e env)::GY pos (FN rest env))(j:(GY pos (FN (e::rest) env)).any (·.1)=false)(z:(Jd pos (HE kws env)).all (·.1.isSome)=true)(F:(Jd pos (HE kws env)).any (·.1.isNone)=false) :
 FG M A (Nx pos (.type T) [] (GY pos (FN (e::rest) env)) (Jd pos (HE kws env))) Q E s:=by
 unfold Nx;rw[he]at h j ⊢;refine gV (Gp (Ga (m9 (Q:=λa s₁=>FG M A (call (.type T) a.pos a.kw) Q E s₁) z h) (λa s₁ h₁=>gV (Gu ?_)) λ_ _ x=>x));simp only[j,F,Bool.or_false];refine gV (Fv ?_);exact gV (Ga h₁ (λr s₂ hr=>gV (Gp (LU (Fv hr)))) λ_ _ x=>x)
end
section
variable {prog:FT} {w:G8} {A:G3} {E:h8->Ft->Prop} {s:Ft}
theorem call_enumS {l:Addr}{items:Array h8}{t:Tok}{Q:h8->Ft->Prop}(O:Zp.Sq false s.heap l items)(q:∀ h',KP h' (s.heap.objs.size+1) s.heap.objs.size 1 .none->Zp.At false h' s.heap.objs.size l 0->(∀ b o,s.heap.get? b=some o->h'.get? b=some o)->Q (.ref (s.heap.objs.size+1)) { s with heap:=h' }) :
 FG (model prog w) A (call (.type "enumerate") [.ref l] [("start",.int 1 t)]) Q E s:=by
 obtain⟨⟨c,dct,dt,sl⟩,U,Y,n,hd⟩:=O;have j:c = .type "list":=Y;have z:dt = .seq items n:=hd;subst j z;refine nK MY (by kernel_rfl) (by kernel_rfl) LJ F.entry_object_init (sK l items n dct sl t) (Q₁:=λobj s₁=>s₁.TypeIs obj "enumerate" /\ Q obj s₁) ⟨U,?_⟩ λobj s₁ J=>⟨J.1,by unfold argsOk;kernel_rfl,_,yb F.called_enumerate.init.lookup F.called_enumerate.made (by decide),J.1,rfl,J.2⟩
 have L:(s.heap.push (Zp.itO false l)).objs.size=s.heap.objs.size+1:=Gz ..;have e:((s.heap.push (Zp.itO false l)).push { cls:=.type "enumerate",data:=.fields #[.none,.bool false,.ref s.heap.objs.size,HR 1,.none,.none] }).get? (s.heap.push (Zp.itO false l)).objs.size=some _:=FK _ rfl;rw[L]at e;show _/\_;rw[L];exact⟨⟨_,e,rfl⟩,q _ e (Zp.at_new (td _ (FK _ rfl))) λb o x=>td _ (td _ x)⟩
end
end En
section
variable {X:Cx}
noncomputable def A4 (K:Frag) (ta:TA):TI:=λσ H R=>ta σ H λvs H1=>∃ a xs,vs=[.ref a]/\SqV K false H1 a xs/\R (Ite K false a 1) H1
theorem vj {cx}{kp np:Pos}{j:Nat}{a:Expr}(O:Gl X "enumerate")(hm:X.mg "enumerate" = none)(U:PA X [a] ta)(F:FN [a] X.env=[(false,eval a X.env)]) :
 PI X (.Tuple elts cx pos) (.Call (.Name "enumerate" p) [a] [⟨some "start",.Constant (.int 1) j np,kp⟩] pos') (A4 X.K ta):=by
 intro pins s σ H R I h;refine HH (dA I O hm (u:=.type "enumerate") boot_enumerate ?_ (by decide) (by decide))
 refine En.callWith_type_kw (thn (U pos' pins s σ H _ I h) λus s1 g9=>?_) (by rw[F];rfl) (by rw[F];rfl) rfl rfl;obtain⟨vs,H1,z,Y,Z⟩:=g9
 obtain⟨a',xs,rfl,qx,q⟩:=Z
 cases Y with
 | cons r rr =>
   cases rr
   cases r
   obtain⟨is,rx,px⟩:=z.sqv qx;refine kws_cons (MJ (kws_nil ?_));refine En.call_enumS px λh1 J i1 k1=>?_;refine KH J ?_;refine⟨_,_,_,_,H1,rfl,z.kept (t':=_) k1,jL (t:=false) (a:=a') (oo:=1) (by simp),⟨⟨_,J⟩,i1⟩,λc L=>?_,q⟩
   have hle:s1.heap.objs.size<=c:=by
    simp only[FA,FQ,or_false]at L
    rcases L with rfl|rfl <;> lia
   exact z.fpOk hle (z.hok.fresh hle)
end
namespace Mi
variable {K:Frag}{ta:TEd}{tl:TOd}{pos:Pos}
section
section
variable {X:Cx}
inductive SM where|split|part|starts
noncomputable def md:SM->D->List D->Mem->QD->Prop
 |.split=>λx ds M Q=>∃ x0 y0:Str,x = .str x0/\ds=[.str y0]/\(y0.length==0)=false/\x0.length+2<=Fz /\ ∀ q,M q=none->Q (.ref q) (af M q (.lst ((FC x0 y0).map .str)))
 |.part=>λx ds M Q=>∃ x0 y0:Str,x = .str x0/\ds=[.str y0]/\(y0.length==0)=false/\x0.length<=Fz/\Q (.tup ((cJ x0 y0).map .str)) M
 |.starts=>λx ds M Q=>∃ x0 y0:Str,x = .str x0/\ds=[.str y0]/\Q (.bl (Jy x0 y0)) M
noncomputable def A5:SM->V->List V->Hp->VK->Prop
 |.split=>sF|.part=>wl|.starts=>om
theorem jV:∀ o,dZ (md o)
 |.split=>λ_ _ _ _ _ h j=>(by obtain⟨x0,z,F,J,L,O,q⟩:=j;exact⟨x0,z,F,J,L,O,λp n=>h _ _ (q p n)⟩)
 |.part=>λ_ _ _ _ _ h j=>(by obtain⟨x0,z,F,J,L,O,q⟩:=j;exact⟨x0,z,F,J,L,O,h _ _ q⟩)
 |.starts=>λ_ _ _ _ _ h j=>(by obtain⟨x0,z,F,J,q⟩:=j;exact⟨x0,z,F,J,h _ _ q⟩)
noncomputable def wSM (rd:D->List D->Mem->QD->Prop) (to te:TEd):TEd:=λρ M Q=>to ρ M λx M1=>(∃ x0,x = .str x0)/\te ρ M1 λy M2=>rd x [y] M2 Q
theorem yc {rd:D->List D->Mem->QD->Prop}{to te:TEd}(hr:dZ rd)(mo:ae to)(me:ae te):ae (wSM rd to te):=λρ M Q Q' i q =>
 mo _ _ _ _ (λx J j=>(by obtain⟨e,z⟩:=j;exact⟨e,me _ _ _ _ (λy L F=>hr _ _ _ _ _ i F) z⟩)) q
theorem OX {K:Frag}{H:Hp}:∀ (ys:List Str),RDs K H (ys.map .str) (ys.map .str)
 |[]=>RDs.nil
 |y::ys=>RDs.cons (OJ.mpr rfl) (OX ys)
theorem CH (o:SM)(x y:D)(v u:V)(M:Mem)(H:Hp)(Q:VK)(rm:RM K M H)(rx:RD K H x v)(ry:RD K H y u)(h:md o x [y] M (KE' K M H Q)):A5 o v [u] H Q:=by
 cases o with
 | split =>
   obtain⟨x0,j,rfl,e,z,F,q⟩:=h
   cases e
   cases OJ.mp rx
   cases OJ.mp ry
   exact⟨x0,j,rfl,rfl,z,F,λp n=>dl rm (OX _) q n⟩
 | part =>
   obtain⟨x0,j,rfl,e,z,F,q⟩:=h
   cases e
   cases OJ.mp rx
   cases OJ.mp ry
   exact⟨x0,j,rfl,rfl,z,F,λp n=>cA rm (OX _) q n⟩
 | starts =>
   obtain⟨x0,j,rfl,e,q⟩:=h
   cases e
   cases OJ.mp rx
   cases OJ.mp ry
   exact⟨x0,j,rfl,rfl,q _ H Ext.refl rm (OK.mpr rfl)⟩
theorem jk (o:SM){to te:TEd}(mo:ae to)(me:ae te)(σ:St)(H:Hp)(Q:VK)(h:lE K (wSM (md o) to te) σ H Q):tBM K "str" (A5 o) (lE K to) (lA K (aI te bo)) σ H Q:=by
 obtain⟨ρ,M,rs,rm,q⟩:=h;refine⟨ρ,M,rs,rm,mo _ _ _ _ (λx L g9 v H1 J j rd1=>?_) q⟩;obtain⟨⟨x0,e⟩,O⟩:=g9;subst e
 cases OJ.mp rd1
 refine⟨rfl,ρ,L,rs.mono (J.stab rm),j,me _ _ _ _ (λy Z U vs H2 Y z F=>?_) O⟩;obtain⟨v,rfl,r⟩:=F.one;exact CH o _ _ _ _ _ _ _ z (OJ.mpr rfl) r (jV o _ _ _ _ _ (λd M' k=>k.ext (J.trans Y)) U)
noncomputable def qk:R2d:=λx y M Q=>∃ (x0:Str) (i:Int) (c:Nat),x = .str x0/\y = .int i/\x0.length<=Fz/\atI x0.cps.toList i=some c/\Q (.str ⟨#[c]⟩) M
theorem mf:au qk:=λ_ _ _ _ _ h j=>(by obtain⟨x0,i,c,z,F,J,L,q⟩:=j;exact⟨x0,i,c,z,F,J,L,h _ _ q⟩)
theorem Bz:IxR X (l2 X.K qk):=by
 refine IxR.of zu λv u H Q h=>?_;obtain⟨x,y,M,rm,rx,ry,x0,i,c,rfl,rfl,j,e,q⟩:=h
 cases OJ.mp rx
 cases OI.mp ry
 exact⟨x0,i,c,rfl,rfl,j,e,q _ H Ext.refl rm (OJ.mpr rfl)⟩
noncomputable def ql (te:TEd) (tl:TOd):TEd:=λρ M Q=>te ρ M λx M1=>tl ρ M1 λl M2=>∃ (x0:Str) (i:Int),x = .str x0/\l=some i/\x0.length<=Fz/\Q (.str (Hc x0 (some i) none)) M2
theorem vk (m:ae ta)(ml:cm tl):ae (ql ta tl):=λρ M Q Q' i q =>
 m _ _ _ _ (λx Y z=>ml _ _ _ _ (λl Z F=>(by obtain⟨x0,j,J,L,O,U⟩:=F;exact⟨x0,j,J,L,O,i _ _ U⟩)) z) q
theorem A6 {e:Expr}{lo:Option Expr}{p2:Pos}(m:ae ta)(ml:cm tl)(he:PE X e (lE X.K ta))(O:PO X lo (lO X.K tl)) :
 PE X (.Subscript e (.Slice lo none none p2) pos) (lE X.K (ql ta tl)):=by
 refine PE.imp (gM A2 he O j6) λσ H Q h=>?_;obtain⟨ρ,M,rs,rm,q⟩:=h;refine⟨ρ,M,rs,rm,m _ _ _ _ (λx U Y v H1 L j z=>?_) q⟩;refine⟨ρ,U,rs.mono (L.stab rm),j,ml _ _ _ _ (λl M2 F H2 Z J=>?_) Y⟩;obtain⟨x0,i,rfl,rfl,hz,F⟩:=F
 cases OJ.mp z
 exact⟨x0,i,rfl,rfl,rfl,hz,F _ H2 (L.trans Z) J (OJ.mpr rfl)⟩
noncomputable def kG:RAd:=λxs M Q=>∃ (x:Str) (n:Int),xs=[.str x]/\Mb x=some n/\x.length<=640/\Q (.int n) M
theorem jW:aO kG:=λ_ _ _ _ h j=>(by obtain⟨x,n,e,z,F,q⟩:=j;exact⟨x,n,e,z,F,h _ _ q⟩)
theorem nL:CallR X (.type "int") (lR X.K kG):=by
 refine CallR.of sJ λvs H Q h=>?_;obtain⟨ds,M,rm,rs,x,n,rfl,e,j,q⟩:=h;obtain⟨v,rfl,r⟩:=rs.one
 cases OJ.mp r
 exact⟨x,n,rfl,e,j,q _ H Ext.refl rm (OI.mpr rfl)⟩
noncomputable def kH:RAd:=λxs M Q=>∃ (x:Str),xs=[.str x]/\x.length<=Fz/\Q (.int (x.length:Nat)) M
theorem jX:aO kH:=λ_ _ _ _ h j=>(by obtain⟨x,e,z,q⟩:=j;exact⟨x,e,z,h _ _ q⟩)
theorem nM:CallR X (.builtin "len") (lR X.K kH):=by
 refine CallR.of kX λvs H Q h=>?_;obtain⟨ds,M,rm,rs,x,rfl,j,q⟩:=h;obtain⟨v,rfl,r⟩:=rs.one
 cases OJ.mp r
 exact⟨.str x,_,rfl,⟨j,rfl⟩,q _ H Ext.refl rm (OI.mpr rfl)⟩
noncomputable def iF:R2d:=λx y M Q=>∃ x0 y0:Str,x = .str y0/\y = .str x0/\Q (.bl (Txt.contains x0 y0)) M
theorem qm:au iF:=λ_ _ _ _ _ h j=>(by obtain⟨x0,z,F,J,q⟩:=j;exact⟨x0,z,F,J,h _ _ q⟩)
theorem qo:OpR X (G6 .In) (l2 X.K iF):=by
 refine OpR.of rl λv u H Q h=>?_;obtain⟨x,y,M,rm,rx,ry,x0,j,rfl,rfl,q⟩:=h
 cases OJ.mp rx
 cases OJ.mp ry
 exact⟨j,x0,rfl,rfl,q _ H Ext.refl rm (OK.mpr rfl)⟩
noncomputable def mj:D->Bool
 |.non=>true
 |.tup _=>true
 |_=>false
noncomputable def kJ:D->Bool
 |.non=>true
 |_=>false
noncomputable def iG:R2d:=λx y M Q=>∃ (a:Addr) (ds:List D),x = .non/\y = .ref a/\M a=some (.lst ds)/\ds.all mj=true/\Q (.bl (ds.any kJ)) M
theorem qq:au iG:=λ_ _ _ _ _ h j=>(by obtain⟨a,ds,z,F,J,L,q⟩:=j;exact⟨a,ds,z,F,J,L,h _ _ q⟩)
theorem ou {K:Frag}{H:Hp}:∀ {ds:List D} {vs:List V} {us:List h8},RDs K H ds vs->Vals vs us->ds.all mj=true->us.any (λu=>u == .none)=ds.any kJ
 |[],_,_,h,q,_=>by rw[RDs.nil_iff.mp h]at q;cases q;rfl
 | d::ds,_,_,h,q,a=>by
   obtain⟨v,r,rfl,h1,h2⟩:=OM.mp h;rw[Jf,hX]at a
   cases q with
   | cons j z =>
     rw[Ij,Ij,ou h2 z a.2];congr 1
     cases d with
     |non=>cases ON.mp h1;cases j;rfl
     |tup es=>obtain⟨b,us,rfl,_⟩:=OO h1;cases j;rfl
     |_=>cases a.1
theorem BA {A:G3}{s:Ft}:SeqAt.EqAt A s .none .none true:=by
 intro prog w E Q h;unfold eqBool;refine Gp ?_;refine wpAny_ite_true rfl ?_;exact gV (IJ (Fv h))
theorem qr (J:X.A.units+1<LP):OpR X (G6 .In) (l2 X.K iG):=by
 intro pins s σ H v w u t Q I ru rt h;obtain⟨x,y,M,rm,rx,ry,a,ds,rfl,rfl,e,ok,q⟩:=h
 cases ON.mp rx
 cases OL.mp ry
 cases ru
 cases rt
 obtain⟨vs,L,rs⟩:=rm _ _ e;obtain⟨its,r,pl,Y⟩:=I.list (SqL.of L);refine SeqAt.in_listAt (λu=>u == .none) pl.isList (λw hw=>?_) ⟨.bl _,H,I,rfl,?_⟩
 ·have z:w∈its:=by simpa using hw
  obtain⟨i,hi,rfl⟩:=List.getElem_of_mem z;have Z:=r.length;have F:vs[i]? = some (vs[i]'(by lia)):=FP (by lia)
  obtain⟨u,j,rv⟩:=r.get F;rw[FP hi]at j;cases j;generalize vs[i]'(by lia)=v at F rv
  obtain⟨d,hd,rd⟩:=rs.getV F;have hok:=Gf.mp ok d (I8 hd)
  cases d with
  |non=>cases ON.mp rd;rw[show its[i] = .none from rv];exact BA
  | tup es =>
    obtain⟨b,us,rfl,O,_⟩:=OO rd;rw[show its[i] = .ref b from rv];obtain⟨is,r2,p2,_⟩:=I.tuple O;exact SeqAt.EqAt.tuple_none p2 J
  |_=>cases hok
 ·have U:=ou rs r ok;rw[show its.toArray.any (λu=>u == .none)=its.any (λu=>u == .none) by simp,U]
  exact q _ H Ext.refl rm (OK.mpr rfl)
noncomputable def fL (x:Str):List D:=x.cps.toList.map λc=>.str ⟨#[c]⟩
noncomputable def iH (ta:TEd):TId:=λρ M R=>ta ρ M λx M1=>∃ x0,x = .str x0/\R (fL x0) (λ_=>True) M1
theorem qt (h:ae ta):bx (iH ta):=λρ M Q Q' i q=>h _ _ _ _ (λx F j=>(by obtain⟨x0,e,z⟩:=j;exact⟨x0,e,i _ _ _ z⟩)) q
theorem A7 {H1:Hp}{x:Str}:eR K H1 (fL x) (λ_=>True) (Its x):=λM H st rm c i=>by
 have l:(fL x).length=x.cps.size:=by simp[fL]
 refine⟨λhi=>by show _<=_;lia,λhi=>⟨by show _<_;lia,λv H' j=>?_⟩⟩
 obtain⟨rfl,c,z,rfl⟩:=j;exact⟨.inl rfl,.str ⟨#[c]⟩,by simp[fL,z],OJ.mpr rfl⟩
theorem vm {tg l:Expr}(m:ae ta)(F:PE X l (lE X.K ta)):PI X tg l (lI X.K (iH ta)):=by
 refine PI.imp (vh F) λσ H R h=>?_;obtain⟨ρ,M,rs,rm,q⟩:=h;refine⟨ρ,M,rs,rm,m _ _ _ _ (λx O g9 v H1 L j z=>?_) q⟩;obtain⟨x0,e,J⟩:=g9;subst e;exact⟨x0,OJ.mp z,J _ H1 L j A7⟩
noncomputable def dG (xs:List D):List D:=xs.mapIdx λi x=>.tup [.int ((i:Nat)+1),x]
noncomputable def iI (ta:TEd):TId:=λρ M R=>ta ρ M λx M1=>∃ a xs,x = .ref a/\M1 a=some (.lst xs)/\R (dG xs) (λM=>aJ M (.ref a)=some xs) M1
theorem qw (h:ae ta):bx (iI ta):=λρ M Q Q' i q=>h _ _ _ _ (λx J j=>(by obtain⟨a,ds,e,z,F⟩:=j;exact⟨a,ds,e,z,i _ _ _ F⟩)) q
theorem yd {H1:Hp}{xs:List D}{a:Addr}:eR K H1 (dG xs) (λM=>aJ M (.ref a)=some xs) (Ite K false a 1):=λM H st rm c i=>by
 obtain⟨U,vs,L,j,J⟩:=dF rm (OL.mpr rfl) c
 cases L
 have l1:=J.length;have lz:(dG xs).length=xs.length:=by simp[dG]
 refine⟨λhi=>⟨vs,j,by lia⟩,λhi=>⟨⟨vs,vs[i]'(by lia),j,FP (by lia)⟩,λv H' O=>?_⟩⟩
 obtain⟨p,v1,n,rfl,rfl,g⟩:=O;obtain⟨d1,z,F⟩:=J.getV (g vs j);have sb:=gT (o:=.tup [.int ((i:Nat)+1),v1]) n;refine⟨.inr ⟨p,[.int ((i:Nat)+1),v1],n,rfl⟩,.tup [.int ((i:Nat)+1),d1],?_,OU ⟨p,[.int ((i:Nat)+1),v1],rfl,al,RDs.cons (OI.mpr rfl) (RDs.cons (F.mono sb) RDs.nil)⟩⟩;simp[dG,IS,z]
theorem vn {elts:List Expr}{cx}{p pos' kp np:Pos}{j:Nat}{a:Expr}(ma:ae ta)(F:Gl X "enumerate")(hm:X.mg "enumerate" = none)(J:PA X [a] (lA X.K (aI ta bo)))(L:FN [a] X.env=[(false,eval a X.env)]) :
 PI X (.Tuple elts cx pos) (.Call (.Name "enumerate" p) [a] [⟨some "start",.Constant (.int 1) j np,kp⟩] pos') (lI X.K (iI ta)):=by
 refine PI.imp (vj F hm J L) λσ H R h=>?_;obtain⟨ρ,M,rs,rm,q⟩:=h;refine⟨ρ,M,rs,rm,ma _ _ _ _ (λx M1 g9 vs H1 Y z rd1=>?_) q⟩;obtain⟨a,xs,e,O,U⟩:=g9;subst e;obtain⟨v,rfl,Z⟩:=rd1.one
 cases OL.mp Z
 obtain⟨us,hu,ru⟩:=z _ _ O;exact⟨a,us,rfl,SqL.of hu,U _ H1 Y z yd⟩
end
end
section
section
variable {X:Cx}
theorem mn:OpR X (G6 .NotIn) (λx y H Q=>∃ i j,x = .str i/\y = .str j/\Q (.bl (!(!(GF j i 0 j.length 1).isEmpty))) H):=by
 intro pins s σ H x y v u Q I rx ry h;obtain⟨i,j,rfl,rfl,q⟩:=h;obtain⟨t,rfl⟩:=rx;obtain⟨t',rfl⟩:=ry;exact notIn_str (kT I q rfl)
noncomputable def gh:R2d:=λx y M Q=>∃ x0 y0:Str,x = .str y0/\y = .str x0/\Q (.bl (!Txt.contains x0 y0)) M
theorem nN:au gh:=λ_ _ _ _ _ h j=>(by obtain⟨x0,z,F,J,q⟩:=j;exact⟨x0,z,F,J,h _ _ q⟩)
theorem nO:OpR X (G6 .NotIn) (l2 X.K gh):=by
 refine OpR.of mn λv u H Q h=>?_;obtain⟨x,y,M,rm,rx,ry,x0,j,rfl,rfl,q⟩:=h
 cases OJ.mp rx
 cases OJ.mp ry
 exact⟨j,x0,rfl,rfl,q _ H Ext.refl rm (OK.mpr rfl)⟩
theorem iJ (k:Str):∀ {vs:List h8} {ys:List Str},StrsAre vs ys->vs.countP (Ny k)=ys.count k
 |_,_,.nil=>rfl
 | _,_,.cons n u h=>by
   rw[List.countP_cons,LG,iJ k h];rfl
theorem gW (k:Str):∀ {vs:List h8} {ys:List Str},StrsAre vs ys -> ∀ (j:Nat) (h1:j<vs.length) (h2:j<ys.length),Ny k vs[j]=(ys[j]==k)
 |_,_,.nil,j,h1,_=>absurd h1 (Nat.not_lt_zero _)
 | _,_,.cons n u h,j,h1,h2=>by
   cases j with
   |zero=>rfl
   |succ j=>exact gW k h j (Jz h1) (Jz h2)
theorem mq:∀ {vs:List h8} {ys:List Str},StrsAre vs ys->vs.length=ys.length
 |_,_,.nil=>rfl
 |_,_,.cons n u h=>by rw[FR,FR,mq h]
theorem sL {k:Str}:∀ {ns:List Str} {j:Nat},j<ns.idxOf k -> ∀ (h2:j<ns.length),(ns[j]==k)=false
 | n::r,0,h,_=>by
   by_cases e:n=k
   ·subst e;simp at h
   ·simpa using e
 | n::r,j+1,h,h2=>by
   by_cases e:n=k
   ·subst e;simp at h
   ·have z:(n==k)=false:=by simpa using e
    rw[LH,z]at h;exact sL (by simpa using h) (Jz h2)
noncomputable def sM:V->List V->Hp->VK->Prop:=λx vs H Q=>∃ (l:Addr) (ns:List Str) (k:Str),x = .ref l/\vs=[.str k]/\H l=some (.lst (ns.map V.str))/\Q (.int (ns.count k:Nat)) H
theorem vp:MtM X "list.count" sM:=by
 intro pins s σ H x vs v us Q I rx rv h;obtain⟨l,ns,k,rfl,rfl,j,q⟩:=h
 cases rx
 obtain⟨u,rfl,ru⟩:=rv.one;obtain⟨t,rfl⟩:=ru;obtain⟨z,its,n,r,L,e⟩:=I.lstM j;have hi:=eh r;refine Ii Lc ⟨_,e,rfl⟩ PySem.F.entry_list_count (PySem.F.args_list_count_2 _ _) (PySem.SeqAt.list_countAt l its.toArray n none #[] (.str k t) (Ny k)) ⟨e,λy J=>(eq_isStrOf k t hi y (by simpa using J)).at _ _,?_⟩
 rw[show its.toArray.toList=its from rfl,iJ k hi];exact⟨.int (ns.count k:Nat),H,I.tok _,⟨_,rfl⟩,q⟩
noncomputable def ow:V->List V->Hp->VK->Prop:=λx vs H Q=>∃ (l:Addr) (ns:List Str) (k:Str),x = .ref l/\vs=[.str k]/\H l=some (.lst (ns.map V.str))/\k∈ns/\Q (.int (ns.idxOf k:Nat)) H
theorem sN:MtM X "list.index" ow:=by
 intro pins s σ H x vs v us Q I rx rv h;obtain⟨l,ns,k,rfl,rfl,L,hk,q⟩:=h
 cases rx
 obtain⟨u,rfl,ru⟩:=rv.one;obtain⟨t,rfl⟩:=ru;obtain⟨z,its,n,r,O,e⟩:=I.lstM L;have hi:=eh r;have Y:=mq hi;have J:ns.idxOf k<ns.length:=Jg.mpr hk;rw[FO]at O;rw[FO,Fy]at z;have mk:=PySem.SeqAt.list_indexAt l its.toArray n none #[] (.str k t) (Ny k) (ns.idxOf k) (by rw[FJ];omega) (by omega) (by
  show Ny k its[ns.idxOf k]=true;rw[gW k hi _ (by omega) J,Ks J];simp) λj h1 h2=>by
  show Ny k its[j]=false;rw[gW k hi j (by simpa using h1) (by omega)]
  exact sL h2 _
 exact Ii Ld ⟨_,e,rfl⟩ PySem.F.entry_list_index (PySem.F.args_list_index_2 _ _) mk ⟨e,λy U=>(eq_isStrOf k t hi y (by simpa using U)).at _ _,⟨.int (ns.idxOf k:Nat),H,I.tok _,⟨_,rfl⟩,q⟩⟩
noncomputable def iK:D->List D->Mem->QD->Prop:=λx ds M Q=>∃ (a:Addr) (ns:List Str) (k:Str),x = .ref a/\ds=[.str k]/\M a=some (.lst (ns.map .str))/\Q (.int (ns.count k:Nat)) M
theorem iL:dZ iK:=λ_ _ _ _ _ h j=>(by obtain⟨a,ns,k,z,F,J,q⟩:=j;exact⟨a,ns,k,z,F,J,h _ _ q⟩)
theorem ye (v:V)(vs:List V)(H:Hp)(Q:VK)(h:lMt K iK v vs H Q):sM v vs H Q:=by
 obtain⟨x,ds,M,rm,rx,rs,a,ns,k,rfl,rfl,e,q⟩:=h
 cases OL.mp rx
 obtain⟨F,rfl,j⟩:=rs.one
 cases OJ.mp j
 obtain⟨us,z,ru⟩:=rm _ _ e;have rv:=ru.strs_eq;subst rv;exact⟨a,ns,k,rfl,rfl,z,q _ H Ext.refl rm (OI.mpr rfl)⟩
noncomputable def gj:D->List D->Mem->QD->Prop:=λx ds M Q=>∃ (a:Addr) (ns:List Str) (k:Str),x = .ref a/\ds=[.str k]/\M a=some (.lst (ns.map .str))/\k∈ns/\Q (.int (ns.idxOf k:Nat)) M
theorem gK:dZ gj:=λ_ _ _ _ _ h j=>(by obtain⟨a,ns,k,z,F,J,L,q⟩:=j;exact⟨a,ns,k,z,F,J,L,h _ _ q⟩)
theorem vq (v:V)(vs:List V)(H:Hp)(Q:VK)(h:lMt K gj v vs H Q):ow v vs H Q:=by
 obtain⟨x,ds,M,rm,rx,rs,a,ns,k,rfl,rfl,e,hk,q⟩:=h
 cases OL.mp rx
 obtain⟨F,rfl,j⟩:=rs.one
 cases OJ.mp j
 obtain⟨us,z,ru⟩:=rm _ _ e;have rv:=ru.strs_eq;subst rv;exact⟨a,ns,k,rfl,rfl,z,hk,q _ H Ext.refl rm (OI.mpr rfl)⟩
noncomputable def uf:V->Option Int->Option Int->Hp->VK->Prop:=λx lo hi H Q=>∃ (x0:Str) (i:Int),x = .str x0/\lo=none/\hi=some i/\x0.length<=Fz/\Q (.str (Hc x0 none (some i))) H
theorem yf:SlR X uf:=by
 intro pins s σ H x v vl vu lo hi sl Q I rx hs pl pu h;obtain⟨x0,i,rfl,rfl,rfl,j,q⟩:=h;obtain⟨t,rfl⟩:=rx
 cases pu with
 | int _ ui =>
   cases pl
   refine⟨"str",_,F.slot_str_getitem.lookup,Jn _ _ _,Lb (l:=none) (u:=some (i,ui)) (st:=none) hs rfl (post_val_or_str ⟨Gn (Kb x0 _ _) j,λt' k=>?_⟩)⟩;exact⟨.str _,H,I.tok _,⟨_,rfl⟩,q⟩
noncomputable def qz (te:TEd) (tl:TOd):TEd:=λρ M Q=>te ρ M λx M1=>tl ρ M1 λl M2=>∃ (x0:Str) (i:Int),x = .str x0/\l=some i/\x0.length<=Fz/\Q (.str (Hc x0 none (some i))) M2
theorem vt (m:ae ta)(ml:cm tl):ae (qz ta tl):=λρ M Q Q' i q =>
 m _ _ _ _ (λx Y z=>ml _ _ _ _ (λl Z F=>(by obtain⟨x0,j,J,L,O,U⟩:=F;exact⟨x0,j,J,L,O,i _ _ U⟩)) z) q
theorem A8 {e:Expr}{lo:Option Expr}{p2:Pos}(m:ae ta)(ml:cm tl)(he:PE X e (lE X.K ta))(O:PO X lo (lO X.K tl)) :
 PE X (.Subscript e (.Slice none lo none p2) pos) (lE X.K (qz ta tl)):=by
 refine PE.imp (gM yf he j6 O) λσ H Q h=>?_;obtain⟨ρ,M,rs,rm,q⟩:=h;refine⟨ρ,M,rs,rm,m _ _ _ _ (λx U Y v H1 L j z=>?_) q⟩;refine⟨ρ,U,rs.mono (L.stab rm),j,ml _ _ _ _ (λl M2 F H2 Z J=>?_) Y⟩;obtain⟨x0,i,rfl,rfl,hz,F⟩:=F
 cases OJ.mp z
 exact⟨x0,i,rfl,rfl,rfl,hz,F _ H2 (L.trans Z) J (OJ.mpr rfl)⟩
end
end
end Mi
namespace Mi
open L2.Srt
end Mi
namespace Mi
end Mi
namespace Mi
end Mi
namespace Mi
section
mutual
noncomputable def GV (K:Frag):D->h8->Prop
 |.int i,v=>∃ t,v = .int i t
 |.str x,v=>∃ t,v = .str x t
 |.tup ds,v=>∃ a o its n,v = .ref a/\K.lookup a=some o/\o.cls = .type "tuple" /\ o.data = .seq its n/\its.size<=Fz/\fk ds=false/\GVs K ds its.toList
 |_,_=>False
noncomputable def GVs (K:Frag):List D->List h8->Prop
 |[],us=>us=[]
 |d::ds,us=>∃ u r,us=u::r/\GV K d u/\GVs K ds r
end
theorem GV.ints {K:Frag}{i:Int}{t}:GV K (.int i) (.int i t):=by unfold GV;exact⟨t,rfl⟩
theorem GV.strs {K:Frag}{i:Str}{t}:GV K (.str i) (.str i t):=by unfold GV;exact⟨t,rfl⟩
mutual
theorem wm {K:Frag}:∀ {d:D} {u:h8},GV K d u -> ∃ v,RelV v u /\ ∀ H,RD K H d v
 |.int i,u,h=>by unfold GV at h;obtain⟨t,rfl⟩:=h;exact⟨.int i,⟨t,rfl⟩,λH=>OI.mpr rfl⟩
 |.str i,u,h=>by unfold GV at h;obtain⟨t,rfl⟩:=h;exact⟨.str i,⟨t,rfl⟩,λH=>OJ.mpr rfl⟩
 |.tup ds,u,h=>by
  unfold GV at h;obtain⟨a,o,its,n,rfl,h1,h2,j,z,F,J⟩:=h;obtain⟨vs,g1,g2⟩:=gvs_rd J;exact⟨.ref a,rfl,λH=>OS.mpr ⟨a,vs,rfl,.inr ⟨F,.inr ⟨o,its,n,h1,h2,j,z,g1⟩⟩,g2 H⟩⟩
 |.non,u,h=>by unfold GV at h;exact h.elim
 |.bl _,u,h=>by unfold GV at h;exact h.elim
 |.con _,u,h=>by unfold GV at h;exact h.elim
 |.ref _,u,h=>by unfold GV at h;exact h.elim
 |.fn _,u,h=>by unfold GV at h;exact h.elim
theorem gvs_rd {K:Frag}:∀ {ds:List D} {us:List h8},GVs K ds us -> ∃ vs,Vals vs us /\ ∀ H,RDs K H ds vs
 |[],us,h=>by unfold GVs at h;subst h;exact⟨[],.nil,λH=>RDs.nil⟩
 | d::ds,us,h=>by
   unfold GVs at h;obtain⟨u,r,rfl,h1,h2⟩:=h;obtain⟨v,g1,g2⟩:=wm h1;obtain⟨vs,g3,j⟩:=gvs_rd h2;exact⟨v::vs,.cons g1 g3,λH=>RDs.cons (g2 H) (j H)⟩
end
end
section
noncomputable def ng (kvs:List (NK×D)) (k:NK):Option D:=(kvs.find? λp=>decide (p.1=k)).map (·.2)
noncomputable def np (kvs:List (NK×D)) (k:NK) (v:D):List (NK×D):=if (ng kvs k).isSome then kvs.map (λp=>if p.1=k then (p.1,v) else p) else kvs++[(k,v)]
end
end Mi
namespace Mi
end Mi
variable {mN:Str->Option h8}{fI:Addr}
section
open Sem (wp)
noncomputable abbrev exO (C:Addr) (t:Addr) (dct:Option Addr):Obj:={ cls:=.ref C,dict:=dct,data:=.fields #[.ref t,.none,.none,.none,.bool false,.none] }
noncomputable abbrev tuO (vs:List h8):Obj:={ cls:=.type "tuple",data:=.seq vs.toArray }
section
variable {prog:FT} {w:G8} {A:G3} {E:h8->Ft->Prop} {h:Heap} {g:Array KS} {d:Drawn} {t:Nat} {os:Oi}
variable {nm q:Str} {C N:Addr} {bs bm bmB:List h8} {hdct:Bool} {sn:List Str} {sub:List h8} {ab:Bool} {col:Option Bool} {dd:Option Addr} {k0 k1 k2 k3 k5:Option h8} {B newId initId:String}
theorem km (F:Nz B newId initId bmB)(T:Nq h bmB bm){rest:List h8}{oI:Obj}{Q:Fin->Ft->Prop}(z:h.get? C=some (Iu nm q C N bs bm hdct sn sub ab col dd k0 k1 k2 k3 k5 newId))(hn:h.Ns N mN)(hi:mN "__init__" = some (.ref fI))(U:h.get? fI=some oI)(Y:oI.cls = .type "function")(hq:FG (model prog w) A (call (.ref fI) (.ref (h.objs.size+1)::rest)) (λr s'=>r = .none/\Q (.done (.ret (.ref (h.objs.size+1)))) s') E ⟨(h.push (tuO rest)).push (exO C h.objs.size none),g,d,t,os⟩)(j:rest.length<=Fz) :
 FG (model prog w) A (Jj.«type.__call__» ⟨.ref C::rest,[]⟩) Q E ⟨h,g,d,t,os⟩:=by
 repeat (first|with_reducible refine Hw z ?_|with_reducible refine wpAny_madeBy_exc z ?_|wp_step)
 refine codeAny_call_builtin_code (Kr _ F.quiet) (wpAny_check_new_subT F T z ?_);refine codeAny_exc_new_subT F T z ?_ j;show FG _ _ _ _ _ _;have J:=td (exO C h.objs.size none) (td (tuO rest) z);have L:=td (exO C h.objs.size none) (td (tuO rest) U);have Z:((h.push (tuO rest)).push (exO C h.objs.size none)).Ns N mN :=
  let ⟨o,es,ep,e,r⟩:=hn; ⟨o,es,ep,td _ (td _ e),r⟩
 have O:((h.push (tuO rest)).push (exO C h.objs.size none)).get? (h.objs.size+1)=some (exO C h.objs.size none):=by heap_get
 have EI:(G5 C::bm).contains (.ref C)=true:=by simp
 have T₁:=T.keeps (h':=(h.push (tuO rest)).push (exO C h.objs.size none)) λb o e=>td _ (td _ e);unfold MX
 repeat (first|with_reducible refine Hw O ?_|(with_reducible refine K6 J ?_;rw[EI])|wp_step)
 show FG _ _ (Oo (.ref C) _) _ _ _;refine wpAny_typeLookup_tail J Z T₁ F.mroIs F.init.lookup ?_;rw[hi];refine Gp (gV ?_);unfold bindSpecial;refine gV (Ln (T:="function") ⟨_,L,Y⟩ ?_);rw[if_pos (by decide)]
 refine Fv (gV (Ga hq (λr s' hr=>?_) λ_ _ x=>x));obtain⟨rfl,hQ⟩:=hr
 wp_walk
 exact hQ
theorem mv (F:Nz B newId initId bmB)(T:Nq h bmB bm){rest:List h8}{oI:Obj}{Q:h8->Ft->Prop}(z:h.get? C=some (Iu nm q C N bs bm hdct sn sub ab col dd k0 k1 k2 k3 k5 newId))(O:h.Ns N mN)(hi:mN "__init__" = some (.ref fI))(J:h.get? fI=some oI)(L:oI.cls = .type "function")(U:FG (model prog w) (A.under (.builtin "type.__call__" ⟨.ref C::rest,[]⟩)) (call (.ref fI) (.ref (h.objs.size+1)::rest)) (λr s'=>r = .none/\Q (.ref (h.objs.size+1)) s') E ⟨(h.push (tuO rest)).push (exO C h.objs.size none),g,d,t,os⟩)(j:rest.length<=Fz) :
 FG (model prog w) A (call (.ref C) rest) Q E ⟨h,g,d,t,os⟩:=by
 have f1:=tc_lookup;have f2:=tc_bind (.ref C);have Y:(⟨h,g,d,t,os⟩:Ft).TypeIs (.ref C) "type":=⟨_,z,rfl⟩;refine JD (LD ?_);show FG _ _ (callAny (.ref C) _) _ _ _
 repeat (any_goals (first|assumption|with_reducible refine Hw z ?_|wp_step))
 refine⟨rfl,?_⟩;exact codeAny_call_builtin_at (Kr _ (by decide +kernel)) entry_typeCall (wpAny_check_type_call_sub z (km F T z O hi J L U j))
end
section
variable {prog:FT} {w:G8} {A:G3} {E:h8->Ft->Prop} {s:Ft} {env:Env}
variable {nm q:Str} {C N:Addr} {bs bm bmB:List h8} {hdct:Bool} {sn:List Str} {sub:List h8} {ab:Bool} {col:Option Bool} {dd:Option Addr} {k0 k1 k2 k3 k5:Option h8} {B newId initId:String}
theorem cR {E:h8->Ft->Prop}{x:Sem h8}{Q:Flow->Ft->Prop}(j:bm.contains (.type "BaseException")=true)(J:A.handled=none)(h:FG M A x (fun v s₁=>∃ e t dct,v = .ref e/\s₁.heap.get? C=some (Iu nm q C N bs bm hdct sn sub ab col dd k0 k1 k2 k3 k5 newId) /\
   s₁.heap.get? e=some (exO C t dct)/\E (.ref e) s₁) E s):FG M A (raiseStmt env (some x) none) Q E s:=by
 have z:(G5 C::bm).contains (.type "BaseException")=true:=by rw[Jo,j,Ls]
 unfold raiseStmt;refine gV (Ga h (λv s₁ h₁=>?_) λ_ _ x=>x);obtain⟨e,t,dct,rfl,F,he,L⟩:=h₁;obtain⟨O,g,d,tk,os⟩:=s₁
 repeat (first|with_reducible refine Hw he ?_|with_reducible refine Hw F ?_|(with_reducible refine K6 F ?_;rw[z])|wp_step)
 exact wpAny_raiseNew_none J L
theorem jm (F:Nz B newId initId bmB){np cpos:Pos}{args:List Expr}{Q:Flow->Ft->Prop}(j:bm.contains (.type "BaseException")=true)(L:A.handled=none)(z:(GY cpos (FN args env)).any (·.1)=false)(hi:mN "__init__" = some (.ref fI))(h:FG (model prog w) A (eval (.Name x np) env) (fun f s₁=>f = .ref C/\FG (model prog w) A (evalArgs (.ref C) true (GY cpos (FN args env)) [])
   (fun a s₂=>a.kw=[]/\a.pos.length<=Fz/\s₂.heap.get? C=some (Iu nm q C N bs bm hdct sn sub ab col dd k0 k1 k2 k3 k5 newId)/\s₂.heap.Ns N mN/\Nq s₂.heap bmB bm/\(∃ oI,s₂.heap.get? fI=some oI/\oI.cls = .type "function") /\
     FG (model prog w) (A.under (.builtin "type.__call__" ⟨.ref C::a.pos,[]⟩)) (call (.ref fI) (.ref (s₂.heap.objs.size+1)::a.pos)) (λr s'=>r = .none/\s'.heap.get? C=some (Iu nm q C N bs bm hdct sn sub ab col dd k0 k1 k2 k3 k5 newId)/\(∃ t dct,s'.heap.get? (s₂.heap.objs.size+1)=some (exO C t dct))/\E (.ref (s₂.heap.objs.size+1)) s') E
      { s₂ with heap:=(s₂.heap.push (tuO a.pos)).push (exO C s₂.heap.objs.size none) }) E s₁) E s) :
 FG (model prog w) A (exec (.Raise (some (.Call (.Name x np) args [] cpos)) none pos) env) Q E s:=by
 rw[arm_exec_Raise]
 first
  |refine gV (Gu (cR (C:=C) (nm:=nm) (q:=q) (N:=N) (bs:=bs) (bm:=bm) (hdct:=hdct) (sn:=sn) (sub:=sub) (ab:=ab) (col:=col) (dd:=dd) (k0:=k0) (k1:=k1) (k2:=k2) (k3:=k3) (k5:=k5) (newId:=newId) j L (gV (Ga (KJ (Ga h (λf s₁ h₁=>?_) λ_ _ x=>x)) (λv s₃ J=>gV (Gu (Fv J))) λ_ _ x=>x))))
  |(simp only[evalOpt,Option.map];refine gV (Gu (cR (C:=C) (nm:=nm) (q:=q) (N:=N) (bs:=bs) (bm:=bm) (hdct:=hdct) (sn:=sn) (sub:=sub) (ab:=ab) (col:=col) (dd:=dd) (k0:=k0) (k1:=k1) (k2:=k2) (k3:=k3) (k5:=k5) (newId:=newId) j L (gV (Ga (KJ (Ga h (λf s₁ h₁=>?_) λ_ _ x=>x)) (λv s₃ J=>gV (Gu (Fv J))) λ_ _ x=>x)))))
  |(refine gV (Gu (cR (C:=C) (nm:=nm) (q:=q) (N:=N) (bs:=bs) (bm:=bm) (hdct:=hdct) (sn:=sn) (sub:=sub) (ab:=ab) (col:=col) (dd:=dd) (k0:=k0) (k1:=k1) (k2:=k2) (k3:=k3) (k5:=k5) (newId:=newId) j L ?_));refine gV (Ga (KJ (Ga h (λf s₁ h₁=>?_) λ_ _ x=>x)) (λv s₃ J=>gV (Gu (Fv J))) λ_ _ x=>x))
 obtain⟨rfl,h₁⟩:=h₁;unfold Nx;refine gV (Gp (Ga h₁ (λa s₂ O=>gV (Gu ?_)) λ_ _ x=>x));obtain⟨apos,akw⟩:=a;obtain⟨U,hlen,hC,hn,T,⟨oI,Y,Z⟩,O⟩:=O;obtain rfl:akw=[]:=U;obtain⟨hp,g,d,tk,os⟩:=s₂;simp only[z];refine gV (wpAny_keeperOf_exc hC ?_);refine gV (mv F T hC hn hi Y Z (Ga O (λr s' hr=>?_) λ_ _ x=>x) hlen);obtain⟨rfl,EI,⟨t,dct,he⟩,hE⟩:=hr;exact⟨rfl,gV (Gp (LU (Fv ⟨_,t,dct,rfl,EI,he,hE⟩)))⟩
end
end
open PySem.W
open Sem (wp)
open Builtin Builtin.ObjectAttr
noncomputable def gk:List h8->Bool
 |.ref _::r=>gk r
 |l=>l==vbm
theorem nP (self:h8):∀ (l:List h8),gk l=true->refuseLoop self "__setattr__" l=pure ():=by
 intro l
 induction l with
 |nil=>intro e;exact absurd e (by decide)
 | cons v r ih =>
   intro e
   cases v with
   |ref c=>rw[refuseLoop_ref];exact ih e
   |_=>rw[L4 (show ((_::r)==vbm)=true from e)];exact F.store_ValueError.passes self
theorem vw:∀ (l:List h8),gk l=true->l.contains (.type "object")=true/\l.contains (.type "BaseException")=true:=by
 intro l
 induction l with
 |nil=>intro e;exact absurd e (by decide)
 | cons v r ih =>
   intro e
   cases v with
   |ref c=>rw[Jo,Jo,(ih e).1,(ih e).2,Ls,Ls];exact⟨rfl,rfl⟩
   |_=>rw[L4 (show ((_::r)==vbm)=true from e)];decide
noncomputable def mw (K:Frag) (C:Addr):Bool:=(clsIn K C).any λcd=>gk cd.mro&&cd.hasDict
section
variable {prog:FT} {w:G8} {A:G3} {E:h8->Ft->Prop} {s:Ft} {K:Frag} {x C t0:Addr} {name:Str} {v:h8}
theorem A9 (hx:h.get? x=some (exO C t0 none)):InstAt h x (exO C t0 none) C none:=⟨hx,rfl,rfl,trivial⟩
theorem yg {Q:Unit->Ft->Prop}(X:K.In s.heap)(hx:s.heap.get? x=some (exO C t0 none))(O:findIn K (.ref C) "__setattr__" = some (some (.builtin "object.__setattr__")))(hp:mw K C=true)(ht:findIn K (.ref C) name=some none)(h_:∀ h' tk',h'.get? x=some (exO C t0 (some s.heap.objs.size))->h'.Ns1 s.heap.objs.size (λy=>if y=name then some v else none)->(∀ b o,b≠x->s.heap.get? b=some o->h'.get? b=some o)->Q () { s with heap:=h',toks:=tk' }) :
 FG (model prog w) A (setAttr (.ref x) name v) Q E s:=by
 have SF:=F.store_ValueError;have I:=A9 hx;obtain⟨cd,U,ho⟩:=any_some hp;rw[hX]at ho;have ne:cd.mro.isEmpty=false:=by cases q:cd.mro with|nil=>rw[q]at ho;exact absurd ho.1 (by decide)|cons _ _=>rfl
 have sub:Looks (model prog w) s.heap (MX (.ref x) (.type "object")) true:=I.type.andThen (looks_mroIn X (by unfold mroIn;rw[U,Ho,if_neg (by rw[ne];decide),(vw _ ho.1).1]))
 refine set_plain X I O ?_;have j:Looks (model prog w) { s with toks:=s.toks+1 }.heap (MX (.ref x) (.type "object")) true:=sub
 refine Ht SF.slot.plain SF.entry (@check_slot (model prog w) _ _ { s with toks:=s.toks+1 } "object.__setattr__" "object" "__setattr__" (.ref x) [.str name s.toks,v] [] _ SF.kind SF.split j (SF.args (.ref x) (.str name s.toks) v) ?_)
 have hm:Looks (model prog w) s.heap (mroOf (.ref C)) cd.mro:=(looks_clsIn X U).andThen .now;rw[osa_eq,refuse_eq];have I1:InstAt { s with toks:=s.toks+1 }.heap x (exO C t0 none) C none:=I
 refine gV (gV (I1.type.here (gV (Looks.here (s:={ s with toks:=s.toks+1 }) hm ?_))))
 rw[nP _ _ ho.1];refine Fv (gV (I1.type.here (gV (Looks.here (s:={ s with toks:=s.toks+1 }) (looks_findIn X ht) (gV ?_)))))
 refine Fv ?_;obtain⟨h,g,d,t,os⟩:=s;refine gV (Fv (gV (gV (wpAny_loadPart hx (gV (Looks.at (looks_clsIn X U) ?_))))));rw[ho.2];have z:(h.push { cls:=.type "dict",data:=.dict #[] }).get? x=some (exO C t0 none):=td _ hx;have J:x≠h.objs.size:=Gb (FF hx);refine gV (wpAny_alloc' ?_);refine gV (wpAny_update' z ?_);refine Fv ?_;have Y:((h.push { cls:=.type "dict",data:=.dict #[] }).update x λo=>{ cls:=o.cls,dict:=some h.objs.size,data:=o.data,slots:=o.slots }).get? h.objs.size
  = some { cls:=.type "dict",data:=.dict #[] }:=(Mu _ _ _ _ J.symm).trans (Heap.get?_push_at rfl rfl)
 have Z:((h.push { cls:=.type "dict",data:=.dict #[] }).update x λo=>{ cls:=o.cls,dict:=some h.objs.size,data:=o.data,slots:=o.slots }).Ns h.objs.size (λ_=>none) :=
  ⟨_,#[],_,Y,rfl,λe he=>absurd he (by simp),λ_=>rfl⟩
 show FG _ _ (storeInDict h.objs.size (.str name t) name v) _ _ _;unfold storeInDict newKeyGuard;refine gV (Fv (gV (wpAny_nsSet1 (Heap.Ns1.of_empty Z) λh' L O=>?_)));obtain⟨oD,esD,epD,EI,EJ,EK⟩:=L.count (Within.cons name v Within.nil);refine gV (wpAny_lookBehind EI (by rw[EJ];exact pastItsLine_dict (Gn EK (by rw[FR,HA,Fy];omega))) ?_)
 refine Fv ?_;refine h_ h' _ ?_ L λb ob EL hb=>?_
 ·refine(O.2 x J).trans (Gg _ z rfl)
 ·exact(O.2 b (Gb (FF hb))).trans ((Mu _ _ _ _ EL).trans (td _ hb))
end
end L2

namespace L2
open PySem PySem.Spec PyProof.Rows
open PySem.W
def exAt (C e:Addr) (h:Heap):Prop:=∃ t,h.get? e=some (exO C t none)
def exAd (C e dx:Addr) (h:Heap):Prop:=∃ t,h.get? e=some (exO C t (some dx))
theorem qA {K:Frag}{h:Heap}{N:Addr}{mg:Str->Option h8}{n:Str}{v:h8}(X:K.In h)(G:h.Ns N mg)(e:nsIn K N n=some (some v)):mg n=some v:=by
 obtain⟨o,es,ep,ho,hd,_,hf⟩:=G;unfold nsIn at e
 split at e
 ·rename_i c d es' n' sl q;have:=X _ _ q;rw[ho]at this
  cases this
  cases hd
  split at e
  ·rename_i en he
   cases e
   rw[<- hf];unfold nsFind findBy;rw[<- ML,he];rfl
  ·split at e <;> cases e
 ·cases e
noncomputable def iM (K:Frag) (C:Addr) (bmB:List h8) (newId:String) (fI:Addr):Bool:=match K.lookup C with
 | some ⟨.type "type",_,.cls cd,sl⟩=>(match cd.mro,sl.toList with
   |.ref C'::bm,[_,_,_,_,some (.builtin n),_]=>C'==C&&n==newId && !cd.hasDel&&tailIn K bmB bm&&nsOkIn K cd.ns&&nsIn K cd.ns "__init__" == some (some (.ref fI))
   |_,_=>false)
 |_=>false
theorem mx {K:Frag}{h:Heap}{C fI:Addr}{bmB:List h8}{newId:String}(X:K.In h)(q:iM K C bmB newId fI=true):∃ bm N nm qn bs hd sn sub ab col dd k0 k1 k2 k3 k5 mN,
 h.get? C=some (Iu nm qn C N bs bm hd sn sub ab col dd k0 k1 k2 k3 k5 newId)/\h.Ns N mN/\mN "__init__" = some (.ref fI)/\Nq h bmB bm:=by
 unfold iM at q
 split at q
 ·next dd cd sl ho =>
  split at q
  ·next C' bm k0 k1 k2 k3 n k5 hm F =>
   simp only[hX,beq_iff_eq,G2]at q;obtain⟨⟨⟨⟨⟨rfl,rfl⟩,j⟩,J⟩,hok⟩,z⟩:=q
   cases cd
   cases sl
   dsimp only at hm j hok z F;subst hm j F;exact⟨bm,_,_,_,_,_,_,_,_,_,dd,k0,k1,k2,k3,k5,_,X _ _ ho,.of_isNs (Kn X hok),qA X (.of_isNs (Kn X hok)) z,MV X J⟩
  ·cases q
 ·cases q
section
variable {prog:FT} {w:G8} {A:G3} {E:h8->Ft->Prop} {h:Heap} {g:Array KS} {d:Drawn} {t:Nat} {os:Oi}
variable {nm q:Str} {C N:Addr} {bs bm:List h8} {hdct:Bool} {sn:List Str} {sub:List h8} {ab:Bool} {col:Option Bool} {dd:Option Addr} {k0 k1 k2 k3 k5:Option h8}
theorem sP {e t0:Addr}{rest:List h8}{Q:h8->Ft->Prop}(z:h.get? C=some (Iu nm q C N bs bm hdct sn sub ab col dd k0 k1 k2 k3 k5 "ValueError.__new__"))(T:Nq h vbm bm)(he:h.get? e=some (exO C t0 none))(J:∀ h',h.objs.size<=h'.objs.size->(∀ b o,b≠e->h.get? b=some o->h'.get? b=some o)->exAt C e h'->Q .none ⟨h',g,d,t,os⟩)(j:rest.length<=Fz):FG (model prog w) A (call (.builtin "ValueError.__init__") (.ref e::rest)) Q E ⟨h,g,d,t,os⟩:=by
 refine JD (Ht F.excBase_ValueError.init.plain F.excBase_ValueError.initEntry (wpAny_check_init_subT Mc T z he rfl ?_))
 wp_walk
 have O:e≠h.objs.size:=Gb (FF he);refine J _ ?_ (λb o L ho=>?_) ⟨h.objs.size,?_⟩
 ·rw[IY,Gz];exact KA _
 ·rw[Gc _ _ (Ne.symm L)];exact td _ ho
 ·rw[Gg _ (td _ he) rfl];rfl
end
end L2

namespace L2
open PySem PySem.Spec PyProof.Rows
open PySem.W
structure jn (K:Frag) (C D fI:Addr) (fld:Str):Prop where
 ex:iM K C vbm "ValueError.__new__" fI=true
 sa:findIn K (.ref C) "__setattr__" = some (some (.builtin "object.__setattr__"))
 ov:mw K C=true
 na:findIn K (.ref C) fld=some none
 dg:specialIn K (.ref D) "__getattribute__" = some (some (.builtin "type.__getattribute__"))
 dr:readsIn K D (.type "type")=true
 df:findCls K (.ref D) (.type "type") "__init__" = some (.val (.builtin "ValueError.__init__"))
 fo:((K.lookup fI).any λo=>o.cls == .type "function")=true
theorem exAt.ext {P:FT}{w:G8}{H:Hp}{h:Heap}{C e:Addr}(x:exAt C e h):ObjOk P w H h e (.ext (exAt C e)) :=
 ⟨x,⟨_,x.choose_spec⟩,λh1 h2 q k=>⟨q.choose,k _ q.choose_spec⟩⟩
theorem exAd.ext {P:FT}{w:G8}{H:Hp}{h:Heap}{C e dx:Addr}(x:exAd C e dx h):ObjOk P w H h e (.ext (exAd C e dx)) :=
 ⟨x,⟨_,x.choose_spec⟩,λh1 h2 q k=>⟨q.choose,k _ q.choose_spec⟩⟩
section
variable {X:Cx} {C D fI:Addr} {fld:Str}
theorem vx {xD:Str}{a1 J:Expr}{t:TA}{j apos cpos epos:Pos}(Z:jn X.K C D fI fld)(hg:Gl X xD)(hm:X.mg xD=some (.ref D))(ha:PA X [a1,J] t)(F:(xD==("__debug__":Str))=false)(he:FN [a1,J] X.env=(false,eval a1 X.env)::FN [J] X.env)(L:(GY cpos (FN [J] X.env)).any (·.1)=false)(O:Hl (.Call (.Attribute (.Name xD j) "__init__" apos) [a1,J] [] cpos) none epos.line X.env=pure false){pl:Sem Bool}(ht:eval (.Call (.Attribute (.Name xD j) "__init__" apos) [a1,J] [] cpos) X.env=(do
   let ov <- eval (.Name xD j) X.env
   Jv apos.atName
   let (f,first) <- holding [ov] (getMethod ov "__init__" pl)
   Nx cpos f first (GY cpos (FN [a1,J] X.env)) (Jd cpos (HE [] X.env)))) :
 PS X (.Expr (.Call (.Attribute (.Name xD j) "__init__" apos) [a1,J] [] cpos) epos)
  (λDD σ H=>t σ H λvs H1=>∃ e y,vs=[.ref e,.str y]/\H1 e=some (.ext (exAt C e))/\DD.nx σ H1):=by
 intro pins s σ H DD I h;refine LL ?_ I.quiet O;refine PySem.W.methodCall_KW (pl:=pl) (cc I hg hm ?_ F) ht
 ·refine method_cls I.kIn Z.dg (cls_value I.kIn Z.dr Z.df (by decide +kernel) ?_)
  refine JF (thn (ha cpos pins _ σ H _ (I.tok _) h) λus s1 g9=>?_) he L;obtain⟨vs,H1,U,r,e,y,hv,Y,q⟩:=g9;subst hv
  cases r with
  |cons r1 r =>
  cases r with
  |cons r2 r =>
  cases r
  cases r1
  obtain⟨t',rfl⟩:=r2;obtain⟨bm,N,nm,qn,bs,hd,sn,sub,ab,col,dd,k0,k1,k2,k3,k5,mN,hC,hN,EJ,hT⟩:=mx U.kIn Z.ex;obtain⟨⟨t0,EI⟩,_,_⟩:=(show ObjOk X.prog X.w H1 s1.heap e (.ext (exAt C e)) from U.hok e _ Y);obtain⟨hh,g,d,tk,os⟩:=s1;refine sP hC hT EI (λh' sz kp ex=>?_) (show 1<=Fz by decide)
  have I2:=U.write (x:=e) (e:=e) (o:=.ext (exAt C e)) (h':=h') (t':=tk) (by rw[Y];trivial) (.inl rfl) kp ⟨_,ex.choose_spec⟩ ex.ext
  have eH:upd H1 e (.ext (exAt C e))=H1:=by
   funext b
   unfold upd
   by_cases z:b=e
   ·rw[if_pos z,z,Y]
   ·rw[if_neg z]
  rw[eH]at I2;exact⟨σ,H1,I2,q⟩
theorem vy {o value:Expr}{ta tv:TE}{pos pos':Pos}(Z:jn X.K C D fI fld)(L:PE X o ta)(O:PE X value tv)(U:Hl value (some (.Attribute o fld pos')) pos.line X.env=pure false) :
 PS X (.Assign [.Attribute o fld pos'] value pos) (λDD σ H=>tv σ H λy H1=>ta σ H1 λx H2=>∃ e,x = .ref e/\H2 e=some (.ext (exAt C e)) /\
  ∀ dx,H2 dx=none->dx≠e->DD.nx σ (upd (upd H2 e (.ext (exAd C e dx))) dx (.xd [(fld,y)]))):=by
 intro pins s σ H D I h;refine plainObj_wpAny_Assign_Attribute (thn (O pins s σ H _ I h) λu s1 ⟨y,H1,Y,ry,q⟩=>thn (L pins s1 σ H1 _ Y q) λov s2 g9=>?_) U;obtain⟨x,H2,F,rx,e,ex,J,q2⟩:=g9;subst ex;obtain rfl:ov=G5 e:=rx;obtain⟨⟨t0,j⟩,_,_⟩:=(show ObjOk X.prog X.w H2 s2.heap e (.ext (exAt C e)) from F.hok e _ J);refine yg F.kIn j Z.sa Z.ov Z.na λh' tk' hx hn kp=>?_;have lt:e<s2.heap.objs.size:=FF j;have ne:s2.heap.objs.size≠e:=HZ lt;have I3:=F.write (x:=e) (e:=e) (o:=.ext (exAd C e s2.heap.objs.size)) (h':=s2.heap.update e λob=>{ ob with dict:=some s2.heap.objs.size }) (t':=tk') (by rw[J];trivial) (.inl rfl)
  (λb u z q=>(Gc _ _ (Ne.symm z)).trans q) ⟨_,Gg _ j rfl⟩ (exAd.ext ⟨t0,Gg _ j rfl⟩)
 have I4:=I3.laid (a:=s2.heap.objs.size) (o:=.xd [(fld,y)]) (h':=h') (t':=tk') (λb u q=>?_) (by rw[IY];exact FE _) ⟨_,hn,λf=>?_⟩
 ·exact⟨σ,_,I4,q2 _ (F.hok.fresh (FE _)) ne⟩
 ·by_cases z:b=e
  ·subst z;have q':(s2.heap.update b λob=>{ ob with dict:=some s2.heap.objs.size }).get? b=some u:=q
   rw[Gg _ j rfl]at q'
   cases q'
   exact hx
  ·exact kp b u z ((Gc _ _ (Ne.symm z)).symm.trans q)
 ·rw[GW]
  by_cases z:f=fld
  ·subst z;rw[beq_self_eq_true,if_pos rfl];exact ry
  ·rw[beq_false_of_ne z,if_neg z];trivial
end
noncomputable def spI (C:Addr) (fld a b:Str):Sp:=λvs H Q E=>∃ e n,vs=[.ref e,.int n]/\H e=some (.ext (exAt C e))/\0<=n/\n<=1000/\a.length+b.length<=100 /\
 ∀ dx,H dx=none->dx≠e->Q .non (upd (upd H e (.ext (exAd C e dx))) dx (.xd [(fld,.int n)]))
theorem sQ {n:Int}(h0 : 0<=n)(h1:n<=1000):(g8 (Hh n)).length<=4/\n.natAbs.log2<1920:=by
 have z:∀ m:Fin 1001,(g8 (Hh ((m.val:Nat):Int))).length<=4:=by decide +kernel
 obtain⟨m,rfl⟩:=Int.eq_ofNat_of_zero_le h0;refine⟨z ⟨m,by omega⟩,?_⟩
 have:m<2 ^ 10:=by omega
 have hm:((m:Int)).natAbs=m:=Iz m;rw[hm]
 by_cases h:m=0
 ·subst h;decide
 ·exact J0 ((JT h).mpr this) (by decide)
section
variable {P:FT} {w:G8} {K:Frag} {mg:Str->Option h8} {base:Heap} {C D fI:Addr} {fld:Str}
theorem yh {qual slf row a b xD:Str}{st:Stmt}{fd:Hi}{k kc kd:Nat}{z J apos cpos epos qa qb qc qd qe r0 r1 pos' pos:Pos}(F:Fun K "__init__" qual st fI fd)(S:cw [slf,row] [slf,row] (ah st))(Z:jn K C D fI fld)(j:bd st=[.Expr (.Call (.Attribute (.Name xD z) "__init__" apos) [.Name slf J,.JoinedStr [.Constant (.str a) kc qa,.FormattedValue (.Name row qb) (-1) none qc,.Constant (.str b) kd qd] qe] [] cpos) epos,.Assign [.Attribute (.Name slf r0) fld pos'] (.Name row r1) pos])(hg:(ah st).names.lookup xD=some .globalImplicit)(hm:mg xD=some (.ref D))(L:(xD==("__debug__":Str))=false)(d1:(slf==("__debug__":Str))=false)(d2:(row==("__debug__":Str))=false)(c1:(slf==("__classdict__":Str))=false)(c2:(row==("__classdict__":Str))=false)(v1:(ah st).names.lookup slf=some .local)(v2:(ah st).names.lookup row=some .local){pl:Env->Sem Bool}(O:∀ env,Hl (.Call (.Attribute (.Name xD z) "__init__" apos) [.Name slf J,.JoinedStr [.Constant (.str a) kc qa,.FormattedValue (.Name row qb) (-1) none qc,.Constant (.str b) kd qd] qe] [] cpos) none epos.line env=pure false)(hs:∀ env,Hl (.Name row r1) (some (.Attribute (.Name slf r0) fld pos')) pos.line env=pure false)(ht:∀ env,eval (.Call (.Attribute (.Name xD z) "__init__" apos) [.Name slf J,.JoinedStr [.Constant (.str a) kc qa,.FormattedValue (.Name row qb) (-1) none qc,.Constant (.str b) kd qd] qe] [] cpos) env=(do
   let ov <- eval (.Name xD z) env
   Jv apos.atName
   let (f,first) <- holding [ov] (getMethod ov "__init__" (pl env))
   Nx cpos f first (GY cpos (FN [.Name slf J,.JoinedStr [.Constant (.str a) kc qa,.FormattedValue (.Name row qb) (-1) none qc,.Constant (.str b) kd qd] qe] env)) (Jd cpos (HE [] env)))) :
 bf P w K mg base CX0 (k+1) fI fd [slf,row] (spI C fld a b):=by
 refine F.ok S (λvs H Q E h=>?_) λcdv A outer s H vs Q E hr h=>?_
 ·obtain⟨e,n,rfl,_⟩:=h;rfl
 ·obtain⟨e,n,rfl,he,h0,h1,hl,q⟩:=h;rw[j];have n1:∀ pos,PE (bU CX0 P w K mg base [slf,row] qual (ah st) fI cdv A outer s H E).nox (.Name slf pos) (oV 0):=λpos=>fj (i:=0) rfl (.inl v1) d1 c1;have n2:∀ pos,PE (bU CX0 P w K mg base [slf,row] qual (ah st) fI cdv A outer s H E).nox (.Name row pos) (oV 1):=λpos=>fj (i:=1) rfl (.inl v2) d2 c2;refine⟨_,cv (vx (C:=C) (D:=D) (fI:=fI) (fld:=fld) Z hg hm (ce (n1 _) (ce (xZ (jj i8 (jj (A1 (n2 _)) (jj i8 A0)))) fu rfl) rfl) L rfl rfl (O _) (ht _)) (dj (vy Z (n1 _) (n2 _) (hs _))),?_⟩;obtain⟨z1,z2⟩:=sQ h0 h1;have hE:(KY:Str).length=0:=rfl;have sl : 200<=Fz:=by decide
  refine⟨.ref e,rfl,a,rfl,?_,.int n,rfl,.inr ⟨n,rfl,z2,_,rfl,?_,b,rfl,?_,?_,e,_,rfl,he,.int n,rfl,.ref e,rfl,e,rfl,he,λdx U Y=>q dx U Y⟩⟩
  all_goals (simp only[FX,hE];omega)
end
end L2

namespace L2
open PySem PySem.Spec PyProof.Rows
open PySem.W
noncomputable def CXF (P:FT) (w:G8) (base:Heap) (cls:h8):CXT:=λouter H s E u s'=>∃ a T dx H',u = .ref a/\s'.os=s.os/\K7 s'.gens/\Un (frs outer) [] H H' s.heap s'.heap/\HOk P w H' s'.heap/\s'.heap.FunFrames base outer/\Exc s'.heap a cls (some T) (some dx) /\
 H' a=none/\H' T=none/\s.heap.get? a=none/\s.heap.get? T=none/\E cls (some dx) H'
section
variable {P:FT} {w:G8} {K:Frag} {mg:Str->Option h8} {base:Heap} {N:List Str} {qual:Str} {scope:Scope} {f:Addr} {cd:h8} {A:G3} {outer:List Env} {s s1:Ft} {H H1:Hp} {E:XK} {pins:List (Addr×Obj)} {σ:St} {C:Addr}
theorem jo {e dx:Addr}(hE:E (.ref C) (some dx) H1)(I:Inv (bU (CXF P w base (.ref C)) P w K mg base N qual scope f cd A outer s H E) pins σ H1 s1)(he:exAd C e dx s1.heap)(hH:H1 e=none)(n0:s.heap.get? e=none) :
 (bU (CXF P w base (.ref C)) P w K mg base N qual scope f cd A outer s H E).xe (.ref e) s1:=by
 obtain⟨t,ee⟩:=he;have J:s1.heap.FunFrames base (Jm qual scope s.heap.objs.size f cd::outer):=I.stack;show FG _ _ (leaving _ _) _ _ _;refine ul (base:=base) (L:=s.heap.objs.size) (cls:=.ref C) (hd:=none) (dd:=some dx) I.ok.frames J rfl ⟨⟨_,_,ee,rfl,rfl,rfl,rfl⟩,λT hT=>by cases hT⟩ λh2 T l x nT=>?_
 have Z:∀ b∈frs (Jm qual scope s.heap.objs.size f cd::outer),H1 b=none:=I.stkFree;have ltS:∀ b o,s.heap.get? b=some o->b≠e:=λb o j z=>by rw[z,n0]at j;cases j
 have bs:=I.base;have sz:∀ b o,s.heap.get? b=some o->b∈frs (Jm qual scope s.heap.objs.size f cd::outer)->b∈frs outer:=λb o j hm=>by
  unfold frs at hm;rw[J3]at hm
  rcases FA.mp hm with z|z
  ·have:=FF j;rw[z]at this;exact absurd this (Hq _)
  ·exact z
 refine⟨e,T,dx,H1,rfl,I.os,I.bare,⟨λb o j O hf hx=>?_,λb o j O hf hx=>?_,bs.free,λb o j hx=>?_,bs.tups,bs.frzs,bs.tbls⟩,λa o ha=>?_,?_,x,hH,?_,n0,?_,hE⟩
 ·have h1:=bs.keep b o j O hf hx;exact l.keep b o (ltS b o j) (by simp) (λz=>hf (sz b o j z)) h1
 ·obtain⟨sl,h1⟩:=bs.slot b o j O hf hx;obtain⟨U,F⟩:=l.slot b _ (ltS b o j) (by simp) h1
  exact⟨U,F⟩
 ·obtain⟨o',h1⟩:=bs.there b o j hx;obtain⟨U,F⟩:=l.slot b _ (ltS b o j) (by simp) h1
  exact⟨_,F⟩
 ·refine (I.hok a o ha).stay (fun b u j hu=>?_) (fun b z=>z) (fun b xs z=>z);have Y:H1 b≠none:=by
   rcases j with z|z
   ·rw[z,ha];simp
   ·rw[z];simp
  exact l.keep b u (λz=>Y (by rw[z];exact hH)) (by simp) (λz=>Y (Z b z)) hu
 ·exact (J.of_keeps fun b o j O=>(by
   have EI:b≠e:=λz=>by
    rw[z,ee]at j
    cases j
    exact O _ rfl
   obtain⟨sl,h3⟩:=l.slot b o EI (by simp) j
   exact⟨_,h3,rfl⟩)).2.2
 ·exact I.hok.no nT
 ·cases hz:s.heap.get? T with
  |none=>rfl
  |some o=>obtain⟨o',h1⟩:=bs.there T o hz (by intro z;cases z);rw[nT]at h1;cases h1
end
section
variable {X:Cx} {pins:List (Addr×Obj)} {σ:St} {H:Hp} {s:Ft} {a:Addr} {φ:Heap->Prop}
theorem Inv.untrackG (I:Inv X pins σ (upd H a (.ext φ)) s)(J:X.s₀.heap.get? a=none)(F:H a=none):Inv X pins σ H s:=by
 have ne:∀ b o,X.s₀.heap.get? b=some o->b≠a:=λb o e z=>by rw[z,J]at e;cases e
 have nt:∀ b o,H b=some o->b≠a:=λb o e z=>by rw[z,F]at e;cases e
 have back:∀ b,upd H a (.ext φ) b=none->H b=none:=λb e=>by
  by_cases z:b=a
  ·rw[z];exact F
  ·rw[ag z]at e;exact e
 refine⟨I.ok,I.os,I.bare,⟨I.base.keep,I.base.slot,λb o e n hx=>back b (I.base.free b o e n hx),I.base.there,λb xs e=>?_,λb o u e=>?_,λb ps e=>?_⟩,I.loc,I.cell,back _ I.free,λy c e=>back _ (I.freeC y c e),λp j=>?_,λb o e=>?_,I.len⟩
 ·have h1:=I.base.tups b xs e
  by_cases z:b=a
  ·rw[z,al]at h1;cases h1
  ·rw[ag z]at h1;exact h1
 ·have h1:=I.base.frzs b o u e
  by_cases z:b=a
  ·rw[z,al]at h1;cases h1
  ·rw[ag z]at h1;exact h1
 ·obtain⟨more,h1⟩:=I.base.tbls b ps e
  by_cases z:b=a
  ·rw[z,al]at h1;cases h1
  ·rw[ag z]at h1;exact⟨more,h1⟩
 ·obtain⟨e,n,r⟩:=I.pin p j;exact⟨e,back _ n,r⟩
 ·have h1:=I.hok b o (by rw[ag (nt b o e)];exact e)
  exact h1.stay (λc u _ q=>q) (λc q=>(by
   by_cases z:c=a
   ·rw[z,al]at q;cases q
   ·rw[ag z]at q;exact q)) λc xs q=>(by
   by_cases z:c=a
   ·rw[z,al]at q;cases q
   ·rw[ag z]at q;exact q)
theorem sR {x ta tb:Str}{np cpos pos:Pos}{Y:Expr}{t:TA}{C D fI:Addr}{fld:Str}{fd:Hi}{ps:List Str}{k:Nat}{Q:Flow->Ft->Prop}(I:Inv X pins σ H s)(hc:X.calm=true)(hg:Gl X x)(hm:X.mg x=some (.ref C))(Z:jn X.K C D fI fld)(FI:bf X.prog X.w X.K X.mg X.base CX0 k fI fd ps (spI C fld ta tb))(hr:Room (k+1) X.A)(hb:Binds X.K fd ps [])(EK:ta.length+tb.length<=100)(ha:PA X [Y] t)(h:t σ H λvs H1=>∃ n:Int,vs=[.int n]/\0<=n/\n<=1000 /\ ∀ s2 e dx,Inv X pins σ (upd H1 dx (.xd [(fld,.int n)])) s2->exAd C e dx s2.heap->H1 dx=none->dx≠e->H1 e=none->X.s₀.heap.get? e=none->X.xe (.ref e) s2)(EL:(x==("__debug__":Str))=false:=by decide)(he:FN [Y] X.env=[(false,eval Y X.env)]:=by rfl)(EM:(GY cpos (FN [Y] X.env)).any (·.1)=false:=by rfl) :
 FG (model X.prog X.w) X.A (exec (.Raise (some (.Call (.Name x np) [Y] [] cpos)) none pos) X.env) Q X.xe s:=by
 obtain⟨bm,N,nm,qn,bs,hd,sn,sub,ab,col,dd,k0,k1,k2,k3,k5,mN,hC,hN,EN,hT⟩:=mx I.ok.mod.kin Z.ex;refine jm (C:=C) (nm:=nm) (q:=qn) (N:=N) (bs:=bs) (bm:=bm) (hdct:=hd) (sn:=sn) (sub:=sub) (ab:=ab) (col:=col) (dd:=dd) (k0:=k0) (k1:=k1) (k2:=k2) (k3:=k3) (k5:=k5) (mN:=mN) (fI:=fI) Mc (hT.hasType (by decide)) (I.ok.hd hc) EM EN ?_
 refine cc I hg hm ⟨rfl,?_⟩ EL;have hp:=ha cpos pins s σ H _ I h;rw[he]at hp ⊢;refine LQ (thn hp λus s1 ⟨vs,H1,L,r,n,hv,h0,h1,q⟩=>⟨rfl,?_,L.bk _ _ hC,hN.keeps L.bk,hT.keeps L.bk,?_,?_⟩)
 ·subst hv;rw[<- r.length];exact(show 1<=Fz by decide)
 ·obtain⟨oI,ho,EO⟩:=any_some Z.fo;exact⟨oI,L.kIn _ _ ho,beq_iff_eq.mp EO⟩
 ·subst hv
  cases r with
  |cons r1 r =>
  cases r
  obtain⟨tn,rfl⟩:=r1;obtain⟨j,g,d,tk,os⟩:=s1;have ER:j.objs.size+1≠j.objs.size:=Nat.succ_ne_self _;have I2:Inv X pins σ (upd H1 (j.objs.size+1) (.ext (exAt C (j.objs.size+1)))) ⟨(j.push (tuO [.int n tn])).push (exO C j.objs.size none),g,d,tk,os⟩ :=
   L.laid (s:=⟨j,g,d,tk,os⟩) (t':=tk) (λb u q=>td _ (td _ q)) (KA _) (exAt.ext ⟨j.objs.size,by heap_get⟩)
  have e0:H1 (j.objs.size+1)=none:=L.hok.fresh (KA _);have n0:X.s₀.heap.get? (j.objs.size+1)=none:=JP (Gn L.sz (KA _));have r2:Vals [V.ref (j.objs.size+1),V.int n] [G5 (j.objs.size+1),IU n tn]:=.cons rfl (.cons ⟨tn,rfl⟩ .nil);have hq:spI C fld ta tb [V.ref (j.objs.size+1),V.int n] (upd H1 (j.objs.size+1) (.ext (exAt C (j.objs.size+1)))) (λv H'=>v = .non /\ ∃ dx,H1 dx=none/\dx≠j.objs.size+1/\H'=upd (upd H1 dx (.xd [(fld,.int n)])) (j.objs.size+1) (.ext (exAd C (j.objs.size+1) dx))) E0:=by
   refine⟨_,n,rfl,al,h0,h1,EK,λdx EI O=>⟨rfl,dx,?_,O,?_⟩⟩
   ·rw[ag O]at EI;exact EI
   ·funext b
    unfold upd
    by_cases z1:b=dx
    ·rw[if_pos z1,if_neg (by rw[z1];exact O),if_pos z1]
    ·rw[if_neg z1]
     by_cases z2:b=j.objs.size+1
     ·rw[if_pos z2,if_pos z2]
     ·rw[if_neg z2,if_neg z2,if_neg z2,if_neg z1]
  have hl:([G5 (j.objs.size+1),IU n tn]:List h8).length=ps.length:=by
   have e:=r2.length;rw[FI.len _ _ _ _ hq]at e;exact e.symm
  refine JD (I0 (FI.run _ X.stack _ _ ⟨[G5 (j.objs.size+1),IU n tn],[]⟩ [G5 (j.objs.size+1),IU n tn] _ _ E0 (hr.make C _ []) (I2.env0.make C _ []) (by have:=hb _ [G5 (j.objs.size+1),IU n tn] I2.kIn hl;rwa[Hz]at this) r2 hq) λr s' J=>?_)
  cases r with
  |error e=>exact(show False from J).elim
  | ok fl =>
    cases fl with
    |next=>exact(show False from J).elim
    |brk=>exact(show False from J).elim
    |cont=>exact(show False from J).elim
    | ret u =>
      obtain⟨v,H',I3,rv,hv,dx,EQ,EJ,rfl⟩:=I2.after J;subst hv;obtain⟨ad,_,_⟩:=(show ObjOk X.prog X.w _ s'.heap (j.objs.size+1) (.ext (exAd C (j.objs.size+1) dx)) from I3.hok _ _ al);have hd2:j.objs.size+1≠dx:=λz=>EJ z.symm;have I4:=I3.untrackG n0 (by rw[ag hd2];exact e0)
      exact⟨rv,I3.bk _ _ hC,⟨_,_,ad.choose_spec⟩,q s' _ dx I4 ad EQ EJ e0 n0⟩
end
end L2

namespace L2
open PySem PySem.Spec PyProof.Rows
open PySem.W
def clsF (a C dx:Addr) (h:Heap):Prop:=∃ o,h.get? a=some o/\o.cls = .ref C/\notCls o=true/\o.dict=some dx
theorem clsF.ext {P:FT}{w:G8}{H:Hp}{h:Heap}{a C dx:Addr}(x:clsF a C dx h):ObjOk P w H h a (.ext (clsF a C dx)) :=
 ⟨x,⟨_,x.choose_spec.1⟩,λh1 h2 q k=>⟨q.choose,k _ q.choose_spec.1,q.choose_spec.2⟩⟩
def IsF (H:Hp) (a C dx:Addr) (fld:Str) (n:Int):Prop:=H a=some (.ext (clsF a C dx))/\H dx=some (.xd [(fld,.int n)])
section
variable {prog:FT} {w:G8} {A:G3} {E:h8->Ft->Prop} {h:Heap} {g:Array KS} {d:Drawn} {t:Nat} {os:Oi} {a C:Addr} {o:Obj} {od:Option Obj} {K:Frag} {name:Str} {v:h8}
theorem sU {tk:Tok}{Q:Fin->Ft->Prop}(X:K.In h)(I:HG h a o C od)(hf:Ji K C od name=some (.value v))(j:Q (.done (.ret v)) ⟨h,g,d,t,os⟩):FG (model prog w) A (Jj.«object.__getattribute__» ⟨[.ref a,.str name tk],[]⟩) Q E ⟨h,g,d,t,os⟩:=by
 have L0:=I.type (M:=model prog w);have L1:=MW (M:=model prog w) X I hf;refine gV (Fv (gV (Fv (gV (L0.at (gV (L1.at ?_)))))));exact gV (Fv (Fv j))
theorem Ab {tk:Tok}{fill expr:Bool}{Q:h8->Ft->Prop}(X:K.In h)(I:HG h a o C od)(j:Gw K (.ref C) "__getattribute__" = some (some (.builtin "BaseException.__getattribute__")))(z:Gw K (.ref C) "__getattr__" = some none)(hf:Ji K C od name=some (.value v))(L:handedIn v=true)(J:∀ (M:Kd) (A:G3) (E:h8->Ft->Prop) (nameV:h8) (R:Unit->Ft->Prop),R () ⟨h,g,d,t,os⟩->FG M A (IZ "BaseException.__getattribute__" ⟨[.ref a,nameV],[]⟩) R E ⟨h,g,d,t,os⟩)(O:Q v ⟨h,g,d,t,os⟩):FG (model prog w) A (NM (.ref a) (.str name tk) fill expr) Q E ⟨h,g,d,t,os⟩:=by
 have L0:=I.type (M:=model prog w);have L1:=IQ (M:=model prog w) X j;have L2:=IQ (M:=model prog w) X z;unfold NM;refine Gp (gV (L0.at (gV (L1.at ?_))));show FG _ _ (JY _ _ _ _ _ _) _ _ _;unfold JY;have Y:=F.attrBase_ValueError.ga.bind (.ref a);have U:(expr&&onTheHeap (Value.builtin "BaseException.__getattribute__"))=false:=by cases expr <;> rfl
 repeat (any_goals (first|assumption|with_reducible refine L2.at ?_|wp_step))
 refine Ht F.attrBase_ValueError.ga.plain Od (J _ _ _ _ _ (sU X I hf ?_))
 repeat (any_goals (first|assumption|wp_step))
 exact handed_on L O
end
section
variable {X:Cx} {pins:List (Addr×Obj)} {σ:St} {H:Hp} {s:Ft} {a C dx:Addr} {fld:Str} {n:Int}
theorem IsF.inst (x:IsF H a C dx fld n)(I:Inv X pins σ H s):∃ o od u,HG s.heap a o C (some od)/\lookIn fld od=some (some u)/\RelV (.int n) u:=by
 obtain⟨⟨o,e,c,nc,dd⟩,_,_⟩:=(show ObjOk X.prog X.w H s.heap a (.ext (clsF a C dx)) from I.hok a _ x.1);obtain⟨mA,j,r⟩:=(show ObjOk X.prog X.w H s.heap dx (.xd [(fld,.int n)]) from I.hok dx _ x.2);obtain⟨od,ho,z⟩:=jz j;have rf:=r fld;rw[GW,beq_self_eq_true]at rf;obtain⟨u,F,ru⟩:=OT (v:=.int n) (o:=mA fld) rf;exact⟨o,od,u,⟨e,c,nc,by rw[dd];exact ho⟩,by rw[z,F],ru⟩
theorem Ac {e:Expr}{te:TE}{pos:Pos}(he:PE X e te)(F:JI e fld X.env (eval e X.env)=eval e X.env)(Z:lh X.K C)(hd:hasDictIn X.K C=true)(L:findIn X.K (.ref C) fld=some none) :
 PE X (.Attribute e fld pos) (λσ H Q=>te σ H λx H1=>∃ a dx n,x = .ref a/\IsF H1 a C dx fld n/\Q (.int n) H1):=by
 intro pins s σ H Q I h;refine wY F (thn (he pins s σ H _ I h) λu s1 O=>?_);obtain⟨x,H1,j,rx,a,dx,n,ex,U,q⟩:=O;subst ex;obtain rfl:u=G5 a:=rx;obtain⟨o,od,u,J,Y,ru⟩:=U.inst j;obtain⟨hh,g,d,tk,os⟩:=s1;have z:findObj X.K C (some od) fld=some (.value u):=findObj_own hd L rfl Y;have hv:handedIn u=true:=rA ru;refine gV (wpAny_mkText ?_);exact Ab j.kIn J Z.ga Z.gn z hv (lg j.kIn J Z.sb) ⟨.int n,H1,j.tok _,ru,q⟩
theorem vz:CallR X (.builtin "isinstance") (λvs H Q=>∃ a C dx fld n c b,vs=[.ref a,c]/\isC c=true/\IsF H a C dx fld n/\lh X.K C/\Ki X.K (.ref C) (cV c)=some b/\Q (.bl b) H):=by
 intro pins s σ H xs us Q I r h;obtain⟨a,C,dx,fld,n,c,b,rfl,F,L,Z,hk,q⟩:=h
 cases r with
 |cons O r =>
 cases r with
 |cons j r =>
 cases r
 cases O
 have e:cV c=_:=(by
  cases c <;> first|cases F|skip
  ·exact(show _=G5 _ from j).symm
  ·exact(show _=Lj _ from j).symm)
 rw[e]at hk;obtain⟨o,od,u,J,_,_⟩:=L.inst I;exact Gy (um Z) I.kIn ⟨o,_,J⟩ hk (λz=>nomatch z) λtk=>⟨.bl b,H,I.tok tk,rfl,q⟩
end
end L2

namespace L2
open PySem PySem.Spec PyProof.Rows
open PySem.W
section
variable {X:Cx} {pins:List (Addr×Obj)} {σ:St} {H:Hp} {s:Ft} {a C:Addr} {φ:Heap->Prop}
theorem P2 (I:Inv X pins σ H s)(F:X.s₀.heap.get? a=none)(J:H a=none)(x:∀ H',ObjOk X.prog X.w H' s.heap a (.ext φ))(L:a≠X.env.locals)(O:∀ y c,X.env.cells.lookup y=some c->c≠a)(U:∀ p∈X.pn++pins,p.1≠a):Inv X pins σ (upd H a (.ext φ)) s:=by
 have ne:∀ b o,X.s₀.heap.get? b=some o->b≠a:=λb o e z=>by rw[z,F]at e;cases e
 have nt:∀ b o,H b=some o->b≠a:=λb o e z=>by rw[z,J]at e;cases e
 refine⟨I.ok,I.os,I.bare,⟨I.base.keep,I.base.slot,λb o e n hx=>by rw[ag (ne b o e)];exact I.base.free b o e n hx,I.base.there,λb xs e=>?_,λb o u e=>?_,λb ps e=>?_⟩,I.loc,I.cell,by rw[ag (Ne.symm L)];exact I.free,λy c e=>by rw[ag (O y c e)];exact I.freeC y c e,λp j=>?_,λb o e=>?_,I.len⟩
 ·have h1:=I.base.tups b xs e;rw[ag (nt b _ h1)];exact h1
 ·have h1:=I.base.frzs b o u e;rw[ag (nt b _ h1)];exact h1
 ·obtain⟨more,h1⟩:=I.base.tbls b ps e;exact⟨more,by rw[ag (nt b _ h1)];exact h1⟩
 ·obtain⟨e,n,r⟩:=I.pin p j;exact⟨e,by rw[ag (U p j)];exact n,r⟩
 ·by_cases z:b=a
  ·subst z;rw[al]at e;cases e;exact x _
  ·rw[ag z]at e;exact(I.hok b o e).stay (λc u _ q=>q) (λc q=>by rw[ag (nt c _ q)];exact q) λc xs q=>by rw[ag (nt c _ q)];exact q
end
structure sV (X:Cx) (xD:Str) (C D:Addr):Prop where
 g5:Gl X xD
 m5:X.mg xD=some (.ref D)
 d5:(xD==("__debug__":Str))=false
 eD:KN X.K D vbm "ValueError.__new__" = true
 sD:JN X.K (.ref C) (.ref D)=some true
section
variable {X:Cx}
theorem yi {n xD x fx:Str}{C D:Addr}{ie i k:Nat}{f:Addr}{fd:Hi}{ps:List Str}{sp:Sp}{U:Expr}{es:List Expr}{tA:TA}{fp cpos epos np EN xp apos EM tpos:Pos}(hex:X.ex=[])(EO:X.stack=X.env::X.outer)(EX:X.env.frame=some X.env.locals)(Z:∀ a,sV (X.hld a) xD C D)(hN:X.N.Nodup)(hi:X.N[i]? = some x)(hx:X.env.scope.names.lookup x=some .local)(EK:X.N[ie]? = some n)(hn:X.env.scope.names.lookup n=some .local)(EY:ie≠i)(hd:(n==("__debug__":Str))=false)(EZ:(n==("__classdict__":Str))=false)(F:bf X.prog X.w X.K X.mg X.base (CXF X.prog X.w X.base (.ref C)) k f fd ps sp)(hr:Room k X.A)(hg:Gl X fx)(hm:X.mg fx=some (.ref f))(hk:Ha X.K (.ref f)=true)(hb:Binds X.K fd ps [])(ha:PA X.nox (U::es) tA)(F0:(fx==("__debug__":Str))=false)(he:FN (U::es) X.env=(false,eval U X.env)::FN es X.env)(F3:(GY cpos (FN es X.env)).any (·.1)=false)(F4:Hl (.Call (.Name fx fp) (U::es) [] cpos) none epos.line X.env=pure false) :
 PS X (.Try [.Expr (.Call (.Name fx fp) (U::es) [] cpos) epos] [.ExceptHandler (some (.Name xD np)) (some n) [.Assign [.Name x xp] (.Name n EN) apos] EM] [] [] tpos)
  (λDD σ H=>tA σ H λvs H1=>sp vs H1 (λ_ H2=>DD.nx σ H2) λcls dd H'=>∃ dx,dd=some dx /\ ∀ a,H' a=none->DD.nx ((σ.set i (some (.ref a))).set ie none) (upd H' a (.ext (clsF a C dx)))):=by
 intro pins s σ H DD I h;refine wpAny_Try_except (KU (LL ?_ I.quiet F4));refine HH (cc I hg hm ?_ F0);have hA:=PA.nox (X:=X.wish λe s₁=>FG (model X.prog X.w) X.A (Mm e X.env) (λ_ s₂=>FG (model X.prog X.w) X.A (L5 e none) (λ_ s₃=>FG (model X.prog X.w) X.A (handleBy e X.env [.ExceptHandler (some (.Name xD np)) (some n) [.Assign [.Name x xp] (.Name n EN) apos] EM]) (SP X pins DD) X.xe s₃) X.xe s₂) X.xe s₁) ha;refine MM (h₀:=X.base) I.ok.mod.kin hk (thn (hA cpos pins s σ H _ (I.wish _) h) λus s1 ⟨vs,H1,O,r,q⟩=>⟨O.unwish.kIn,?_⟩) he F3;have O:=O.unwish;have hl:(us++[]).length=ps.length:=by rw[Hz,<- r.length];exact F.len _ _ _ _ q
 refine JD (I0 (F.run X.A X.stack s1 H1 ⟨us,[]⟩ us vs _ _ hr O.env0 (by have:=hb s1 us O.kIn hl;rwa[Hz]at this) r q) λr s' hq=>?_)
 cases r with
 | ok fl =>
   cases fl with
   | ret u =>
     obtain⟨v,H',I2,_,z⟩:=O.after hq;exact ID (ID ⟨σ,H',I2,z⟩)
   |next=>exact False.elim hq
   |brk=>exact False.elim hq
   |cont=>exact False.elim hq
 |error u =>
 obtain⟨a,T,dx,H',rfl,os,bare,un,hok,ff,ex,EQ,F5,na,nT,hE⟩:=hq;rw[EO]at ff;have frn:∀ b∈frs X.stack,H' b=none:=λb hb=>by
  have h1:=O.stkFree b hb;obtain⟨_,o,ho,_⟩:=O.stack.mem hb;exact un.free b o ho h1 (by intro z;cases z)
 refine nZ (base:=X.base) (L:=X.env.locals) (by rw[I.ok.frames,EO]) ff EX ex λh2 T2 l ES ET=>?_
 rw[<- EO]at l;have ne1:∀ b o,s1.heap.get? b=some o->b≠a/\some b≠some T/\b≠T2:=λb o e=>by
  refine⟨λz=>?_,λz=>?_,λz=>?_⟩
  ·rw[z,na]at e;cases e
  ·cases z;rw[nT]at e;cases e
  ·obtain⟨o',e'⟩:=un.there b o e (by intro z;cases z)
   rw[z,ET]at e';cases e'
 have F6:H' T2=none:=hok.no ET;have mkU:∀ Y,(∀ b o,b≠a->some b≠some T->b≠T2->b∉frs X.stack->s'.heap.get? b=some o->Y.get? b=some o)->(∀ b o,b≠a->some b≠some T->b≠T2->s'.heap.get? b=some o -> ∃ sl,Y.get? b=some { o with slots:=sl })->Un (frs X.stack) [] H1 H' s1.heap Y/\HOk X.prog X.w H' Y:=λY k1 k2=>by
  refine⟨⟨λb o e n hf hx=>?_,λb o e n hf hx=>?_,un.free,λb o e hx=>?_,un.tups,un.frzs,un.tbls⟩,λb o e=>?_⟩
  ·obtain⟨j,J,z3⟩:=ne1 b o e;exact k1 b o j J z3 hf (un.keep b o e n hf hx)
  ·obtain⟨j,J,z3⟩:=ne1 b o e;obtain⟨sl,U⟩:=un.slot b o e n hf hx;obtain⟨EU,e2⟩:=k2 b _ j J z3 U;exact⟨EU,e2⟩
  ·obtain⟨j,J,z3⟩:=ne1 b o e;obtain⟨o',U⟩:=un.there b o e hx;obtain⟨EU,e2⟩:=k2 b _ j J z3 U;exact⟨_,e2⟩
  ·refine (hok b o e).stay (fun c u hc q=>?_) (fun c q=>q) fun c xs q=>q;have hH:H' c≠none:=by
    rcases hc with z|z
    ·rw[z,e];simp
    ·rw[z];simp
   exact k1 c u (λz=>hH (by rw[z];exact EQ)) (λz=>hH (by cases z;exact F5)) (λz=>hH (by rw[z];exact F6)) (λz=>hH (frn c z)) q
 obtain⟨F7,EV⟩:=mkU h2 (λb o j J _ hf e=>l.keep b o j J hf e) (λb o j J _ e=>l.slot b o j J e);have I2:Inv X pins σ H' { s' with heap:=h2 }:=O.call' (s':={ s' with heap:=h2 }) os F7 EV bare λb z=>by cases z
 obtain⟨bm,N,nm,qn,bs,Fd,sn,sub,ab,col,dd,k0,k1,k2,k3,k5,mN,hD,_,_,hT⟩:=xb I.ok.mod.kin (Z a).eD;obtain⟨oe,vs',ee,ec,_,_,_⟩:=id ES.obj;refine wpAny_handleBy_cons (codeAny_handlers_test ?_) (by intro q;cases q)
 refine cc (X:=X.hld a) (I2.hld a) (Z a).g5 (Z a).m5 ?_ (Z a).d5;refine nG (Mq I2.kIn (Z a).sD) (I2.bk _ _ hD) ee ec (hT.hasType (by decide)) ?_
 refine codeAny_handlers_suite_as ?_;refine rJ (s:={ s' with heap:=h2 }) ES λY sb F8=>?_
 obtain⟨F9,EW⟩:=mkU Y (λb o j J z3 hf e=>(sb.2 b z3).trans (l.keep b o j J hf e)) (λb o j J z3 e=>by
  obtain⟨sl,U⟩:=l.slot b o j J e;exact⟨sl,(sb.2 b z3).trans U⟩)
 have I3:Inv X pins σ H' { s' with heap:=Y }:=O.call' (s':={ s' with heap:=Y }) os F9 EW bare λb z=>by cases z
 refine jy (X:=X.hld a) (v:=.ref a) (I3.hld a) hN EK (.inl hn) rfl (λs4 J4 g9=>?_) (.inr hn);obtain⟨b4,Fa,Fb⟩:=g9;obtain⟨o3,Fe,e3,c3,Fc,ER,_⟩:=id F8.obj;have aL:a≠X.env.locals:=λz=>by
  obtain⟨m,⟨o,es',ep,ho,EI,_⟩,_⟩:=I3.loc;rw[<- z]at ho;have EJ:Y.get? a=some o:=ho;rw[e3]at EJ;cases EJ;rw[ER]at EI;cases EI
 have aC:∀ y c,X.env.cells.lookup y=some c->c≠a:=λy c e z=>by
  obtain⟨v,o,ho,EI⟩:=I3.cell y c e;rw[z]at ho;have EJ:Y.get? a=some o:=ho;rw[e3]at EJ;cases EJ;rw[ER]at EI;cases EI
 have a4:a≠b4:=by
  rcases Fb with z|z
  ·rw[z];exact aL
  ·exact λy=>aC n b4 z y.symm
 have n0:X.s₀.heap.get? a=none:=by
  cases hz:X.s₀.heap.get? a with
  |none=>rfl
  | some o =>
    obtain⟨o',e'⟩:=O.base.there a o hz (by rw[hex];intro z;cases z)
    rw[na]at e';cases e'
 have cF:clsF a C dx s4.heap:=⟨o3,(Fa.2 a a4).trans e3,c3,by unfold PySem.W.notCls;rw[ER],Fc⟩
 have J5:=P2 (X:=X.hld a) (φ:=clsF a C dx) J4 n0 EQ (λH'=>cF.ext) aL aC λp hp z=>by
  obtain⟨e,_⟩:=O.pin p hp;rw[z,na]at e;cases e
 have hlen:ie<σ.length:=by rw[I.len];exact(G0.mp EK).1
 have step:=dj (r6 (X:=X.hld a) (pos:=apos) (pos':=xp) hN hi (.inl hx) (fj (X:=X.hld a) (pos:=EN) EK (.inl hn) hd EZ) rfl (.inr hx)) pins s4 _ _
  { nx:=λσ' H''=>σ'=(σ.set ie (some (.ref a))).set i (some (.ref a))/\H''=upd H' a (.ext (clsF a C dx)),rt:=λ_ _=>False } J5 ⟨.ref a,by rw[Gi hlen],rfl,rfl⟩
 refine Ga step (λfl s5 EL=>?_) λ_ _ z=>z.elim
 cases fl with
 |brk=>obtain⟨_,_,_,z⟩:=EL;exact z.elim
 |cont=>obtain⟨_,_,_,z⟩:=EL;exact z.elim
 |ret u=>obtain⟨_,_,_,_,_,z⟩:=EL;exact z.elim
 | next =>
   obtain⟨σ',H'',J6,rfl,rfl⟩:=EL;have J7:=J6.unhld I.ok;refine xc J7 hN EK hn λs6 J8=>⟨_,_,J8,?_⟩;have es':(((σ.set ie (some (.ref a))).set i (some (.ref a))).set ie none)=(σ.set i (some (.ref a))).set ie none:=by
    rw[List.set_comm _ _ EY,List.set_set]
   rw[es'];obtain⟨dx',e',q'⟩:=hE
   cases e'
   exact q' a EQ
end
end L2

namespace L2
open PySem PySem.Spec PyProof.Rows
namespace Mi
section
inductive BOp where|add|sub|mul|fdiv|mod|pow
inductive COp where|eq|ne|lt|le|gt|ge|is|isn|inStr|inNon|ninStr
inductive BF where|len|abs|max2|min2|int|tuple|all|any|str|intS|lenS
inductive MF where|append|count|indexS
set_option genCtorIdx false
set_option genInjectivity false
mutual
inductive MG where
 |name (i:Nat)
 |tup (gs:MGs)
inductive MGs where
 |nil
 |cons (g:MG) (r:MGs)
end
mutual
inductive ME where
 |var (i:Nat)
 |int (i:Int)
 |bl (b:Bool)
 |non
 |str (x:Str)
 |bin (op:BOp) (a b:ME)
 |neg (a:ME)
 |cmp (op:COp) (a b:ME)
 |and (es:MEs)
 |or (es:MEs)
 |not (a:ME)
 |ite (c:MT) (a b:ME)
 |tup (es:MEs)
 |lst (es:MEs)
 |ix (a b:ME)
 |sl (a:ME) (lo hi:MO)
 |call (f:Nat) (es:MEs)
 |blt (f:BF) (es:MEs)
 |isin (a:ME) (T:String)
 |chain (op op':COp) (a b c:ME)
 |glob (x:Str) (d:D)
 |meth (m:MF) (o a:ME)
 |comp (fr:List (Option Nat)) (N:List Str) (c:MC)
 |join (o a:ME)
 |smeth (m:SM) (o a:ME)
 |ixS (a b:ME)
 |slS (a:ME) (lo:MO)
 |slT (a:ME) (hi:MO)
inductive MEs where
 |nil
 |cons (e:ME) (r:MEs)
inductive MO where
 |none
 |some (e:ME)
inductive MT where
 |tru (e:ME)
 |cmp (op:COp) (a b:ME)
 |chain (op op':COp) (a b c:ME)
 |and (ts:MTs)
 |or (ts:MTs)
 |not (t:MT)
inductive MTs where
 |nil
 |cons (t:MT) (r:MTs)
inductive MI where
 |seq (e:ME)
 |rng1 (a:ME)
 |zip (a b:ME)
 |enum (a:ME)
 |enum1 (a:ME)
 |chars (a:ME)
inductive MC where
 |last (src:MI) (g:MG) (ifs:MTs) (elt:ME)
 |more (src:MI) (g:MG) (ifs:MTs) (rest:MC)
end
mutual
inductive MS where
 |asg (g:MG) (e:ME)
 |par (i j:Nat) (a b:ME)
 |put (o i e:ME)
 |drop (e:ME)
 |ret (e:ME)
 |ite (c:MT) (a b:MSs)
 |for (g:MG) (src:MI) (b:MSs)
 |while (c:MT) (b:MSs)
 |bot
 |pass|brk|cnt
inductive MSs where
 |nil
 |cons (s:MS) (r:MSs)
end
set_option genCtorIdx true
set_option genInjectivity true
noncomputable def opB:BOp->R2d
 |.add=>et|.sub=>lF|.mul=>eP|.fdiv=>ip|.mod=>lH|.pow=>lJ
noncomputable def opC:COp->R2d
 |.eq=>wEq|.ne=>wNe|.lt=>wLt|.le=>wLe|.gt=>wGt|.ge=>wGe|.is=>wIs|.isn=>q9| .inStr=>iF|.inNon=>iG|.ninStr=>gh
noncomputable def opF:BF->RAd
 |.len=>eQ| .intS=>kG|.lenS=>kH|.abs=>jd|.max2=>iq|.min2=>ir|.int=>je| .tuple=>iu| .all=>qf|.any=>qg| .str=>kE
noncomputable def opM:MF->D->List D->Mem->QD->Prop
 |.append=>gb| .count=>iK|.indexS=>gj
theorem my:∀ o,au (opB o)
 |.add=>uu|.sub=>uv|.mul=>uw|.fdiv=>rS|.mod=>uz|.pow=>uA
theorem b6:∀ o,au (opC o)
 |.eq=>xm|.ne=>xo|.lt=>xu|.le=>xv|.gt=>xw|.ge=>xx|.is=>xV|.isn=>vb| .inStr=>qm|.inNon=>qq|.ninStr=>nN
theorem vA:∀ o,aO (opF o)
 |.len=>lU| .intS=>jW|.lenS=>jX|.abs=>lV|.max2=>jM|.min2=>jN|.int=>lW| .tuple=>iw| .all=>m4|.any=>m6| .str=>jT
theorem vB:∀ o,dZ (opM o)
 |.append=>gF| .count=>iL|.indexS=>gK
noncomputable abbrev Phi:=Nat->RAd
mutual
noncomputable def bG:MG->BT
 |.name i=>bO i
 |.tup gs=>uQ (bGs gs)
noncomputable def bGs:MGs->BTs
 |.nil=>gR
 |.cons g r=>bP (bG g) (bGs r)
end
mutual
noncomputable def wE (Φ:Phi):ME->TEd
 |.var i=>gN i
 |.int i=>wC (.int i)
 |.bl b=>wC (.bl b)
 |.non=>wC .non
 |.str x=>wC (.str x)
 |.bin op a b=>wOp (opB op) (wE Φ a) (wE Φ b)
 |.neg a=>wUn lK (wE Φ a)
 |.cmp op a b=>wOp (opC op) (wE Φ a) (wE Φ b)
 |.and es=>wAnds Φ es
 |.or es=>wOrs Φ es
 |.not a=>kx (wE Φ a)
 |.ite c a b=>wIf (wT Φ c) (wE Φ a) (wE Φ b)
 |.tup es=>wAr pK (wA Φ es)
 |.lst es=>wAr pL (wA Φ es)
 |.ix a b=>wOp wIx (wE Φ a) (wE Φ b)
 |.sl a lo hi=>wSl (wE Φ a) (wO Φ lo) (wO Φ hi)
 |.call f es=>wAr (Φ f) (wA Φ es)
 |.blt f es=>wAr (opF f) (wA Φ es)
 |.isin a T=>kz T (wE Φ a)
 |.chain op op' a b c=>bM (opC op) (opC op') (wE Φ a) (wE Φ b) (wE Φ c)
 |.glob _ d=>wC d
 |.meth m o a=>wBM (opM m) (wE Φ o) (aI (wE Φ a) bo)
 |.comp fr _ c=>wCmp Φ fr c
 |.join o a=>kF (wE Φ o) (wE Φ a)
 |.smeth m o a=>wSM (md m) (wE Φ o) (wE Φ a)
 |.ixS a b=>wOp qk (wE Φ a) (wE Φ b)
 |.slS a lo=>ql (wE Φ a) (wO Φ lo)
 |.slT a hi=>qz (wE Φ a) (wO Φ hi)
noncomputable def wA (Φ:Phi):MEs->TAd
 |.nil=>bo
 |.cons e r=>aI (wE Φ e) (wA Φ r)
noncomputable def wAnds (Φ:Phi):MEs->TEd
 |.nil=>λ_ _ _=>False
 |.cons e .nil=>wE Φ e
 |.cons e (.cons f r)=>ku (wE Φ e) (wAnds Φ (.cons f r))
noncomputable def wOrs (Φ:Phi):MEs->TEd
 |.nil=>λ_ _ _=>False
 |.cons e .nil=>wE Φ e
 |.cons e (.cons f r)=>pR (wE Φ e) (wOrs Φ (.cons f r))
noncomputable def wO (Φ:Phi):MO->TOd
 |.none=>fZ
 |.some e=>ky (wE Φ e)
noncomputable def wT (Φ:Phi):MT->TTd
 |.tru e=>pP (wE Φ e)
 |.cmp op a b=>cQ (wOp (opC op) (wE Φ a) (wE Φ b))
 |.chain op op' a b c=>cQ (bM (opC op) (opC op') (wE Φ a) (wE Φ b) (wE Φ c))
 |.and ts=>wAndTs Φ ts
 |.or ts=>wOrTs Φ ts
 |.not t=>ko (wT Φ t)
noncomputable def wAndTs (Φ:Phi):MTs->TTd
 |.nil=>λ_ _ _=>False
 |.cons e .nil=>wT Φ e
 |.cons e (.cons f r)=>kr (wT Φ e) (wAndTs Φ (.cons f r))
noncomputable def wOrTs (Φ:Phi):MTs->TTd
 |.nil=>λ_ _ _=>False
 |.cons e .nil=>wT Φ e
 |.cons e (.cons f r)=>pQ (wT Φ e) (wOrTs Φ (.cons f r))
noncomputable def wTl (Φ:Phi):MTs->List TTd
 |.nil=>[]
 |.cons t r=>wT Φ t::wTl Φ r
noncomputable def wI (Φ:Phi):MI->TId
 |.seq e=>pT (wE Φ e)
 |.rng1 a=>kA (aI (wE Φ a) bo)
 |.zip a b=>jg (wE Φ a) (wE Φ b)
 |.enum a=>kB (wE Φ a)
 |.enum1 a=>iI (wE Φ a)
 |.chars a=>iH (wE Φ a)
noncomputable def wCl (Φ:Phi):MC->TCd
 |.last src g ifs elt=>dq (wI Φ src) (bG g) (ba (wTl Φ ifs) (ef (wE Φ elt)))
 |.more src g ifs rest=>dq (wI Φ src) (bG g) (ba (wTl Φ ifs) (wCl Φ rest))
noncomputable def wCmp (Φ:Phi) (fr:List (Option Nat)):MC->TEd
 |.last src g ifs elt=>gf fr (wI Φ src) (bG g) (ba (wTl Φ ifs) (ef (wE Φ elt)))
 |.more src g ifs rest=>gf fr (wI Φ src) (bG g) (ba (wTl Φ ifs) (wCl Φ rest))
end
mutual
noncomputable def wS (Φ:Phi):MS->TSd
 |.asg g e=>fJ (wE Φ e) (bG g)
 |.par i j a b=>pU (aI (wE Φ a) (aI (wE Φ b) bo)) (bP (bO i) (bP (bO j) gR))
 |.put o i e=>pZ (wE Φ e) (wE Φ o) (wE Φ i)
 |.drop e=>kD (wE Φ e)
 |.ret e=>gU (wE Φ e)
 |.ite c a b=>sIf (wT Φ c) (wSs Φ a) (wSs Φ b)
 |.for g src b=>jh (wI Φ src) (bG g) (wSs Φ b)
 |.while c b=>iA (wT Φ c) (wSs Φ b)
 |.bot=>λ_ _ _=>False
 |.pass=>eV
 |.brk=>iz
 |.cnt=>kC
noncomputable def wSs (Φ:Phi):MSs->TSd
 |.nil=>eV
 |.cons s r=>fH (wS Φ s) (wSs Φ r)
end
section
variable {Φ:Phi} (hΦ:∀ f,aO (Φ f))
include hΦ
mutual
theorem mE:∀ m,ae (wE Φ m)
 |.var _=>ut
 |.int _=>fE
 |.bl _=>fE
 |.non=>fE
 |.str _=>fE
 |.bin op a b=>dk (my op) (mE a) (mE b)
 |.neg a=>xj lL (mE a)
 |.cmp op a b=>dk (b6 op) (mE a) (mE b)
 |.and es=>mAnds es
 |.or es=>mOrs es
 |.not a=>rZ (mE a)
 |.ite c a b=>xH (mT c) (mE a) (mE b)
 |.tup es=>fX rP (mA es)
 |.lst es=>fX rQ (mA es)
 |.ix a b=>dk oi (mE a) (mE b)
 |.sl a lo hi=>xK (mE a) (mO lo) (mO hi)
 |.call f es=>fX (hΦ f) (mA es)
 |.blt f es=>fX (vA f) (mA es)
 |.isin a T=>sf (mE a)
 |.chain op op' a b c=>eW (b6 op) (b6 op') (mE a) (mE b) (mE c)
 |.glob _ _=>fE
 |.meth m o a=>xO (vB m) (mE o) (aw (mE a) av)
 |.comp fr _ c=>mCmp fr c
 |.join o a=>sB (mE o) (mE a)
 |.smeth m o a=>yc (jV m) (mE o) (mE a)
 |.ixS a b=>dk mf (mE a) (mE b)
 |.slS a lo=>vk (mE a) (mO lo)
 |.slT a hi=>vt (mE a) (mO hi)
theorem mA:∀ m,bn (wA Φ m)
 |.nil=>av
 |.cons e r=>aw (mE e) (mA r)
theorem mAnds:∀ m,ae (wAnds Φ m)
 |.nil=>λ_ _ _ _ _ q=>q.elim
 |.cons e .nil=>mE e
 |.cons e (.cons f r)=>rY (mE e) (mAnds (.cons f r))
theorem mOrs:∀ m,ae (wOrs Φ m)
 |.nil=>λ_ _ _ _ _ q=>q.elim
 |.cons e .nil=>mE e
 |.cons e (.cons f r)=>uN (mE e) (mOrs (.cons f r))
theorem mO:∀ m,cm (wO Φ m)
 |.none=>nJ
 |.some e=>se (mE e)
theorem mT:∀ m,aA (wT Φ m)
 |.tru e=>uL (mE e)
 |.cmp op a b=>lu (dk (b6 op) (mE a) (mE b))
 |.chain op op' a b c=>lu (eW (b6 op) (b6 op') (mE a) (mE b) (mE c))
 |.and ts=>mAndTs ts
 |.or ts=>mOrTs ts
 |.not t=>rW (mT t)
theorem mAndTs:∀ m,aA (wAndTs Φ m)
 |.nil=>λ_ _ _ _ _ q=>q.elim
 |.cons e .nil=>mT e
 |.cons e (.cons f r)=>rX (mT e) (mAndTs (.cons f r))
theorem mOrTs:∀ m,aA (wOrTs Φ m)
 |.nil=>λ_ _ _ _ _ q=>q.elim
 |.cons e .nil=>mT e
 |.cons e (.cons f r)=>uM (mT e) (mOrTs (.cons f r))
theorem mTl:∀ m,∀ t∈wTl Φ m,aA t
 |.nil=>by rw[wTl];intro t j;simp at j
 |.cons t r=>by
  rw[wTl];intro t' j
  rcases FA.mp j with e|e
  ·rw[e];exact mT t
  ·exact mTl r t' e
theorem mI:∀ m,bx (wI Φ m)
 |.seq e=>uS (mE e)
 |.rng1 a=>si (aw (mE a) av)
 |.zip a b=>uT (mE a) (mE b)
 |.enum a=>sj (mE a)
 |.enum1 a=>qw (mE a)
 |.chars a=>qt (mE a)
theorem mCl:∀ m,bI (wCl Φ m)
 |.last src g ifs elt=>gG (mI src) (aM (bv (mE elt)) (mTl ifs))
 |.more src g ifs rest=>gG (mI src) (aM (mCl rest) (mTl ifs))
theorem mCmp (fr:List (Option Nat)):∀ m,ae (wCmp Φ fr m)
 |.last src g ifs elt=>jO (mI src) (aM (bv (mE elt)) (mTl ifs))
 |.more src g ifs rest=>jO (mI src) (aM (mCl rest) (mTl ifs))
end
mutual
theorem mS:∀ m,aG (wS Φ m)
 |.asg g e=>uW (mE hΦ e)
 |.par i j a b=>uX (aw (mE hΦ a) (aw (mE hΦ b) av))
 |.put o i e=>v8 (mE hΦ e) (mE hΦ o) (mE hΦ i)
 |.drop e=>so (mE hΦ e)
 |.ret e=>uU (mE hΦ e)
 |.ite c a b=>uV (mT hΦ c) (mSs a) (mSs b)
 |.for g src b=>uY (mI hΦ src) (mSs b)
 |.while c b=>pW (mT hΦ c) (mSs b)
 |.bot=>λ_ _ _ _ _ q=>q
 |.pass=>jQ
 |.brk=>pV
 |.cnt=>sk
theorem mSs:∀ m,aG (wSs Φ m)
 |.nil=>jQ
 |.cons s r=>sm (mS s) (mSs r)
end
end
end
variable {f:Pos->Bool}{b:Bool}{e:Expr}{es:List Expr}{env:Env}{l:Nat}
section
structure Ctx where
 Γ:List Str
 N:List Str
 sc:Scope
 fn:List Str
 cs:List (Str×D)
 lm:Nat
 nm:Str
noncomputable def glB (sc:Scope) (x:Str):Bool:=sc.names.lookup x==some .globalImplicit
noncomputable def vC (sc:Scope) (x:Str):Bool:=sc.names.lookup x==some .local || sc.names.lookup x==some .cell || sc.names.lookup x==some .free
noncomputable def vD (sc:Scope) (x:Str):Bool:=sc.names.lookup x==some .local || sc.names.lookup x==some .cell
noncomputable def aK:Expr->Bool
 |.Starred ..=>false
 |_=>true
noncomputable def sW:Expr->Bool
 |.Name ..|.Call ..|.Subscript ..|.Constant ..|.BinOp ..|.Attribute ..=>true
 |_=>false
noncomputable def gm:Expr->Bool
 |.Slice ..=>false
 |_=>true
noncomputable def iN:Expr->Bool
 |.ListComp ..|.SetComp ..|.DictComp ..=>false
 |_=>true
noncomputable def iO:Expr->Bool
 |.Set ..=>false
 |_=>true
noncomputable def gp:Expr->Bool
 |.Call _ (_::_) _ _=>true
 |.Call ..=>false
 |_=>true
noncomputable def opO:BOp->Nb
 |.add=>.Add|.sub=>.Sub|.mul=>.Mult|.fdiv=>.FloorDiv|.mod=>.Mod|.pow=>.Pow
noncomputable def gY:COp->LN
 |.eq=>.Eq|.ne=>.NotEq|.lt=>.Lt|.le=>.LtE|.gt=>.Gt|.ge=>.GtE|.is=>.Is|.isn=>.IsNot| .inStr=>.In|.inNon=>.In|.ninStr=>.NotIn
noncomputable def mz:BF->Str
 |.len=>"len"| .intS=>"int"|.lenS=>"len"|.abs=>"abs"|.max2=>"max"|.min2=>"min"|.int=>"int"| .tuple=>"tuple"| .all=>"all"|.any=>"any"| .str=>"str"
noncomputable def Ad:MF->Str
 |.append=>"append"| .count=>"count"|.indexS=>"index"
noncomputable def Ae:SM->Str
 |.split=>"split"|.part=>"partition"|.starts=>"startswith"
noncomputable def bltNames:List Str:=["len","abs","max","min","int","list","tuple","sum","isinstance","range","bool","str","dict","zip","enumerate","reversed","sorted","all","any","set"]
noncomputable def gZ (sc osc:Scope):Scope :=
 { sc with names:=sc.names.map λ(n,k)=>if (k == .free&&osc.kind == .function&&osc.names.lookup n==some .cell) then (n,.cell) else (n,k) }
theorem nQ (sc:Scope)(env:Env):relabel sc env=gZ sc env.scope:=rfl
noncomputable def vE (sc osc:Scope) (oN N':List Str) (fr:List (Option Nat)):Bool :=
 decide (sc.kind = .function)&&decide ((sc.names.map (·.1)).Nodup)&&decide (N'.Nodup)
  && sc.names.all (λx=>!(x.2 == .free) || osc.names.lookup x.1==some .cell || osc.names.lookup x.1==some .free)
  && decide (fr.length=N'.length)
  && (Hx N'.length).all λi=>match fr[i]?,N'[i]? with
   |some (some j),some x=>decide (oN[j]? = some x)&&sc.names.any (λy=>decide (y=(x,G4)))
   |_,_=>true
theorem pk {p:Prop}[d:Decidable p]{t:p->Bool}(h:dite p t (λ_=>false)=true):∃ c,t c=true:=by
 cases d with
 |isTrue c=>exact⟨c,h⟩
 |isFalse c=>cases h
noncomputable def da (e:Expr) (f:Str->Pos->Bool):Bool:=if h:e.ctorIdx=23 then @OC.elim (λ_=>Bool) e h f else false
@[elab_as_elim]
theorem ej {P:Expr->Prop}(e:Expr){f:Str->Pos->Bool}(h:da e f=true)(k:∀ a b,f a b=true->P (.Name a b)):P e :=
 (pk h).elim λc=>@OC.elim (λe=>∀ c,@OC.elim (λ_=>Bool) e c f=true->P e) e c (λa b _ h=>k a b h) c
noncomputable def cf (e:Expr) (f:Const->Nat->Pos->Bool):Bool:=if h:e.ctorIdx=19 then @Mz.elim (λ_=>Bool) e h f else false
@[elab_as_elim]
theorem cL {P:Expr->Prop}(e:Expr){f:Const->Nat->Pos->Bool}(h:cf e f=true)(k:∀ a b c,f a b c=true->P (.Constant a b c)):P e :=
 (pk h).elim λc=>@Mz.elim (λe=>∀ c,@Mz.elim (λ_=>Bool) e c f=true->P e) e c (λa b c _ h=>k a b c h) c
noncomputable def sY (e:Expr) (f:Expr->Nb->Expr->Pos->Bool):Bool:=if h:e.ctorIdx=2 then @Ow.elim (λ_=>Bool) e h f else false
@[elab_as_elim]
theorem Af {P:Expr->Prop}(e:Expr){f:Expr->Nb->Expr->Pos->Bool}(h:sY e f=true)(k:∀ a b c d,f a b c d=true->P (.BinOp a b c d)):P e :=
 (pk h).elim λc=>@Ow.elim (λe=>∀ c,@Ow.elim (λ_=>Bool) e c f=true->P e) e c (λa b c d _ h=>k a b c d h) c
noncomputable def eX (e:Expr) (f:UnaryOp->Expr->Pos->Bool):Bool:=if h:e.ctorIdx=3 then @NA.elim (λ_=>Bool) e h f else false
@[elab_as_elim]
theorem hG {P:Expr->Prop}(e:Expr){f:UnaryOp->Expr->Pos->Bool}(h:eX e f=true)(k:∀ a b c,f a b c=true->P (.UnaryOp a b c)):P e :=
 (pk h).elim λc=>@NA.elim (λe=>∀ c,@NA.elim (λ_=>Bool) e c f=true->P e) e c (λa b c _ h=>k a b c h) c
noncomputable def dH (e:Expr) (f:Expr->List LN->List Expr->Pos->Bool):Bool:=if h:e.ctorIdx=15 then @NB.elim (λ_=>Bool) e h f else false
@[elab_as_elim]
theorem eY {P:Expr->Prop}(e:Expr){f:Expr->List LN->List Expr->Pos->Bool}(h:dH e f=true)(k:∀ a b c d,f a b c d=true->P (.Compare a b c d)):P e :=
 (pk h).elim λc=>@NB.elim (λe=>∀ c,@NB.elim (λ_=>Bool) e c f=true->P e) e c (λa b c d _ h=>k a b c d h) c
noncomputable def eC (e:Expr) (f:BoolOp->List Expr->Pos->Bool):Bool:=if h:e.ctorIdx=0 then @O8.elim (λ_=>Bool) e h f else false
@[elab_as_elim]
theorem gq {P:Expr->Prop}(e:Expr){f:BoolOp->List Expr->Pos->Bool}(h:eC e f=true)(k:∀ a b c,f a b c=true->P (.BoolOp a b c)):P e :=
 (pk h).elim λc=>@O8.elim (λe=>∀ c,@O8.elim (λ_=>Bool) e c f=true->P e) e c (λa b c _ h=>k a b c h) c
noncomputable def sZ (e:Expr) (f:Expr->Expr->Expr->Pos->Bool):Bool:=if h:e.ctorIdx=5 then @Ox.elim (λ_=>Bool) e h f else false
@[elab_as_elim]
theorem Ag {P:Expr->Prop}(e:Expr){f:Expr->Expr->Expr->Pos->Bool}(h:sZ e f=true)(k:∀ a b c d,f a b c d=true->P (.IfExp a b c d)):P e :=
 (pk h).elim λc=>@Ox.elim (λe=>∀ c,@Ox.elim (λ_=>Bool) e c f=true->P e) e c (λa b c d _ h=>k a b c d h) c
noncomputable def cM (e:Expr) (f:List Expr->Nat->Pos->Bool):Bool:=if h:e.ctorIdx=25 then @Oy.elim (λ_=>Bool) e h f else false
@[elab_as_elim]
theorem dJ {P:Expr->Prop}(e:Expr){f:List Expr->Nat->Pos->Bool}(h:cM e f=true)(k:∀ a b c,f a b c=true->P (.Tuple a b c)):P e :=
 (pk h).elim λc=>@Oy.elim (λe=>∀ c,@Oy.elim (λ_=>Bool) e c f=true->P e) e c (λa b c _ h=>k a b c h) c
noncomputable def wn (e:Expr) (f:List Expr->Pos->Bool):Bool:=if h:e.ctorIdx=24 then @OD.elim (λ_=>Bool) e h f else false
@[elab_as_elim]
theorem BB {P:Expr->Prop}(e:Expr){f:List Expr->Pos->Bool}(h:wn e f=true)(k:∀ a b,f a b=true->P (.List a b)):P e :=
 (pk h).elim λc=>@OD.elim (λe=>∀ c,@OD.elim (λ_=>Bool) e c f=true->P e) e c (λa b _ h=>k a b h) c
noncomputable def cq (e:Expr) (f:Expr->Expr->Pos->Bool):Bool:=if h:e.ctorIdx=21 then @Md.elim (λ_=>Bool) e h f else false
@[elab_as_elim]
theorem db {P:Expr->Prop}(e:Expr){f:Expr->Expr->Pos->Bool}(h:cq e f=true)(k:∀ a b c,f a b c=true->P (.Subscript a b c)):P e :=
 (pk h).elim λc=>@Md.elim (λe=>∀ c,@Md.elim (λ_=>Bool) e c f=true->P e) e c (λa b c _ h=>k a b c h) c
noncomputable def kK (e:Expr) (f:Expr->List Expr->List JL->Pos->Bool):Bool:=if h:e.ctorIdx=16 then @OE.elim (λ_=>Bool) e h f else false
@[elab_as_elim]
theorem qB {P:Expr->Prop}(e:Expr){f:Expr->List Expr->List JL->Pos->Bool}(h:kK e f=true)(k:∀ a b c d,f a b c d=true->P (.Call a b c d)):P e :=
 (pk h).elim λc=>@OE.elim (λe=>∀ c,@OE.elim (λ_=>Bool) e c f=true->P e) e c (λa b c d _ h=>k a b c d h) c
noncomputable def iP (e:Expr) (f:Expr->Str->Pos->Bool):Bool:=if h:e.ctorIdx=20 then @Me.elim (λ_=>Bool) e h f else false
@[elab_as_elim]
theorem qC {P:Expr->Prop}(e:Expr){f:Expr->Str->Pos->Bool}(h:iP e f=true)(k:∀ a b c,f a b c=true->P (.Attribute a b c)):P e :=
 (pk h).elim λc=>@Me.elim (λe=>∀ c,@Me.elim (λ_=>Bool) e c f=true->P e) e c (λa b c _ h=>k a b c h) c
noncomputable def t5 (e:Expr) (f:Option Expr->Option Expr->Option Expr->Pos->Bool):Bool:=if h:e.ctorIdx=26 then @Oz.elim (λ_=>Bool) e h f else false
@[elab_as_elim]
theorem Ah {P:Expr->Prop}(e:Expr){f:Option Expr->Option Expr->Option Expr->Pos->Bool}(h:t5 e f=true)(k:∀ a b c d,f a b c d=true->P (.Slice a b c d)):P e :=
 (pk h).elim λc=>@Oz.elim (λe=>∀ c,@Oz.elim (λ_=>Bool) e c f=true->P e) e c (λa b c d _ h=>k a b c d h) c
noncomputable def jY (e:Expr) (f:Expr->List Gk->Scope->Pos->Bool):Bool:=if h:e.ctorIdx=8 then @MA.elim (λ_=>Bool) e h f else false
@[elab_as_elim]
theorem t6 {P:Expr->Prop}(e:Expr){f:Expr->List Gk->Scope->Pos->Bool}(h:jY e f=true)(k:∀ a b c d,f a b c d=true->P (.ListComp a b c d)):P e :=
 (pk h).elim λc=>@MA.elim (λe=>∀ c,@MA.elim (λ_=>Bool) e c f=true->P e) e c (λa b c d _ h=>k a b c d h) c
noncomputable def eZ (e:Stmt) (f:List Expr->Expr->Pos->Bool):Bool:=if h:e.ctorIdx=5 then @O9.elim (λ_=>Bool) e h f else false
@[elab_as_elim]
theorem hJ {P:Stmt->Prop}(e:Stmt){f:List Expr->Expr->Pos->Bool}(h:eZ e f=true)(k:∀ a b c,f a b c=true->P (.Assign a b c)):P e :=
 (pk h).elim λc=>@O9.elim (λe=>∀ c,@O9.elim (λ_=>Bool) e c f=true->P e) e c (λa b c _ h=>k a b c h) c
noncomputable def t7 (e:Stmt) (f:Expr->Pos->Bool):Bool:=if h:e.ctorIdx=24 then @OF.elim (λ_=>Bool) e h f else false
@[elab_as_elim]
theorem Ai {P:Stmt->Prop}(e:Stmt){f:Expr->Pos->Bool}(h:t7 e f=true)(k:∀ a b,f a b=true->P (.Expr a b)):P e :=
 (pk h).elim λc=>@OF.elim (λe=>∀ c,@OF.elim (λ_=>Bool) e c f=true->P e) e c (λa b _ h=>k a b h) c
noncomputable def mC (e:Stmt) (f:Option Expr->Pos->Bool):Bool:=if h:e.ctorIdx=3 then @Oa.elim (λ_=>Bool) e h f else false
@[elab_as_elim]
theorem vG {P:Stmt->Prop}(e:Stmt){f:Option Expr->Pos->Bool}(h:mC e f=true)(k:∀ a b,f a b=true->P (.Return a b)):P e :=
 (pk h).elim λc=>@Oa.elim (λe=>∀ c,@Oa.elim (λ_=>Bool) e c f=true->P e) e c (λa b _ h=>k a b h) c
noncomputable def Aj (e:Stmt) (f:Expr->List Stmt->List Stmt->Pos->Bool):Bool:=if h:e.ctorIdx=12 then @Stmt.If.elim (λ_=>Bool) e h f else false
@[elab_as_elim]
theorem CI {P:Stmt->Prop}(e:Stmt){f:Expr->List Stmt->List Stmt->Pos->Bool}(h:Aj e f=true)(k:∀ a b c d,f a b c d=true->P (.If a b c d)):P e :=
 (pk h).elim λc=>@Stmt.If.elim (λe=>∀ c,@Stmt.If.elim (λ_=>Bool) e c f=true->P e) e c (λa b c d _ h=>k a b c d h) c
noncomputable def wo (e:Stmt) (f:Expr->Expr->List Stmt->List Stmt->Pos->Bool):Bool:=if h:e.ctorIdx=9 then @Stmt.For.elim (λ_=>Bool) e h f else false
@[elab_as_elim]
theorem BC {P:Stmt->Prop}(e:Stmt){f:Expr->Expr->List Stmt->List Stmt->Pos->Bool}(h:wo e f=true)(k:∀ a b c d e,f a b c d e=true->P (.For a b c d e)):P e :=
 (pk h).elim λc=>@Stmt.For.elim (λe=>∀ c,@Stmt.For.elim (λ_=>Bool) e c f=true->P e) e c (λa b c d e _ h=>k a b c d e h) c
noncomputable def oz (e:Stmt) (f:Expr->List Stmt->List Stmt->Pos->Bool):Bool:=if h:e.ctorIdx=11 then @OA.elim (λ_=>Bool) e h f else false
@[elab_as_elim]
theorem yj {P:Stmt->Prop}(e:Stmt){f:Expr->List Stmt->List Stmt->Pos->Bool}(h:oz e f=true)(k:∀ a b c d,f a b c d=true->P (.While a b c d)):P e :=
 (pk h).elim λc=>@OA.elim (λe=>∀ c,@OA.elim (λ_=>Bool) e c f=true->P e) e c (λa b c d _ h=>k a b c d h) c
noncomputable def t8 (e:Stmt) (f:Pos->Bool):Bool:=if h:e.ctorIdx=25 then @OG.elim (λ_=>Bool) e h f else false
@[elab_as_elim]
theorem Ak {P:Stmt->Prop}(e:Stmt)(h:t8 e f=true)(k:∀ a,f a=true->P (.Pass a)):P e :=
 (pk h).elim λc=>@OG.elim (λe=>∀ c,@OG.elim (λ_=>Bool) e c f=true->P e) e c (λa _ h=>k a h) c
noncomputable def oA (e:Stmt) (f:Pos->Bool):Bool:=if h:e.ctorIdx=26 then @OB.elim (λ_=>Bool) e h f else false
@[elab_as_elim]
theorem yk {P:Stmt->Prop}(e:Stmt)(h:oA e f=true)(k:∀ a,f a=true->P (.Break a)):P e :=
 (pk h).elim λc=>@OB.elim (λe=>∀ c,@OB.elim (λ_=>Bool) e c f=true->P e) e c (λa _ h=>k a h) c
noncomputable def iQ (e:Stmt) (f:Pos->Bool):Bool:=if h:e.ctorIdx=27 then @MB.elim (λ_=>Bool) e h f else false
@[elab_as_elim]
theorem qD {P:Stmt->Prop}(e:Stmt)(h:iQ e f=true)(k:∀ a,f a=true->P (.Continue a)):P e :=
 (pk h).elim λc=>@MB.elim (λe=>∀ c,@MB.elim (λ_=>Bool) e c f=true->P e) e c (λa _ h=>k a h) c
noncomputable def lv0 {α:Type} (xs:List α) (b:Bool):Bool:=xs.isEmpty&&b
noncomputable def lvc {α:Type} (xs:List α) (f : α -> List α -> Bool):Bool:=match xs with
 |y::r=>f y r
 |[]=>false
noncomputable def lv1 {α:Type} (xs:List α) (f : α -> Bool):Bool:=lvc xs λy r=>lv0 r (f y)
noncomputable def lv2 {α:Type} (xs:List α) (f : α -> α -> Bool):Bool:=lvc xs λy r=>lv1 r (f y)
noncomputable def os {α:Type} (o:Option α) (f : α -> Bool):Bool:=match o with
 |some x=>f x
 |none=>false
noncomputable def on {α:Type} (o:Option α) (b:Bool):Bool:=o.isNone&&b
@[elab_as_elim]
theorem mD {α:Type}{P:List α -> Prop}(xs:List α)(h:lv0 xs b=true)(k:b=true->P []):P xs:=by
 cases xs with
 |nil=>exact k h
 |cons _ _=>cases h
@[elab_as_elim]
theorem Al {α:Type}{P:List α -> Prop}(xs:List α){f : α -> List α -> Bool}(h:lvc xs f=true)(k:∀ y r,f y r=true->P (y::r)):P xs:=by
 cases xs with
 |nil=>cases h
 |cons y r=>exact k y r h
@[elab_as_elim]
theorem bX {α:Type}{P:List α -> Prop}(xs:List α){f : α -> Bool}(h:lv1 xs f=true)(k:∀ y,f y=true->P [y]):P xs :=
 Al xs h λy r h=>mD r h λh=>k y h
@[elab_as_elim]
theorem fM {α:Type}{P:List α -> Prop}(xs:List α){f : α -> α -> Bool}(h:lv2 xs f=true)(k:∀ y z,f y z=true->P [y,z]):P xs :=
 Al xs h λy r h=>bX r h λz h=>k y z h
@[elab_as_elim]
theorem jos {α:Type}{P:Option α -> Prop}(o:Option α){f : α -> Bool}(h:os o f=true)(k:∀ x,f x=true->P (some x)):P o:=by
 cases o with
 |none=>cases h
 |some x=>exact k x h
@[elab_as_elim]
theorem jon {α:Type}{P:Option α -> Prop}(o:Option α)(h:on o b=true)(k:b=true->P none):P o:=by
 cases o with
 |none=>exact k h
 |some x=>cases h
theorem bD {a:Bool}(h:(a&&b)=true):a=true/\b=true:=by rwa[hX]at h
noncomputable def dM (e:Expr) (g:Str->List Expr->Bool):Bool:=kK e λf xs ks _=>lv0 ks (da f λx _=>g x xs)
@[elab_as_elim]
theorem eE {P:Expr->Prop}(e:Expr){g:Str->List Expr->Bool}(h:dM e g=true)(k:∀ x xs p pos,g x xs=true->P (.Call (.Name x p) xs [] pos)):P e :=
 qB e h λf xs ks pos h=>mD ks h λh=>ej f h λx p h=>k x xs p pos h
noncomputable def kL (e:Expr) (g:Expr->Str->List Expr->Pos->Pos->Bool):Bool:=kK e λf xs ks p=>lv0 ks (iP f λo n q=>g o n xs q p)
@[elab_as_elim]
theorem qE {P:Expr->Prop}(e:Expr){g:Expr->Str->List Expr->Pos->Pos->Bool}(h:kL e g=true)(k:∀ o n xs q p,g o n xs q p=true->P (.Call (.Attribute o n q) xs [] p)):P e :=
 qB e h λf xs ks pos h=>mD ks h λh=>qC f h λo n q h=>k o n xs q pos h
noncomputable def iSl (e:Expr) (g:Expr->Option Expr->Option Expr->Option Expr->Bool):Bool:=cq e λx y _=>t5 y λl u s _=>g x l u s
@[elab_as_elim]
theorem jSl {P:Expr->Prop}(e:Expr){g:Expr->Option Expr->Option Expr->Option Expr->Bool}(h:iSl e g=true)(k:∀ x l u s p pos,g x l u s=true->P (.Subscript x (.Slice l u s p) pos)):P e :=
 db e h λx y pos h=>Ah y h λl u s p h=>k x l u s p pos h
mutual
noncomputable def okG:MG->Ctx->Expr->Bool
 |.name i,C,e=>da e λx _=>decide (C.N[i]? = some x)&&vD C.sc x&&(C.sc.names.lookup x==some .local || C.fn.contains x)
 |.tup gs,C,e=>cM e λes _ _=>okGs gs C es
noncomputable def okGs:MGs->Ctx->List Expr->Bool
 |.nil,_,es=>es.isEmpty
 |.cons g r,C,es=>match es with
  |e::es=>aK e&&okG g C e&&okGs r C es
  |[]=>false
end
mutual
noncomputable def okE:ME->Ctx->Expr->Bool
 |.var i,C,e=>da e λx _=>decide (C.N[i]? = some x)&&vC C.sc x && !(x==("__debug__":Str)) && !(x==("__classdict__":Str))
 |.int i,_,e=>cf e λc _ _=>decide (c = .int i)
 |.bl i,_,e=>cf e λc _ _=>decide (c = .bool i)
 |.non,_,e=>cf e λc _ _=>decide (c = .none)
 |.str i,_,e=>cf e λc _ _=>decide (c = .str i)
 |.bin op a b,C,e=>sY e λl o r _=>decide (o=opO op)&&okE a C l&&okE b C r
 |.neg a,C,e=>eX e λo x _=>decide (o = .USub)&&okE a C x
 |.cmp op a b,C,e=>dH e λl os rs _=>lv1 os λo=>lv1 rs λr=>decide (o=gY op)&&okE a C l&&okE b C r && !(Ig o r)
 |.and es,C,e=>eC e λo xs _=>decide (o = .And) && !xs.isEmpty&&okEs es C xs
 |.or es,C,e=>eC e λo xs _=>decide (o = .Or) && !xs.isEmpty&&okEs es C xs
 |.not a,C,e=>eX e λo x _=>decide (o = .Not)&&okE a C x
 |.ite c a b,C,e=>sZ e λt x y _=>okT c C t&&okE a C x&&okE b C y
 |.tup es,C,e=>cM e λxs _ _=>okEs es C xs
 |.lst es,C,e=>wn e λxs _=>okEs es C xs
 |.ix a b,C,e=>cq e λx y _=>gm y&&okE a C x&&okE b C y
 |.sl a lo hi,C,e=>iSl e λx l u s=>on s (okE a C x&&okO lo C l&&okO hi C u)
 |.call f es,C,e=>dM e λx xs=>decide (C.Γ[f]? = some x)&&glB C.sc x && !(x==("__debug__":Str))&&okEs es C xs
 |.blt f es,C,e=>dM e λx xs=>decide (x=mz f)&&glB C.sc x && !xs.isEmpty&&okEs es C xs
 |.isin a T,C,e=>dM e λx xs=>lv2 xs λy w=>da w λz _=>decide (x = "isinstance")&&glB C.sc x&&glB C.sc z&&decide (z=g8 T)&&decide (T∈["bool","int","str","tuple","list","dict"])&&aK y&&okE a C y
 |.chain op op' a b c,C,e=>dH e λl os rs _=>lv2 os λo o'=>lv2 rs λr q=>decide (o=gY op)&&decide (o'=gY op')&&okE a C l&&okE b C r&&okE c C q && !(KW [o,o'] [r,q])
 |.glob x k,C,e=>da e λy _=>decide (y=x)&&glB C.sc y&&decide ((x,k)∈C.cs) && !(x==("__debug__":Str))
 |.meth m o a,C,e=>kL e λx n xs ap cp=>lv1 xs λy=>decide (n=Ad m)&&gp x&&(ap.endLine==cp.line)&&aK y&&okE o C x&&okE a C y
 |.comp fr N' c,C,e=>jY e λelt gens sc _=>vE sc C.sc C.N N' fr&&okC c C ⟨C.Γ,N',gZ sc C.sc,(sc.names.filter (·.2 == .cell)).map (·.1),C.cs,0,C.nm⟩ gens elt
 |.join o a,C,e=>kL e λx n xs ap cp=>lv1 xs λy=>decide (n = "join")&&gp x&&(ap.endLine==cp.line)&&aK y&&okE o C x&&okE a C y
 |.smeth m o a,C,e=>kL e λx n xs ap cp=>lv1 xs λy=>decide (n=Ae m)&&gp x&&(ap.endLine==cp.line)&&aK y&&okE o C x&&okE a C y
 |.ixS a b,C,e=>cq e λx y _=>gm y&&okE a C x&&okE b C y
 |.slS a lo,C,e=>iSl e λx l u s=>on s (on u (okE a C x&&okO lo C l))
 |.slT a hi,C,e=>iSl e λx l u s=>on s (on l (okE a C x&&okO hi C u))
noncomputable def okEs:MEs->Ctx->List Expr->Bool
 |.nil,_,es=>es.isEmpty
 |.cons m r,C,es=>match es with
  |e::es=>aK e&&okE m C e&&okEs r C es
  |[]=>false
noncomputable def okO:MO->Ctx->Option Expr->Bool
 |.none,_,e=>e.isNone
 |.some m,C,e=>match e with
  |some e=>okE m C e
  |none=>false
noncomputable def okT:MT->Ctx->Expr->Bool
 |.tru m,C,e=>sW e&&okE m C e
 |.cmp op a b,C,e=>dH e λl os rs _=>lv1 os λo=>lv1 rs λr=>decide (o=gY op)&&okE a C l&&okE b C r && !(Ig o r)
 |.chain op op' a b c,C,e=>dH e λl os rs _=>lv2 os λo o'=>lv2 rs λr q=>decide (o=gY op)&&decide (o'=gY op')&&okE a C l&&okE b C r&&okE c C q && !(KW [o,o'] [r,q])
 |.and ts,C,e=>eC e λo xs _=>decide (o = .And) && !xs.isEmpty&&okTs ts C xs
 |.or ts,C,e=>eC e λo xs _=>decide (o = .Or) && !xs.isEmpty&&okTs ts C xs
 |.not t,C,e=>eX e λo x _=>decide (o = .Not)&&okT t C x
noncomputable def okTs:MTs->Ctx->List Expr->Bool
 |.nil,_,es=>es.isEmpty
 |.cons m r,C,es=>match es with
  |e::es=>okT m C e&&okTs r C es
  |[]=>false
noncomputable def okI:MI->Ctx->Expr->Expr->Bool
 |.seq m,C,_,e=>iO e&&okE m C e
 |.rng1 a,C,_,e=>dM e λx xs=>lv1 xs λy=>decide (x = "range")&&glB C.sc x&&aK y&&okE a C y
 |.enum a,C,t,e=>dM e λx xs=>lv1 xs λy=>cM t λ_ _ _=>decide (x = "enumerate")&&glB C.sc x&&aK y&&okE a C y
 |.enum1 a,C,t,e=>kK e λf xs ks _=>da f λx _=>lv1 xs λy=>lv1 ks λq=>cf q.value λc _ _=>cM t λ_ _ _=>decide (x = "enumerate")&&glB C.sc x&&aK y&&decide (q.arg=some "start")&&decide (c = .int 1)&&okE a C y
 |.chars m,C,_,e=>iO e&&okE m C e
 |.zip a b,C,t,e=>dM e λx xs=>lv2 xs λy z=>cM t λ_ _ _=>decide (x = "zip")&&glB C.sc x&&aK y&&aK z&&okE a C y&&okE b C z
noncomputable def okC:MC->Ctx->Ctx->List Gk->Expr->Bool
 |.last src g ifs m,Cs,C,gens,elt=>match gens with
  |[⟨t,it,fs,a⟩]=>decide (a=0)&&okI src Cs t it&&okG g C t&&okTs ifs C fs&&okE m C elt
  |_=>false
 |.more src g ifs rest,Cs,C,gens,elt=>match gens with
  |⟨t,it,fs,a⟩::g2::gs=>decide (a=0)&&okI src Cs t it&&okG g C t&&okTs ifs C fs&&okC rest C C (g2::gs) elt
  |_=>false
end
noncomputable def aW (sc:Scope) (ts:List Expr):List Str:=ts.filterMap fun
 |.Name id pos=>if sc.names.lookup id==some .local&&pos.line==(ts.head?.map (·.pos.line)).getD 0 then some id else none
 |_=>none
noncomputable def qF (sc:Scope) (ts vs:List Expr):Bool:=!(ts.length==2 || ts.length==3) || vs.length != ts.length || (aW sc ts).length != ts.length || (aW sc ts).eraseDups.length != (aW sc ts).length || vs.all (MD 8)
noncomputable def qG (C:Ctx) (i:Nat) (x:Str):Bool:=decide (C.N[i]? = some x)&&decide (C.sc.names.lookup x=some .local)
noncomputable def qH (sc:Scope) (ts vs:List Expr) (ns:List Str):Bool:=!(!(ts.length==2 || ts.length==3) || vs.length != ts.length) && !(vs.any λ| .Starred ..=>true|_=>false)&&decide (aW sc ts=ns) && !((aW sc ts).length != ts.length || (aW sc ts).eraseDups.length != (aW sc ts).length) && !(vs.all (MD 8)) && !(vs.all (constantsAlone 8))
noncomputable def wq (sc:Scope) (tg e:Expr):Bool:=match tg,e with
 |.Tuple ts _ _,.Tuple vs _ _=>qF sc ts vs
 |.Tuple ..,_=>true
 |.Name ..,_=>true
 |_,_=>false
noncomputable def Am (sc:Scope) (x:Str) (px:Pos) (e:Expr):Bool:=match e with
 |.DictComp _ _ _ s _=>!(sc.names.lookup x==some .local&&px.line==e.pos.line && !(s.names.any λ(n,k)=>n==x&&(k == .local || k == .cell)))
 |_=>true
noncomputable def qI (sc:Scope) (x:Str) (px:Pos) (e:Expr):Bool:=match e with
 |.ListComp _ _ s _=>sc.names.lookup x==some .local&&px.line==e.pos.line && !(s.names.any λ(n,k)=>n==x&&(k == .local || k == .cell))
 |_=>false
mutual
noncomputable def okS:MS->Ctx->Stmt->Bool
 |.asg g m,C,s=>eZ s λts e _=>lv1 ts λtg=>okG g C tg&&okE m C e&&wq C.sc tg e&&(match tg with|.Name x px=>Am C.sc x px e|_=>iN e)
 |.par i j a b,C,s=>eZ s λts e _=>lv1 ts λtg=>cM tg λts _ _=>cM e λes _ _=>lv2 ts λt u=>lv2 es λe f=>da t λx px=>da u λy py=>qG C i x&&qG C j y&&decide (i≠j)&&aK e&&aK f&&okE a C e&&okE b C f&&qH C.sc [.Name x px,.Name y py] [e,f] [x,y]
 |.put o i m,C,s=>eZ s λts e _=>lv1 ts λtg=>cq tg λx y _=>gm y&&iN e&&okE o C x&&okE i C y&&okE m C e
 |.drop m,C,s=>t7 s λe _=>iN e&&okE m C e
 |.ret m,C,s=>mC s λo _=>os o λe=>okE m C e
 |.ite c a b,C,s=>Aj s λt x y _=>okT c C t&&okSs a C x&&okSs b C y
 |.for g src b,C,s=>wo s λtg it body els _=>lv0 els (iO it&&okG g C tg&&okI src C tg it&&okSs b C body)
 |.while c b,C,s=>oz s λt body els _=>lv0 els (okT c C t&&okSs b C body)
 |.bot,_,_=>true
 |.pass,_,s=>t8 s λ_=>true
 |.brk,_,s=>oA s λ_=>true
 |.cnt,_,s=>iQ s λ_=>true
noncomputable def okSs:MSs->Ctx->List Stmt->Bool
 |.nil,_,ss=>ss.isEmpty
 |.cons m r,C,ss=>match ss with
  |s::ss=>okS m C s&&okSs r C ss
  |[]=>false
end
theorem ai (h:aK e=true):FN (e::es) env=(false,eval e env)::FN es env:=by
 cases e <;> first|rfl|(cases h;done)
theorem jZ (h:aK e=true):Hm (e::es) env=(false,assign e env)::Hm es env:=by
 cases e <;> first|rfl|(cases h;done)
theorem qJ (h:sW e=true):∀ whole,isTrue e env whole=(do let v <- whole;Jv e.pos;holding [v] (truthy v)):=by
 intro w
 cases e <;> first|rfl|(cases h;done)
theorem mF (h:gm e=true):j8 e:=by
 intro o i
 cases e <;> first|rfl|(cases h;done)
theorem iR (h:iO e=true):∀ x,H9 e env x=pure x:=by
 intro x
 cases e <;> first|rfl|(cases h;done)
theorem bY {n:Str}(h:gp e=true):JI e n env (eval e env)=eval e env:=by
 cases e <;> first
  |rfl
  | (rename_i f xs _ _;cases xs with
     |nil=>cases h
     |cons _ _=>cases f <;> rfl)
theorem jp {t:Option Expr}(h:iN e=true):Hl e t l env=pure false:=by
 cases e <;> first|rfl|(cases h;done)
end
variable {x:Str}{p pos:Pos}{sc:Scope}
section
noncomputable def lSp (K:Frag) (r:RAd):Sp:=λvs H Q _=>lR K r vs H Q
noncomputable def BD (Φ:Phi) (j:Nat) (gs:List D) (js:List Nat):RAd:=λargs M Q=>args.length=2 /\ Φ (4000+j) (js.map λi=>(gs++args).getD i .non) M Q
noncomputable def spC (P:FT) (w:G8) (K:Frag) (mg:Str->Option h8) (base:Heap) (k:Nat) (Φ:Phi) (i:Nat):List Env->Ft->Sp:=λouter s vs H Q _ =>
 ∃ (ds:List D) (a:Addr) (j:Nat) (gs:List D) (js:List Nat) (M:Mem),RM K M H/\RDs K H (ds++[.ref a]) vs/\Bb P w K mg base (k - 1) (frs outer) a (lSp K (BD Φ j gs js)) H s.heap /\ Φ (1000+i) (ds++[.ref a,.int j,.tup gs,.tup (js.map λi:Nat=>.int i)]) M (KE' K M H Q)
def An (X:Cx) (a:Addr) (r:RAd):Prop:=∀ (pins:List (Addr×Obj)) (s:Ft) (σ:St) (H:Hp) (vs:List V) (us:List h8) (Q:VK),Inv X pins σ H s->Vals vs us->lR X.K r vs H Q ->
 PySem.W.FnAt a s.heap/\FG (model X.prog X.w) X.A (call (.ref a) us) (EP X pins σ Q) X.xe s
structure Ao (C:Ctx) (Φ:Phi) (k:Nat) (X:Cx) (P:Addr):Prop where
 cd:∃ c,X.env.code = .ref c/\PySem.W.CodeHd X.base c P
 bm:CA X.mg X.base
 qu:X.env.qual=C.nm++(".<locals>.":Str)
 spc:∀ (i:Nat) (x:Str),C.Γ[i]? = some x -> ∃ f fd ps,X.mg x=some (.ref f)/\Ha X.K (.ref f)=true/\Binds X.K fd ps []/\Bc X.prog X.w X.K X.mg X.base k f fd ps (spC X.prog X.w X.K X.mg X.base k Φ i)
 low:∀ (j:Nat) (x:Str),C.Γ[j]? = some x -> ∃ f fd ps,X.mg x=some (.ref f)/\Ha X.K (.ref f)=true/\Binds X.K fd ps []/\bf X.prog X.w X.K X.mg X.base CX0 (k - 2) f fd ps (lSp X.K (Φ (4000+j)))
 big:(∃ k0,k=k0+2)∨∀ (j:Nat) (x:Str),C.Γ[j]? = some x -> ∀ ds M Q,¬ Φ (4000+j) ds M Q
structure Good (C:Ctx) (Φ:Phi) (k:Nat) (X:Cx):Prop where
 hx:∀ e s,X.xe e s->False
 calm:X.calm=true
 N:X.N=C.N
 sc:X.env.scope=C.sc
 nd:X.N.Nodup
 fn:∀ x∈C.fn,X.fn x=true
 room:Room k X.A
 mgB:∀ x∈bltNames,X.mg x=none
 fns:∀ (i:Nat) (x:Str),C.Γ[i]? = some x -> ∃ f fd ps,X.mg x=some (.ref f)/\HD X.K Gm x=some (some (.ref f))/\Ha X.K (.ref f)=true/\Binds X.K fd ps []/\bf X.prog X.w X.K X.mg X.base CX0 k f fd ps (lSp X.K (Φ i))
 mono:∀ f,aO (Φ f)
 cs:∀ x d,(x,d)∈C.cs -> ∃ u,X.mg x=some u/\GV X.K d u
 clo:C.lm=1 -> ∀ a,An X a (Φ (5000+a))
 lam:∀ P,C.lm=P+2->Ao C Φ k X P
section
variable {C:Ctx} {Φ:Phi} {k:Nat} {X:Cx}
theorem Good.units (G:Good C Φ k X):X.A.units+64<LP:=G.room.units
theorem Good.gl (G:Good C Φ k X)(h:glB C.sc x=true):Gl X x:=by
 show X.env.scope.names.lookup x=_;rw[G.sc];simpa[glB]using h
theorem Good.vis (G:Good C Φ k X)(h:vC C.sc x=true):Vis X.env.scope x:=by
 unfold Vis;rw[G.sc];simp[vC]at h
 rcases h with(h|h)|h
 ·exact .inl h
 ·exact .inr (.inl h)
 ·exact .inr (.inr h)
theorem Good.loc (G:Good C Φ k X)(h:vD C.sc x=true):Loc X.env.scope x:=by
 unfold Loc;rw[G.sc];simpa[vD]using h
theorem Good.own (G:Good C Φ k X)(h:(C.sc.names.lookup x==some .local || C.fn.contains x)=true):X.fn x=true∨X.env.scope.names.lookup x=some .local:=by
 rw[G.sc];simp at h
 rcases h with h|h
 ·exact .inr h
 ·exact .inl (G.fn x h)
theorem Ap (G:Good C Φ k X):∀ o:BOp,OpR X (GP (opO o)) (l2 X.K (opB o))
 |.add=>uB|.sub=>uE|.mul=>uF|.fdiv=>rT|.mod=>uH|.pow=>uI
theorem du (G:Good C Φ k X):∀ o:COp,OpR X (G6 (gY o)) (l2 X.K (opC o))
 |.eq=>xq (by have:=G.units;lia)|.ne=>xt (by have:=G.units;lia)|.lt=>xz|.le=>xA|.gt=>xB|.ge=>xC|.is=>xX|.isn=>vd| .inStr=>qo|.inNon=>qr (by have:=G.units;lia)|.ninStr=>nO
theorem Aq (G:Good C Φ k X){f:BF}{t:TAd}(mt:bn t)(z:Gl X (mz f))(F:PA X (e::es) (lA X.K t))(he:FN (e::es) X.env=(false,eval e X.env)::FN es X.env)(j:(GY pos (FN es X.env)).any (·.1)=false):PE X (.Call (.Name (mz f) p) (e::es) [] pos) (lE X.K (wAr (opF f) t)):=by
 cases f with
 |len=>exact PE.imp (bw pM z (G.mgB _ (by decide)) PySem.boot_len F (by decide) (by decide) he j) (bp lU mt)
 |abs=>exact PE.imp (bw pN z (G.mgB _ (by decide)) (by decide +kernel) F (by decide) (by decide) he j) (bp lV mt)
 |max2=>exact PE.imp (bw (nH G.calm) z (G.mgB _ (by decide)) (by decide +kernel) F (by decide) (by decide) he j) (bp jM mt)
 |min2=>exact PE.imp (bw (nI G.calm) z (G.mgB _ (by decide)) (by decide +kernel) F (by decide) (by decide) he j) (bp jN mt)
 |int=>exact PE.imp (dY pO z (G.mgB _ (by decide)) (by decide +kernel) F (by decide) (by decide) he j) (bp lW mt)
 |intS=>exact PE.imp (dY nL z (G.mgB _ (by decide)) (by decide +kernel) F (by decide) (by decide) he j) (bp jW mt)
 |lenS=>exact PE.imp (bw nM z (G.mgB _ (by decide)) PySem.boot_len F (by decide) (by decide) he j) (bp jX mt)
 |str=>exact PE.imp (dY qj z (G.mgB _ (by decide)) (by decide +kernel) F (by decide) (by decide) he j) (bp jT mt)
 |tuple=>exact PE.imp (dY lX z (G.mgB _ (by decide)) (by decide +kernel) F (by decide) (by decide) he j) (bp iw mt)
 |all=>exact PE.imp (bw (qh G.calm) z (G.mgB _ (by decide)) (by decide +kernel) F (by decide) (by decide) he j) (bp m4 mt)
 |any=>exact PE.imp (bw (qi G.calm) z (G.mgB _ (by decide)) (by decide +kernel) F (by decide) (by decide) he j) (bp m6 mt)
theorem ym (G:Good C Φ k X){f:Nat}{t:TAd}(mt:bn t)(hf:C.Γ[f]? = some x)(J:Gl X x)(j:(x==("__debug__":Str))=false)(L:PA X (e::es) (lA X.K t))(he:FN (e::es) X.env=(false,eval e X.env)::FN es X.env)(z:(GY pos (FN es X.env)).any (·.1)=false):PE X (.Call (.Name x p) (e::es) [] pos) (lE X.K (wAr (Φ f) t)):=by
 obtain⟨a,fd,ps,hm,_,hk,O,F⟩:=G.fns f x hf;refine PE.imp (wZ F G.room J hm hk O .nil wc L j he z) λσ H Q h=>?_;have h2:=bp (G.mono f) mt σ H Q h;have:(λvs H1=>lSp X.K (Φ f) (vs++[]) H1 Q E0)=λvs H1=>lR X.K (Φ f) vs H1 Q:=by
  funext vs H1;rw[Hz];rfl
 show (lA X.K t) σ H _;rw[this];exact h2
theorem vH (G:Good C Φ k X){f:Nat}(hf:C.Γ[f]? = some x)(z:Gl X x)(j:(x==("__debug__":Str))=false):PE X (.Call (.Name x p) [] [] pos) (lE X.K (wAr (Φ f) bo)):=by
 obtain⟨a,fd,ps,hm,_,hk,J,F⟩:=G.fns f x hf;refine PE.imp (ud F G.room z hm hk J .nil wc j) λσ H Q h=>?_;obtain⟨ρ,M,rs,rm,q⟩:=h;exact⟨[],M,rm,RDs.nil,q⟩
theorem hU {env:Env}{pos:Pos}:∀ {es:List Expr},es.all aK=true->(GY pos (FN es env)).any (·.1)=false
 |[],_=>rfl
 | e::es,h=>by
   simp only[Jf,hX]at h;rw[ai h.1];show (false || (GY pos (FN es env)).any (·.1))=false
   rw[hU h.2];rfl
theorem fN:∀ {ms:MEs} {es:List Expr},okEs ms C es=true->es.all aK=true
 |.nil,[],_=>rfl
 |.nil,_::_,h=>by simp[okEs]at h
 |.cons m r,[],h=>by simp[okEs]at h
 |.cons m r,e::es,h=>by
  simp only[okEs,hX]at h;simp only[Jf,hX];exact⟨h.1.1,fN h.2⟩
theorem oB:∀ {gs:MGs} {es:List Expr},okGs gs C es=true -> ∀ ds ρ ρ',bGs gs ds ρ = some ρ'->ds.length=es.length
 |.nil,es,h,ds,ρ,ρ',e=>by
  simp[okGs]at h;subst h;rw[bGs]at e
  cases ds with
  |nil=>rfl
  |cons _ _=>cases e
 |.cons g r,[],h,_,_,_,_=>by simp[okGs]at h
 |.cons g r,x::es,h,ds,ρ,ρ',e=>by
  simp only[okGs,hX]at h;rw[bGs]at e
  cases ds with
  |nil=>cases e
  | cons d ds =>
    simp only[bP]at e
    cases e1:bG g d ρ with
    |none=>rw[e1]at e;cases e
    | some ρ1 =>
      rw[e1]at e;simp[oB h.2 ds ρ1 ρ' e]
theorem mG {env:Env}:∀ {gs:MGs} {es:List Expr},okGs gs C es=true->(Hm es env).length=es.length/\(Hm es env).findIdx? (·.1)=none
 |.nil,es,h=>by simp[okGs]at h;subst h;exact⟨rfl,rfl⟩
 |.cons g r,[],h=>by simp[okGs]at h
 |.cons g r,x::es,h=>by
  simp only[okGs,hX]at h;obtain⟨a,b⟩:=mG (env:=env) h.2;rw[jZ h.1.1];refine⟨by simp[a],?_⟩
  rw[List.findIdx?_cons];simp[b]
mutual
theorem sG (G:Good C Φ k X):∀ (m:MG) (e:Expr),okG m C e=true->PG X e (lG X.K (bG m))
 |.name i,e,h=>by
  refine ej e h λx _ h=>?_;simp only[hX]at h;exact xQ G.nd (by rw[G.N];exact of_decide_eq_true h.1.1) (G.loc h.1.2) (G.own h.2)
 |.tup gs,e,h=>by
  refine dJ e h λes _ _ h=>?_;rw[bG];obtain⟨a,b⟩:=mG (env:=X.env) h;exact zR G.calm (oB h) (sGs G gs _ h) a b
theorem sGs (G:Good C Φ k X):∀ (m:MGs) (es:List Expr),okGs m C es=true->PGs X es (lGs X.K (bGs m))
 |.nil,es,h=>by
  simp[okGs]at h;subst h;exact xR
 |.cons g r,[],h=>by simp[okGs]at h
 |.cons g r,e::es,h=>by
  simp only[okGs,hX]at h;exact uR (sG G g e h.1.2) (sGs G r es h.2) (by rw[jZ h.1.1];rfl)
end
theorem PB.imp {F:Sem Fin->Sem Fin}{t t':TC}(h:PB X F t)(i:∀ σ H N,t' σ H N->t σ H N):PB X F t':=λpins s σ H N k Q E I q hk=>h pins s σ H N k Q E I (i _ _ _ q) hk
theorem iS {osc:Scope}{oN N':List Str}{fr:List (Option Nat)}(h:vE sc osc oN N' fr=true):aY sc osc oN N' fr:=by
 simp only[vE,hX,decide_eq_true_eq]at h;obtain⟨⟨⟨⟨⟨h1,h2⟩,L⟩,O⟩,U⟩,Y⟩:=h;refine⟨h1,h2,L,λx hx e=>?_,U,λi j x hi hf=>?_⟩
 ·have F:=Gf.mp O x hx;rw[e]at F;simpa using F
 ·have J:i<N'.length:=(G0.mp hi).1;have z:=Gf.mp Y i (Kc.mpr J);rw[hf,hi]at z;simp only[hX,decide_eq_true_eq,List.any_eq_true]at z;obtain⟨a,y,Z,e⟩:=z;exact⟨a,by rw[<- e];exact Z⟩
theorem Good.blk (G:Good C Φ k X){N':List Str}{fr:List (Option Nat)}(B:aY sc C.sc C.N N' fr)(s:Ft)(H:Hp)(fp:List Addr) :
 Good ⟨C.Γ,N',gZ sc C.sc,(sc.names.filter (·.2 == .cell)).map (·.1),C.cs,0,C.nm⟩ Φ k (aF X sc N' s H fp):=by
 refine⟨λ_ _ h=>h,G.calm,rfl,?_,B.ndN,λx hx=>?_,G.room,G.mgB,G.fns,G.mono,G.cs,λz=>(by cases z),λ_ z=>(by cases z)⟩
 ·show relabel sc X.env=_;rw[nQ,G.sc]
 ·obtain⟨y,F,e⟩:=Ib.mp hx;obtain⟨h1,h2⟩:=Ly.mp F;obtain⟨n,kd⟩:=y;have j:kd = .cell:=by simpa using h2
  subst j;have e':n=x:=e;subst e';show (sc.names.lookup n==some .cell)=true;rw[aQ B.nd h1];rfl
end
end
variable {C:Ctx}
section
section
variable {Φ:Phi} {k:Nat}
theorem dw {X:Cx}(G:Good C Φ k X){F:Sem Fin->Sem Fin}{p:Addr}{tb:TCd}{ifs:List Expr}{ts:List TTd}(mb:bI tb)(mt:∀ t∈ts,aA t)(j:PB X F (lC X.K p tb))(z:GZ (λc t=>PT X c t) ifs (ts.map (lT X.K))) :
 PB X (λk=>bg ifs X.env >>= λok=>if ok=true then F k else k) (lC X.K p (ba ts tb)) :=
 PB.imp (uo G.hx j z) (iy mb mt)
theorem fO {m:MC}{Cs:Ctx}{g2:Gk}{gs:List Gk}{elt:Expr}(h:okC m Cs C (g2::gs) elt=true):g2.is_async=0:=by
 obtain⟨t,i,f,a⟩:=g2
 cases m with
 | last src g ifs m =>
   cases gs with
   |nil=>simp only[okC,hX,decide_eq_true_eq]at h;exact h.1.1.1.1
   |cons _ _=>simp[okC]at h
 | more src g ifs rest =>
   cases gs with
   |nil=>simp[okC]at h
   |cons _ _=>simp only[okC,hX,decide_eq_true_eq]at h;exact h.1.1.1.1
theorem vI {X:Cx}(G:Good C Φ k X):∀ T∈["bool","int","str","tuple","list","dict"],X.mg (g8 T)=none/\Iw (g8 T)=some (.type T)/\g8 T ≠ "__name__" /\ (g8 T==("__debug__":Str))=false:=by
 intro T j;simp only[FA,FQ,or_false]at j
 rcases j with rfl|rfl|rfl|rfl|rfl|rfl
 all_goals exact⟨G.mgB _ (by decide),by decide +kernel,by decide,by decide⟩
mutual
theorem sE:∀ (m:ME) {C:Ctx} {X:Cx} (G:Good C Φ k X) (e:Expr),okE m C e=true->PE X e (lE X.K (wE Φ m))
 |.var i,C,X,G,e,h=>by
  refine ej e h λx _ h=>?_;simp only[hX,G2,decide_eq_true_eq]at h;exact zC (by rw[G.N];exact h.1.1.1) (G.vis h.1.1.2) h.1.2 h.2
 |.int i,C,X,G,e,h=>by
  refine cL e h λc _ _ h=>?_;rw[of_decide_eq_true h];exact le_int
 |.bl i,C,X,G,e,h=>by
  refine cL e h λc _ _ h=>?_;rw[of_decide_eq_true h];exact Bk
 |.non,C,X,G,e,h=>by
  refine cL e h λc _ _ h=>?_;rw[of_decide_eq_true h];exact zD
 |.str i,C,X,G,e,h=>by
  refine cL e h λc _ _ h=>?_;rw[of_decide_eq_true h];exact zE
 |.bin op a b,C,X,G,e,h=>by
  refine Af e h λl o r _ h=>?_;simp only[hX,decide_eq_true_eq]at h;rw[h.1.1];exact Bl (Ap G op) (my op) (mE G.mono a) (mE G.mono b) (sE a G _ h.1.2) (sE b G _ h.2)
 |.neg a,C,X,G,e,h=>by
  refine hG e h λo x _ h=>?_;replace h:=bD h;obtain⟨ho,h⟩:=h
  cases of_decide_eq_true ho
  exact Bm uJ lL (mE G.mono a) (sE a G _ h)
 |.cmp op a b,C,X,G,e,h=>by
  refine eY e h λl os rs pos h=>?_;refine bX os h λo h=>?_;refine bX rs h λr h=>?_;simp only[hX,decide_eq_true_eq]at h;obtain⟨⟨⟨ho,U⟩,hb⟩,hm⟩:=h;rw[G2]at hm;subst ho;exact zF (du G op) (b6 op) (mE G.mono a) (mE G.mono b) (sE a G _ U) (sE b G _ hb) hm
 |.and es,C,X,G,e,h=>by
  refine gq e h λo xs _ h=>?_;replace h:=bD h;obtain⟨ho,h⟩:=h;obtain⟨ho,L⟩:=bD ho
  cases of_decide_eq_true ho
  exact sAnds es G _ _ h (by intro z;rw[z]at L;cases L)
 |.or es,C,X,G,e,h=>by
  refine gq e h λo xs _ h=>?_;replace h:=bD h;obtain⟨ho,h⟩:=h;obtain⟨ho,L⟩:=bD ho
  cases of_decide_eq_true ho
  exact sOrs es G _ _ h (by intro z;rw[z]at L;cases L)
 |.not a,C,X,G,e,h=>by
  refine hG e h λo x _ h=>?_;replace h:=bD h;obtain⟨ho,h⟩:=h
  cases of_decide_eq_true ho
  exact zQ (mE G.mono a) (sE a G _ h)
 |.ite c a b,C,X,G,e,h=>by
  refine Ag e h λt x y _ h=>?_;simp only[hX]at h;exact Bs (mT G.mono c) (mE G.mono a) (mE G.mono b) (sT c G _ h.1.1) (sE a G _ h.1.2) (sE b G _ h.2)
 |.tup es,C,X,G,e,h=>by
  refine dJ e h λxs _ _ h=>?_;exact zH (mA G.mono es) (sA es G _ h)
 |.lst es,C,X,G,e,h=>by
  refine BB e h λxs _ h=>?_;exact zI (mA G.mono es) (sA es G _ h)
 |.ix a b,C,X,G,e,h=>by
  refine db e h λx y _ h=>?_;simp only[hX]at h;exact wg (CC (by have:=G.units;lia)) oi (mE G.mono a) (mE G.mono b) (sE a G _ h.1.2) (sE b G _ h.2) (mF h.1.1)
 |.sl a lo hi,C,X,G,e,h=>by
  refine jSl e h λx l u s p pos h=>?_;refine jon s h fun  h=>?_;simp only[hX]at h;exact Bt (mE G.mono a) (mO G.mono lo) (mO G.mono hi) (sE a G _ h.1.1) (sO lo G _ h.1.2) (sO hi G _ h.2)
 |.call f es,C,X,G,e,h=>by
  refine eE e h λx xs p pos h=>?_;simp only[hX,decide_eq_true_eq,G2]at h;have hA:=sA es G _ h.2;have O:=fN h.2
  cases xs with
  | nil =>
    cases es with
    |nil=>exact vH G h.1.1.1 (G.gl h.1.1.2) h.1.2
    |cons _ _=>simp[okEs]at h
  | cons y ys =>
    simp only[Jf,hX]at O;exact ym G (mA G.mono es) h.1.1.1 (G.gl h.1.1.2) h.1.2 hA (ai O.1) (hU O.2)
 |.blt f es,C,X,G,e,h=>by
  refine eE e h λx xs p pos h=>?_;simp only[hX,decide_eq_true_eq,G2]at h;have hA:=sA es G _ h.2;have O:=fN h.2;obtain⟨⟨⟨rfl,Y⟩,L⟩,_⟩:=h
  cases xs with
  |nil=>simp at L
  | cons y ys =>
    simp only[Jf,hX]at O;exact Aq G (mA G.mono es) (G.gl Y) hA (ai O.1) (hU O.2)
 |.chain op op' a b c,C,X,G,e,h=>by
  refine eY e h λl os rs pos h=>?_;refine fM os h λo o' h=>?_;refine fM rs h λr q h=>?_;simp only[hX,decide_eq_true_eq,G2]at h;obtain⟨⟨⟨⟨⟨rfl,rfl⟩,U⟩,hb⟩,hc⟩,hm⟩:=h;exact ve (du G op) (du G op') (b6 op) (b6 op') (mE G.mono a) (mE G.mono b) (mE G.mono c) (sE a G _ U) (sE b G _ hb) (sE c G _ hc) hm
 |.glob x k',C,X,G,e,h=>by
  refine ej e h λx _ h=>?_;simp only[hX,decide_eq_true_eq,G2]at h;obtain⟨⟨⟨rfl,Y⟩,hc⟩,hd⟩:=h;obtain⟨u,ht,hv⟩:=G.cs _ _ hc;obtain⟨v,rv,rd⟩:=wm hv;exact PE.imp (wN (v:=v) (G.gl Y) ht rv hd) λσ H Q g9=>(by obtain⟨ρ,M,rs,rm,q⟩:=g9;exact q _ H Ext.refl rm (rd H))
 |.isin a T,C,X,G,e,h=>by
  refine eE e h λx xs p pos h=>?_;refine fM xs h λy w h=>?_;refine ej w h λz p2 h=>?_;simp only[hX,decide_eq_true_eq]at h;obtain⟨⟨⟨⟨⟨⟨rfl,Y⟩,EI⟩,hz⟩,hT⟩,J⟩,U⟩:=h;obtain⟨n1,n2,n3,n4⟩:=vI G T hT;subst hz;exact xN hT (mE G.mono a) (sE a G _ U) (G.gl Y) (G.mgB _ (by decide)) (G.gl EI) n1 n2 n3 n4 (ai J) rfl
 |.meth m o a,C,X,G,e,h=>by
  refine qE e h λx n xs ap cp h=>?_;refine bX xs h λy h=>?_;simp only[hX,decide_eq_true_eq]at h;obtain⟨⟨⟨⟨⟨hn,j⟩,Z⟩,J⟩,ho⟩,U⟩:=h;subst hn;have pa:PA X [y] (lA X.K (aI (wE Φ a) bo)):=bu (mE G.mono a) av (sE a G _ U) ck (ai J);have few:((GY cp (FN [y] X.env)).all (λx=>!x.1)&&(Jd cp (HE [] X.env)).all (λx=>x.1.isSome)&&decide (([y]:List Expr).length+([]:List JL).length+(if ([]:List JL).isEmpty then 0 else 1)<30))=true:=by
   rw[ai J];rfl
  cases m with
  |append=>exact PE.imp (eL Jt PySem.F.slot_list_append PySem.F.type_list_append jE (sE o G _ ho) pa (bY j) few Z (ai J) rfl) (jf gF (mE G.mono o) (aw (mE G.mono a) av) uP)
  |count=>exact PE.imp (eL Jt Lc PySem.F.type_list_count vp (sE o G _ ho) pa (bY j) few Z (ai J) rfl) (jf iL (mE G.mono o) (aw (mE G.mono a) av) ye)
  |indexS=>exact PE.imp (eL Jt Ld PySem.F.type_list_index sN (sE o G _ ho) pa (bY j) few Z (ai J) rfl) (jf gK (mE G.mono o) (aw (mE G.mono a) av) vq)
 |.join o a,C,X,G,e,h=>by
  refine qE e h λx n xs ap cp h=>?_;refine bX xs h λy h=>?_;simp only[hX,decide_eq_true_eq]at h;obtain⟨⟨⟨⟨⟨hn,j⟩,Z⟩,J⟩,ho⟩,U⟩:=h;subst hn;have pa:PA X [y] (lA X.K (aI (wE Φ a) bo)):=bu (mE G.mono a) av (sE a G _ U) ck (ai J);have few:((GY cp (FN [y] X.env)).all (λx=>!x.1)&&(Jd cp (HE [] X.env)).all (λx=>x.1.isSome)&&decide (([y]:List Expr).length+([]:List JL).length+(if ([]:List JL).isEmpty then 0 else 1)<30))=true:=by
   rw[ai J];rfl
  exact PE.imp (eL IA PySem.F.slot_str_join PySem.F.type_str_join y9 (sE o G _ ho) pa (bY j) few Z (ai J) rfl) (sC (mE G.mono o) (mE G.mono a))
 |.smeth m o a,C,X,G,e,h=>by
  refine qE e h λx n xs ap cp h=>?_;refine bX xs h λy h=>?_;simp only[hX,decide_eq_true_eq]at h;obtain⟨⟨⟨⟨⟨hn,j⟩,Z⟩,J⟩,ho⟩,U⟩:=h;subst hn;have pa:PA X [y] (lA X.K (aI (wE Φ a) bo)):=bu (mE G.mono a) av (sE a G _ U) ck (ai J);have few:((GY cp (FN [y] X.env)).all (λx=>!x.1)&&(Jd cp (HE [] X.env)).all (λx=>x.1.isSome)&&decide (([y]:List Expr).length+([]:List JL).length+(if ([]:List JL).isEmpty then 0 else 1)<30))=true:=by
   rw[ai J];rfl
  cases m with
  |split=>exact PE.imp (eL IA PySem.F.slot_str_split PySem.F.type_str_split vg (sE o G _ ho) pa (bY j) few Z (ai J) rfl) (jk .split (mE G.mono o) (mE G.mono a))
  |part=>exact PE.imp (eL IA PySem.F.slot_str_partition PySem.F.type_str_partition ya (sE o G _ ho) pa (bY j) few Z (ai J) rfl) (jk .part (mE G.mono o) (mE G.mono a))
  |starts=>exact PE.imp (eL IA PySem.F.slot_str_startswith PySem.F.type_str_startswith sH (sE o G _ ho) pa (bY j) few Z (ai J) rfl) (jk .starts (mE G.mono o) (mE G.mono a))
 |.ixS a b,C,X,G,e,h=>by
  refine db e h λx y _ h=>?_;simp only[hX]at h;exact wg Bz mf (mE G.mono a) (mE G.mono b) (sE a G _ h.1.2) (sE b G _ h.2) (mF h.1.1)
 |.slS a lo,C,X,G,e,h=>by
  refine jSl e h λx l u s p pos h=>?_;refine jon s h λh=>?_;refine jon u h λh=>?_;simp only[hX]at h;exact A6 (mE G.mono a) (mO G.mono lo) (sE a G _ h.1) (sO lo G _ h.2)
 |.slT a hi,C,X,G,e,h=>by
  refine jSl e h λx l u s p pos h=>?_;refine jon s h λh=>?_;refine jon l h λh=>?_;simp only[hX]at h;exact A8 (mE G.mono a) (mO G.mono hi) (sE a G _ h.1) (sO hi G _ h.2)
 |.comp fr N' c,C,X,G,e,h=>by
  refine t6 e h λelt gens sc pos h=>?_;simp only[hX]at h;have B:aY sc X.env.scope X.N N' fr:=by rw[G.sc,G.N];exact iS h.1
  have B':aY sc C.sc C.N N' fr:=iS h.1
  cases c with
  | last src g ifs m =>
    have h2:=h.2;simp only[okC]at h2
    split at h2
    ·rename_i t it fs a;simp only[hX,decide_eq_true_eq]at h2;obtain⟨⟨⟨⟨rfl,hi⟩,Y⟩,ht⟩,he⟩:=h2;refine PE.imp (gz G.calm G.hx B (λg' z=>by simp at z) (sI src G _ t hi).1 (λs H fp=>sG (G.blk B' s H fp) g t Y) (tb:=λp=>lC X.K p (ba (wTl Φ ifs) (ef (wE Φ m)))) (λs H fp p=>?_) (sI src G _ t hi).2) (eg (mI G.mono src) (aM (bv (mE G.mono m)) (mTl G.mono ifs)))
     have G':=G.blk B' s H fp;exact dw (p:=p) G' (bv (mE G.mono m)) (mTl G.mono ifs) (PB.imp (ja G'.hx (sE m G' elt he) rfl) (fG (mE G.mono m))) (sTl ifs G' fs ht)
    ·cases h2
  | more src g ifs rest =>
    have h2:=h.2;simp only[okC]at h2
    split at h2
    ·rename_i t it fs a g2 gs;simp only [hX,decide_eq_true_eq] at h2;obtain ⟨⟨⟨⟨rfl,hi⟩,Y⟩,ht⟩,he⟩:=h2;have EJ:∀ g',(g2::gs)[0]? = some g'->g'.is_async=0:=fun g' z=>by
      have z':g2=g':=by simpa using z
      subst z';exact fO he
     refine PE.imp (gz G.calm G.hx B EJ (sI src G _ t hi).1 (λs H fp=>sG (G.blk B' s H fp) g t Y) (tb:=λp=>lC X.K p (ba (wTl Φ ifs) (wCl Φ rest))) (λs H fp p=>?_) (sI src G _ t hi).2) (eg (mI G.mono src) (aM (mCl G.mono rest) (mTl G.mono ifs)));have G':=G.blk B' s H fp;exact dw (p:=p) G' (mCl G.mono rest) (mTl G.mono ifs) (sCl rest G' elt (⟨t,it,fs,0⟩::g2::gs) sc pos 0 (.inl rfl) p he) (sTl ifs G' fs ht)
    ·cases h2
theorem sA:∀ (m:MEs) {C:Ctx} {X:Cx} (G:Good C Φ k X) (es:List Expr),okEs m C es=true->PA X es (lA X.K (wA Φ m))
 |.nil,C,X,G,es,h=>by
  simp[okEs]at h;subst h;exact ck
 |.cons m r,C,X,G,[],h=>by simp[okEs]at h
 |.cons m r,C,X,G,e::es,h=>by
  simp only[okEs,hX]at h;exact bu (mE G.mono m) (mA G.mono r) (sE m G e h.1.2) (sA r G es h.2) (ai h.1.1)
theorem sAnds:∀ (m:MEs) {C:Ctx} {X:Cx} (G:Good C Φ k X) (es:List Expr) (pos:Pos),okEs m C es=true->es≠[]->PE X (.BoolOp .And es pos) (lE X.K (wAnds Φ m))
 |.nil,C,X,G,es,pos,h,j=>by simp[okEs]at h;exact absurd h j
 |.cons m r,C,X,G,[],pos,h,j=>absurd rfl j
 |.cons m .nil,C,X,G,e::es,pos,h,_=>by
  simp only[okEs,hX]at h;obtain⟨h1,h2⟩:=h;simp at h2;subst h2;exact s9 (sE m G e h1.2)
 |.cons m (.cons m2 r),C,X,G,e::es,pos,h,_=>by
  simp only[okEs,hX]at h;obtain⟨h1,h2⟩:=h
  cases es with
  |nil=>simp at h2
  | cons f fs =>
    exact zP (mE G.mono m) (mAnds G.mono _) (sE m G e h1.2) (sAnds (.cons m2 r) G (f::fs) pos (by simpa only[okEs,hX]using h2) (by simp))
theorem sOrs:∀ (m:MEs) {C:Ctx} {X:Cx} (G:Good C Φ k X) (es:List Expr) (pos:Pos),okEs m C es=true->es≠[]->PE X (.BoolOp .Or es pos) (lE X.K (wOrs Φ m))
 |.nil,C,X,G,es,pos,h,j=>by simp[okEs]at h;exact absurd h j
 |.cons m r,C,X,G,[],pos,h,j=>absurd rfl j
 |.cons m .nil,C,X,G,e::es,pos,h,_=>by
  simp only[okEs,hX]at h;obtain⟨h1,h2⟩:=h;simp at h2;subst h2;exact s9 (sE m G e h1.2)
 |.cons m (.cons m2 r),C,X,G,e::es,pos,h,_=>by
  simp only[okEs,hX]at h;obtain⟨h1,h2⟩:=h
  cases es with
  |nil=>simp at h2
  | cons f fs =>
    exact Br (mE G.mono m) (mOrs G.mono _) (sE m G e h1.2) (sOrs (.cons m2 r) G (f::fs) pos (by simpa only[okEs,hX]using h2) (by simp))
theorem sO:∀ (m:MO) {C:Ctx} {X:Cx} (G:Good C Φ k X) (e:Option Expr),okO m C e=true->PO X e (lO X.K (wO Φ m))
 |.none,C,X,G,e,h=>by
  simp[okO]at h;subst h;exact xI
 |.some m,C,X,G,none,h=>by simp[okO]at h
 |.some m,C,X,G,some e,h=>by
  simp only[okO]at h;exact xJ (mE G.mono m) (sE m G e h)
theorem sT:∀ (m:MT) {C:Ctx} {X:Cx} (G:Good C Φ k X) (e:Expr),okT m C e=true->PT X e (lT X.K (wT Φ m))
 |.tru m,C,X,G,e,h=>by
  simp only[okT,hX]at h;exact zL (mE G.mono m) (sE m G e h.2) (qJ h.1)
 |.cmp op a b,C,X,G,e,h=>by
  refine eY e h λl os rs pos h=>?_;refine bX os h λo h=>?_;refine bX rs h λr h=>?_;simp only[hX,decide_eq_true_eq]at h;obtain⟨⟨⟨ho,F⟩,J⟩,hm⟩:=h;rw[G2]at hm;subst ho;exact zG (du G op) (b6 op) (mE G.mono a) (mE G.mono b) (sE a G _ F) (sE b G _ J) hm
 |.chain op op' a b c,C,X,G,e,h=>by
  refine eY e h λl os rs pos h=>?_;refine fM os h λo o' h=>?_;refine fM rs h λr q h=>?_;simp only[hX,decide_eq_true_eq,G2]at h;obtain⟨⟨⟨⟨⟨rfl,rfl⟩,F⟩,J⟩,L⟩,hm⟩:=h;exact vf (du G op) (du G op') (b6 op) (b6 op') (mE G.mono a) (mE G.mono b) (mE G.mono c) (sE a G _ F) (sE b G _ J) (sE c G _ L) hm
 |.and ts,C,X,G,e,h=>by
  refine gq e h λo xs _ h=>?_;replace h:=bD h;obtain⟨ho,h⟩:=h;obtain⟨ho,j⟩:=bD ho
  cases of_decide_eq_true ho
  exact(sAndTs ts G _ _ h (by intro z;rw[z]at j;cases j)).pt
 |.or ts,C,X,G,e,h=>by
  refine gq e h λo xs _ h=>?_;replace h:=bD h;obtain⟨ho,h⟩:=h;obtain⟨ho,j⟩:=bD ho
  cases of_decide_eq_true ho
  exact(sOrTs ts G _ _ h (by intro z;rw[z]at j;cases j)).pt
 |.not t,C,X,G,e,h=>by
  refine hG e h λo x _ h=>?_;replace h:=bD h;obtain⟨ho,h⟩:=h
  cases of_decide_eq_true ho
  exact zM (mT G.mono t) (sT t G _ h)
theorem sAndTs:∀ (m:MTs) {C:Ctx} {X:Cx} (G:Good C Φ k X) (es:List Expr) (pos:Pos),okTs m C es=true->es≠[]->PW X (.BoolOp .And es pos) (lT X.K (wAndTs Φ m))
 |.nil,C,X,G,es,pos,h,j=>by simp[okTs]at h;exact absurd h j
 |.cons m r,C,X,G,[],pos,h,j=>absurd rfl j
 |.cons m .nil,C,X,G,e::es,pos,h,_=>by
  simp only[okTs,hX]at h;obtain⟨h1,h2⟩:=h;simp at h2;subst h2;exact xG (sT m G e h1)
 |.cons m (.cons m2 r),C,X,G,e::es,pos,h,_=>by
  simp only[okTs,hX]at h;obtain⟨h1,h2⟩:=h
  cases es with
  |nil=>simp at h2
  | cons f fs =>
    exact zO (mT G.mono m) (mAndTs G.mono _) (sT m G e h1) (sAndTs (.cons m2 r) G (f::fs) pos (by simpa only[okTs,hX]using h2) (by simp))
theorem sOrTs:∀ (m:MTs) {C:Ctx} {X:Cx} (G:Good C Φ k X) (es:List Expr) (pos:Pos),okTs m C es=true->es≠[]->PW X (.BoolOp .Or es pos) (lT X.K (wOrTs Φ m))
 |.nil,C,X,G,es,pos,h,j=>by simp[okTs]at h;exact absurd h j
 |.cons m r,C,X,G,[],pos,h,j=>absurd rfl j
 |.cons m .nil,C,X,G,e::es,pos,h,_=>by
  simp only[okTs,hX]at h;obtain⟨h1,h2⟩:=h;simp at h2;subst h2;exact zN (sT m G e h1)
 |.cons m (.cons m2 r),C,X,G,e::es,pos,h,_=>by
  simp only[okTs,hX]at h;obtain⟨h1,h2⟩:=h
  cases es with
  |nil=>simp at h2
  | cons f fs =>
    exact Bq (mT G.mono m) (mOrTs G.mono _) (sT m G e h1) (sOrTs (.cons m2 r) G (f::fs) pos (by simpa only[okTs,hX]using h2) (by simp))
theorem sTl:∀ (m:MTs) {C:Ctx} {X:Cx} (G:Good C Φ k X) (es:List Expr),okTs m C es=true->GZ (λc t=>PT X c t) es ((wTl Φ m).map (lT X.K))
 |.nil,C,X,G,es,h=>by
  simp[okTs]at h;subst h;exact .nil
 |.cons m r,C,X,G,[],h=>by simp[okTs]at h
 |.cons m r,C,X,G,e::es,h=>by
  simp only[okTs,hX]at h;exact .cons (sT m G e h.1) (sTl r G es h.2)
theorem sI:∀ (m:MI) {C:Ctx} {X:Cx} (G:Good C Φ k X) (e tg:Expr),okI m C tg e=true->PI X tg e (lI X.K (wI Φ m)) /\ ∀ x,H9 e X.env x=pure x
 |.seq m,C,X,G,e,tg,h=>by
  simp only[okI,hX]at h;exact⟨zU (mE G.mono m) (sE m G e h.2),iR h.1⟩
 |.chars m,C,X,G,e,tg,h=>by
  simp only[okI,hX]at h;exact⟨vm (mE G.mono m) (sE m G e h.2),iR h.1⟩
 |.rng1 a,C,X,G,e,tg,h=>by
  refine eE e h λx xs p pos h=>?_;refine bX xs h λy h=>?_;simp only[hX,decide_eq_true_eq]at h;obtain⟨⟨⟨rfl,F⟩,j⟩,J⟩:=h;exact⟨xS (aw (mE G.mono a) av) (G.gl F) (G.mgB _ (by decide)) (bu (mE G.mono a) av (sE a G _ J) ck (ai j)) (ai j),λx=>rfl⟩
 |.enum a,C,X,G,e,tg,h=>by
  refine eE e h λx xs p pos h=>?_;refine bX xs h λy h=>?_;refine dJ tg h λts kt pt h=>?_;simp only[hX,decide_eq_true_eq]at h;obtain⟨⟨⟨rfl,F⟩,j⟩,J⟩:=h;exact⟨xT (mE G.mono a) (G.gl F) (G.mgB _ (by decide)) (bu (mE G.mono a) av (sE a G _ J) ck (ai j)) (ai j),λx=>rfl⟩
 |.enum1 a,C,X,G,e,tg,h=>by
  refine qB e h λf xs ks pos h=>?_;refine ej f h λx p h=>?_;refine bX xs h λy h=>?_;refine bX ks h λq h=>?_;obtain⟨qa,qv,qp⟩:=q;refine cL qv h λc k1 Z h=>?_;refine dJ tg h λts kt pt h=>?_;simp only[hX,decide_eq_true_eq]at h;obtain⟨⟨⟨⟨⟨rfl,F⟩,j⟩,O⟩,U⟩,J⟩:=h
  cases O
  cases U
  exact⟨vn (mE G.mono a) (G.gl F) (G.mgB _ (by decide)) (bu (mE G.mono a) av (sE a G _ J) ck (ai j)) (ai j),λx=>rfl⟩
 |.zip a b,C,X,G,e,tg,h=>by
  refine eE e h λx xs p pos h=>?_;refine fM xs h λy z h=>?_;refine dJ tg h λts kt pt h=>?_;simp only[hX,decide_eq_true_eq]at h;obtain⟨⟨⟨⟨⟨rfl,F⟩,j⟩,L⟩,J⟩,Y⟩:=h;exact⟨zX (mE G.mono a) (mE G.mono b) (G.gl F) (G.mgB _ (by decide)) (bu (mE G.mono a) (aw (mE G.mono b) av) (sE a G _ J) (bu (mE G.mono b) av (sE b G _ Y) ck (ai L)) (ai j)) (by rw[ai j,ai L];rfl) (ai L),λx=>rfl⟩
theorem sCl:∀ (m:MC) {C:Ctx} {X:Cx} (G:Good C Φ k X) (elt:Expr) (gens:List Gk) (sc:Scope) (pos:Pos) (d:Nat) (_:d=0∨d=d) (p:Addr),okC m C C (gens.drop (d+1)) elt=true ->
 PB X (aX elt gens sc pos d (.ref p) X.env) (lC X.K p (wCl Φ m))
 |.last src g ifs m,C,X,G,elt,gens,sc,pos,d,_,p,h=>by
  simp only[okC]at h
  split at h
  ·rename_i t it fs a hd;simp only [hX,decide_eq_true_eq] at h;obtain ⟨⟨⟨⟨rfl,hi⟩,F⟩,J⟩,he⟩:=h;have L:gens[d+1]? = some ⟨t,it,fs,0⟩:=by
    have z:(gens.drop (d+1))[0]? = some ⟨t,it,fs,0⟩:=by rw[hd];rfl
    rw[IB]at z;simpa using z
   have j:gens[d+1+1]? = none:=by
    have z:(gens.drop (d+1))[1]? = none:=by rw[hd];rfl
    rw[IB]at z;simpa using z
   refine PB.imp (jI G.hx G.calm L (λg' z=>by rw[j]at z;cases z) (sI src G _ t hi).1 (sG G g t F) (dw (p:=p) G (bv (mE G.mono m)) (mTl G.mono ifs) (PB.imp (ja G.hx (sE m G elt he) j) (fG (mE G.mono m))) (sTl ifs G fs J)) (sI src G _ t hi).2) (gH (mI G.mono src) (aM (bv (mE G.mono m)) (mTl G.mono ifs)))
  ·cases h
 |.more src g ifs rest,C,X,G,elt,gens,sc,pos,d,_,p,h=>by
  simp only[okC]at h
  split at h
  ·rename_i t it fs a g2 gs hd;simp only [hX,decide_eq_true_eq] at h;obtain ⟨⟨⟨⟨rfl,hi⟩,F⟩,J⟩,he⟩:=h;have L:gens[d+1]? = some ⟨t,it,fs,0⟩:=by
    have z:(gens.drop (d+1))[0]? = some ⟨t,it,fs,0⟩:=by rw[hd];rfl
    rw[IB]at z;simpa using z
   have j:gens[d+1+1]? = some g2:=by
    have z:(gens.drop (d+1))[1]? = some g2:=by rw[hd];rfl
    rw[IB]at z;simpa using z
   have U:gens.drop (d+1+1)=g2::gs:=by
    have z:(gens.drop (d+1)).drop 1=g2::gs:=by rw[hd];rfl
    rw[List.drop_drop]at z;simpa using z
   have O:∀ g',gens[d+1+1]? = some g'->g'.is_async=0:=λg' z=>by
    rw[j]at z;cases z;exact fO he
   refine PB.imp (jI G.hx G.calm L O (sI src G _ t hi).1 (sG G g t F) (dw (p:=p) G (mCl G.mono rest) (mTl G.mono ifs) (sCl rest G elt gens sc pos (d+1) (.inr rfl) p (by rw[U];exact he)) (sTl ifs G fs J)) (sI src G _ t hi).2) (gH (mI G.mono src) (aM (mCl G.mono rest) (mTl G.mono ifs)))
  ·cases h
end
end
end
section
section
variable {Φ:Phi} {k:Nat} {C:Ctx} {X:Cx}
theorem vJ {ts vs:List Expr}{kk k2:Nat}{pp p2:Pos}(j:env.scope=sc)(hk:sc.kind = .function)(h:qF sc ts vs=true):Ie [.Tuple ts kk pp] (.Tuple vs k2 p2) env=pure none:=by
 have z:env.blockKind = .function:=by unfold KR;rw[j,hk];rfl
 have h':qF sc ts vs=true:=h;unfold Ie;dsimp only;rw[z]
 by_cases c1:(!(ts.length==2 || ts.length==3) || vs.length != ts.length)=true
 ·simp only[c1,Bool.true_or,if_true]
 ·simp only[JG]at c1;rw[c1];simp only[KL,bne_self_eq_false,Iy,if_false]
  split
  ·rfl
  ·
    generalize F:List.filterMap _ ts=L;obtain rfl:L=aW sc ts:=by
     rw[<- F];unfold aW;congr 1
     funext x
     cases x <;> first|rfl|(unfold N0;rw[j])
    unfold qF at h';rw[c1]at h';simp only[KL,Jl]at h'
    by_cases c3:((aW sc ts).length != ts.length || (aW sc ts).eraseDups.length != (aW sc ts).length)=true
    ·rw[if_pos c3]
    ·rw [if_neg c3];have J:vs.all (MD 8)=true:=by
      rcases h' with h'|h'
      ·exact absurd (Jl _ _ |>.mpr h') c3
      ·exact h'
     rw[if_pos J]
theorem yn {ts vs:List Expr}{ns:List Str}{kk k2:Nat}{pp p2:Pos}(j:env.scope=sc)(hk:sc.kind = .function)(h:qH sc ts vs ns=true):Ie [.Tuple ts kk pp] (.Tuple vs k2 p2) env=pure (some ns):=by
 have F:env.blockKind = .function:=by unfold KR;rw[j,hk];rfl
 simp only[qH,hX,G2,decide_eq_true_eq]at h;obtain⟨⟨⟨⟨⟨c1,c2⟩,J⟩,O⟩,U⟩,Y⟩:=h;unfold Ie;dsimp only;rw[F,c1];simp only[KL,bne_self_eq_false,Iy,if_false]
 split
 ·next z=>exact absurd z (by rw[JG];exact c2)
 ·generalize Z:List.filterMap _ ts=L;obtain rfl:L=aW sc ts:=by
   rw[<- Z];unfold aW;congr 1
   funext x
   cases x <;> first|rfl|(unfold N0;rw[j])
  rw[O,U,Y,J];rfl
theorem oC {i:Nat}(h:qG C i x=true):C.N[i]? = some x/\C.sc.names.lookup x=some .local:=by
 simpa[qG]using h
theorem dy {tg:Expr}(h:Hl e (some tg) l env=pure b):Jb [tg] e l env=pure b:=by
 unfold Jb;exact h
theorem yo {tg:Expr}(j:env.scope=sc)(hk:sc.kind = .function)(h:wq sc tg e=true):Ie [tg] e env=pure none:=by
 cases tg with
 | Tuple ts kk pp =>
   cases e with
   |Tuple vs k2 p2=>exact vJ j hk h
   |_=>rfl
 |_=>first|rfl|(cases h;done)
theorem mH {elt:Expr}{gens:List Gk}{s:Scope}{px:Pos}(j:env.scope=sc)(hk:sc.kind = .function) :
 Hl (.ListComp elt gens s pos) (some (.Name x px)) l env=pure (qI sc x px (.ListComp elt gens s pos)):=by
 have z:env.blockKind = .function:=by unfold KR;rw[j,hk];rfl
 unfold Hl;dsimp only;rw[z];unfold qI N0;rw[j];rfl
theorem t9 {ek ev:Expr}{gens:List Gk}{s:Scope}{px:Pos}(j:env.scope=sc)(hk:sc.kind = .function) :
 Hl (.DictComp ek ev gens s pos) (some (.Name x px)) l env=pure (sc.names.lookup x==some .local&&px.line==(Expr.DictComp ek ev gens s pos).pos.line && !(s.names.any λ(n,k)=>n==x&&(k == .local || k == .cell))):=by
 have z:env.blockKind = .function:=by unfold KR;rw[j,hk];rfl
 unfold Hl;dsimp only;rw[z];unfold N0;rw[j];rfl
mutual
theorem sS:∀ (m:MS) (G:Good C Φ k X) (hk:C.sc.kind = .function) (s:Stmt),okS m C s=true->PS X s (lS X.K (wS Φ m))
 |.asg g m,G,hk,s,h=>by
  refine hJ s h λts e pos h1=>?_;clear h;refine bX ts h1 λtg h=>?_;clear h1;simp only[hX]at h;obtain⟨⟨⟨F,he⟩,U⟩,O⟩:=h;have hw:=yo G.sc hk U;have pg:=sG G g tg F;have plain:Jb [tg] e pos.line X.env=pure false->PS X (.Assign [tg] e pos) (lS X.K (fJ (wE Φ m) (bG g))):=λhs =>
   PS.imp (qZ (sE m G e he) pg hs hw (by cases tg <;> first|rfl|(cases U;done))) (v6 (mE G.mono m))
  cases tg with
  |Tuple ts a b=>exact plain (dy (jp O))
  | Name x px =>
    cases e with
    | ListComp elt gens sc cpos =>
      by_cases sw:qI C.sc x px (.ListComp elt gens sc cpos)=true
      ·cases g with
       |tup gs=>exact absurd F Fu
       | name i =>
         cases m with
         | comp fr N' c =>
           replace he:=bD he;have B:aY sc X.env.scope X.N N' fr:=by rw[G.sc,G.N];exact iS he.1
           have B':aY sc C.sc C.N N' fr:=iS he.1;have Y:PG X (.Name x px) (fU i):=by
            have F:=bD F;have F:=L6 (bD F.1) F.2;exact nR G.nd (by rw[G.N];exact of_decide_eq_true F.1.1) (G.loc F.1.2) (G.own F.2)
           have Z:∀ l,Hl (.ListComp elt gens sc cpos) (some (.Name x px)) l X.env=pure true:=λl=>by rw[mH G.sc hk,sw]
           have mc:=mCmp G.mono fr c
           cases c with
           | last src g ifs m =>
             have h2:=he.2;simp only[okC]at h2
             split at h2
             ·rename_i t it fs a;simp only[hX,decide_eq_true_eq]at h2;obtain⟨⟨⟨⟨rfl,hi⟩,L⟩,ht⟩,J⟩:=h2;refine PS.imp (io (i:=i) (g:=lG X.K (bG g)) (wi:=lI X.K (wI Φ src)) G.calm G.hx B (λg' z=>by simp at z) (sI src G _ t hi).1 (λs H fp=>sG (G.blk B' s H fp) g t L) (tb:=λp=>lC X.K p (ba (wTl Φ ifs) (ef (wE Φ m)))) (λs H fp p=>?_) (sI src G _ t hi).2 Y (Z _)) λD σ H h=>?_
              ·have G':=G.blk B' s H fp;exact dw (p:=p) G' (bv (mE G.mono m)) (mTl G.mono ifs) (PB.imp (ja G'.hx (sE m G' elt J) rfl) (fG (mE G.mono m))) (sTl ifs G' fs ht)
              ·exact eg (mI G.mono src) (aM (bv (mE G.mono m)) (mTl G.mono ifs)) σ H _ (jS mc D σ H h)
             ·cases h2
           | more src g ifs rest =>
             have h2:=he.2;simp only[okC]at h2
             split at h2
             ·rename_i t it fs a g2 gs;simp only [hX,decide_eq_true_eq] at h2;obtain ⟨⟨⟨⟨rfl,hi⟩,L⟩,ht⟩,J⟩:=h2;have EI:∀ g',(g2::gs)[0]? = some g'->g'.is_async=0:=fun g' z=>by
               have z':g2=g':=by simpa using z
               subst z';exact fO J
              refine PS.imp (io (i:=i) (g:=lG X.K (bG g)) (wi:=lI X.K (wI Φ src)) G.calm G.hx B EI (sI src G _ t hi).1 (λs H fp=>sG (G.blk B' s H fp) g t L) (tb:=λp=>lC X.K p (ba (wTl Φ ifs) (wCl Φ rest))) (λs H fp p=>?_) (sI src G _ t hi).2 Y (Z _)) λD σ H h=>?_
              ·have G':=G.blk B' s H fp;exact dw (p:=p) G' (mCl G.mono rest) (mTl G.mono ifs) (sCl rest G' elt (⟨t,it,fs,0⟩::g2::gs) sc cpos 0 (.inl rfl) p J) (sTl ifs G' fs ht)
              ·exact eg (mI G.mono src) (aM (mCl G.mono rest) (mTl G.mono ifs)) σ H _ (jS mc D σ H h)
             ·cases h2
         |_=>exact absurd he Fu
      ·refine plain ?_;simp only[JG]at sw;refine dy ?_;rw[mH G.sc hk,sw]
    |SetComp _ _ _ _=>cases m <;> exact absurd he Fu
    | DictComp _ _ _ _ _ =>
      refine plain (dy ?_);rw[t9 G.sc hk];unfold Am at O;simp only[G2]at O;rw[O]
    |_=>exact plain (dy rfl)
  |_=>cases U
 |.par i j a b,G,hk,s,h=>by
  refine hJ s h λts e pos h=>?_;refine bX ts h λtg h=>?_;refine dJ tg h λts k p h=>?_;refine dJ e h λes k' p' h=>?_;refine fM ts h λt u h=>?_;refine fM es h λe f h=>?_;refine ej t h λx px h=>?_;refine ej u h λy py h=>?_;simp only[hX,decide_eq_true_eq]at h;obtain⟨⟨⟨⟨⟨⟨⟨hi,hj⟩,EJ⟩,n1⟩,n2⟩,U⟩,hb⟩,hw⟩:=h;obtain⟨i1,i2⟩:=oC hi;obtain⟨j1,j2⟩:=oC hj;exact PS.imp (zf G.calm G.nd (by rw[G.N];exact i1) (by rw[G.N];exact j1) EJ (by rw[G.sc];exact i2) (by rw[G.sc];exact j2) (bu (mE G.mono a) (aw (mE G.mono b) av) (sE a G _ U) (bu (mE G.mono b) av (sE b G _ hb) ck (ai n2)) (ai n1)) (yn G.sc hk hw) (dy rfl)) (sx (aw (mE G.mono a) (aw (mE G.mono b) av)))
 |.put o i m,G,hk,s,h=>by
  refine hJ s h λts e pos h=>?_;refine bX ts h λtg h=>?_;refine db tg h λx y tp h=>?_;simp only[hX]at h;obtain⟨⟨⟨⟨EK,O⟩,ho⟩,hi⟩,he⟩:=h;exact zZ (by have:=G.units;lia) (mE G.mono m) (mE G.mono o) (mE G.mono i) (sE m G e he) (sE o G x ho) (sE i G y hi) (dy (jp O)) rfl (λv=>by cases y <;> first|rfl|(cases EK;done))
 |.drop m,G,hk,s,h=>by
  refine Ai s h λe _ h=>?_;simp only[hX]at h;exact PS.imp (wU (sE m G _ h.2) (jp h.1)) (su (mE G.mono m))
 |.ret m,G,hk,s,h=>by
  refine vG s h λo _ h=>?_;refine jos o h λe h=>?_;exact PS.imp (i9 (sE m G _ h)) (v5 (mE G.mono m))
 |.ite c a b,G,hk,s,h=>by
  refine CI s h λt x y _ h=>?_;simp only[hX]at h;exact PS.imp (oX (sT c G _ h.1.1) (sSs a G hk _ h.1.2) (sSs b G hk _ h.2)) (xU (mT G.mono c))
 |.for g src b,G,hk,s,h=>by
  refine BC s h λtg it body els _ h=>?_;refine mD els h fun  h=>?_;simp only[hX]at h;obtain⟨⟨⟨hs,F⟩,hi⟩,hb⟩:=h;exact PS.imp (rj (λe s z=>(G.hx e s z).elim) G.calm (sI src G _ _ hi).1 (sG G g _ F) (sSs b G hk _ hb) (iR hs)) (v7 (mI G.mono src) (mSs G.mono b))
 |.while c b,G,hk,s,h=>by
  refine yj s h λt body els _ h=>?_;refine mD els h fun  h=>?_;simp only[hX]at h;exact PS.imp (u4 (λe s z=>(G.hx e s z).elim) (sT c G _ h.1) (sSs b G hk _ h.2)) (pY (mT G.mono c) (mSs G.mono b))
 |.bot,G,hk,s,h=>λpins s0 σ H D I g9=>(by obtain⟨ρ,M,A,rs,rm,l,q⟩:=g9;exact q.elim)
 |.pass,G,hk,s,h=>by
  refine Ak s h λ_ h=>?_;exact PS.imp wR jR
 |.brk,G,hk,s,h=>by
  refine yk s h λ_ h=>?_;exact PS.imp tZ pX
 |.cnt,G,hk,s,h=>by
  refine qD s h λ_ h=>?_;exact PS.imp nF sr
theorem sSs:∀ (m:MSs) (G:Good C Φ k X) (hk:C.sc.kind = .function) (s:List Stmt),okSs m C s=true->PSs X s (lS X.K (wSs Φ m))
 |.nil,G,hk,s,h=>by
  simp[okSs]at h;subst h;exact PSs.imp j5 jR
 |.cons m r,G,hk,[],h=>by simp[okSs]at h
 |.cons m r,G,hk,s::ss,h=>by
  simp only[okSs,hX]at h;exact PSs.imp (cv (sS m G hk s h.1) (sSs r G hk ss h.2)) (uZ (mS G.mono m) (mSs G.mono r))
end
end
end
section
structure FD where
 name:Str
 st:Stmt
 N:List Str
 np:Nat
 body:MSs
noncomputable def cr (N:List Str) (ds:List D):ao:=ds.map some++Fw (N.length - ds.length) none
noncomputable def phi (T:List FD):Nat->Phi
 |0=>λ_ _ _ _=>False
 |k+1=>λf ds M Q=>∃ d,T[f]? = some d/\ds.length=d.np/\wSs (phi T k) d.body { nx:=λ_ M'=>Q .non M',rt:=Q } (cr d.N ds) M
theorem cB (T:List FD):∀ k f,aO (phi T k f)
 |0,f=>λ_ _ _ _ _ q=>q.elim
 |k+1,f=>λds M Q Q' h j=>(by obtain⟨d,e,l,q⟩:=j;exact⟨d,e,l,mSs (cB T k) d.body { nx:=λ_ M'=>Q .non M',rt:=Q } { nx:=λ_ M'=>Q' .non M',rt:=Q' } _ _ ⟨λ_ M' q'=>h _ _ q',h,λ_ _ z=>z,λ_ _ z=>z⟩ q⟩)
noncomputable def jq (Γ:List Str) (cs:List (Str×D)) (d:FD):Bool :=
 decide ((ah d.st).kind = .function) && !(ah d.st).isCoroutine && !(ah d.st).isGenerator&&decide (d.N.Nodup)&&decide (d.np<=d.N.length)
  && (d.N.take d.np).all (λx=>(ah d.st).names.lookup x==some .local || (ah d.st).names.lookup x==some .cell)
  && (ah d.st).names.all (λy=>!(y.2 == .free))&&okSs d.body ⟨Γ,d.N,ah d.st,d.N,cs,0,d.name⟩ (bd d.st)
theorem fg {Γ:List Str}{cs:List (Str×D)}{d:FD}(h:jq Γ cs d=true):cw d.N (d.N.take d.np) (ah d.st)/\(d.N.take d.np).length=d.np/\okSs d.body ⟨Γ,d.N,ah d.st,d.N,cs,0,d.name⟩ (bd d.st)=true:=by
 simp only[jq,hX,decide_eq_true_eq,G2]at h;obtain⟨⟨⟨⟨⟨⟨⟨h1,h2⟩,F⟩,J⟩,Z⟩,L⟩,O⟩,U⟩:=h;have j:(d.N.take d.np).length=d.np:=by rw[GU];lia
 refine⟨⟨h1,h2,F,J,by rw[j],λx hx=>?_,λy Y e=>?_⟩,j,U⟩
 ·have z:=Gf.mp L x hx;simpa using z
 ·have z:=Gf.mp O y Y;rw[e]at z;simp at z
section
variable {P:FT} {w:G8} {K:Frag} {mg:Str->Option h8} {base:Heap}
theorem Ar {T:List FD}{k i:Nat}{H:Hp}{a:Addr}{ns:List Int}(F:pC H)(J:SqL K H a (ns.map V.int))(h:phi T k i [.con (ns.map D.int)] (λ_=>none) λd _=>d = .bl true) :
 lSp K (phi T k i) [.ref a] H (λv _=>v = .bl true) λ_ _ _=>False:=by
 have j:RM K (λ_=>none) H:=λ_ _ z=>by cases z
 refine⟨[.con (ns.map D.int)],λ_=>none,j,RDs.cons (OQ.mpr ⟨a,ns.map V.int,rfl,?_,RDs.ints ns⟩) RDs.nil,cB T k i [.con (ns.map D.int)] (λ_=>none) (λd _=>d = .bl true) (KE' K (λ_=>none) H λv _=>v = .bl true) (λd M' e=>λv H' x rm rd=>?_) h⟩
 ·rcases J with(z|⟨o,z⟩)|z
  ·rcases F a with q|⟨o,xs,q⟩
   ·rw[z]at q;cases q
   ·rw[z]at q;cases q
  ·exact .inl ⟨o,z⟩
  ·exact .inr z
 ·subst e;exact OK.mp rd
end
theorem de (us:List h8)(h:us.length=1):∃ a,us=[a]:=List.length_eq_one_iff.mp h
theorem bQ (us:List h8)(h:us.length=2):∃ a b,us=[a,b]:=by
 cases us with
 |nil=>cases h
 |cons a us=>obtain⟨b,rfl⟩:=de us (Nat.succ.inj h);exact⟨a,b,rfl⟩
theorem BE (us:List h8)(h:us.length=3):∃ a b c,us=[a,b,c]:=by
 cases us with
 |nil=>cases h
 |cons a us=>obtain⟨b,c,rfl⟩:=bQ us (Nat.succ.inj h);exact⟨a,b,c,rfl⟩
end
end Mi
variable {X:Cx}
theorem PS.nox {st:PySem.Stmt}{t:TS}(h:PS X.nox st t):PS X st t:=λpins s σ H D I hw =>
 PySem.wpAny_mono (h pins s σ H D (I.wish _) hw) (λ_ _ q=>q.unwish) λ_ _ z=>False.elim z
namespace Mi
theorem RS.start {K:Frag}{H:Hp}{N:List Str}{ds:List D}{vs:List V}(rs:RDs K H ds vs):RS K H (start N vs) (cr N ds):=by
 refine⟨by simp[L2.start,cr,rs.length],λj dd F=>?_⟩
 unfold cr at F;unfold L2.start
 by_cases J:j<ds.length
 ·rw[HS (by simpa using J),Gj]at F
  cases e3:ds[j]? with
  |none=>rw[e3]at F;cases F
  | some z =>
    rw[e3]at F;cases F;obtain⟨v,L,rv⟩:=rs.get e3;refine⟨v,?_,rv⟩;rw[HS (by rw[FO,rs.length];exact J),Gj,L];rfl
 ·rw[HI (by simpa using J),KZ]at F
  split at F <;> cases F
end Mi
section
theorem PI.nox {tg it:Expr}{wi:TI}(h:PI X.nox tg it wi):PI X tg it wi:=λpins s σ H R I hw =>
 Ga (h pins s σ H R (I.wish _) hw) (λv s1 q=>Ga q (λitv s2 j=>(by obtain⟨it,fp,tn,J,H',e,I',T,st,f,r⟩:=j;exact⟨it,fp,tn,J,H',e,I'.unwish,T,st,f,r⟩)) λ_ _ z=>False.elim z) λ_ _ z=>False.elim z
theorem PG.nox {tg:Expr}{t:TG}(h:PG X.nox tg t):PG X tg t:=λpins s σ H v u Q I r hw =>
 Ga (h pins s σ H v u Q (I.wish _) r hw) (λ_ _ j=>(by obtain⟨σ',H',I',q⟩:=j;exact⟨σ',H',I'.unwish,q⟩)) λ_ _ z=>False.elim z
namespace Mi
noncomputable abbrev noR (A:bj):bj:={ A with rt:=λ_ _=>False }
structure GS (K:Frag) (M0:Mem) (H0:Hp) (XE:Int->Mem->Prop) (A:bj) (D:br) (ρ:ao) (M:Mem) (σ:St) (H:Hp):Prop where
 rs:RS K H σ ρ
 rm:RM K M H
 x0:Ext M0 H0 M H
 ra:∀ n M',A.rt (.tup [.int n]) M'->0<=n->n<=1000->XE n M'
 rn:∀ M' v H',Ext M0 H0 M' H'->RM K M' H'->A.rt .non M'->D.rt v H'
 ln:Link K M H (noR A) D
noncomputable def gS (K:Frag) (M0:Mem) (H0:Hp) (XE:Int->Mem->Prop) (r:TSd):TS:=λD σ H=>∃ ρ M A,GS K M0 H0 XE A D ρ M σ H/\r A ρ M
variable {pos:Pos}
section
variable {X:Cx} {K:Frag} {M0:Mem} {H0:Hp} {XE:Int->Mem->Prop} {Φ:Phi} {st:Stmt} {rest:List Stmt} {t u:TSd}
theorem yp (h:PS X.nox st (lS K t))(n:∀ A ρ M,t A ρ M->t (noR A) ρ M):PS X st (gS K M0 H0 XE t) :=
 PS.imp (PS.nox h) λD σ H g9=>(by obtain⟨ρ,M,A,g,q⟩:=g9;exact⟨ρ,M,noR A,g.rs,g.rm,g.ln,n _ _ _ q⟩)
theorem wt:PSs X [] (gS K M0 H0 XE eV) :=
 PSs.imp j5 λD σ H g9=>(by obtain⟨ρ,M,A,g,q⟩:=g9;exact g.ln.nx ρ M σ H Ext.refl g.rs g.rm q)
theorem mJ (h1:PS X st (gS K M0 H0 XE t))(h2:PSs X rest (gS K M0 H0 XE u)):PSs X (st::rest) (gS K M0 H0 XE (fH t u)) :=
 PSs.imp (cv h1 h2) λD σ H g9=>(by
  obtain⟨ρ,M,A,g,q⟩:=g9;exact⟨ρ,M,{ A with nx:=u A },⟨g.rs,g.rm,g.x0,g.ra,g.rn,⟨λρ' M' σ' H' x rs' rm' q'=>⟨ρ',M',A,⟨rs',rm',g.x0.trans x,g.ra,g.rn,g.ln.ext x⟩,q'⟩,λ_ _ _ _ _ _ _ z=>z.elim,g.ln.bk,g.ln.ct⟩⟩,q⟩)
theorem CJ {c:Expr}{a b:List Stmt}{tc:TTd}(mc:aA tc)(L:PT X.nox c (lT K tc))(O:PSs X a (gS K M0 H0 XE t))(U:PSs X b (gS K M0 H0 XE u)):PS X (.If c a b pos) (gS K M0 H0 XE (sIf tc t u)) :=
 PS.imp (oX (PT.nox L) O U) λD σ H g9=>(by
  obtain⟨ρ,M,A,g,q⟩:=g9;refine⟨ρ,M,g.rs,g.rm,mc _ _ _ _ (λk z j H1 F J=>?_) q⟩;have g1:GS K M0 H0 XE A D ρ z σ H1:=⟨g.rs.mono (F.stab g.rm),J,g.x0.trans F,g.ra,g.rn,g.ln.ext F⟩
  cases k with
  |true=>rw[if_pos rfl]at j;dsimp only;rw[if_pos rfl];exact⟨ρ,z,A,g1,j⟩
  |false=>rw[if_neg Fu]at j;dsimp only;rw[if_neg Fu];exact⟨ρ,z,A,g1,j⟩)
theorem qK {src:TId}{b:BT}{tb:TSd}(ms:bx src)(mb:aG tb)(D:br)(σ:St)(H:Hp)(h:gS K M0 H0 XE (jh src b tb) D σ H):u6 (lI K src) (lG K b) (gS K M0 H0 XE tb) D σ H:=by
 obtain⟨ρ,M,A,g,q⟩:=h;refine⟨ρ,M,g.rs,g.rm,ms _ _ _ _ (λxs chk M1 q1 J H1 x1 Y it=>?_) q⟩;refine⟨λi m σ H'=>m=xs.length - i/\i<=xs.length /\ ∃ ρ F,RS K H' σ ρ /\ RM K F H'/\Ext M1 H1 F H'/\bh b tb chk A (xs.drop i) ρ F,⟨xs.length,by simp,GX _,ρ,M1,g.rs.mono (x1.stab g.rm),Y,Ext.refl,q1⟩,?_⟩
 rintro i m σ2 H2 ⟨rfl,hi,ρ2,F,Z,j,x2,q2⟩;have EI:=x2.stab Y
 by_cases L:i<xs.length
 ·rw[HV L]at q2;obtain⟨c,ρ',hb,q3⟩:=q2;obtain⟨go,yl⟩:=(it F H2 EI j c i).2 L;refine .inr ⟨go,λσ' H'=>∃ m',m'<xs.length - i/\(m'=xs.length - (i+1)/\i+1<=xs.length /\ ∃ ρ M,RS K H' σ' ρ /\ RM K M H'/\Ext M1 H1 M H'/\bh b tb chk A (xs.drop (i+1)) ρ M),λσ' H' h=>h,λx' H' y=>?_⟩;obtain⟨yy,d,hd,rd⟩:=yl x' H' y;rw[FP L]at hd
  cases hd
  obtain⟨xy,rmy⟩:=yy.ext j;have EJ:=x1.trans (x2.trans xy);refine⟨_,ρ2,ρ',rd,Z.mono (xy.stab j),hb,λσ3 EK=>?_⟩;have nx:∀ ρ5 U σ5 O,Ext F H' U O->RS K O σ5 ρ5->RM K U O->bh b tb chk A (xs.drop (i+1)) ρ5 U -> ∃ m',m'<xs.length - i/\(m'=xs.length - (i+1)/\i+1<=xs.length /\ ∃ ρ M,RS K O σ5 ρ /\ RM K M O/\Ext M1 H1 M O/\bh b tb chk A (xs.drop (i+1)) ρ M) :=
   λρ5 U σ5 O x5 EL EM q5=>⟨xs.length - (i+1),by lia,rfl,L,ρ5,U,EL,EM,(x2.trans xy).trans x5,q5⟩
  exact⟨ρ',F,{ A with nx:=bh b tb chk A (xs.drop (i+1)),ct:=bh b tb chk A (xs.drop (i+1)),bk:=A.nx },⟨EK,rmy,g.x0.trans EJ,g.ra,g.rn,⟨nx,λ_ _ _ _ _ _ _ z=>z.elim,λρ5 U σ5 O x5=>g.ln.nx ρ5 U σ5 O (EJ.trans x5),nx⟩⟩,q3⟩
 ·have e:i=xs.length:=by lia
  subst e;rw[J1]at q2;exact .inl ⟨(it F H2 EI j q2.1 _).1 (FE _),g.ln.nx ρ2 F σ2 H2 (x1.trans x2) Z j q2.2⟩
theorem BG {ev:Expr}{te:TEd}{i:Nat}(me:ae te)(he:PE X.nox ev (lE K te)):PSs X [.Return (some ev) pos] (gS K M0 H0 XE (fH (fJ te (bO i)) (gU (wC .non)))) :=
 PSs.imp (dj (i9 (PE.nox he))) λD σ H g9=>(by
  obtain⟨ρ,M,A,g,q⟩:=g9;refine⟨ρ,M,g.rs,g.rm,me _ _ _ _ (λd j g9 v H1 x1 rm1 rd1=>?_) q⟩;obtain⟨ρ',e,z⟩:=g9;exact g.rn j v H1 (g.x0.trans x1) rm1 z)
noncomputable def RL (e:ME):MSs:=.cons (.ite (.chain .le .le (.int 0) e (.int 1000)) (.cons (.ret (.tup (.cons e .nil))) .nil) (.cons .bot .nil)) .nil
theorem wu {e:ME}{A:bj}{ρ:ao}{M:Mem}{d:D}(hd:∀ (M':Mem) (Q:QD),wE Φ e ρ M' Q->Q d M')(h:wSs Φ (RL e) A ρ M):∃ n:Int,d = .int n/\0<=n/\n<=1000/\A.rt (.tup [.int n]) M:=by
 simp only[RL,wSs,wS,wT,wA,fH,sIf,gU,cQ,bM,wAr,aI,bo,opC]at h;rw[wE,wE]at h;have h:=hd _ _ h
 cases d with
 | int n =>
   obtain⟨k,z,h⟩:=h
   cases z
   by_cases h0 : 0<=n
   ·rw[if_pos (decide_eq_true h0)]at h;obtain⟨k,j,h⟩:=h
    cases j
    by_cases h1:n<=1000
    ·rw[if_pos (decide_eq_true h1)]at h;rw[wE]at h;exact⟨n,rfl,h0,h1,(hd _ _ h).2⟩
    ·rw[if_neg (by simpa using h1)]at h
     exact h.elim
   ·rw[if_neg (by simpa using h0)]at h
    obtain⟨k,j,h⟩:=h
    cases j
    exact h.elim
 |_=>exact h.elim
theorem yq {e:ME}{A:bj}{ρ:ao}{M:Mem}(h:wSs Φ (RL e) A ρ M)(he:(∃ i,e = .int i)∨∃ j,e = .var j):∃ n:Int,0<=n/\n<=1000/\(∀ Q:QD,Q (.int n) M->wE Φ e ρ M Q)/\A.rt (.tup [.int n]) M:=by
 rcases he with⟨i,rfl⟩|⟨j,rfl⟩
 ·obtain⟨n,e,h0,h1,q⟩:=wu (d:=.int i) (λM' Q q=>by rw[wE]at q;exact q) h
  cases e
  exact⟨i,h0,h1,λQ q=>by rw[wE];exact q,q⟩
 ·have z:∃ d,ρ[j]? = some (some d):=by
   simp only[RL,wSs,wS,wT,fH,sIf,cQ,bM]at h;rw[wE,wE]at h;obtain⟨d,e,_⟩:=h;exact⟨d,e⟩
  obtain⟨d,e⟩:=z;obtain⟨n,rfl,h0,h1,q⟩:=wu (d:=d) (λM' Q q=>(by
   rw[wE]at q;obtain⟨d',e',q⟩:=q;rw[e]at e'
   cases e'
   exact q)) h
  exact⟨n,h0,h1,λQ q=>by rw[wE];exact⟨_,e,q⟩,q⟩
theorem BH {it tg:Expr}{body:List Stmt}{src:TId}{b:BT}{tb:TSd}(j:Mh (model X.prog X.w) X.A X.env X.xe)(z:X.calm=true)(hi:PI X.nox tg it (lI K src))(F:PG X.nox tg (lG K b))(J:PSs X body (gS K M0 H0 XE tb))(ms:bx src)(mb:aG tb)(L:∀ x,H9 it X.env x=pure x):PS X (.For tg it body [] pos) (gS K M0 H0 XE (jh src b tb)) :=
 PS.imp (rj j z (PI.nox hi) (PG.nox F) J L) (qK ms mb)
end
end Mi
end
open PySem.W
namespace Mi
noncomputable def XMF (K:Frag) (M:Mem) (H:Hp) (cls:h8) (fld:Str) (Q:VK) (E:XK):QD:=λd M' =>
 (∀ n:Int,d = .tup [.int n]->0<=n->n<=1000 -> ∀ H' dx,Ext M H M' H'->RM K M' H'->H' dx=none->E cls (some dx) (upd H' dx (.xd [(fld,.int n)])))/\(d = .non -> ∀ v H',Ext M H M' H'->RM K M' H'->Q v H')
noncomputable def mK (K:Frag) (r:RAd) (cls:h8) (fld:Str):Sp:=λvs H Q E=>∃ ds M,RM K M H/\RDs K H ds vs/\r ds M (XMF K M H cls fld Q E)
noncomputable def XEF (K:Frag) (M:Mem) (H:Hp) (cls:h8) (fld:Str) (E:XK):Int->Mem->Prop:=λn M'=>∀ H' dx,Ext M H M' H'->RM K M' H'->H' dx=none->E cls (some dx) (upd H' dx (.xd [(fld,.int n)]))
section
variable {P:FT} {w:G8} {K:Frag} {mg:Str->Option h8} {base:Heap}
theorem yr {N:List Str}{qual:Str}{scope:Scope}{f:Addr}{cd:h8}{A:G3}{outer:List Env}{s:Ft}{H:Hp}{E:XK}{M0:Mem}{Φ:Phi}{x ta tb:Str}{np cpos pos:Pos}{z:Expr}{me:ME}{C D fI:Addr}{fld:Str}{fd:Hi}{ps:List Str}{k:Nat}(F:(∃ i,me = .int i)∨∃ j,me = .var j)(L:PE (bU (CXF P w base (.ref C)) P w K mg base N qual scope f cd A outer s H E).nox z (lE K (wE Φ me)))(hg:scope.names.lookup x=some .globalImplicit)(hm:mg x=some (.ref C))(Z:jn K C D fI fld)(FI:bf P w K mg base CX0 k fI fd ps (spI C fld ta tb))(hr:Room (k+1) (A.deeper (Jm qual scope s.heap.objs.size f cd)))(hb:Binds K fd ps [])(O:ta.length+tb.length<=100)(U:(x==("__debug__":Str))=false)(he:∀ env,FN [z] env=[(false,eval z env)])(Y:∀ env,(GY cpos (FN [z] env)).any (·.1)=false) :
 PSs (bU (CXF P w base (.ref C)) P w K mg base N qual scope f cd A outer s H E) [.Raise (some (.Call (.Name x np) [z] [] cpos)) none pos] (gS K M0 H (XEF K M0 H (.ref C) fld E) (wSs Φ (RL me))):=by
 refine dj λpins s1 σ H1 D I g9=>?_;obtain⟨ρ,M,Aa,g,q⟩:=g9;obtain⟨n,h0,h1,EI,EJ⟩:=yq q F;refine sR I rfl hg hm Z FI hr hb O (ce (PE.nox L) fu (he _)) ?_ U (he _) (Y _);refine⟨ρ,M,g.rs,g.rm,EI _ λv H2 x2 EK rd=>?_⟩
 cases OI.mp rd
 exact⟨n,rfl,h0,h1,λs2 e dx J ad EL EM EN EO=>jo (g.ra n M EJ h0 h1 H2 dx (g.x0.trans x2) EK EL) J ad (by rw[ag (Ne.symm EM)];exact EN) EO⟩
theorem As {T:List FD}{m k kk:Nat}{d:FD}{f:Addr}{fd:Hi}{C:Addr}{fld:Str}(eT:T[m]? = some d)(F:Fun K d.name d.name d.st f fd)(S:cw d.N (d.N.take d.np) (ah d.st))(L:(d.N.take d.np).length=d.np)(B:∀ (cdv:h8) (A:G3) (outer:List Env) (s:Ft) (H:Hp) (E:XK) (M0:Mem),Room kk (A.deeper (Jm d.name (ah d.st) s.heap.objs.size f cdv)) ->
   PSs (bU (CXF P w base (.ref C)) P w K mg base d.N d.name (ah d.st) f cdv A outer s H E) (bd d.st) (gS K M0 H (XEF K M0 H (.ref C) fld E) (wSs (phi T k) d.body))) :
 bf P w K mg base (CXF P w base (.ref C)) (kk+1) f fd (d.N.take d.np) (mK K (phi T (k+1) m) (.ref C) fld):=by
 obtain⟨oc,od,kV,doc,pm,an,cdv,ct,osl,rfl,lk,j⟩:=F.ex;refine w9 lk j S (λvs H Q E h=>?_) λA outer s H vs Q E hr J=>?_
 ·obtain⟨ds,M,rm,rs,d',e',l,q⟩:=h;rw[eT]at e';cases e';rw[rs.length,l,L]
 ·obtain⟨ds,M,rm,rs,d',e',l,q⟩:=J;rw[eT]at e';cases e';refine⟨_,B cdv A outer s H E M hr,cr d.N ds,M,{ nx:=λ_ M'=>XMF K M H (.ref C) fld Q E .non M',rt:=XMF K M H (.ref C) fld Q E },⟨RS.start rs,rm,Ext.refl,λn M' q h0 h1=>q.1 n rfl h0 h1,λM' v H' x rm' q=>q.2 rfl v H' x rm',⟨λρ M' σ H' x _ rm' q=>q.2 rfl .non H' x rm',λ_ _ _ _ _ _ _ z=>z.elim,λ_ _ _ _ _ _ _ z=>z,λ_ _ _ _ _ _ _ z=>z⟩⟩,q⟩
end
noncomputable def tRest (i:Nat) (C:Addr) (fld:Str):TS:=λD σ H=>(σ[i]? = some (some .non)/\D.rt .non H)∨∃ a dx n,σ[i]? = some (some (.ref a))/\IsF H a C dx fld n/\D.rt (.int n) H /\ ∀ p ho,H p=none->D.rt (.int n) (upd H p ho)
noncomputable def vK (i m:Nat) (ms:MEs):MSs:=.cons (.asg (.name i) .non) (.cons (.asg (.name i) (.call m ms)) (.cons (.ite (.cmp .is (.var i) .non) (.cons (.ret .non) .nil) .nil) (.cons (.asg (.tup (.cons (.name i) .nil)) (.var i)) (.cons (.ret (.var i)) .nil))))
section
variable {Φ:Phi} {i m:Nat} {ms:MEs} {ρ:ao} {M:Mem} {Aa:bj}
theorem tf (hΦ:∀ f,aO (Φ f))(h:wSs Φ (vK i m ms) Aa ρ M):wA Φ ms (ρ.set i (some .non)) M λds J=>Φ m ds J λd j=>(d = .non/\Aa.rt .non j)∨∃ d0,d = .tup [d0]/\Aa.rt d0 j:=by
 have z:wE Φ (.call m ms)=wAr (Φ m) (wA Φ ms):=by rw[wE]
 have L:wE Φ (.var i)=gN i:=by rw[wE]
 have O:wE Φ .non=wC .non:=by rw[wE]
 have gt:∀ (ρ2:ao) (x y:D),(ρ2.set i (some x))[i]? = some (some y)->y=x:=λρ2 x y e=>by
  by_cases U:i<ρ2.length
  ·rw[Gi U]at e;cases e;rfl
  ·rw[List.getElem?_eq_none (by simpa using U)]at e;cases e
 simp only[vK,wSs,wS,fH,fJ,z,L,O]at h;obtain⟨ρ',e,h⟩:=h
 cases e
 refine mA hΦ ms _ _ _ _ (λds J q=>hΦ m _ _ _ _ (λd j q=>?_) q) h;obtain⟨ρ',e,q⟩:=q
 cases e
 simp only[sIf,wT,cQ,opC,gU,eV,wOp,L,O]at q;obtain⟨d',e,b,F,k,ek,q⟩:=q
 cases ek
 have ed:=gt _ _ _ e;subst ed
 cases d' with
 | non =>
   cases F
   rw[if_pos rfl]at q;exact .inl ⟨rfl,q⟩
 | tup ds =>
   cases F
   rw[if_neg Fu]at q;obtain⟨d',e,ρ',eb,q⟩:=q;have ed:=gt _ _ _ e;subst ed
   cases ds with
   |nil=>cases eb
   |cons d0 r =>
   cases r with
   |cons _ _=>cases eb
   |nil =>
   cases eb
   obtain⟨d1,z,q⟩:=q;have ed:=gt _ _ _ z;subst ed;exact .inr ⟨d1,rfl,q⟩
 | _ =>
   cases F
   rw[if_neg Fu]at q;obtain⟨d',e,ρ',eb,q⟩:=q;have ed:=gt _ _ _ e;subst ed
   cases eb
end
end Mi
end L2

namespace L2
open PySem PySem.Spec PyProof.Rows
open PySem.W
namespace Mi
section
variable {P:FT} {w:G8} {K:Frag} {mg:Str->Option h8} {base:Heap}
theorem yt {T:List FD}{m k kk:Nat}{d d1:FD}{f f1:Addr}{fd J:Hi}{i0 ie i:Nat}{C D:Addr}{n xD x fx fld:Str}{Y:Expr}{es:List Expr}{ms:MEs}{ka:Nat}{fp cpos epos np EN xp apos EI tpos EO EQ ER:Pos}{rest:List Stmt}{Cc:Ctx}(eT:T[i0]? = some d)(L:d.body=vK i m ms)(EJ:bd d.st = .Assign [.Name x EO] (.Constant .none ka EQ) ER :: .Try [.Expr (.Call (.Name fx fp) (Y::es) [] cpos) epos] [.ExceptHandler (some (.Name xD np)) (some n) [.Assign [.Name x xp] (.Name n EN) apos] EI] [] [] tpos::rest)(F:Fun K d.name d.name d.st f fd)(S:cw d.N (d.N.take d.np) (ah d.st))(hl:(d.N.take d.np).length=d.np)(G:∀ (cdv:h8) (A:G3) (outer:List Env) (s:Ft) (H:Hp) (E:XK),Room kk (A.deeper (Jm d.name (ah d.st) s.heap.objs.size f cdv))->Good Cc (phi T k) kk (bU CX0 P w K mg base d.N d.name (ah d.st) f cdv A outer s H E).nox)(Z:∀ X:Cx,X.mg=mg->X.K=K->X.env.scope=ah d.st->sV X xD C D)(R:∀ X:Cx,X.mg=mg->X.K=K->X.env.scope=ah d.st->X.N=d.N->X.calm=true->PSs X rest (tRest i C fld))(hi:d.N[i]? = some x)(hx:(ah d.st).names.lookup x=some .local)(ES:d.N[ie]? = some n)(hn:(ah d.st).names.lookup n=some .local)(EK:ie≠i)(hd:(n==("__debug__":Str))=false)(ET:(n==("__classdict__":Str))=false)(F1:bf P w K mg base (CXF P w base (.ref C)) kk f1 J (d1.N.take d1.np) (mK K (phi T k m) (.ref C) fld))(hg:(ah d.st).names.lookup fx=some .globalImplicit)(hm:mg fx=some (.ref f1))(hk:Ha K (.ref f1)=true)(hb:Binds K J (d1.N.take d1.np) [])(ha:okEs ms Cc (Y::es)=true)(EU:(fx==("__debug__":Str))=false)(he:∀ env,FN (Y::es) env=(false,eval Y env)::FN es env)(EV:∀ env,(GY cpos (FN es env)).any (·.1)=false)(EW:∀ env,Hl (.Call (.Name fx fp) (Y::es) [] cpos) none epos.line env=pure false) :
 bf P w K mg base CX0 (kk+1) f fd (d.N.take d.np) (lSp K (phi T (k+1) i0)):=by
 refine F.ok S (λvs H Q E h=>?_) λcdv A outer s H vs Q E hr h=>?_
 ·obtain⟨ds,M,rm,rs,d',e',l,q⟩:=h;rw[eT]at e';cases e';rw[rs.length,l,hl]
 ·obtain ⟨ds,M,rm,rs,d',e',l,q⟩:=h;rw [eT] at e';cases e';rw [L] at q;have q:=tf (cB T k) q;have G1:=G cdv A outer s H E hr;rw [EJ];refine ⟨_,cv (r6 (i:=i) S.nd hi (.inl hx) i7 rfl (.inr hx)) (cv (yi (k:=kk) (C:=C) (D:=D) (i:=i) (ie:=ie) (f:=f1) (fd:=J) rfl rfl rfl (fun a=>Z _ rfl rfl rfl) S.nd hi hx ES hn EK hd ET F1 hr hg hm hk hb (sA ms G1 (Y::es) ha) EU (he _) (EV _) (EW _)) (R _ rfl rfl rfl rfl rfl)),?_⟩;have EX:RS K H ((start d.N vs).set i (some .non)) ((cr d.N ds).set i (some .non)):=(RS.start rs).set i (ON.mpr rfl);have EL:i < (start d.N vs).length:=by
   have hN:=(G0.mp hi).1;have hv:vs.length<=d.N.length:=by rw[rs.length,l,<- hl,GU];exact NI _ _
   rw[L2.start,FW,FO,GB];omega
  refine⟨_,M,EX,rm,mA (cB T k) ms _ _ _ _ (λEY M1 q1 F3 H1 x1 EZ F0=>⟨EY,M1,EZ,F0,cB T k m _ _ _ _ (λdd M2 O=>⟨λnn e h0 h1 H' dx x2 U EM=>⟨dx,rfl,λa j=>?_⟩,λe v H' x2 U=>?_⟩) q1⟩) q⟩
  ·subst e
   rcases O with⟨z,_⟩|⟨d0,z,O⟩
   ·cases z
   cases z
   have nd:dx≠a:=λz=>by rw[z,al]at j;cases j
   have X2:=(x1.trans x2).trans (OR (ho:=.xd [(fld,.int nn)]) EM);have R2:=U.new (ho:=.xd [(fld,.int nn)]) EM;have X3:=X2.trans (OR (ho:=.ext (clsF a C dx)) j);have R3:=R2.new (ho:=.ext (clsF a C dx)) j;refine .inr ⟨a,dx,nn,?_,⟨al,by rw[ag nd];exact al⟩,O _ _ X3 R3 (OI.mpr rfl),λp ho hp=>O _ _ (X3.trans (OR hp)) (R3.new hp) (OI.mpr rfl)⟩
   rw[HY EK,Gi (by rw[LA];exact EL)]
  ·subst e
   rcases O with⟨_,O⟩|⟨d0,z,_⟩
   ·exact .inl ⟨Gi EL,O _ _ (x1.trans x2) U (ON.mpr rfl)⟩
   ·cases z
end
end Mi
end L2

namespace L2
open PySem PySem.Spec PyProof.Rows
open PySem.W
section
variable {X:Cx}
theorem vL {i:Nat}{C:Addr}{x c1 fld o:Str}{O U p2 Y p4 p5 q0 q1 q2 q3 z q5 q6 q7 q8:Pos}{k1 k2 k3:Nat}(hi:X.N[i]? = some x)(hx:X.env.scope.names.lookup x=some .local)(hd:(x==("__debug__":Str))=false)(F:(x==("__classdict__":Str))=false)(g0:Gl X "isinstance")(m0:X.mg "isinstance" = none)(g1:Gl X c1)(m1:X.mg c1=some (.ref C))(d1:(c1==("__debug__":Str))=false)(Z:lh X.K C)(hh:hasDictIn X.K C=true)(ha:findIn X.K (.ref C) fld=some none)(hb:JI (.Name x z) fld X.env (eval (.Name x z) X.env)=eval (.Name x z) X.env) :
 PSs X [.If (.Compare (.Name x O) [.Is] [.Constant .none k1 U] p2) [.Return (some (.Constant .none k2 Y)) p4] [] p5,.Return (some (.IfExp (.Call (.Name "isinstance" q0) [.Name x q1,.Name c1 q2] [] q3) (.Attribute (.Name x z) fld q5) (.Constant (.str o) k3 q6) q7)) q8] (Mi.tRest i C fld):=by
 have J:∀ pos,PE X (.Name x pos) (oV i):=λpos=>fj hi (.inl hx) hd F;refine Mi.PSs.imp (cv (oX (nS zm (J _) i7 (zn _)) (dj (i9 i7)) j5) (dj (i9 (kR (yU (bw vz g0 m0 (by decide +kernel) (ce (J _) (ce (xf g1 m1 d1) fu rfl) rfl) (by decide) (by decide) rfl rfl)) (Ac (C:=C) (J _) hb Z hh ha) i8)))) λD σ H h=>?_
 rcases h with⟨j,q⟩|⟨a,dx,n,j,L,q,_⟩
 ·exact⟨.non,j,rfl,true,by simp,q⟩
 ·refine⟨.ref a,j,rfl,false,by simp,?_⟩
  refine⟨.ref a,j,a,C,dx,fld,n,.ref C,true,rfl,rfl,L,Z,?_,true,rfl,?_⟩
  ·unfold Ki;rw[if_pos (by simp[cV])]
  ·dsimp only;rw[if_pos rfl];exact⟨.ref a,j,a,dx,n,rfl,L,q⟩
end
end L2

namespace L2
open PySem PySem.Spec PyProof.Rows
open PySem.W
namespace Mi
theorem yu {K:Frag}{C:Addr}(y1:findIn K (.ref C) "__getattribute__" = some (some (.builtin "BaseException.__getattribute__")))(y2:findIn K (.ref C) "__getattr__" = some none)(z:findIn K (.ref C) "__class__" = some (some (.builtin "object.__class__")))(F:specialIn K (.builtin "object.__class__") "__get__" = some (some (.builtin "getset_descriptor.__get__")))(J:takesIn K (.builtin "object.__class__")=some true)(L:mroIn K C (.type "object")=some true)(O:subIn K (.ref C) (.type "BaseException")=some true)(U:isClsIn K C=true):lh K C:=by
 have j:(clsIn K C).isSome=true:=U;refine⟨y1,y2,λod=>?_,L,O,j⟩;obtain⟨cd,e⟩:=Hr.mp j;unfold findObj;rw[e,Ho,z,Ho];simp[F,J]
section
variable {P:FT} {w:G8} {K:Frag} {mg:Str->Option h8} {base:Heap}
structure Au (K:Frag) (mg:Str->Option h8) (T:List FD) (m r:Nat) (cs:List (Str×D)):Prop where
 blt:∀ x∈bltNames,mg x=none
 fns:∀ (i:Nat) (d:FD),T[i]? = some d -> ∃ f fd,Fun K d.name d.name d.st f fd/\mg d.name=some (.ref f)/\nsIn K Gm d.name=some (some (.ref f))/\Binds K fd (d.N.take d.np) []
 ok:∀ (i:Nat) (d:FD),T[i]? = some d->i<m->i≠r->jq ((T.take m).map (·.name)) cs d=true
 cst:∀ x d,(x,d)∈cs -> ∃ u,mg x=some u/\GV K d u
theorem BJ {T:List FD}{m r:Nat}{cs:List (Str×D)}(h:((Hx m).all λi=>i==r || (T[i]?).all (jq ((T.take m).map (·.name)) cs))=true)(i:Nat)(d:FD)(e:T[i]? = some d)(hi:i<m)(hr:i≠r):jq ((T.take m).map (·.name)) cs d=true:=by
 have z:=Gf.mp h i (Kc.mpr hi);rw[e]at z;simpa[hr]using z
def qL (P:FT) (w:G8) (K:Frag) (mg:Str->Option h8) (base:Heap) (T:List FD) (m:Nat) (cs:List (Str×D)) (CX:CXT) (k kk:Nat) (d:FD):Prop :=
 ∀ (f:Addr) (cdv:h8) (A:G3) (outer:List Env) (s:Ft) (H:Hp) (E:XK),Room kk (A.deeper (Jm d.name (ah d.st) s.heap.objs.size f cdv))->Good ⟨(T.take m).map (·.name),d.N,ah d.st,d.N,cs,0,d.name⟩ (phi T k) kk (bU CX P w K mg base d.N d.name (ah d.st) f cdv A outer s H E).nox
theorem oE {T:List FD}{m r:Nat}{dm dr:FD}{cs:List (Str×D)}{C:Addr}{fld:Str}(O:Au K mg T m r cs)(er:T[r]? = some dr)(nm:dm.N.Nodup)(nr:dr.N.Nodup)(Z:∀ k f fd,qL P w K mg base T m cs (CXF P w base (.ref C)) k (k+2) dm->Fun K dm.name dm.name dm.st f fd->bf P w K mg base (CXF P w base (.ref C)) (k+3) f fd (dm.N.take dm.np) (mK K (phi T (k+1) m) (.ref C) fld))(hR:∀ k f fd,qL P w K mg base T m cs CX0 k (k+2) dr->(∀ f fd,Fun K dm.name dm.name dm.st f fd->bf P w K mg base (CXF P w base (.ref C)) (k+2) f fd (dm.N.take dm.np) (mK K (phi T k m) (.ref C) fld))->Fun K dr.name dr.name dr.st f fd->bf P w K mg base CX0 (k+3) f fd (dr.N.take dr.np) (lSp K (phi T (k+1) r))) :
 ∀ k:Nat,(∀ (i:Nat) (d:FD) (f:Addr) (fd:Hi),T[i]? = some d->i<m->Fun K d.name d.name d.st f fd->bf P w K mg base CX0 (k+2) f fd (d.N.take d.np) (lSp K (phi T k i))) /\ ∀ f fd,Fun K dm.name dm.name dm.st f fd->bf P w K mg base (CXF P w base (.ref C)) (k+2) f fd (dm.N.take dm.np) (mK K (phi T k m) (.ref C) fld)
 |0=>⟨λi d f fd _ _ _=>⟨λvs H Q E h=>by obtain⟨ds,M,_,_,q⟩:=h;exact q.elim,λA outer s H args us vs Q E _ _ _ _ h=>by obtain⟨ds,M,_,_,q⟩:=h;exact q.elim⟩,
  λf fd _=>⟨λvs H Q E h=>by obtain⟨ds,M,_,_,q⟩:=h;exact q.elim,λA outer s H args us vs Q E _ _ _ _ h=>by obtain⟨ds,M,_,_,q⟩:=h;exact q.elim⟩⟩
 | k+1=>by
   obtain⟨IH,IX⟩:=oE O er nm nr Z hR k;have G:∀ (d:FD) (CX:CXT),d.N.Nodup->qL P w K mg base T m cs CX k (k+2) d:=λd CX nd f cdv A outer s H E hr=>by
    refine⟨λ_ _ z=>z,rfl,rfl,rfl,nd,λ_ _=>rfl,hr,O.blt,λj x hx=>?_,cB T k,O.cst,λz=>(by cases z),λ_ z=>(by cases z)⟩
    have J:((T.take m).map (·.name))[j]? = some x:=hx;rw[Gj,N1]at J
    by_cases Y:j<m
    ·rw[if_pos Y]at J
     cases U:T[j]? with
     |none=>rw[U]at J;cases J
     | some d2 =>
       rw[U]at J;cases J;obtain⟨f2,L,F2,m2,n2,b2⟩:=O.fns j d2 U;exact⟨f2,L,_,m2,n2,F2.kp,b2,IH j d2 f2 L U Y F2⟩
    ·rw[if_neg Y]at J;cases J
   refine⟨λi d f fd e hi F=>?_,λf fd F=>Z k f fd (G _ _ nm) F⟩
   by_cases hir:i=r
   ·subst hir;rw[er]at e;cases e;exact hR k f fd (G _ _ nr) IX F
   ·obtain⟨S,hl,hb⟩:=fg (O.ok i d e hi hir);refine F.ok (k:=k+2) S (λvs H Q E h=>?_) λcdv A outer s H vs Q E hr h=>?_
    ·obtain⟨ds,M,rm,rs,d',e',l,q⟩:=h;rw[e]at e';cases e';rw[rs.length,l,hl]
    ·obtain⟨ds,M,rm,rs,d',e',l,q⟩:=h;rw[e]at e';cases e';exact⟨_,sSs d.body (G d CX0 S.nd f cdv A outer s H E hr) S.kind _ hb,cr d.N ds,M,{ nx:=λ_ M'=>KE' K M H Q .non M',rt:=KE' K M H Q },RS.start rs,rm,⟨λρ M' σ H' x rs' rm' q'=>q' .non H' x rm' (ON.mpr rfl),λd M' v H' x rm' rd' q'=>q' v H' x rm' rd',λ_ _ _ _ _ _ _ z=>z,λ_ _ _ _ _ _ _ z=>z⟩,q⟩
end
end Mi
end L2

namespace L2
open PySem PySem.Spec PyProof.Rows
open PySem.W
namespace Mi
inductive XI where
 |pl (m:MS)
 |rs (c:MT) (e:ME)
inductive XL where
 |one (x:XI)
 |loop (g:MG) (src:MI) (b:List XI)
noncomputable def XI.ms:XI->MS
 |.pl m=>m
 |.rs c e=>.ite c (RL e) .nil
noncomputable def msI:List XI->MSs
 |[]=>.nil
 |x::r=>.cons x.ms (msI r)
noncomputable def msL (i:Nat) (v:ME):List XL->MSs
 |[]=>.cons (.asg (.name i) v) (.cons (.ret .non) .nil)
 |.one x::r=>.cons x.ms (msL i v r)
 |.loop g src b::r=>.cons (.for g src (msI b)) (msL i v r)
noncomputable def wv:MS->Bool
 |.asg _ _=>true
 |.drop _=>true
 |_=>false
noncomputable def ivB:ME->Bool
 |.int _=>true
 |.var _=>true
 |_=>false
noncomputable def rsB (xr:Str) (C:Ctx) (e:ME) (l:List Stmt):Bool:=match l with
 |[.Raise (some (.Call (.Name x _) [e1] [] _)) none _]=>x==xr&&aK e1&&okE e C e1&&ivB e
 |_=>false
noncomputable def mL (xr:Str) (C:Ctx):XI->Stmt->Bool
 |.pl m,s=>wv m&&okS m C s
 |.rs c e,s=>match s with
  |.If t a [] _=>okT c C t&&rsB xr C e a
  |_=>false
noncomputable def jr (xr:Str) (C:Ctx):List XI->List Stmt->Bool
 |[],l=>l.isEmpty
 | x::r,l=>match l with
   |s::l=>mL xr C x s&&jr xr C r l
   |[]=>false
noncomputable def vM (xr:Str) (C:Ctx):XL->Stmt->Bool
 |.one x,s=>mL xr C x s
 |.loop g src b,s=>match s with
  |.For tg it body [] _=>iO it&&okG g C tg&&okI src C tg it&&jr xr C b body
  |_=>false
noncomputable def okX (xr:Str) (C:Ctx) (v:ME):List XL->List Stmt->Bool
 |[],l=>match l with
  |[.Return (some ev) _]=>okE v C ev
  |_=>false
 | x::r,l=>match l with
   |s::l=>vM xr C x s&&okX xr C v r l
   |[]=>false
section
variable {C:Ctx} {Φ:Phi} {k:Nat} {X:Cx} {M0:Mem} {H0:Hp} {XE:Int->Mem->Prop}
theorem yv {m:MS}(h:wv m=true)(A:bj)(ρ:ao)(M:Mem)(q:wS Φ m A ρ M):wS Φ m (noR A) ρ M:=by
 cases m <;> first|cases h|skip
 ·rw[wS]at q ⊢;exact q
 ·rw[wS]at q ⊢;exact q
section
variable (G:Good C Φ k X.nox) (hk:C.sc.kind = .function) {xr:Str}
 (hr:∀ (e:ME) (e1:Expr) (np cpos pos:Pos),aK e1=true->okE e C e1=true->ivB e=true->PSs X [.Raise (some (.Call (.Name xr np) [e1] [] cpos)) none pos] (gS X.K M0 H0 XE (wSs Φ (RL e))))
include G hk hr
theorem sXI (x:XI)(s:Stmt)(h:mL xr C x s=true):PS X s (gS X.K M0 H0 XE (wS Φ x.ms)):=by
 cases x with
 | pl m =>
   rw[mL,hX]at h;exact yp (sS m G hk s h.2) (yv h.1)
 | rs c e =>
   unfold mL at h;dsimp only at h
   split at h
   ·next t a p =>
    rw[hX]at h;have h2:=h.2;unfold rsB at h2
    split at h2
    ·next x np j cpos pos =>
     simp only[hX,beq_iff_eq]at h2;obtain⟨⟨⟨rfl,a1⟩,a2⟩,z⟩:=h2;show PS X _ (gS X.K M0 H0 XE (wS Φ (.ite c (RL e) .nil)));rw[wS];refine CJ (mT G.mono c) (sT c G t h.1) (hr e j np cpos pos a1 a2 z) ?_;rw[wSs];exact wt
    ·cases h2
   ·cases h
theorem sXs:∀ (l:List XI) (ss:List Stmt),jr xr C l ss=true->PSs X ss (gS X.K M0 H0 XE (wSs Φ (msI l)))
 |[],ss,h=>by
  rw[jr,List.isEmpty_iff]at h;subst h;rw[msI,wSs];exact wt
 | x::r,ss,h=>by
   cases ss with
   |nil=>rw[jr]at h;cases h
   | cons s ss =>
     rw[jr,hX]at h;rw[msI,wSs];exact mJ (sXI G hk hr x s h.1) (sXs r ss h.2)
theorem sXL (z:Mh (model X.prog X.w) X.A X.env X.xe)(F:X.calm=true)(x:XL)(s:Stmt)(i:Nat)(v:ME)(r:List XL)(rest:List Stmt)(h:vM xr C x s=true)(j:PSs X rest (gS X.K M0 H0 XE (wSs Φ (msL i v r)))):PSs X (s::rest) (gS X.K M0 H0 XE (wSs Φ (msL i v (x::r)))):=by
 cases x with
 | one x =>
   rw[msL,wSs];exact mJ (sXI G hk hr x s h) j
 | loop g src b =>
   rw[msL,wSs];refine mJ ?_ j;unfold vM at h;dsimp only at h
   split at h
   ·next tg it body p =>
    simp only[hX]at h;obtain⟨⟨⟨h1,h2⟩,J⟩,L⟩:=h;rw[wS];exact BH z F (sI src G _ _ J).1 (sG G g _ h2) (sXs G hk hr b body L) (mI G.mono src) (mSs G.mono _) (iR h1)
   ·cases h
theorem sX (j:Mh (model X.prog X.w) X.A X.env X.xe)(z:X.calm=true)(i:Nat)(v:ME):∀ (l:List XL) (ss:List Stmt),okX xr C v l ss=true->PSs X ss (gS X.K M0 H0 XE (wSs Φ (msL i v l)))
 |[],ss,h=>by
  unfold okX at h
  split at h
  ·next ev p =>
   rw[msL,wSs,wSs,wSs,wS,wS];have F:wE Φ .non=wC .non:=by rw[wE]
   rw[F];exact BG (mE G.mono v) (sE v G ev h)
  ·cases h
 | x::r,ss,h=>by
   cases ss with
   |nil=>rw[okX]at h;cases h
   | cons s ss =>
     rw[okX,hX]at h;exact sXL G hk hr j z x s i v r ss h.1 (sX j z i v r ss h.2)
end
end
end Mi
end L2

namespace L2
open PySem PySem.Spec PyProof.Rows
open PySem.W
namespace Mi
noncomputable def Av (s:Stmt) (i:Nat):Stmt:=match s with
 |.ClassDef _ _ _ b _ _ _ _ _ _ _=>b.getD i s
 |_=>s
noncomputable def jt (C D:Addr) (cd:ClassData) (sl:Array (Option h8)):Bool:=match cd.mro,sl.toList with
 |.ref C' :: .ref D'::r,[_,_,_,_,some (.builtin n),_]=>C'==C&&D'==D&&r==vbm&&n == "ValueError.__new__" && !cd.hasDel&&cd.hasDict
 |_,_=>false
noncomputable def hZ (o:Obj):Bool:=match o.data with
 |.dict es _=>es.toList.all λe=>match e.key with|.str _ _=>true|_=>false
 |_=>false
theorem yw {K:Frag}{C D fI:Addr}{fld:Str}{dd:Option Addr}{cd:ClassData}{sl:Array (Option h8)}{oN:Obj}(lC:K.lookup C=some ⟨.type "type",dd,.cls cd,sl⟩)(F:jt C D cd sl=true)(lN:K.lookup cd.ns=some oN)(O:hZ oN=true)(iC:nsIn K cd.ns "__init__" = some (some (.ref fI)))(xD:excIn K D vbm "ValueError.__new__" = true)(sa:findIn K (.ref C) "__setattr__" = some (some (.builtin "object.__setattr__")))(na:findIn K (.ref C) fld=some none)(dg:specialIn K (.ref D) "__getattribute__" = some (some (.builtin "type.__getattribute__")))(dr:readsIn K D (.type "type")=true)(df:findCls K (.ref D) (.type "type") "__init__" = some (.val (.builtin "ValueError.__init__")))(fo:isFn K (.ref fI)=true):jn K C D fI fld/\hasDictIn K C=true:=by
 have j:clsIn K C=some cd:=by unfold clsIn;rw[lC]
 have fo':((K.lookup fI).any λo=>o.cls == .type "function")=true:=by
  unfold isFn typeIn at fo;dsimp only at fo
  cases e:K.lookup fI with
  |none=>rw[e]at fo;cases fo
  | some o =>
    rw[e]at fo;have z:o.cls = .type "function":=Hd.inj (beq_iff_eq.mp fo);show (o.cls==_)=true;rw[z];exact beq_self_eq_true _
 have ok:nsOkIn K cd.ns=true:=by
  unfold nsOkIn;rw[lN];unfold hZ at O;obtain⟨a,b,dat,sl⟩:=oN
  cases dat <;> first|cases O;done|skip
  dsimp only at O ⊢;rw[<- Array.all_toList];exact O
 unfold jt at F
 split at F
 ·next C' D' r n k0 k1 k2 k3 k5 hm U =>
  simp only[hX,beq_iff_eq,G2]at F;obtain⟨⟨⟨⟨⟨rfl,rfl⟩,rfl⟩,rfl⟩,J⟩,L⟩:=F;have Y:tailIn K vbm (.ref D'::vbm)=true:=by
   unfold tailIn;rw[Jl];refine .inr ?_;unfold excIn at xD
   split at xD
   ·next Z EI EJ ho =>
    split at xD
    ·next C2 EK l0 l1 l2 l3 n2 l5 EL EM =>
     simp only[hX,beq_iff_eq,G2]at xD;obtain⟨⟨⟨⟨⟨_,_⟩,_⟩,_⟩,q1⟩,q2⟩:=xD;dsimp only;rw[ho];dsimp only;rw[q1,q2];unfold tailIn;simp
    ·cases xD
   ·cases xD
  refine⟨⟨?_,sa,?_,na,dg,dr,df,fo'⟩,by unfold hasDictIn;rw[j];exact L⟩
  ·unfold iM;rw[lC];simp only[hm,U,Y,ok,iC,J];simp
  ·unfold mw;rw[j];show (gk cd.mro&&cd.hasDict)=true;rw[hm,L];simp[gk]
 ·cases F
theorem BK {e:ME}(h:ivB e=true):(∃ i,e = .int i)∨∃ j,e = .var j:=by
 cases e <;> first|cases h|skip
 ·exact .inr ⟨_,rfl⟩
 ·exact .inl ⟨_,rfl⟩
theorem mM {j:Expr}(h:aK j=true)(env:Env):FN [j] env=[(false,eval j env)]:=by rw[ai h];rfl
theorem tj {j:Expr}{p:Pos}(h:aK j=true)(env:Env):(GY p (FN [j] env)).any (·.1)=false:=by rw[mM h];rfl
end Mi
end L2

namespace L2
open PySem PySem.Spec PyProof.Rows
namespace Mi
variable {f n c:Nat}{ds:List D}{M M':Mem}{Q:QD}{ρ:ao}{Φ:Phi}{s:Stmt}{a b:Addr}{i j lo hi:Int}{w:Str}
section
theorem Aw {T:List FD}{k:Nat}{d:FD}(e:T[f]? = some d)(l:ds.length=d.np)(r:cr d.N ds = ρ)(h:wSs (phi T k) d.body { nx:=λ_ M'=>Q .non M',rt:=Q } ρ M):phi T (k+1) f ds M Q:=by
 rw[<- r]at h
 first|exact⟨d,e,l,h⟩|exact .inl ⟨d,e,l,h⟩
theorem aH {T:List FD}{d:FD}(j : 1<=n)(e:T[f]? = some d)(l:ds.length=d.np)(r:cr d.N ds = ρ)(h:wSs (phi T (n - 1)) d.body { nx:=λ_ M'=>Q .non M',rt:=Q } ρ M):phi T n f ds M Q:=by
 obtain⟨k,rfl⟩:∃ k,n=k+1:=⟨n - 1,by lia⟩
 exact Aw e l r h
theorem D7 {D:bj}:wSs Φ .nil D ρ M=D.nx ρ M:=by rw[wSs];rfl
theorem mP {s:MS}{r:MSs}{D:bj}:wSs Φ (.cons s r) D ρ M=wS Φ s { D with nx:=wSs Φ r D } ρ M:=by rw[wSs];rfl
theorem D8 {y:D}:wIx (.tup ds) y M Q = ∃ i d,y = .int i/\atI ds i=some d/\Q d M:=rfl
theorem D9 {y:D}:wIx (.con ds) y M Q = ∃ i d,y = .int i/\atI ds i=some d/\Q d M:=rfl
theorem aD {d:D}(h:M a=some (.lst ds))(e:atI ds i=some d)(q:Q d M):wIx (.ref a) (.int i) M Q:=.inl ⟨ds,i,d,h,rfl,e,q⟩
theorem bA {v:D}{j:Nat}{Q:Mem->Prop}(h:M a=some (.lst ds))(e:ixN ds.length i=some j)(q:Q (af M a (.lst (ds.set j v)))):iB (.ref a) (.int i) v M Q:=⟨a,rfl,.inl ⟨ds,i,j,rfl,h,e,q⟩⟩
theorem gr (h:M a=some (.lst ds))(q:Q (.int ds.length) M):eQ [.ref a] M Q:=⟨_,_,rfl,by simp only[lQ,h],q⟩
theorem aj (h:M a=some (.lst ds)):aJ M (.ref a)=some ds:=by simp only[aJ,h]
theorem DE:je [.int i] M Q=Q (.int i) M:=by
 apply propext;constructor
 ·rintro(⟨j,e,q⟩|⟨k,e,q⟩)
  ·cases e;exact q
  ·cases e
 ·exact λq=>.inl ⟨i,rfl,q⟩
theorem DF {b:Bool}:je [.bl b] M Q=Q (.int (if b then 1 else 0)) M:=by
 apply propext;constructor
 ·rintro(⟨j,e,q⟩|⟨k,e,q⟩)
  ·cases e
  ·cases e;exact q
 ·exact λq=>.inr ⟨b,rfl,q⟩
theorem ww:wEq (.int i) (.int j) M Q=Q (.bl (i==j)) M:=by
 simp[wEq,rb,GI]
theorem Ex:wNe (.int i) (.int j) M Q=Q (.bl (!(i==j))) M:=by
 simp[wNe,rb,GI]
theorem Ax:et (.int i) (.int j) M Q=Q (.int (i+j)) M:=rfl
theorem DG {a b:List D}:et (.tup a) (.tup b) M Q=((a≠[]∨True)/\a.length+b.length<=Fz/\Q (.tup (a++b)) M):=rfl
theorem tm:et (.ref a) (.ref b) M Q = ∃ xs ys,M a=some (.lst xs)/\M b=some (.lst ys)/\xs.length+ys.length<=Fz /\ ∀ p,M p=none->Q (.ref p) (af M p (.lst (xs++ys))):=rfl
theorem DH:lF (.int i) (.int j) M Q=Q (.int (i - j)) M:=rfl
theorem DI:eP (.int i) (.int j) M Q=(MulOk i j/\Q (.int (i*j)) M):=rfl
theorem DJ {k:Int}:eP (.tup ds) (.int k) M Q=(-(2 ^ 63)<=k/\k<2 ^ 63/\ds.length*k.toNat<=Fz/\Q (.tup (Fw k.toNat ds).flatten) M):=rfl
theorem mQ {k:Int}:eP (.ref a) (.int k) M Q = ∃ xs,M a=some (.lst xs) /\ -(2 ^ 63)<=k/\k<2 ^ 63/\xs.length*k.toNat<=Fz /\ ∀ p,M p=none->Q (.ref p) (af M p (.lst (Fw k.toNat xs).flatten)):=rfl
theorem Da:ip (.int i) (.int j) M Q=(0<j/\j<2 ^ 256/\Q (.int (i / j)) M):=rfl
theorem DK:lH (.int i) (.int j) M Q=(0<j/\Q (.int (i % j)) M):=rfl
theorem DL:lJ (.int i) (.int j) M Q=(0<=j/\j<=1000000/\i.natAbs<2 ^ 64/\Q (.int (i ^ j.toNat)) M):=rfl
theorem Ey:wLt (.int i) (.int j) M Q=Q (.bl (decide (i<j))) M:=rfl
theorem Ez:wLe (.int i) (.int j) M Q=Q (.bl (decide (i<=j))) M:=rfl
theorem BL:wGt (.int i) (.int j) M Q=Q (.bl (decide (j<i))) M:=rfl
theorem EA:wGe (.int i) (.int j) M Q=Q (.bl (decide (j<=i))) M:=rfl
theorem DM:lK (.int i) M Q=Q (.int (-i)) M:=rfl
theorem DN:jd [.int i] M Q=Q (.int (if i<0 then -i else i)) M:=by simp[jd]
theorem Db:iq [.int i,.int j] M Q=Q (.int (if j > i then j else i)) M:=by
 apply propext;constructor
 ·rintro⟨a,b,e,q⟩;cases e;exact q
 ·exact λq=>⟨i,j,rfl,q⟩
theorem Dc:ir [.int i,.int j] M Q=Q (.int (if j<i then j else i)) M:=by
 apply propext;constructor
 ·rintro⟨a,b,e,q⟩;cases e;exact q
 ·exact λq=>⟨i,j,rfl,q⟩
theorem DO:eQ [.con ds] M Q=Q (.int ds.length) M:=by simp[eQ,lQ]
theorem DP:eQ [.tup ds] M Q=Q (.int ds.length) M:=by simp[eQ,lQ]
theorem DQ:aJ M (.tup ds)=some ds:=rfl
theorem DR:aJ M (.con ds)=some ds:=rfl
theorem EB {α:Sort _}{a b : α}:(if true=true then a else b)=a:=rfl
theorem EC {α:Sort _}{a b : α}:(if false=true then a else b)=b:=rfl
theorem Dd {ta tb:TEd}{R:List D->(Mem->Prop)->Mem->Prop}:jg ta tb ρ M R=ta ρ M λx z=>tb ρ z λy j=>∃ xs ys,aJ j x=some xs/\aJ j y=some ys/\R (Lv gc xs ys) (λM=>aJ M x=some xs/\aJ M y=some ys) j:=by
 unfold jg aI;congr 1;funext x z;unfold bo;congr 1;funext y j;apply propext;constructor
 ·rintro⟨x',y',xs,ys,e,q⟩
  cases e;exact⟨xs,ys,q⟩
 ·rintro⟨xs,ys,q⟩;exact⟨x,y,xs,ys,rfl,q⟩
theorem dN {x y:Str}:et (.str x) (.str y) M Q=(x.length+y.length<=Fz/\Q (.str (x++y)) M):=rfl
theorem DS {i}:wE Φ (.var i)=gN i:=rfl
theorem DT {i}:wE Φ (.int i)=wC (.int i):=rfl
theorem ED {b}:wE Φ (.bl b)=wC (.bl b):=rfl
theorem DU:wE Φ (.non)=wC .non:=rfl
theorem DV {x}:wE Φ (.str x)=wC (.str x):=rfl
theorem DW {op}{a}{b}:wE Φ (.bin op a b)=wOp (opB op) (wE Φ a) (wE Φ b):=rfl
theorem DX {a}:wE Φ (.neg a)=wUn lK (wE Φ a):=rfl
theorem DY {op}{a}{b}:wE Φ (.cmp op a b)=wOp (opC op) (wE Φ a) (wE Φ b):=rfl
theorem DZ {es}:wE Φ (.and es)=wAnds Φ es:=rfl
theorem EE {es}:wE Φ (.or es)=wOrs Φ es:=rfl
theorem E1 {a}:wE Φ (.not a)=kx (wE Φ a):=rfl
theorem E2 {c}{a}{b}:wE Φ (.ite c a b)=wIf (wT Φ c) (wE Φ a) (wE Φ b):=rfl
theorem E3 {es}:wE Φ (.tup es)=wAr pK (wA Φ es):=rfl
theorem E4 {es}:wE Φ (.lst es)=wAr pL (wA Φ es):=rfl
theorem EF {a}{b}:wE Φ (.ix a b)=wOp wIx (wE Φ a) (wE Φ b):=rfl
theorem EG {a}{lo}{hi}:wE Φ (.sl a lo hi)=wSl (wE Φ a) (wO Φ lo) (wO Φ hi):=rfl
theorem De {f}{es}:wE Φ (.call f es)=wAr (Φ f) (wA Φ es):=rfl
theorem E5 {f}{es}:wE Φ (.blt f es)=wAr (opF f) (wA Φ es):=rfl
theorem Df {a}{T}:wE Φ (.isin a T)=kz T (wE Φ a):=rfl
theorem CK {op}{op'}{a}{b}{c}:wE Φ (.chain op op' a b c)=bM (opC op) (opC op') (wE Φ a) (wE Φ b) (wE Φ c):=rfl
theorem Dg {u1}{d}:wE Φ (.glob u1 d)=wC d:=rfl
theorem Dh {m}{o}{a}:wE Φ (.meth m o a)=wBM (opM m) (wE Φ o) (aI (wE Φ a) bo):=rfl
theorem Di {fr}{u1}{c}:wE Φ (.comp fr u1 c)=wCmp Φ fr c:=rfl
theorem Dj {o}{a}:wE Φ (.join o a)=kF (wE Φ o) (wE Φ a):=rfl
theorem CL {m}{o}{a}:wE Φ (.smeth m o a)=wSM (md m) (wE Φ o) (wE Φ a):=rfl
theorem E6 {a}{b}:wE Φ (.ixS a b)=wOp qk (wE Φ a) (wE Φ b):=rfl
theorem E7 {a}{lo}:wE Φ (.slS a lo)=ql (wE Φ a) (wO Φ lo):=rfl
theorem E8 {a}{hi}:wE Φ (.slT a hi)=qz (wE Φ a) (wO Φ hi):=rfl
theorem Dl:wA Φ (.nil)=bo:=rfl
theorem CM {e}{r}:wA Φ (.cons e r)=aI (wE Φ e) (wA Φ r):=rfl
theorem CN:wTl Φ (.nil)=[]:=rfl
theorem C3 {t}{r}:wTl Φ (.cons t r)=wT Φ t::wTl Φ r:=rfl
theorem E9 {e}:wI Φ (.seq e)=pT (wE Φ e):=rfl
theorem Dm {a}:wI Φ (.rng1 a)=kA (aI (wE Φ a) bo):=rfl
theorem Ea {a}{b}:wI Φ (.zip a b)=jg (wE Φ a) (wE Φ b):=rfl
theorem Dn {a}:wI Φ (.enum a)=kB (wE Φ a):=rfl
theorem CO {a}:wI Φ (.enum1 a)=iI (wE Φ a):=rfl
theorem CP {a}:wI Φ (.chars a)=iH (wE Φ a):=rfl
theorem C4 {src}{g}{ifs}{elt}:wCl Φ (.last src g ifs elt)=dq (wI Φ src) (bG g) (ba (wTl Φ ifs) (ef (wE Φ elt))):=rfl
theorem C5 {src}{g}{ifs}{rest}:wCl Φ (.more src g ifs rest)=dq (wI Φ src) (bG g) (ba (wTl Φ ifs) (wCl Φ rest)):=rfl
theorem BM {fr:List (Option Nat)}{src}{g}{ifs}{elt}:wCmp Φ fr (.last src g ifs elt)=gf fr (wI Φ src) (bG g) (ba (wTl Φ ifs) (ef (wE Φ elt))):=rfl
theorem BN {fr:List (Option Nat)}{src}{g}{ifs}{rest}:wCmp Φ fr (.more src g ifs rest)=gf fr (wI Φ src) (bG g) (ba (wTl Φ ifs) (wCl Φ rest)):=rfl
theorem Eb {g}{e}:wS Φ (.asg g e)=fJ (wE Φ e) (bG g):=rfl
theorem Ec {i}{j}{a}{b}:wS Φ (.par i j a b)=pU (aI (wE Φ a) (aI (wE Φ b) bo)) (bP (bO i) (bP (bO j) gR)):=rfl
theorem Ed {o}{i}{e}:wS Φ (.put o i e)=pZ (wE Φ e) (wE Φ o) (wE Φ i):=rfl
theorem Do {e}:wS Φ (.drop e)=kD (wE Φ e):=rfl
theorem Ee {e}:wS Φ (.ret e)=gU (wE Φ e):=rfl
theorem Ef {c}{a}{b}:wS Φ (.ite c a b)=sIf (wT Φ c) (wSs Φ a) (wSs Φ b):=rfl
theorem Eg {g}{src}{b}:wS Φ (.for g src b)=jh (wI Φ src) (bG g) (wSs Φ b):=rfl
theorem CQ {c}{b}:wS Φ (.while c b)=iA (wT Φ c) (wSs Φ b):=rfl
theorem Eh:wS Φ (.bot)=λ_ _ _=>False:=rfl
theorem Dp:wS Φ (.pass)=eV:=rfl
theorem Ei:wS Φ (.brk)=iz:=rfl
theorem Ej:wS Φ (.cnt)=kC:=rfl
theorem Ek {e}:wT Φ (.tru e)=pP (wE Φ e):=rfl
theorem El {op}{a}{b}:wT Φ (.cmp op a b)=cQ (wOp (opC op) (wE Φ a) (wE Φ b)):=rfl
theorem CS {op}{op'}{a}{b}{c}:wT Φ (.chain op op' a b c)=cQ (bM (opC op) (opC op') (wE Φ a) (wE Φ b) (wE Φ c)):=rfl
theorem Em {ts}:wT Φ (.and ts)=wAndTs Φ ts:=rfl
theorem EH {ts}:wT Φ (.or ts)=wOrTs Φ ts:=rfl
theorem Eo {t}:wT Φ (.not t)=ko (wT Φ t):=rfl
theorem AN:wAndTs Φ (.nil)=λ_ _ _=>False:=rfl
theorem Ay {e}:wAndTs Φ (.cons e .nil)=wT Φ e:=rfl
theorem Az {e}{f}{r}:wAndTs Φ (.cons e (.cons f r))=kr (wT Φ e) (wAndTs Φ (.cons f r)):=rfl
theorem BO:wOrTs Φ (.nil)=λ_ _ _=>False:=rfl
theorem AO {e}:wOrTs Φ (.cons e .nil)=wT Φ e:=rfl
theorem AQ {e}{f}{r}:wOrTs Φ (.cons e (.cons f r))=pQ (wT Φ e) (wOrTs Φ (.cons f r)):=rfl
theorem BP:wAnds Φ (.nil)=λ_ _ _=>False:=rfl
theorem AR {e}:wAnds Φ (.cons e .nil)=wE Φ e:=rfl
theorem AS {e}{f}{r}:wAnds Φ (.cons e (.cons f r))=ku (wE Φ e) (wAnds Φ (.cons f r)):=rfl
theorem C6:wOrs Φ (.nil)=λ_ _ _=>False:=rfl
theorem BQ {e}:wOrs Φ (.cons e .nil)=wE Φ e:=rfl
theorem BR {e}{f}{r}:wOrs Φ (.cons e (.cons f r))=pR (wE Φ e) (wOrs Φ (.cons f r)):=rfl
theorem CT {i}:bG (.name i)=bO i:=rfl
theorem Dq {gs}:bG (.tup gs)=uQ (bGs gs):=rfl
theorem CU:bGs (.nil)=gR:=rfl
theorem C7 {g}{r}:bGs (.cons g r)=bP (bG g) (bGs r):=rfl
theorem CV:wO Φ (.none)=fZ:=rfl
theorem CW {e}:wO Φ (.some e)=ky (wE Φ e):=rfl
theorem Dr:opB (.add)=et:=rfl
theorem Ds:opB (.sub)=lF:=rfl
theorem Dt:opB (.mul)=eP:=rfl
theorem CY:opB (.fdiv)=ip:=rfl
theorem Du:opB (.mod)=lH:=rfl
theorem Dv:opB (.pow)=lJ:=rfl
theorem Ep:opC (.eq)=wEq:=rfl
theorem Er:opC (.ne)=wNe:=rfl
theorem Es:opC (.lt)=wLt:=rfl
theorem Et:opC (.le)=wLe:=rfl
theorem Eu:opC (.gt)=wGt:=rfl
theorem Ev:opC (.ge)=wGe:=rfl
theorem Ew:opC (.is)=wIs:=rfl
theorem Dw:opC (.isn)=q9:=rfl
theorem C8:opC (.inStr)=iF:=rfl
theorem C9:opC (.inNon)=iG:=rfl
theorem BS:opC (.ninStr)=gh:=rfl
theorem Dx:opF (.len)=eQ:=rfl
theorem CZ:opF (.intS)=kG:=rfl
theorem D0:opF (.lenS)=kH:=rfl
theorem Dy:opF (.abs)=jd:=rfl
theorem D1:opF (.max2)=iq:=rfl
theorem D2:opF (.min2)=ir:=rfl
theorem Dz:opF (.int)=je:=rfl
theorem Ca:opF (.tuple)=iu:=rfl
theorem DA:opF (.all)=qf:=rfl
theorem DB:opF (.any)=qg:=rfl
theorem DC:opF (.str)=kE:=rfl
theorem BU:opM (.append)=gb:=rfl
theorem Cb:opM (.count)=iK:=rfl
theorem BV:opM (.indexS)=gj:=rfl
local macro_rules|`(tactic| walk_at "wp")=>do
 let f:=fun(n:Lean.Name)(s:String)=>(s.splitOn " ").toArray.map fun x=>(⟨(Lean.mkIdent (n++x.toName)).raw⟩:Lean.Term)
 let a:=f `_root_.L2.Mi "pI gN wC wOp wUn bo aI wAr cQ pK pL pP ko kr pQ ku pR kx wIf fZ ky wSl kz wBM bO gR bP uQ pT kA kB ef ba dq gf eV fH iz kC kD gU sIf fJ pU jh iA pZ bM kF md wSM qk ql kG kH iF iG iH iI gh qz D7 D8 D9 DE DF ww Ex Ax DG DH DI DJ Da DK DL Ey Ez BL EA DM DN Db Dc DO DP DQ DR EB EC Dd dN DS DT ED DU DV DW DX DY DZ EE E1 E2 E3 E4 EF EG De E5 Df CK Dg Dh Di Dj CL E6 E7 E8 Dl CM CN C3 E9 Dm Ea Dn CO CP C4 C5 BM BN Eb Ec Ed Do Ee Ef Eg CQ Eh Dp Ei Ej Ek El CS Em EH Eo AN Ay Az BO AO AQ BP AR AS C6 BQ BR CT Dq CU C7 CV CW Dr Ds Dt CY Du Dv Ep Er Es Et Eu Ev Ew Dw C8 C9 BS Dx CZ D0 Dy D1 D2 Dz Ca DA DB DC BU Cb BV"
 let b1:=a++f .anonymous "Ju Le N2 N3 Ho HX NU NV NW FY HC FR HA"
 let b2:=a++f .anonymous "Iy if_false if_true Ju Le N2 N3 Nw exists_eq_left' exists_eq_left exists_eq_right exists_and_left exists_and_right D.bl.injEq D.int.injEq D.ref.injEq D.tup.injEq Ho HX NU NV NW FY HC decide_eq_true_eq Og and_true true_and FR HA"
 `(tactic| ((try dsimp only[$[$b1:term],*]);(try simp only[$[$b2:term],*])))
local macro_rules|`(tactic| walk_at "st")=>`(tactic| ((first|rw[mP]|(dsimp only;rw[mP]));walk_at "wp"))
def Ge (M M':Mem):Prop:=∀ a o,M a=some o->M' a=some o
theorem Ge.refl:Ge M M:=λ_ _ h=>h
theorem Ge.trans {M'':Mem}(h:Ge M M')(g:Ge M' M''):Ge M M'':=λ_ _ e=>g _ _ (h _ _ e)
theorem Ge.new {p:Addr}{o:O}(h:M p=none):Ge M (af M p o):=λa o' e=>by
 rw[aB (λz=>by rw[z,h]at e;cases e)];exact e
def Box (b:Addr) (M:Mem):Prop:=∃ x y z:Int,M b=some (.lst [.int x,.int y,.int z])
structure Bx (b:Addr) (M M':Mem):Prop where
 box:Box b M'
 keep:∀ a o,a≠b->M a=some o->M' a=some o
theorem Bx.refl (h:Box b M):Bx b M M:=⟨h,λ_ _ _ e=>e⟩
theorem Bx.trans {M'':Mem}(h:Bx b M M')(g:Bx b M' M''):Bx b M M'':=⟨g.box,λa o n e=>g.keep a o n (h.keep a o n e)⟩
theorem Bx.put {x y z:Int}:Bx b M (af M b (.lst [.int x,.int y,.int z])):=⟨⟨x,y,z,aa⟩,λa o n e=>by rw[aB n];exact e⟩
section
variable {T:List FD}
noncomputable def iT (s:Stmt):FD:=⟨"_law_cell_at",s,["_law_script","_law_k"],2,
 (.cons (.ite (.cmp .lt (.var 1) (.blt .len (.cons (.var 0) .nil))) (.cons (.ret (.ix (.var 0) (.var 1)))
 .nil) .nil)
 (.cons (.ret (.int 0))
 .nil))⟩
theorem i3 {α:Type}{xs:List α}(h0 : 0<=i)(h1:i<xs.length):∃ x,atI xs i=some x/\xs[i.toNat]? = some x:=by
 have:i.toNat<xs.length:=by lia
 refine⟨xs[i.toNat],?_,FP this⟩;unfold atI ixN;simp[h0,h1,FP this]
theorem yx (hf:T[f]? = some (iT s))(z : 1<=n){ns:List Int}{k:Int}(h0 : 0<=k)(q:∀ i,Q (.int i) M):phi T n f [.con (ns.map D.int),.int k] M Q:=by
 refine aH z hf rfl (ρ:=[some _,some _]) rfl ?_;unfold iT;walk_at "st"
 split
 ·next h =>
  walk_at "st";obtain⟨x,e,j⟩:=i3 (xs:=ns.map D.int) h0 h;rw[Gj]at j
  cases e3:ns[k.toNat]? with
  |none=>rw[e3]at j;cases j
  |some y=>rw[e3]at j;cases j;exact⟨_,e,q y⟩
 ·walk_at "st";exact q 0
theorem AA (h : -(2 ^ 64)<i/\i<2 ^ 64):MulOk i j:=.inl h
theorem mR (h : -(2 ^ 64)<j/\j<2 ^ 64):MulOk i j:=.inr (.inl h)
noncomputable def oF (s:Stmt):FD:=⟨"_law_mixed",s,["_law_number_here","_law_k","_law_once","_law_twice"],2,
 (.cons (.asg (.name 2) (.bin .mod (.bin .mul (.bin .add (.bin .add (.bin .mod (.var 0) (.int 1000000007)) (.bin .mul (.int 7) (.var 1))) (.int 1)) (.int 48271)) (.int 2147483647)))
 (.cons (.asg (.name 3) (.bin .mod (.bin .mul (.var 2) (.bin .add (.bin .add (.bin .mod (.var 2) (.int 1009)) (.var 1)) (.int 3))) (.int 998244353)))
 (.cons (.ret (.bin .fdiv (.bin .mod (.bin .add (.bin .mul (.var 3) (.int 39373)) (.var 2)) (.int 2147483629)) (.int 64)))
 .nil)))⟩
noncomputable def qM (s:Stmt) (fc fm:Nat):FD:=⟨"_law_box",s,["_law_script","_law_k","_law_cell"],2,
 (.cons (.asg (.name 2) (.call fc (.cons (.var 0) (.cons (.var 1) .nil))))
 (.cons (.ret (.lst (.cons (.bin .mul (.blt .abs (.cons (.var 2) .nil)) (.blt .int (.cons (.cmp .ge (.blt .abs (.cons (.var 2) .nil)) (.bin .pow (.int 10) (.int 18))) .nil))) (.cons (.call fm (.cons (.var 2) (.cons (.bin .add (.int 900) (.var 1)) .nil))) (.cons (.int 0) .nil)))))
 .nil))⟩
theorem AB {fc fm:Nat}{sc:Stmt}(hf:T[f]? = some (qM s fc fm))(z:T[fc]? = some (iT sc))(F:∀ {x k:Int} {M:Mem} {Q:QD},(∀ i,Q (.int i) M)->phi T (n - 1) fm [.int x,.int k] M Q)(L : 2<=n){ns:List Int}{k:Int}(h0 : 0<=k)(q:∀ p x y,M p=none->Q (.ref p) (af M p (.lst [.int x,.int y,.int 0]))):phi T n f [.con (ns.map D.int),.int k] M Q:=by
 refine aH (by lia) hf rfl (ρ:=[some _,some _,none]) rfl ?_
 unfold qM;walk_at "st";refine yx z (by lia) h0 λi=>?_
 walk_at "st";refine⟨by decide,by decide,by decide,mR ?_,?_⟩
 ·split <;> lia
 refine F λj=>?_;exact⟨by rw[Fy];lia,λp J=>q p _ _ J⟩
noncomputable def mU (s:Stmt) (fm:Nat):FD:=⟨"_law_take",s,["_law_box_here","_law_many","_law_found","_law_reach"],2,
 (.cons (.ite (.cmp .gt (.ix (.var 0) (.int 0)) (.int 0)) (.cons (.asg (.name 2) (.bin .mod (.ix (.var 0) (.int 0)) (.var 1)))
 (.cons (.put (.var 0) (.int 0) (.bin .fdiv (.ix (.var 0) (.int 0)) (.var 1)))
 (.cons (.ret (.var 2))
 .nil))) .nil)
 (.cons (.asg (.tup (.cons (.name 2) (.cons (.name 3) .nil))) (.tup (.cons (.int 0) (.cons (.int 1) .nil))))
 (.cons (.while (.cmp .lt (.var 3) (.var 1)) (.cons (.put (.var 0) (.int 2) (.bin .add (.ix (.var 0) (.int 2)) (.int 1)))
 (.cons (.asg (.name 2) (.bin .add (.bin .mul (.var 2) (.int 33554432)) (.call fm (.cons (.ix (.var 0) (.int 1)) (.cons (.ix (.var 0) (.int 2)) .nil)))))
 (.cons (.asg (.name 3) (.bin .mul (.var 3) (.int 33554432)))
 .nil))))
 (.cons (.ret (.bin .mod (.var 2) (.var 1)))
 .nil))))⟩
def wx (T:List FD) (n fm:Nat):Prop:=∀ {x k:Int} {M:Mem} {Q:QD},(∀ i,Q (.int i) M)->phi T n fm [.int x,.int k] M Q
theorem yz {fm:Nat}(hf:T[f]? = some (mU s fm))(O:wx T (n - 1) fm)(Y : 2<=n){m:Int}(U:Box b M)(h1 : 0<m)(h2:m<=2 ^ 140)(q:∀ r M',0<=r->r<m->Bx b M M'->Q (.int r) M'):phi T n f [.ref b,.int m] M Q:=by
 refine aH (by lia) hf rfl (ρ:=[some _,some _,none,none]) rfl ?_
 unfold mU;obtain⟨x,y,z,L⟩:=U;walk_at "st";refine aD L (d:=.int x) rfl ?_;simp only[BL];walk_at "wp"
 split
 ·next hx =>
  walk_at "st";refine aD L (d:=.int x) rfl ?_;walk_at "wp";refine⟨h1,?_⟩;walk_at "st";refine aD L (d:=.int x) rfl ?_;walk_at "wp";refine⟨h1,by lia,?_⟩
  refine bA L (j:=0) rfl ?_;walk_at "st";exact q _ _ (K1 _ (by lia)) (Jp _ h1) Bx.put
 ·next hx =>
  walk_at "st";refine⟨by rw[Fy];lia,?_⟩
  walk_at "st";refine⟨7,?_⟩;have go:∀ (f:Nat) (found reach z:Int) (M':Mem),m<=reach*33554432 ^ f->M' b=some (.lst [.int x,.int y,.int z])->Bx b M M' ->
   bb (cQ (wOp wLt (gN 3) (gN 1))) (wSs (phi T (n - 1)) (MSs.cons (MS.put (ME.var 0) (ME.int 2) (ME.bin BOp.add ((ME.var 0).ix (ME.int 2)) (ME.int 1)))
    (MSs.cons (MS.asg (MG.name 2) (ME.bin BOp.add (ME.bin BOp.mul (ME.var 2) (ME.int 33554432)) (ME.call fm (MEs.cons ((ME.var 0).ix (ME.int 1)) (MEs.cons ((ME.var 0).ix (ME.int 2)) MEs.nil)))))
      (MSs.cons (MS.asg (MG.name 3) (ME.bin BOp.mul (ME.var 3) (ME.int 33554432))) MSs.nil))))
    { nx:=wSs (phi T (n - 1)) (MSs.cons (MS.ret (ME.bin BOp.mod (ME.var 2) (ME.var 1))) MSs.nil) { nx:=λx M'=>Q D.non M',rt:=Q },rt:=Q } (f+1) [some (.ref b),some (.int m),some (.int found),some (.int reach)] M':=by
   intro f
   induction f with
   | zero =>
     intro found reach z M' hm J F;simp only[bb];walk_at "wp";rw[if_neg (by lia)]
     walk_at "st";exact⟨h1,q _ _ (K1 _ (by lia)) (Jp _ h1) F⟩
   | succ f ih =>
     intro found reach z M' hm J F;rw[bb];walk_at "wp"
     split
     ·next hr =>
      walk_at "st";refine aD J (d:=.int z) rfl ?_;walk_at "wp";refine bA J (j:=2) rfl ?_;walk_at "st";refine⟨mR (by decide),?_⟩
      refine aD aa (d:=.int y) rfl ?_;refine aD aa (d:=.int (z+1)) rfl ?_;refine O λi=>?_;walk_at "wp";walk_at "st";refine⟨mR (by decide),?_⟩
      exact ih _ _ (z+1) _ (by rw[Int.mul_assoc,<- Int.pow_succ'];exact hm) aa (F.trans Bx.put)
     ·walk_at "st";exact⟨h1,q _ _ (K1 _ (by lia)) (Jp _ h1) F⟩
  exact go 6 0 1 z M (by lia) L (Bx.refl ⟨x,y,z,L⟩)
def AC (T:List FD) (n f:Nat):Prop:=∀ {b:Addr} {m:Int} {M:Mem} {Q:QD},Box b M->0<m->m<=2 ^ 140->(∀ r M',0<=r->r<m->Bx b M M'->Q (.int r) M')->phi T n f [.ref b,.int m] M Q
end
section
variable {T:List FD}
theorem b8 {α:Type}{xs l r:List α}{x : α}(e:xs=l++x::r):l.length<xs.length:=by rw[e];simp
noncomputable abbrev Pr:=List Int×List Int×List Int
noncomputable def prD (p:Pr):D:=.tup [.tup (p.1.map .int),.tup (p.2.1.map .int),.tup (p.2.2.map .int)]
noncomputable def dQ (p:Pr):Ov:=.tuple [.tuple (p.1.map .int),.tuple (p.2.1.map .int),.tuple (p.2.2.map .int)]
theorem oG {k:Nat}{M:Mem}:∀ ns:List Int,az (rb k M) (ns.map D.int)=some (ns.map PyData.int)
 |[]=>rfl
 | x::r=>by
   have e:rb k M (.int x)=some (.int x):=by cases k <;> rfl
   simp[az,e,oG r]
theorem BW {k:Nat}(p:Pr):rb (k+2) M (prD p)=some (dQ p):=by
 simp[rb,prD,dQ,az,oG]
theorem tq {k:Nat}{M:Mem}:∀ ps:List Pr,az (rb (k+2) M) (ps.map prD)=some (ps.map dQ)
 |[]=>rfl
 |p::r=>by simp[az,BW,tq r]
theorem tt {k:Nat}(h:M a=some (.lst ds)):rb (k+1) M (.ref a)=(az (rb k M) ds).map O7:=by
 simp only[rb,h]
theorem Bx.upd {q:Addr}{o:O}(h:Bx b M M')(F:M q=none)(j:q≠b):Bx b M (af M' q o) :=
 ⟨by obtain ⟨x,y,z,e⟩:=h.box;exact ⟨x,y,z,by rw [aB j.symm];exact e⟩,fun u o' nu eu=>by
   rw[aB (λz=>by rw[z,F]at eu;cases eu)];exact h.keep u o' nu eu⟩
end
section
theorem bq {α:Type}{f : α -> D}{b:BT}{tb:TCd}{chk:Mem->Prop}{N:NC}(I:List α -> ao->Mem->List D->Prop){ys:List α}{xs:List D}(hx:xs=ys.map f){acc:List D}(h0:I [] ρ M acc)(F:∀ l ρ M acc,I l ρ M acc->chk M)(J:∀ l x r ρ M acc,ys=l++x::r->I l ρ M acc -> ∃ ρ',b (f x) ρ = some ρ' /\ ∀ N':NC,(∀ ρ2 z j,I (l++[x]) ρ2 z j->N' ρ2 z j)->tb ρ' M acc N')(L:∀ ρ M acc,I ys ρ M acc->N ρ M acc):cH b tb chk N xs ρ M acc:=by
 subst hx;have g:∀ (r l:List α) (ρ:ao) (M:Mem) (acc:List D),ys=l++r->I l ρ M acc->cH b tb chk N (r.map f) ρ M acc:=by
  intro r
  induction r with
  |nil=>intro l ρ M acc e i;rw[Hz]at e;subst e;exact⟨F _ _ _ _ i,L _ _ _ i⟩
  | cons x r ih =>
    intro l ρ M acc e i;obtain⟨ρ',O,h⟩:=J l x r ρ M acc e i;exact⟨F _ _ _ _ i,ρ',O,h _ λρ2 z j U=>ih (l++[x]) ρ2 z j (by rw[e];simp) U⟩
 exact g ys [] ρ M acc rfl h0
theorem cC {α:Type}{f : α -> D}{b:BT}{tb:TSd}{chk:Mem->Prop}{E:bj}(I:List α -> ao->Mem->Prop){ys:List α}{xs:List D}(hx:xs=ys.map f)(h0:I [] ρ M)(z:∀ l ρ M,I l ρ M->chk M)(J:∀ l x r ρ M,ys=l++x::r->I l ρ M -> ∃ ρ',b (f x) ρ = some ρ' /\ ∀ F:ao->Mem->Prop,(∀ ρ2 j,I (l++[x]) ρ2 j->F ρ2 j)->tb { E with nx:=F,ct:=F,bk:=E.nx } ρ' M)(L:∀ ρ M,I ys ρ M->E.nx ρ M):bh b tb chk E xs ρ M:=by
 subst hx;have g:∀ (r l:List α) (ρ:ao) (M:Mem),ys=l++r->I l ρ M->bh b tb chk E (r.map f) ρ M:=by
  intro r
  induction r with
  |nil=>intro l ρ M e i;rw[Hz]at e;subst e;exact⟨z _ _ _ i,L _ _ i⟩
  | cons x r ih =>
    intro l ρ M e i;obtain⟨ρ',O,h⟩:=J l x r ρ M e i;exact⟨z _ _ _ i,ρ',O,h _ λρ2 j U=>ih (l++[x]) ρ2 j (by rw[e];simp) U⟩
 exact g ys [] ρ M rfl h0
theorem qN:dE 0 n=(Hx n).map λi=>D.int (i:Nat):=by simp[dE]
end
section
variable {T:List FD}
noncomputable def mV (x:Str) (s:Stmt):FD:=⟨"_law_mixed",s,[x,"_law_k","_law_once","_law_twice"],2,(oF s).body⟩
theorem kb {x:Str}(hf:T[f]? = some (mV x s))(j : 1<=n):wx T n f:=by
 intro x k M Q q;refine aH j hf rfl (ρ:=[some _,some _,none,none]) rfl ?_;unfold mV oF;walk_at "st";refine⟨by decide,AA (by decide),mR (by decide),by decide,?_⟩
 walk_at "st";refine⟨by decide,AA ?_,by decide,?_⟩
 ·have h1:=K1 ((x % 1000000007+7*k+1)*48271) (b:=2147483647) (by decide)
  have h2:=Jp ((x % 1000000007+7*k+1)*48271) (b:=2147483647) (by decide)
  lia
 walk_at "st";refine⟨mR (by decide),by decide,by decide,by decide,?_⟩
 exact q _
end
section
noncomputable def tx (i:Int):Str:=g8 (Hh i)
theorem tu (h:i.natAbs<10 ^ 4):(tx i).length<=5:=by
 have e:=int_text_length_le10 (k:=4) (by decide) h
 unfold tx;rw[FH];lia
theorem iU (a b:String):g8 (a++b)=g8 a++g8 b:=by
 apply Str.ext';show (N4 0 0 (a++b).toByteArray.data.toList).toArray=(N4 0 0 a.toByteArray.data.toList).toArray++(N4 0 0 b.toByteArray.data.toList).toArray;rw[JA,JA,JA,String.toList_append,Gr];simp
theorem bc (a:String):Gd (g8 a)=true:=by
 unfold Gd;show (N4 0 0 a.toByteArray.data.toList).toArray.all _=true;rw[JA];simp only[List.all_toArray,Ka,Gf];intro c _;have h:=c.valid;simp only[UInt32.isValidChar,Nat.isValidChar]at h;simp only[Function.comp,decide_eq_true_eq,Jq];lia
theorem mW {s:Str}{B:Nat}:∀ {ts:List Str},(∀ t∈ts,t.length<=B)->(GD s ts).length<=ts.length*(B+s.length)
 |[],_=>by simp[GD,KY,MP]
 |[x],h=>by have:=h x (by simp);simp only[GD,FR,HA];lia
 | x::y::r,h=>by
   have h1:=h x (by simp)
   have h2:=mW (s:=s) (ts:=y::r) λt j=>h t (FL _ j);show (x++s++GD s (y::r)).length<=_;rw[FX,FX,FR,Nat.succ_mul];lia
noncomputable def aP (a b c:Nat):Str:=g8 "scheme " ++ tx a++g8 " " ++ tx b++g8 " " ++ tx c
theorem vN (a b c:Nat):g8 "scheme " ++ GD (g8 " ") [tx a,tx b,tx c]=aP a b c:=by
 unfold aP;simp only[GD,JH]
end
section
noncomputable def cl (s:Str):List Nat:=s.cps.toList
theorem dS {a b:Str}(h:cl a=cl b):a=b:=by
 apply Str.ext';exact Array.toList_inj.mp h
theorem aE (a b:Str):cl (a++b)=cl a++cl b:=by unfold cl;rw[Str.cps_append];simp
theorem ax (a:Str):(cl a).length=a.length:=by simp[cl,MP]
theorem bB (c:Nat):cl ⟨#[c]⟩=[c]:=rfl
noncomputable def jl (c:Nat):List (List Nat)->List Nat
 |[]=>[]
 |[x]=>x
 |x::y::r=>x++c::jl c (y::r)
theorem bJ (c:Nat):∀ ys:List Str,cl (GD ⟨#[c]⟩ ys)=jl c (ys.map cl)
 |[]=>rfl
 |[x]=>rfl
 | x::y::r=>by
   show cl (x++⟨#[c]⟩++GD ⟨#[c]⟩ (y::r))=_;rw[aE,aE,bJ c (y::r),bB];simp[jl]
theorem tw {c:Nat}:∀ {x y s t:List Nat},c∉x->c∉y->x++c::s=y++c::t->x=y/\s=t
 |[],[],_,_,_,_,h=>by simpa using h
 |[],b::y,_,_,_,h2,h=>by simp at h h2;exact absurd h.1 h2.1
 |a::x,[],_,_,h1,_,h=>by simp at h h1;exact absurd h.1.symm h1.1
 | a::x,b::y,s,t,h1,h2,h=>by
   simp only[List.cons_append,Og]at h;simp only[FA,not_or]at h1 h2;obtain⟨j,z⟩:=tw h1.2 h2.2 h.2;exact⟨by rw[h.1,j],z⟩
theorem tz {c:Nat}:∀ {xs ys:List (List Nat)},xs≠[]->ys≠[]->(∀ x∈xs,c∉x)->(∀ y∈ys,c∉y)->jl c xs=jl c ys->xs=ys
 |[],_,h,_,_,_,_=>absurd rfl h
 |_,[],_,h,_,_,_=>absurd rfl h
 |[x],[y],_,_,_,_,h=>by rw[show x=y from h]
 |[x],y::z::r,_,_,h1,_,h=>by
  have:c∈x:=by rw[show x=y++c::jl c (z::r) from h];simp
  exact absurd this (h1 x (by simp))
 | x::u::r,[y],_,_,_,h2,h=>by
   have:c∈y:=by rw[<- show x++c::jl c (u::r)=y from h];simp
   exact absurd this (h2 y (by simp))
 | x::u::r,y::z::r',_,_,h1,h2,h=>by
   obtain⟨j,F⟩:=tw (h1 x (by simp)) (h2 y (by simp)) (show x++c::jl c (u::r)=y++c::jl c (z::r') from h)
   rw[j,tz (by simp) (by simp) (λw hw=>h1 w (FL _ hw)) (λw hw=>h2 w (FL _ hw)) F]
theorem dh {ys:List Str}(h:ys≠[])(hf:∀ y∈ys,c∉cl y):FC (GD ⟨#[c]⟩ ys) ⟨#[c]⟩=ys:=by
 have e:=HM (GD ⟨#[c]⟩ ys) ⟨#[c]⟩;have F:=congrArg cl e;rw[bJ,bJ]at F;have j:=Mn (GD ⟨#[c]⟩ ys) ⟨#[c]⟩;have J:=tz (c:=c) (xs:=(FC (GD ⟨#[c]⟩ ys) ⟨#[c]⟩).map cl) (ys:=ys.map cl) (by intro z;rw[Mv]at z;rw[z]at j;simp at j) (by simpa using h)
  (λx hx=>by obtain⟨p,j,rfl⟩:=Ib.mp hx;exact N5 _ c p j) (λx hx=>by obtain⟨p,j,rfl⟩:=Ib.mp hx;exact hf p j) F
 exact(List.map_inj_right (λa b=>dS)).mp J
theorem iV (x:Str)(i j:Nat):cl (IC x i j)=((cl x).drop i).take (j - i):=StrLaws.strSub_toList x i j
theorem iW (x y:Str)(k:Nat):N6 x y x.length k↔k+y.length<=x.length/\((cl x).drop k).take y.length=cl y:=by
 unfold N6;rw[StrLaws.subAt_eq,beq_iff_eq];exact Nu
theorem oH {a y b:Str}(z:∀ k,k<a.length -> ¬ N6 (a++y++b) y (a++y++b).length k):cJ (a++y++b) y=[a,y,b]:=by
 have j:N6 (a++y++b) y (a++y++b).length a.length:=by
  rw[iW,aE,aE,FX,FX];refine⟨by lia,?_⟩
  rw[<- ax,<- ax,Hv,List.drop_left,List.take_left]
 have key:∀ i r,GF (a++y++b) y 0 (a++y++b).length 1=i::r->i=a.length->cJ (a++y++b) y=[a,y,b]:=by
  intro i r e ei;subst ei;unfold cJ Gh;rw[e];have F:IC (a++y++b) 0 a.length=a:=dS (by rw[iV,aE,aE,<- ax,JB,Nat.sub_zero,Hv,List.take_left])
  have J:IC (a++y++b) (a.length+y.length) (a++y++b).length=b:=dS (by
   rw[iV,FX,FX,aE,aE,<- ax,<- ax,<- FW,List.drop_left,<- ax,Nat.add_sub_cancel_left,Lf])
  dsimp only;rw[F,J]
 rcases NX (a++y++b) y 1 (FE 1) with⟨_,h0⟩|⟨i,r,h0,hi,hk⟩
 ·exact absurd j (h0 _)
 ·refine key i r h0 ?_
  by_cases h1:i<a.length
  ·exact absurd hi (z i h1)
  ·by_cases h2:a.length<i
   ·exact absurd j (hk _ h2)
   ·lia
theorem vO {a b:Str}(h:c∉cl a):cJ (a++⟨#[c]⟩++b) ⟨#[c]⟩=[a,⟨#[c]⟩,b]:=oH λk hk F=>by
 have e:=(iW _ _ _).mp F;have J:(⟨#[c]⟩:Str).length=1:=rfl;rw[J,aE,aE,Hv,List.drop_append_of_le_length (by rw[ax];lia),bB]at e
 have j:(cl a).drop k≠[]:=by intro z;rw[List.drop_eq_nil_iff,ax]at z;lia
 obtain⟨d,l,ed⟩:=List.exists_cons_of_ne_nil j;rw[ed]at e;have hd:d=c:=by simpa using e.2
 refine h (GJ (i:=k) ?_);rw[ed,hd];simp
theorem iX {a b:Str}{c0 c1 c2:Nat}(h:c1∉cl a)(h0:c1≠c0):cJ (a++⟨#[c0,c1,c2]⟩++b) ⟨#[c0,c1,c2]⟩=[a,⟨#[c0,c1,c2]⟩,b]:=oH λk hk F=>by
 have e:=((iW _ _ _).mp F).2;have J:(⟨#[c0,c1,c2]⟩:Str).length=3:=rfl;have L:cl ⟨#[c0,c1,c2]⟩=[c0,c1,c2]:=rfl;rw[J,aE,aE,L]at e;have z:=congrArg (λl:List Nat=>l[1]?) e;simp only[N1,IB]at z;rw[if_pos (by decide)]at z
 have j:(cl a++[c0,c1,c2]++cl b)[k+1]? = some c1:=z;rw[Hv]at j
 by_cases hk1:k+1<a.length
 ·rw[HS (by rw[ax];exact hk1)]at j
  exact h (I8 j)
 ·have:k+1=(cl a).length:=by rw[ax];lia
  rw[this,HI (FE _),Nat.sub_self]at j;have:c0=c1:=by simpa using j
  exact h0 this.symm
theorem qO (x:Str)(c:Nat):Jy x ⟨#[c]⟩=decide ((cl x)[0]? = some c):=by
 unfold Jy;have:=StrLaws.subAt_one x c 0;rw[Bool.eq_iff_iff,decide_eq_true_iff,hX,decide_eq_true_iff];exact this
theorem oJ (x:Str)(c:Nat):Txt.contains x ⟨#[c]⟩=decide (c∈cl x):=StrLaws.found_one x c
theorem el (n:Nat):cl (tx (n:Nat))=(GQ 10 n).map Jq:=PySem.W.KIN.signs_num n
theorem yA:((Hx 1001).all λn=>let d:=(GQ 10 n).map Jq;decide (1<=d.length)&&decide (d.length<=4)&&(decide (100<=n) || decide (d.length<=2))&&(!(d.head? == some 48) || decide (d.length<=1))&&d.all λc=>decide (48<=c)&&decide (c<=57))=true:=by decide +kernel
theorem tD (h:n<=1000) : 1<=(tx (n:Nat)).length/\(tx (n:Nat)).length<=4/\(n<100->(tx (n:Nat)).length<=2)/\((cl (tx (n:Nat))).head? = some 48->(tx (n:Nat)).length<=1) /\ ∀ c∈cl (tx (n:Nat)),48<=c/\c<=57:=by
 have h1:=Gf.mp yA n (Kc.mpr (by lia))
 simp only[hX,Jl,decide_eq_true_eq,G2,Gf]at h1;rw[<- ax,el];obtain⟨⟨⟨⟨a,b⟩,c⟩,d⟩,e⟩:=h1;refine⟨a,b,λz=>c.resolve_left (by lia),λz=>d.resolve_left λw=>?_,e⟩
 rw[z]at w;exact absurd w (by decide)
theorem yB {k:Nat}(hk:k≠45/\(k<48∨57<k))(i:Int):k∉cl (tx i):=int_text_free' k hk i
theorem oK:cl (g8 "0123456789")=[48,49,50,51,52,53,54,55,56,57]:=by decide +kernel
theorem mk1:g8 " " = ⟨#[32]⟩/\g8 ":" = ⟨#[58]⟩/\g8 "-" = ⟨#[45]⟩/\g8 "\n" = ⟨#[10]⟩/\g8 "0" = ⟨#[48]⟩:=by decide +kernel
theorem mk3:g8 " * " = ⟨#[32,42,32]⟩/\g8 " > " = ⟨#[32,62,32]⟩:=by decide +kernel
theorem oM {c k:Nat}(h:k≠c):∀ {ys:List (List Nat)},(∀ y∈ys,k∉y)->k∉jl c ys
 |[],_=>by simp[jl]
 |[x],h1=>h1 x (by simp)
 | x::y::r,h1=>by
   have:=oM h (ys:=y::r) λw hw=>h1 w (FL _ hw);show k∉x++c::jl c (y::r);rw[Hy,FA,not_or,not_or];exact⟨h1 x (by simp),h,this⟩
theorem qP (a b c:Nat):aP a b c=GD (g8 " ") [g8 "scheme",tx a,tx b,tx c]:=by
 unfold aP;have e:g8 "scheme " = g8 "scheme" ++ g8 " ":=iU "scheme" " ";rw[e];simp only[GD,JH]
theorem yC:cl (g8 "scheme")=[115,99,104,101,109,101]:=by decide +kernel
theorem qQ (a b c:Nat) : 10∉cl (aP a b c):=by
 rw[qP,mk1.1,bJ];refine oM (by decide) λy j=>?_
 simp only[FY,HC,FA,FQ,or_false]at j
 rcases j with rfl|rfl|rfl|rfl
 ·rw[yC];decide
 all_goals exact yB ⟨by decide,by decide⟩ _
end
section
noncomputable def dg (c:Nat):Bool:=decide (c∈[48,49,50,51,52,53,54,55,56,57])
theorem dg_iff:dg c=true↔48<=c/\c<=57:=by
 unfold dg;rw[decide_eq_true_iff];simp only[FA,FQ,or_false];omega
noncomputable def bL (w:Str):Bool:=(cl w).all dg
noncomputable def nv (w:Str):Nat:=G7 (cl w)
noncomputable def cK (w:Str):Bool:=!(decide ((cl w).head? = some 48)&&decide (1<w.length))
theorem fh (h:bL w=true):PySem.NumText.AllDigits (cl w):=λc j=>dg_iff.mp (Gf.mp h c j)
theorem kM (h:bL w=true)(h1 : 1<=w.length)(h2:w.length<=600):Mb w=some ((nv w:Nat):Int) :=
 PySem.intText_digits (fh h) (λe=>by have:=ax w;unfold cl at this;rw[e]at this;simp at this;omega) (by omega)
theorem vP:∀ n:Nat,((GQ 10 n).map Jq).head? = some 48->n=0:=by
 intro n
 induction n using Nat.strongRecOn with
 | _ m ih =>
   intro h
   by_cases hm:m<10
   ·rw[Ir hm]at h;have z:∀ d:Nat,d<10->(Nat.digitChar d).toNat=48->d=0:=by decide
    exact z m hm (by simpa using h)
   ·have t:GQ 10 (m / 10)++GQ 10 (m % 10)=GQ 10 (10*(m / 10)+m % 10):=K2 (by decide) (by omega) (Nat.mod_lt m (by decide))
    rw[Nat.div_add_mod]at t;rw[<- t,Gr,ND]at h;have e:=ih (m / 10) (by omega)
    cases hq:((GQ 10 (m / 10)).map Jq).head? with
    | none =>
      rw[List.head?_eq_none_iff,Mv]at hq;have:=PySem.W.KIN.val_back (m / 10);rw[hq]at this;have z:G7 ([]:List Nat)=0:=rfl;rw[HC,z]at this;omega
    | some c =>
      rw[hq]at h;have j:c=48:=by simpa using h
      have:=e (by rw[hq,j])
      omega
theorem AD:∀ (k:Nat) (ds:List Nat),ds.length=k->(∀ c∈ds,48<=c/\c<=57)->ds≠[]->(ds.head? = some 48->ds.length=1)->(GQ 10 (G7 ds)).map Jq=ds:=by
 intro k
 induction k with
 |zero=>intro ds h _ J;exact absurd (GG.mp h) J
 | succ k ih =>
   intro ds hk hd J L;have one:∀ d:Nat,48<=d/\d<=57->(GQ 10 (d - 48)).map Jq=[d]:=λd hd=>by
    rw[Ir (by omega)]
    have z:∀ e:Nat,e<10->(Nat.digitChar e).toNat=e+48:=by decide
    rw[FY,HC,z _ (by omega)]
    congr 1;omega
   obtain⟨init,d,rfl⟩:∃ init d,ds=init++[d]:=⟨ds.dropLast,ds.getLast J,(List.dropLast_concat_getLast J).symm⟩;have j:=hd d (by simp)
   by_cases hi:init=[]
   ·subst hi;rw[LB];have:G7 [d]=d - 48:=by show 0*10+(d - 48)=d - 48;omega
    rw[this];exact one d j
   ·have O:init.length=k:=by rw[FW]at hk;simpa using hk
    have h0:init.head? ≠ some 48:=λe=>by
     have h2:=L (by rw[ND,e];rfl)
     rw[FW,Hj]at h2;exact hi (GG.mp (by omega))
    have e:=ih init O (λc U=>hd c (by simp[U])) hi λz=>absurd z h0
    have F : 0<G7 init:=by
     rcases Ku (G7 init) with z|z
     ·rw[z,Ir (by decide)]at e
      rw[<- e]at h0;exact absurd rfl h0
     ·exact z
    have t:GQ 10 (G7 init)++GQ 10 (d - 48)=GQ 10 (10*G7 init+(d - 48)):=K2 (by decide) F (by omega)
    have s:G7 (init++[d])=10*G7 init+(d - 48):=by
     unfold G7;rw[List.foldl_append,JW,List.foldl_nil,Lr]
    rw[s,<- t,Gr,e,one d j]
theorem fP (h:bL w=true)(h1 : 1<=w.length):tx (nv w:Nat)=w↔cK w=true:=by
 have F:=ax w;have L:cl w≠[]:=λe=>by rw[e]at F;simp at F;omega
 constructor
 ·intro e;have O:(GQ 10 (nv w)).map Jq=cl w:=by rw[<- el,e]
  unfold cK;rw[G2,Bool.and_eq_false_iff]
  by_cases J:(cl w).head? = some 48
  ·refine .inr (decide_eq_false λj=>?_);have z:=vP (nv w) (by rw[O];exact J)
   rw[z,Ir (by decide)]at O
   rw[<- F,<- O]at j;simp at j
  ·exact .inl (decide_eq_false J)
 ·intro e;refine dS ?_;rw[el];refine AD _ _ rfl (fh h) L λJ=>?_;unfold cK at e;rw[decide_eq_true J,Im,G2,decide_eq_false_iff_not]at e;rw[F];omega
noncomputable def aq (w:Str) (most:Nat):Option Nat:=if (1<=w.length/\w.length<=most)/\bL w=true/\cK w=true then some (nv w) else none
noncomputable def am (w:Str) (lo hi:Int):Bool:=decide (1<=w.length/\w.length<=5)&&bL w&&decide (tx (nv w:Nat)=w)&&decide (lo<=(nv w:Nat)/\((nv w:Nat):Int)<=hi)
theorem plainB_iff:am w lo hi=true↔(1<=w.length/\w.length<=5)/\bL w=true/\cK w=true/\lo<=(nv w:Nat)/\((nv w:Nat):Int)<=hi:=by
 unfold am;simp only[hX,decide_eq_true_iff];constructor
 ·rintro⟨⟨⟨h1,h2⟩,z⟩,j⟩;exact⟨h1,h2,(fP h2 h1.1).mp z,j.1,j.2⟩
 ·rintro⟨h1,h2,z,j,F⟩;exact⟨⟨⟨h1,h2⟩,(fP h2 h1.1).mpr z⟩,j,F⟩
theorem ke {most:Nat}(hm:most<=5)(J:hi<=1000)(L:∀ k:Nat,(k:Int)<=hi->(tx (k:Nat)).length<=most):am w lo hi=true ↔ ∃ i:Nat,aq w most=some i/\lo<=(i:Nat)/\(i:Int)<=hi:=by
 rw[plainB_iff];constructor
 ·rintro⟨h1,h2,F,z,j⟩;refine⟨nv w,?_,z,j⟩;have e:=(fP h2 h1.1).mpr F;have:=L (nv w) j;rw[e]at this;unfold aq;rw[if_pos ⟨⟨h1.1,this⟩,h2,F⟩]
 ·rintro⟨i,e,z,j⟩;unfold aq at e
  split at e
  ·next h =>
   cases e
   exact⟨⟨h.1.1,by omega⟩,h.2.1,h.2.2,z,j⟩
  ·cases e
theorem AE:am w lo 1000=true ↔ ∃ i:Nat,aq w 4=some i/\lo<=(i:Nat)/\(i:Int)<=1000:=ke (by omega) (by omega) λk hk=>(tD (by omega)).2.1
theorem tE (h:hi<100):am w lo hi=true ↔ ∃ i:Nat,aq w 2=some i/\lo<=(i:Nat)/\(i:Int)<=hi:=ke (by omega) (by omega) λk hk=>(tD (by omega)).2.2.1 (by omega)
theorem wy:∀ (ds:List Nat) (a:Nat),(∀ c∈ds,48<=c/\c<=57)->ds.foldl (λacc c=>acc*10+(c - 48)) a<(a+1)*10 ^ ds.length
 |[],a,_=>by simp
 | d::r,a,h=>by
   rw[JW,FR,Nat.pow_succ];have h1:=wy r (a*10+(d - 48)) λc j=>h c (FL _ j);have hd:=h d (by simp)
   refine FV h1 ?_;have:(a*10+(d - 48)+1)<=(a+1)*10:=by omega
   calc (a*10+(d - 48)+1)*10 ^ r.length<=((a+1)*10)*10 ^ r.length:=Nat.mul_le_mul_right _ this
    _=(a+1)*(10 ^ r.length*10):=by rw[Nat.mul_assoc,Lr 10]
theorem BX (h:bL w=true)(j:w.length<=5):nv w<100000:=by
 have:=wy (cl w) 0 (fh h);rw[ax]at this;refine FV this ?_;rw[Nat.zero_add,Nat.one_mul];exact Nat.pow_le_pow_right (by decide) j
theorem tF {c:Nat}:∀ {xs:List (List Nat)} {x:List Nat},x∈xs->x.length<=(jl c xs).length
 |[y],x,h=>by rw[HN.mp h];exact FE _
 | y::z::r,x,h=>by
   show x.length<=(y++c::jl c (z::r)).length;rw[FW,FR]
   rcases FA.mp h with rfl|h
   ·omega
   ·have:=tF (c:=c) h;omega
theorem cN {t:Str}(h:w∈FC t ⟨#[c]⟩):w.length<=t.length:=by
 have e:=congrArg cl (HM t ⟨#[c]⟩);rw[bJ]at e;rw[<- ax,<- ax t,<- e];exact tF (Ib.mpr ⟨w,h,rfl⟩)
theorem tG {c:Nat}:∀ xs:List (List Nat),xs.length<=(jl c xs).length+1
 |[]=>GX _
 |[x]=>by simp
 | x::y::r=>by
   have:=tG (c:=c) (y::r);show (y::r).length+1<=(x++c::jl c (y::r)).length+1;rw[FW,FR (a:=c)];omega
theorem tH (t:Str)(c:Nat):(FC t ⟨#[c]⟩).length<=t.length+1:=by
 have e:=congrArg cl (HM t ⟨#[c]⟩);rw[bJ]at e;have:=tG (c:=c) ((FC t ⟨#[c]⟩).map cl);rw[e,FO,ax]at this;exact this
theorem oO (x:Str)(i j:Nat):(IC x i j).length<=x.length:=by
 rw[<- ax,iV,GU,IW,ax];omega
noncomputable def pa1 (x y:Str):Str:=(Gh x y).1
noncomputable def pa2 (x y:Str):Str:=(Gh x y).2.1
noncomputable def pa3 (x y:Str):Str:=(Gh x y).2.2
theorem cD (x y:Str):cJ x y=[pa1 x y,pa2 x y,pa3 x y]:=rfl
theorem ju (x y:Str):(pa1 x y).length<=x.length:=by
 unfold pa1 Gh
 split
 ·exact oO _ _ _
 ·exact FE _
theorem jv (x y:Str):(pa3 x y).length<=x.length:=by
 unfold pa3 Gh
 split
 ·exact oO _ _ _
 ·exact GX _
end
section
namespace K55
noncomputable def ar (i:Nat):Stmt:=PySem.Challenge.pw_fewtimes_k55_bounds_of_texts.main.body.getD i (.Pass ⟨0,0,0,0⟩)
noncomputable def b0:MSs :=
 (.cons (.ite (.or (.cons (.not (.chain .le .le (.int 1) (.blt .lenS (.cons (.var 0) .nil)) (.var 1))) (.cons (.not (.tru (.blt .all (.cons (.comp [none] ["sign"] (.last (.chars (.var 0)) (.name 0) .nil (.cmp .inStr (.var 0) (.glob "FIGURES" (.str (g8 "0123456789")))))) .nil)))) .nil))) (.cons (.ret .non)
 .nil) .nil)
 (.cons (.ite (.and (.cons (.cmp .eq (.ixS (.var 0) (.int 0)) (.str (g8 "0"))) (.cons (.cmp .gt (.blt .lenS (.cons (.var 0) .nil)) (.int 1)) .nil))) (.cons (.ret .non)
 .nil) .nil)
 (.cons (.ret (.blt .intS (.cons (.var 0) .nil)))
 .nil)))
noncomputable def d0:FD:=⟨"number_from",ar 8,["word","most"],2,b0⟩
noncomputable def b1:MSs :=
 (.cons (.asg (.name 1) (.smeth .starts (.var 0) (.str (g8 "-"))))
 (.cons (.asg (.name 2) (.call 0 (.cons (.ite (.tru (.var 1)) (.slS (.var 0) (.some (.int 1))) (.var 0)) (.cons (.blt .lenS (.cons (.blt .str (.cons (.glob "GREATEST_FACTOR" (.int 1000)) .nil)) .nil)) .nil))))
 (.cons (.ite (.or (.cons (.cmp .is (.var 2) .non) (.cons (.not (.chain .le .le (.int 1) (.var 2) (.glob "GREATEST_FACTOR" (.int 1000)))) .nil))) (.cons (.ret .non)
 .nil) .nil)
 (.cons (.ret (.ite (.tru (.var 1)) (.neg (.var 2)) (.var 2)))
 .nil))))
noncomputable def d1:FD:=⟨"factor_from",ar 9,["word","is_below","size"],1,b1⟩
noncomputable def b2:MSs :=
 (.cons (.par 2 3 (.bin .mul (.lst (.cons (.int 0) .nil)) (.var 1)) (.neg (.int 1)))
 (.cons (.ite (.cmp .eq (.var 0) (.str (g8 "-"))) (.cons (.ret (.blt .tuple (.cons (.var 2) .nil)))
 .nil) .nil)
 (.cons (.for (.name 4) (.seq (.smeth .split (.var 0) (.str (g8 " ")))) (.cons (.asg (.tup (.cons (.name 5) (.cons (.name 6) (.cons (.name 7) .nil)))) (.smeth .part (.var 4) (.str (g8 ":"))))
 (.cons (.par 8 9 (.call 1 (.cons (.var 5) .nil)) (.call 0 (.cons (.var 7) (.cons (.blt .lenS (.cons (.blt .str (.cons (.glob "LONGEST" (.int 81)) .nil)) .nil)) .nil))))
 (.cons (.ite (.or (.cons (.cmp .is (.var 8) .non) (.cons (.cmp .is (.var 9) .non) (.cons (.not (.chain .lt .lt (.var 3) (.var 9) (.var 1))) .nil)))) (.cons (.ret .non)
 .nil) .nil)
 (.cons (.put (.var 2) (.var 9) (.var 8))
 (.cons (.asg (.name 3) (.var 9))
 .nil))))))
 (.cons (.ret (.blt .tuple (.cons (.var 2) .nil)))
 .nil))))
noncomputable def d2:FD:=⟨"sum_from",ar 10,["text","length","part","ahead","word","first","colon","second","c","at"],2,b2⟩
noncomputable def b3:MSs :=
 (.cons (.asg (.tup (.cons (.name 2) (.cons (.name 3) (.cons (.name 4) .nil)))) (.smeth .part (.var 0) (.str (g8 " * "))))
 (.cons (.asg (.tup (.cons (.name 5) (.cons (.name 6) (.cons (.name 7) .nil)))) (.smeth .part (.var 4) (.str (g8 " > "))))
 (.cons (.asg (.name 8) (.comp [none,none] ["text","length"] (.last (.zip (.lst (.cons (.var 2) (.cons (.var 5) (.cons (.var 7) .nil)))) (.var 1)) (.tup (.cons (.name 0) (.cons (.name 1) .nil))) .nil (.call 2 (.cons (.var 0) (.cons (.var 1) .nil))))))
 (.cons (.ret (.ite (.cmp .inNon .non (.var 8)) .non (.blt .tuple (.cons (.var 8) .nil))))
 .nil))))
noncomputable def d3:FD:=⟨"product_from",ar 11,["row","lengths","first","star","rest","second","sign","third","parts"],2,b3⟩
noncomputable def b4:MSs :=
 (.cons (.asg (.name 1) (.smeth .split (.var 0) (.str (g8 " "))))
 (.cons (.ite (.or (.cons (.cmp .ne (.blt .len (.cons (.var 1) .nil)) (.int 4)) (.cons (.cmp .ne (.ix (.var 1) (.int 0)) (.str (g8 "scheme"))) .nil))) (.cons (.ret .non)
 .nil) .nil)
 (.cons (.asg (.name 2) (.comp [none] ["word"] (.last (.seq (.sl (.var 1) (.some (.int 1)) .none)) (.name 0) .nil (.call 0 (.cons (.var 0) (.cons (.blt .lenS (.cons (.blt .str (.cons (.glob "LONGEST" (.int 81)) .nil)) .nil)) .nil))))))
 (.cons (.ite (.not (.tru (.blt .all (.cons (.comp [none] ["length"] (.last (.seq (.var 2)) (.name 0) .nil (.and (.cons (.cmp .isn (.var 0) .non) (.cons (.chain .le .le (.int 1) (.var 0) (.glob "LONGEST" (.int 81))) .nil))))) .nil)))) (.cons (.ret .non)
 .nil) .nil)
 (.cons (.ret (.blt .tuple (.cons (.var 2) .nil)))
 .nil)))))
noncomputable def d4:FD:=⟨"lengths_from",ar 12,["row","words","lengths"],1,b4⟩
noncomputable def b5:MSs :=
 (.cons (.asg (.name 1) (.smeth .split (.var 0) (.str (g8 "\n"))))
 (.cons (.asg (.name 2) (.call 4 (.cons (.ix (.var 1) (.int 0)) .nil)))
 (.cons (.ite (.cmp .is (.var 2) .non) (.cons .bot
 .nil) .nil)
 (.cons (.asg (.name 3) (.lst .nil))
 (.cons (.for (.tup (.cons (.name 4) (.cons (.name 5) .nil))) (.enum1 (.sl (.var 1) (.some (.int 1)) .none)) (.cons (.asg (.name 6) (.call 3 (.cons (.var 5) (.cons (.var 2) .nil))))
 (.cons (.ite (.or (.cons (.cmp .is (.var 6) .non) (.cons (.cmp .gt (.var 4) (.glob "MOST_PRODUCTS" (.int 400))) .nil))) (.cons .bot
 .nil) .nil)
 (.cons (.drop (.meth .append (.var 3) (.var 6)))
 .nil))))
 (.cons (.ret (.bin .add (.var 2) (.tup (.cons (.var 3) .nil))))
 .nil))))))
noncomputable def d5:FD:=⟨"scheme_from",ar 13,["text","rows","lengths","products","at","row","product"],1,b5⟩
noncomputable def d6:FD:=iT (ar 15)
noncomputable def b7:MSs :=
 (.cons (.asg (.name 2) (.bin .mod (.bin .mul (.bin .add (.bin .add (.bin .mod (.var 0) (.int 1000000007)) (.bin .mul (.int 7) (.var 1))) (.int 1)) (.int 48271)) (.int 2147483647)))
 (.cons (.asg (.name 3) (.bin .mod (.bin .mul (.var 2) (.bin .add (.bin .add (.bin .mod (.var 2) (.int 1009)) (.var 1)) (.int 3))) (.int 998244353)))
 (.cons (.ret (.bin .fdiv (.bin .mod (.bin .add (.bin .mul (.var 3) (.int 39373)) (.var 2)) (.int 2147483629)) (.int 64)))
 .nil)))
noncomputable def d7:FD:=⟨"_law_mixed",ar 16,["_law_number","_law_k","_law_once","_law_twice"],2,b7⟩
noncomputable def d8:FD:=qM (ar 17) 6 7
noncomputable def d9:FD:=mU (ar 18) 7
noncomputable def b10:MSs :=
 (.cons (.ite (.or (.cons (.cmp .eq (.var 0) (.str (g8 ""))) (.cons (.cmp .gt (.blt .lenS (.cons (.var 0) .nil)) (.int 5)) (.cons (.tru (.blt .any (.cons (.comp [none] ["_law_sign"] (.last (.chars (.var 0)) (.name 0) .nil (.cmp .ninStr (.var 0) (.str (g8 "0123456789"))))) .nil))) .nil)))) (.cons (.ret (.bl false))
 .nil) .nil)
 (.cons (.ret (.and (.cons (.cmp .eq (.blt .str (.cons (.blt .intS (.cons (.var 0) .nil)) .nil)) (.var 0)) (.cons (.chain .le .le (.var 1) (.blt .intS (.cons (.var 0) .nil)) (.var 2)) .nil))))
 .nil))
noncomputable def d10:FD:=⟨"_law_plain",ar 19,["_law_word","_law_least","_law_most"],3,b10⟩
noncomputable def b11:MSs :=
 (.cons (.ite (.cmp .eq (.var 0) (.lst (.cons (.str (g8 "-")) .nil))) (.cons (.ret (.bl true))
 .nil) .nil)
 (.cons (.asg (.name 2) (.neg (.int 1)))
 (.cons (.for (.name 3) (.seq (.var 0)) (.cons (.asg (.name 4) (.smeth .split (.var 3) (.str (g8 ":"))))
 (.cons (.ite (.or (.cons (.cmp .ne (.blt .len (.cons (.var 4) .nil)) (.int 2)) (.cons (.not (.tru (.call 10 (.cons (.ix (.var 4) (.int 1)) (.cons (.bin .add (.var 2) (.int 1)) (.cons (.bin .sub (.var 1) (.int 1)) .nil)))))) .nil))) (.cons (.ret (.bl false))
 .nil) .nil)
 (.cons (.asg (.name 5) (.ite (.cmp .eq (.slT (.ix (.var 4) (.int 0)) (.some (.int 1))) (.str (g8 "-"))) (.slS (.ix (.var 4) (.int 0)) (.some (.int 1))) (.ix (.var 4) (.int 0))))
 (.cons (.ite (.not (.tru (.call 10 (.cons (.var 5) (.cons (.int 1) (.cons (.int 1000) .nil)))))) (.cons (.ret (.bl false))
 .nil) .nil)
 (.cons (.asg (.name 2) (.blt .intS (.cons (.ix (.var 4) (.int 1)) .nil)))
 .nil))))))
 (.cons (.ret (.cmp .ne (.var 0) (.lst .nil)))
 .nil))))
noncomputable def d11:FD:=⟨"_law_sum_fits",ar 20,["_law_words","_law_length","_law_last","_law_word","_law_halves","_law_number"],2,b11⟩
noncomputable def b12:MSs :=
 (.cons (.asg (.name 2) (.smeth .split (.var 0) (.str (g8 " "))))
 (.cons (.ite (.or (.cons (.cmp .ne (.meth .count (.var 2) (.str (g8 "*"))) (.int 1)) (.cons (.cmp .ne (.meth .count (.var 2) (.str (g8 ">"))) (.int 1)) (.cons (.cmp .gt (.meth .indexS (.var 2) (.str (g8 "*"))) (.meth .indexS (.var 2) (.str (g8 ">")))) .nil)))) (.cons (.ret (.bl false))
 .nil) .nil)
 (.cons (.par 3 4 (.meth .indexS (.var 2) (.str (g8 "*"))) (.meth .indexS (.var 2) (.str (g8 ">"))))
 (.cons (.asg (.name 5) (.lst (.cons (.sl (.var 2) .none (.some (.var 3))) (.cons (.sl (.var 2) (.some (.bin .add (.var 3) (.int 1))) (.some (.var 4))) (.cons (.sl (.var 2) (.some (.bin .add (.var 4) (.int 1))) .none) .nil)))))
 (.cons (.ret (.blt .all (.cons (.comp [none,none] ["_law_part","_law_length"] (.last (.zip (.var 5) (.var 1)) (.tup (.cons (.name 0) (.cons (.name 1) .nil))) .nil (.call 11 (.cons (.var 0) (.cons (.var 1) .nil))))) .nil)))
 .nil)))))
noncomputable def d12:FD:=⟨"_law_product_fits",ar 21,["_law_row","_law_lengths","_law_words","_law_star","_law_arrow","_law_parts"],2,b12⟩
noncomputable def b13:MSs :=
 (.cons (.asg (.name 1) (.smeth .split (.var 0) (.str (g8 "\n"))))
 (.cons (.asg (.name 2) (.smeth .split (.ix (.var 1) (.int 0)) (.str (g8 " "))))
 (.cons (.ite (.or (.cons (.cmp .ne (.blt .len (.cons (.var 2) .nil)) (.int 4)) (.cons (.cmp .ne (.ix (.var 2) (.int 0)) (.str (g8 "scheme"))) (.cons (.not (.tru (.blt .all (.cons (.comp [none] ["_law_word"] (.last (.seq (.sl (.var 2) (.some (.int 1)) .none)) (.name 0) .nil (.call 10 (.cons (.var 0) (.cons (.int 1) (.cons (.int 81) .nil)))))) .nil)))) .nil)))) (.cons (.ret (.int 0))
 .nil) .nil)
 (.cons (.asg (.name 3) (.comp [none] ["_law_word"] (.last (.seq (.sl (.var 2) (.some (.int 1)) .none)) (.name 0) .nil (.blt .intS (.cons (.var 0) .nil)))))
 (.cons (.for (.tup (.cons (.name 4) (.cons (.name 5) .nil))) (.enum (.sl (.var 1) (.some (.int 1)) .none)) (.cons (.ite (.or (.cons (.cmp .gt (.var 4) (.int 399)) (.cons (.not (.tru (.call 12 (.cons (.var 5) (.cons (.var 3) .nil))))) .nil))) (.cons (.ret (.bin .add (.var 4) (.int 1)))
 .nil) .nil)
 .nil))
 (.cons (.ret .non)
 .nil))))))
noncomputable def d13:FD:=⟨"_law_first_bad",ar 22,["_law_text","_law_rows","_law_words","_law_lengths","_law_number","_law_row"],1,b13⟩
noncomputable def b14:MSs :=
 (.cons (.asg (.name 1) .non) (.cons (.asg (.name 1) (.call 18 (.cons (.var 0) .nil))) (.cons (.ite (.cmp .is (.var 1) .non) (.cons (.ret .non) .nil) .nil) (.cons (.asg (.tup (.cons (.name 1) .nil)) (.var 1)) (.cons (.ret (.var 1)) .nil)))))
noncomputable def d14:FD:=⟨"_law_refused",ar 23,["_law_text","_law_error","e"],1,b14⟩
noncomputable def b15:MSs :=
 (.cons (.ite (.or (.cons (.cmp .is (.var 1) .non) (.cons (.cmp .is (.var 0) .non) .nil))) (.cons (.ret (.and (.cons (.cmp .is (.var 0) .non) (.cons (.cmp .is (.var 1) .non) .nil))))
 .nil) .nil)
 (.cons (.ret (.and (.cons (.isin (.var 0) "int") (.cons (.not (.isin (.var 0) "bool")) (.cons (.cmp .eq (.var 0) (.var 1)) .nil)))))
 .nil))
noncomputable def d15:FD:=⟨"_law_same_number",ar 24,["_law_found","_law_due"],2,b15⟩
noncomputable def b16:MSs :=
 (.cons (.asg (.name 1) (.ix (.lst (.cons (.int 1) (.cons (.int 81) (.cons (.int 80) (.cons (.int 9) (.cons (.int 10) (.cons (.int 11) (.cons (.bin .add (.int 2) (.call 9 (.cons (.var 0) (.cons (.int 79) .nil)))) .nil)))))))) (.call 9 (.cons (.var 0) (.cons (.int 7) .nil)))))
 (.cons (.asg (.name 2) (.ix (.lst (.cons (.int 0) (.cons (.int 1) (.cons (.int 1000) (.cons (.int 1001) (.cons (.int 999) (.cons (.bin .pow (.int 10) (.int 9)) (.cons (.bin .add (.int 1) (.call 9 (.cons (.var 0) (.cons (.int 1000) .nil)))) (.cons (.int 10000) .nil))))))))) (.call 9 (.cons (.var 0) (.cons (.int 8) .nil)))))
 (.cons (.asg (.name 3) (.bin .add (.ix (.lst (.cons (.str (g8 "")) (.cons (.str (g8 "")) (.cons (.str (g8 "")) (.cons (.str (g8 "-")) (.cons (.str (g8 "-")) (.cons (.str (g8 "0")) (.cons (.str (g8 "+")) .nil)))))))) (.call 9 (.cons (.var 0) (.cons (.int 7) .nil)))) (.blt .str (.cons (.var 2) .nil))))
 (.cons (.asg (.name 4) (.ix (.lst (.cons (.bin .sub (.var 1) (.int 1)) (.cons (.bin .sub (.var 1) (.int 1)) (.cons (.var 1) (.cons (.int 0) (.cons (.int 81) (.cons (.int 100) .nil))))))) (.call 9 (.cons (.var 0) (.cons (.int 6) .nil)))))
 (.cons (.asg (.name 5) (.lst (.cons (.var 1) (.cons (.int 81) (.cons (.int 81) .nil)))))
 (.cons (.asg (.name 6) (.call 9 (.cons (.var 0) (.cons (.int 3) .nil))))
 (.cons (.asg (.name 5) (.bin .add (.sl (.var 5) (.some (.bin .sub (.int 3) (.var 6))) .none) (.sl (.var 5) .none (.some (.bin .sub (.int 3) (.var 6))))))
 (.cons (.ite (.cmp .eq (.call 9 (.cons (.var 0) (.cons (.int 4) .nil))) (.int 0)) (.cons (.put (.var 5) (.call 9 (.cons (.var 0) (.cons (.int 3) .nil))) (.ix (.lst (.cons (.int 0) (.cons (.int 82) (.cons (.int 81) (.cons (.int 1) (.cons (.int 100) .nil)))))) (.call 9 (.cons (.var 0) (.cons (.int 5) .nil)))))
 .nil) .nil)
 (.cons (.asg (.name 7) (.lst (.cons (.str (g8 "1:0")) (.cons (.str (g8 "-1:0")) (.cons (.str (g8 "-")) .nil)))))
 (.cons (.put (.var 7) (.var 6) (.bin .add (.bin .add (.var 3) (.str (g8 ":"))) (.blt .str (.cons (.var 4) .nil))))
 (.cons (.ret (.bin .add (.bin .add (.bin .add (.bin .add (.bin .add (.bin .add (.bin .add (.str (g8 "scheme ")) (.join (.str (g8 " ")) (.comp [none] ["_law_one"] (.last (.seq (.var 5)) (.name 0) .nil (.blt .str (.cons (.var 0) .nil)))))) (.str (g8 "\n"))) (.ix (.var 7) (.int 0))) (.str (g8 " * "))) (.ix (.var 7) (.int 1))) (.str (g8 " > "))) (.ix (.var 7) (.int 2))))
 .nil)))))))))))
noncomputable def d16:FD:=⟨"_law_at_bounds",ar 25,["_law_box_here","_law_length","_law_number","_law_word","_law_place","_law_lengths","_law_side","_law_parts"],1,b16⟩
noncomputable def b17:MSs :=
 (.cons (.for (.name 1) (.rng1 (.blt .max2 (.cons (.int 8) (.cons (.blt .min2 (.cons (.blt .len (.cons (.var 0) .nil)) (.cons (.int 30) .nil))) .nil)))) (.cons (.asg (.name 2) (.call 16 (.cons (.call 8 (.cons (.var 0) (.cons (.var 1) .nil))) .nil)))
 (.cons (.asg (.name 3) (.call 13 (.cons (.var 2) .nil)))
 (.cons (.ite (.not (.tru (.call 15 (.cons (.call 14 (.cons (.var 2) .nil)) (.cons (.var 3) .nil))))) (.cons (.ret (.bl false))
 .nil) .nil)
 (.cons (.ite (.and (.cons (.cmp .is (.var 3) .non) (.cons (.cmp .ne (.blt .len (.cons (.ix (.call 5 (.cons (.var 2) .nil)) (.int 3)) .nil)) (.int 1)) .nil))) (.cons (.ret (.bl false))
 .nil) .nil)
 .nil)))))
 (.cons (.asg (.name 4) (.bin .add (.int 399) (.call 9 (.cons (.call 8 (.cons (.var 0) (.cons (.int 0) .nil))) (.cons (.int 4) .nil)))))
 (.cons (.asg (.name 2) (.join (.str (g8 "\n")) (.bin .add (.lst (.cons (.str (g8 "scheme 1 1 1")) .nil)) (.bin .mul (.lst (.cons (.str (g8 "-1000:0 * 7:0 > 1:0")) .nil)) (.var 4)))))
 (.cons (.ite (.cmp .gt (.var 4) (.int 400)) (.cons (.ret (.cmp .eq (.call 14 (.cons (.var 2) .nil)) (.int 401)))
 .nil) .nil)
 (.cons (.ret (.cmp .eq (.call 5 (.cons (.var 2) .nil)) (.tup (.cons (.int 1) (.cons (.int 1) (.cons (.int 1) (.cons (.bin .mul (.lst (.cons (.tup (.cons (.tup (.cons (.neg (.int 1000)) .nil)) (.cons (.tup (.cons (.int 7) .nil)) (.cons (.tup (.cons (.int 1) .nil)) .nil)))) .nil)) (.var 4)) .nil)))))))
 .nil)))))
noncomputable def d17:FD:=⟨"law",ar 26,["_law_script","_law_k","_law_text","_law_due","_law_many"],1,b17⟩
noncomputable def b18:MSs :=
 (.cons (.asg (.name 1) (.smeth .split (.var 0) (.str (g8 "\n"))))
 (.cons (.asg (.name 2) (.call 4 (.cons (.ix (.var 1) (.int 0)) .nil)))
 (.cons (.ite (.cmp .is (.var 2) .non) (.cons (.ite (.chain .le .le (.int 0) (.int 0) (.int 1000)) (.cons (.ret (.tup (.cons (.int 0) .nil))) .nil) (.cons .bot .nil)) .nil) .nil)
 (.cons (.asg (.name 3) (.lst .nil))
 (.cons (.for (.tup (.cons (.name 4) (.cons (.name 5) .nil))) (.enum1 (.sl (.var 1) (.some (.int 1)) .none)) (.cons (.asg (.name 6) (.call 3 (.cons (.var 5) (.cons (.var 2) .nil))))
 (.cons (.ite (.or (.cons (.cmp .is (.var 6) .non) (.cons (.cmp .gt (.var 4) (.glob "MOST_PRODUCTS" (.int 400))) .nil))) (.cons (.ite (.chain .le .le (.int 0) (.var 4) (.int 1000)) (.cons (.ret (.tup (.cons (.var 4) .nil))) .nil) (.cons .bot .nil)) .nil) .nil)
 (.cons (.drop (.meth .append (.var 3) (.var 6)))
 .nil))))
 (.cons (.asg (.name 6) (.bin .add (.var 2) (.tup (.cons (.var 3) .nil)))) (.cons (.ret .non) .nil)))))))
noncomputable def d18:FD:=⟨"scheme_from",ar 13,["text","rows","lengths","products","at","row","product"],1,b18⟩
noncomputable def tab:List FD:=[d0,d1,d2,d3,d4,d5,d6,d7,d8,d9,d10,d11,d12,d13,d14,d15,d16,d17,d18]
noncomputable def mX:List (Str×D):=[("LONGEST",(.int 81)),("MOST_PRODUCTS",(.int 400)),("FIGURES",(.str (g8 "0123456789"))),("GREATEST_FACTOR",(.int 1000))]
noncomputable def xsF:List XL:=[.one (.pl (.asg (.name 1) (.smeth .split (.var 0) (.str (g8 "\n"))))),
 .one (.pl (.asg (.name 2) (.call 4 (.cons (.ix (.var 1) (.int 0)) .nil)))),
 .one (.rs (.cmp .is (.var 2) .non) (.int 0)),
 .one (.pl (.asg (.name 3) (.lst .nil))),
 .loop (.tup (.cons (.name 4) (.cons (.name 5) .nil))) (.enum1 (.sl (.var 1) (.some (.int 1)) .none)) [.pl (.asg (.name 6) (.call 3 (.cons (.var 5) (.cons (.var 2) .nil)))),
 .rs (.or (.cons (.cmp .is (.var 6) .non) (.cons (.cmp .gt (.var 4) (.glob "MOST_PRODUCTS" (.int 400))) .nil))) (.var 4),
 .pl (.drop (.meth .append (.var 3) (.var 6)))]]
noncomputable def vF:ME:=(.bin .add (.var 2) (.tup (.cons (.var 3) .nil)))
noncomputable def stI:Stmt:=Av (ar 2) 0
end K55
end
section
namespace K55
theorem AF:((Hx 18).all λi=>i==14 || (tab[i]?).all (jq ((tab.take 18).map (·.name)) mX))=true:=by decide +kernel
noncomputable abbrev PA (K:Frag) (x:Str) (f:Addr):Prop:=HD K Gm x=some (some (.ref f))
noncomputable abbrev PL (K:Frag) (f:Addr) (x:Str) (s:Stmt) (oc:h8) (od:Option Addr) (kV dc pm:h8) (an:Option Addr) (cd ct:h8) (sl:Array (Option h8)):Prop:=K.lookup f=some ⟨oc,od,.func (I9 x x (cy s) (bd s) (ah s) .none kV dc pm an cd ct),sl⟩
noncomputable abbrev PC (K:Frag) (c:h8) (x:Str):Prop:=Kj K c x=true
noncomputable abbrev PK (K:Frag) (f:Addr):Prop:=Ha K (.ref f)=true
noncomputable abbrev PLI (K:Frag) (f:Addr) (x q:Str) (s:Stmt) (oc:h8) (od:Option Addr) (kV dc pm:h8) (an:Option Addr) (cd ct:h8) (sl:Array (Option h8)):Prop:=K.lookup f=some ⟨oc,od,.func (I9 x q (cy s) (bd s) (ah s) .none kV dc pm an cd ct),sl⟩
theorem all_mk {l:LC}{w:G8}{K:Frag}{h:Heap}{mg:Str->Option h8}{fa:Addr}(X:K.In h)(G:h.Ns Gm mg)(hfa:mg "law" = some (.ref fa))(z:∀ x∈bltNames,HD K Gm x=some none)(a0:PA K "number_from" f0)(l0:PL K f0 "number_from" (ar 8) oc0 od0 kV0 dc0 pm0 an0 cd0 ct0 sl0)(c0:PC K cd0 "number_from")(k0:PK K f0)(a1:PA K "factor_from" f1)(l1:PL K f1 "factor_from" (ar 9) oc1 od1 kV1 dc1 pm1 an1 cd1 ct1 sl1)(c1:PC K cd1 "factor_from")(k1:PK K f1)(a2:PA K "sum_from" f2)(l2:PL K f2 "sum_from" (ar 10) oc2 od2 kV2 dc2 pm2 an2 cd2 ct2 sl2)(c2:PC K cd2 "sum_from")(k2:PK K f2)(a3:PA K "product_from" f3)(l3:PL K f3 "product_from" (ar 11) oc3 od3 kV3 dc3 pm3 an3 cd3 ct3 sl3)(c3:PC K cd3 "product_from")(k3:PK K f3)(a4:PA K "lengths_from" f4)(l4:PL K f4 "lengths_from" (ar 12) oc4 od4 kV4 dc4 pm4 an4 cd4 ct4 sl4)(c4:PC K cd4 "lengths_from")(k4:PK K f4)(a5:PA K "scheme_from" f5)(l5:PL K f5 "scheme_from" (ar 13) oc5 od5 kV5 dc5 pm5 an5 cd5 ct5 sl5)(c5:PC K cd5 "scheme_from")(k5:PK K f5)(a6:PA K "_law_cell_at" f6)(l6:PL K f6 "_law_cell_at" (ar 15) oc6 od6 kV6 dc6 pm6 an6 cd6 ct6 sl6)(c6:PC K cd6 "_law_cell_at")(k6:PK K f6)(a7:PA K "_law_mixed" f7)(l7:PL K f7 "_law_mixed" (ar 16) oc7 od7 kV7 dc7 pm7 an7 cd7 ct7 sl7)(c7:PC K cd7 "_law_mixed")(k7:PK K f7)(a8:PA K "_law_box" f8)(l8:PL K f8 "_law_box" (ar 17) oc8 od8 kV8 dc8 pm8 an8 cd8 ct8 sl8)(c8:PC K cd8 "_law_box")(k8:PK K f8)(a9:PA K "_law_take" f9)(l9:PL K f9 "_law_take" (ar 18) oc9 od9 kV9 dc9 pm9 an9 cd9 ct9 sl9)(c9:PC K cd9 "_law_take")(k9:PK K f9)(a10:PA K "_law_plain" f10)(l10:PL K f10 "_law_plain" (ar 19) oc10 od10 kV10 dc10 pm10 an10 cd10 ct10 sl10)(c10:PC K cd10 "_law_plain")(k10:PK K f10)(a11:PA K "_law_sum_fits" f11)(l11:PL K f11 "_law_sum_fits" (ar 20) oc11 od11 kV11 dc11 pm11 an11 cd11 ct11 sl11)(c11:PC K cd11 "_law_sum_fits")(k11:PK K f11)(a12:PA K "_law_product_fits" f12)(l12:PL K f12 "_law_product_fits" (ar 21) oc12 od12 kV12 dc12 pm12 an12 cd12 ct12 sl12)(c12:PC K cd12 "_law_product_fits")(k12:PK K f12)(a13:PA K "_law_first_bad" f13)(l13:PL K f13 "_law_first_bad" (ar 22) oc13 od13 kV13 dc13 pm13 an13 cd13 ct13 sl13)(c13:PC K cd13 "_law_first_bad")(k13:PK K f13)(a14:PA K "_law_refused" f14)(l14:PL K f14 "_law_refused" (ar 23) oc14 od14 kV14 dc14 pm14 an14 cd14 ct14 sl14)(c14:PC K cd14 "_law_refused")(k14:PK K f14)(a15:PA K "_law_same_number" f15)(l15:PL K f15 "_law_same_number" (ar 24) oc15 od15 kV15 dc15 pm15 an15 cd15 ct15 sl15)(c15:PC K cd15 "_law_same_number")(k15:PK K f15)(a16:PA K "_law_at_bounds" f16)(l16:PL K f16 "_law_at_bounds" (ar 25) oc16 od16 kV16 dc16 pm16 an16 cd16 ct16 sl16)(c16:PC K cd16 "_law_at_bounds")(k16:PK K f16)(a17:PA K "law" f17)(l17:PL K f17 "law" (ar 26) oc17 od17 kV17 dc17 pm17 an17 cd17 ct17 sl17)(c17:PC K cd17 "law")(k17:PK K f17)(gcst0:HD K Gm "LONGEST" = some (some (.int 81 ut0)))(gcst1:HD K Gm "MOST_PRODUCTS" = some (some (.int 400 ut1)))(gcst2:HD K Gm "FIGURES" = some (some (.str (g8 "0123456789") ut2)))(gcst3:HD K Gm "GREATEST_FACTOR" = some (some (.int 1000 ut3)))(uC:PA K "BadRow" fC)(uD:PA K "TimesError" fD)(lC:K.lookup fC=some ⟨.type "type",ddC,.cls cdC,slC⟩)(hC:jt fC fD cdC slC=true)(lN:K.lookup cdC.ns=some oNC)(hN:hZ oNC=true)(iC:HD K cdC.ns "__init__" = some (some (.ref fI)))(lI:PLI K fI "__init__" "BadRow.__init__" stI ocI odI kVI dcI pmI anI cdI ctI slI)(cI:PC K cdI "BadRow.__init__")(kI:PK K fI)(gI:PySem.W.isFn K (.ref fI)=true)(x2:KN K fD [.type "ValueError",.type "Exception",.type "BaseException",.type "object"] "ValueError.__new__" = true)(x3:JN K (.ref fC) (.ref fD)=some true)(z1:Gw K (.ref fC) "__setattr__" = some (some (.builtin "object.__setattr__")))(z2:Gw K (.ref fC) "row" = some none)(z3:Kz K (.ref fD) "__getattribute__" = some (some (.builtin "type.__getattribute__")))(z4:PySem.W.readsIn K fD (.type "type")=true)(z5:PySem.W.findCls K (.ref fD) (.type "type") "__init__" = some (.val (.builtin "ValueError.__init__")))(y1:Gw K (.ref fC) "__getattribute__" = some (some (.builtin "BaseException.__getattribute__")))(y2:Gw K (.ref fC) "__getattr__" = some none)(y3:Gw K (.ref fC) "__class__" = some (some (.builtin "object.__class__")))(y7:Kz K (.builtin "object.__class__") "__get__" = some (some (.builtin "getset_descriptor.__get__")))(y8:Ob K (.builtin "object.__class__")=some true)(y4:JJ K fC (.type "object")=some true)(y5:JN K (.ref fC) (.type "BaseException")=some true)(y6:PySem.W.isClsIn K fC=true)
 : ∃ fd:Hi,(∀ (s:Ft) (v:h8),Mj s fd ⟨[v],[]⟩ [("_law_script",v)]) /\ ∀ base:Heap,K.In base->base.Ns Gm mg->bf l.prog w K mg base CX0 40 fa fd ["_law_script"] (lSp K (phi tab 38 17)):=by
 have e:=hfa.symm.trans (FU X G a17)
 cases e
 have O:Au K mg tab 18 14 mX:=by
  refine⟨λx hx=>PySem.W.mg_none_of X G (z x hx),?_,BJ AF,?_⟩
  ·intro i d hd
   match i,hd with
   |0,hd=>cases hd;exact⟨_,_,ak l0 c0 k0,FU X G a0,a0,(ak l0 c0 k0).binds λ_ _ _ _ _ _ us hl=>by obtain⟨u0,u1,rfl⟩:=bQ us hl;rfl⟩
   |1,hd=>cases hd;exact⟨_,_,ak l1 c1 k1,FU X G a1,a1,(ak l1 c1 k1).binds λ_ _ _ _ _ _ us hl=>by obtain⟨u0,rfl⟩:=de us hl;rfl⟩
   |2,hd=>cases hd;exact⟨_,_,ak l2 c2 k2,FU X G a2,a2,(ak l2 c2 k2).binds λ_ _ _ _ _ _ us hl=>by obtain⟨u0,u1,rfl⟩:=bQ us hl;rfl⟩
   |3,hd=>cases hd;exact⟨_,_,ak l3 c3 k3,FU X G a3,a3,(ak l3 c3 k3).binds λ_ _ _ _ _ _ us hl=>by obtain⟨u0,u1,rfl⟩:=bQ us hl;rfl⟩
   |4,hd=>cases hd;exact⟨_,_,ak l4 c4 k4,FU X G a4,a4,(ak l4 c4 k4).binds λ_ _ _ _ _ _ us hl=>by obtain⟨u0,rfl⟩:=de us hl;rfl⟩
   |5,hd=>cases hd;exact⟨_,_,ak l5 c5 k5,FU X G a5,a5,(ak l5 c5 k5).binds λ_ _ _ _ _ _ us hl=>by obtain⟨u0,rfl⟩:=de us hl;rfl⟩
   |6,hd=>cases hd;exact⟨_,_,ak l6 c6 k6,FU X G a6,a6,(ak l6 c6 k6).binds λ_ _ _ _ _ _ us hl=>by obtain⟨u0,u1,rfl⟩:=bQ us hl;rfl⟩
   |7,hd=>cases hd;exact⟨_,_,ak l7 c7 k7,FU X G a7,a7,(ak l7 c7 k7).binds λ_ _ _ _ _ _ us hl=>by obtain⟨u0,u1,rfl⟩:=bQ us hl;rfl⟩
   |8,hd=>cases hd;exact⟨_,_,ak l8 c8 k8,FU X G a8,a8,(ak l8 c8 k8).binds λ_ _ _ _ _ _ us hl=>by obtain⟨u0,u1,rfl⟩:=bQ us hl;rfl⟩
   |9,hd=>cases hd;exact⟨_,_,ak l9 c9 k9,FU X G a9,a9,(ak l9 c9 k9).binds λ_ _ _ _ _ _ us hl=>by obtain⟨u0,u1,rfl⟩:=bQ us hl;rfl⟩
   |10,hd=>cases hd;exact⟨_,_,ak l10 c10 k10,FU X G a10,a10,(ak l10 c10 k10).binds λ_ _ _ _ _ _ us hl=>by obtain⟨u0,u1,u2,rfl⟩:=BE us hl;rfl⟩
   |11,hd=>cases hd;exact⟨_,_,ak l11 c11 k11,FU X G a11,a11,(ak l11 c11 k11).binds λ_ _ _ _ _ _ us hl=>by obtain⟨u0,u1,rfl⟩:=bQ us hl;rfl⟩
   |12,hd=>cases hd;exact⟨_,_,ak l12 c12 k12,FU X G a12,a12,(ak l12 c12 k12).binds λ_ _ _ _ _ _ us hl=>by obtain⟨u0,u1,rfl⟩:=bQ us hl;rfl⟩
   |13,hd=>cases hd;exact⟨_,_,ak l13 c13 k13,FU X G a13,a13,(ak l13 c13 k13).binds λ_ _ _ _ _ _ us hl=>by obtain⟨u0,rfl⟩:=de us hl;rfl⟩
   |14,hd=>cases hd;exact⟨_,_,ak l14 c14 k14,FU X G a14,a14,(ak l14 c14 k14).binds λ_ _ _ _ _ _ us hl=>by obtain⟨u0,rfl⟩:=de us hl;rfl⟩
   |15,hd=>cases hd;exact⟨_,_,ak l15 c15 k15,FU X G a15,a15,(ak l15 c15 k15).binds λ_ _ _ _ _ _ us hl=>by obtain⟨u0,u1,rfl⟩:=bQ us hl;rfl⟩
   |16,hd=>cases hd;exact⟨_,_,ak l16 c16 k16,FU X G a16,a16,(ak l16 c16 k16).binds λ_ _ _ _ _ _ us hl=>by obtain⟨u0,rfl⟩:=de us hl;rfl⟩
   |17,hd=>cases hd;exact⟨_,_,ak l17 c17 k17,FU X G a17,a17,(ak l17 c17 k17).binds λ_ _ _ _ _ _ us hl=>by obtain⟨u0,rfl⟩:=de us hl;rfl⟩
   |18,hd=>cases hd;exact⟨_,_,ak l5 c5 k5,FU X G a5,a5,(ak l5 c5 k5).binds λ_ _ _ _ _ _ us hl=>by obtain⟨u0,rfl⟩:=de us hl;rfl⟩
   |i+19,hd=>simp[tab]at hd
  ·intro x i hx;simp only[mX,FA,FQ,or_false,Prod.mk.injEq]at hx
   rcases hx with⟨rfl,rfl⟩|⟨rfl,rfl⟩|⟨rfl,rfl⟩|⟨rfl,rfl⟩
   ·exact⟨_,FU X G gcst0,GV.ints⟩
   ·exact⟨_,FU X G gcst1,GV.ints⟩
   ·exact⟨_,FU X G gcst2,GV.strs⟩
   ·exact⟨_,FU X G gcst3,GV.ints⟩
 refine⟨I9 "law" "law" (cy (ar 26)) (bd (ar 26)) (ah (ar 26)) .none kV17 dc17 pm17 an17 cd17 ct17,λs v=>.of_eq rfl,λbase _ _=>?_⟩;obtain⟨Sm,hm,_⟩:=fg (Γ:=[]) (cs:=[]) (d:={ d18 with body:=.cons .bot (.cons .bot (.cons .bot (.cons .bot (.cons .bot (.cons .bot .nil))))) }) (by decide +kernel)
 obtain⟨Sr,hr,_⟩:=fg (Γ:=[]) (cs:=[]) (d:={ d14 with body:=.cons .bot (.cons .bot (.cons .bot (.cons .bot .nil))) }) (by decide +kernel)
 obtain⟨SI,_,_⟩:=fg (Γ:=[]) (cs:=[]) (d:={ name:="__init__",st:=stI,N:=["self","row"],np:=2,body:=.cons .bot (.cons .bot .nil) }) (by decide +kernel)
 obtain⟨fm,fdm,Fm,mm,_,bm⟩:=O.fns 18 d18 rfl;have ZO:=yw (fld:="row") lC hC lN hN iC x2 z1 z2 z3 z4 z5 gI;have ZC:=yu y1 y2 y3 y7 y8 y4 y5 y6;have FI:=yh (P:=l.prog) (w:=w) (mg:=mg) (base:=base) (k:=0) (slf:="self") (row:="row") (a:="row ") (b:=" can't stand there") (xD:="TimesError") (ak lI cI kI) SI ZO.1 rfl (by decide +kernel) (FU X G uD) (by decide) (by decide) (by decide) (by decide) (by decide) (by decide +kernel) (by decide +kernel) (λ_=>rfl) (λ_=>rfl) (λ_=>rfl)
 have BI:=(ak lI cI kI).binds (ps:=["self","row"]) λ_ _ _ _ _ _ us hl=>by obtain⟨u0,u1,rfl⟩:=bQ us hl;rfl
 refine(oE (m:=18) (r:=14) (dm:=d18) (dr:=d14) (C:=fC) (fld:="row") O rfl Sm.nd Sr.nd (λk f fd Gx F=>?_) (λk f fd Gx Fx F=>?_) 38).1 17 d17 _ _ rfl (by decide) (ak l17 c17 k17)
 ·exact As (kk:=k+2) (d:=d18) rfl F Sm hm (λcdv A outer s H E M0 hr=>sX (xr:="BadRow") (Gx f cdv A outer s H E hr) Sm.kind (λe e1 np cpos pos a1 a2 a3=>yr (BK a3) (sE e (Gx f cdv A outer s H E hr) e1 a2) (by decide +kernel) (FU X G uC) ZO.1 FI (hr.mono (by omega)) BI (by decide) (by decide) (mM a1) (tj a1)) PassesOwn.leaving rfl 6 vF xsF _ (by decide +kernel))
 ·exact yt (kk:=k+2) (d:=d14) (d1:=d18) (m:=18) (i0:=14) (ie:=2) (i:=1) (C:=fC) (D:=fD) (n:="e") (xD:="TimesError") (x:="_law_error") (fld:="row") rfl rfl rfl F Sr hr (fun cdv A outer s H E hr=>Gx f cdv A outer s H E hr)
   (λY e1 e2 e3=>⟨by show Y.env.scope.names.lookup _=_;rw[e3];decide +kernel,by rw[e1];exact FU X G uD,by decide,by rw[e2];exact x2,by rw[e2];exact x3⟩)
   (λY e1 e2 e3 e4 _=>vL (by rw[e4];rfl) (by rw[e3];decide +kernel) (by decide) (by decide) (by show Y.env.scope.names.lookup _=_;rw[e3];decide +kernel) (by rw[e1];exact O.blt _ (by decide)) (by show Y.env.scope.names.lookup _=_;rw[e3];decide +kernel) (by rw[e1];exact FU X G uC) (by decide) (by rw[e2];exact ZC) (by rw[e2];exact ZO.2) (by rw[e2];exact z2) rfl)
   rfl (by decide +kernel) rfl (by decide +kernel) (by decide) (by decide) (by decide) (Fx fm fdm Fm) (by decide +kernel) mm Fm.kp bm (by decide +kernel) (by decide) (λ_=>rfl) (λ_=>rfl) (λ_=>rfl)
theorem walk {l:LC}{q:FT}{loose:List Str}{XP:(Str->Option h8)->Heap->Prop}{YP:G8->Heap->Prop}{d:DefRec}{K:Params->Frag}(hn:l.most=some 63)(hdf:d.params.defaults=[])(hlaw:∀ ns:List Int,ns.length<=63->phi tab 38 17 [.con (ns.map D.int)] (fun _=>none) fun d _=>d = .bl true)(hY:∀ (w:G8) (h:Heap),YP w h->(K w.params).In h)(F:∀ (w:G8) (mg:Str->Option h8) (fa:Addr) (h:Heap),(K w.params).In h->h.Ns Gm mg->mg d.name=some (.ref fa) ->
   ∃ fd:Hi,(∀ (s:Ft) (u:h8),Mj s fd ⟨[u],[]⟩ [("_law_script",u)]) /\ ∀ base:Heap,(K w.params).In base->base.Ns Gm mg->bf l.prog w (K w.params) mg base CX0 40 fa fd ["_law_script"] (lSp (K w.params) (phi tab 38 17))) :
 PySem.W.WalkO q loose XP YP l.row.toRowW d [] (λf vs=>Oq f vs) :=
 L2.walk_of (n:=63) (k:=40) (x:="_law_script") (CX:=λ_=>CX0) (sp:=λw=>lSp (K w.params) (phi tab 38 17)) hn (by decide) hdf ⟨rfl,by decide,by decide⟩ hY F (λw H a ns hl hO hS=>Ar hO hS (hlaw ns hl)) λ_ _ _ _ _ z=>z
end K55
end
section
namespace K55
variable {b:Str}{M:Mem}{Q:QD}
theorem fQ {a:Str}(j:Gd a=true)(z:Gd b=true)(q:Q (.bl (decide (a=b))) M):wEq (.str a) (.str b) M Q:=by
 refine⟨.str a,.str b,by simp only[rb,j,if_true],by simp only[rb,z,if_true],?_⟩
 have:GI (.str a) (.str b)=decide (a=b):=by simp only[GI];by_cases h:a=b <;> simp[h]
 rw[this];exact q
theorem tI {a:Str}(j:Gd a=true)(z:Gd b=true)(q:Q (.bl (!decide (a=b))) M):wNe (.str a) (.str b) M Q:=by
 refine⟨.str a,.str b,by simp only[rb,j,if_true],by simp only[rb,z,if_true],?_⟩
 have:GI (.str a) (.str b)=decide (a=b):=by simp only[GI];by_cases h:a=b <;> simp[h]
 rw[this];exact q
variable {c:Nat}
theorem vQ (h:c<128):Gd ⟨#[c]⟩=true:=by simp[Gd];omega
theorem oP (f:Nat->Bool):∀ l:List Nat,az ji (l.map λc=>D.bl (f c))=some (l.map f)
 |[]=>rfl
 |x::r=>by rw[FY,az,oP f r];rfl
theorem D3 {l:List Nat}(h : 1<=l.length):∃ c,atI l 0=some c/\l.head? = some c:=by
 cases l with
 |nil=>simp at h
 |cons a r=>exact⟨a,by simp[atI,ixN],rfl⟩
noncomputable def dO:Option Nat->D
 |none=>.non
 |some i=>.int (i:Nat)
variable {n:Nat}{w:Str}
theorem kN (hn : 1<=n){most:Nat}(hw:w.length<=600)(q:∀ M',Ge M M'->Q (dO (aq w most)) M'):phi tab n 0 [.str w,.int (most:Nat)] M Q:=by
 refine aH hn rfl rfl (ρ:=[some _,some _]) rfl ?_;unfold d0 b0;have J:w.length<=Fz:=by rw[Fy];first|decide|omega
 have no:∀ {F:Mem},Ge M F->aq w most=none->Q .non F:=λg e=>by have:=q _ g;rw[e]at this;exact this
 have nn : ¬ ((1<=w.length/\w.length<=most)/\bL w=true/\cK w=true)->aq w most=none:=λh=>if_neg h;walk_at "st";refine⟨_,rfl,J,?_⟩
 by_cases h1 : ¬ 1<=w.length
 ·rw[if_neg (by omega)]
  exact no (λ_ _ e=>e) (nn λz=>h1 z.1.1)
 have h1 : 1<=w.length:=by omega
 rw[if_pos (by omega)]
 by_cases h2 : ¬ w.length<=most
 ·rw[if_pos (by simp;omega)]
  walk_at "st";exact no (λ_ _ e=>e) (nn λz=>h2 z.1.2)
 rw[if_neg (by simp;omega)]
 refine⟨w,rfl,?_⟩;refine bq (I:=λl ρ M' acc=>(∃ o,ρ = [o])/\M'=M/\acc=l.map λc=>.bl (dg c)) (ys:=cl w) (f:=λc=>.str ⟨#[c]⟩) rfl ⟨⟨_,rfl⟩,rfl,rfl⟩ (λ_ _ _ _ _=>trivial) ?_ ?_
 ·rintro l x r ρ Y acc ee ⟨⟨o,rfl⟩,rfl,rfl⟩;have L:=b8 ee;rw[ax]at L;refine⟨_,rfl,λN hN=>?_⟩;walk_at "wp";refine⟨_,_,rfl,rfl,?_⟩;rw[oJ,oK];refine⟨by rw[FO,Fy];omega,hN _ _ _ ⟨⟨_,rfl⟩,rfl,?_⟩⟩
  rw[Gr];rfl
 ·rintro ρ Y acc ⟨_,rfl,rfl⟩ p hp;have g1:=Ge.new (o:=.lst ((cl w).map λc=>D.bl (dg c))) hp;refine⟨_,_,_,rfl,aj aa,oP dg _,bL w,by rw[Ka];rfl,?_⟩
  generalize af Y p (.lst ((cl w).map λc=>D.bl (dg c)))=F at g1
  by_cases j : ¬ bL w=true
  ·rw[if_pos (by simpa using j)]
   walk_at "st";exact no g1 (nn λz=>j z.2.1)
  have j:bL w=true:=by simpa using j
  rw[if_neg (by simp[j])]
  walk_at "st";obtain⟨c,hc,Z⟩:=D3 (l:=cl w) (by rw[ax];exact h1)
  refine⟨_,rfl,J,c,hc,?_⟩;have O:c∈cl w:=List.mem_of_mem_head? Z;have EI:=fh j c O;refine fQ (vQ (by omega)) (bc _) ⟨_,rfl,?_⟩
  have ec:(⟨#[c]⟩:Str)=g8 "0" ↔ (cl w).head? = some 48:=by
   rw[Z,mk1.2.2.2.2];constructor
   ·intro e;have:=congrArg cl e;rw[bB,bB]at this;simpa using this
   ·intro e
    cases e
    rfl
  have fin:cK w=true->wSs (phi tab (n - 1)) (MSs.cons (MS.ret (ME.blt BF.intS (MEs.cons (ME.var 0) MEs.nil))) MSs.nil) { nx:=λx M'=>Q D.non M',rt:=Q } [some (D.str w),some (D.int most)] F:=λh4=>by
   walk_at "st";refine⟨w,rfl,_,kM j h1 hw,by omega,?_⟩
   have:=q _ g1;unfold aq at this;rw[if_pos ⟨⟨h1,by omega⟩,j,h4⟩]at this
   exact this
  split
  ·next h =>
   have e:=ec.mp (of_decide_eq_true h);refine⟨w,rfl,J,?_⟩
   split
   ·next h5 =>
    walk_at "st";refine no g1 (nn λz=>?_);have U:=z.2.2;unfold cK at U;rw[decide_eq_true e,decide_eq_true (by omega : 1<w.length)]at U
    cases U
   ·next h5 =>
    refine fin ?_;unfold cK;rw[decide_eq_false (by omega : ¬ 1<w.length),Bool.and_false]
    rfl
  ·next h =>
   refine fin ?_;unfold cK;rw[decide_eq_false (λz=>h (decide_eq_true (ec.mpr z))),Ip];rfl
noncomputable def dI:Option Int->D
 |none=>.non
 |some i=>.int i
noncomputable def fi (w:Str):Bool:=Jy w (g8 "-")
noncomputable def rest (w:Str):Str:=if fi w then Hc w (some 1) none else w
noncomputable def dU (w:Str):Option Int:=match aq (rest w) 4 with
 |some i=>if (1:Int)<=(i:Nat)/\((i:Nat):Int)<=1000 then some (if fi w then -((i:Nat):Int) else (i:Nat)) else none
 |none=>none
theorem vR (w:Str):(rest w).length<=w.length:=by
 unfold rest
 split
 ·exact Kb w _ _
 ·exact FE _
theorem BY (U : 2<=n)(hw:w.length<=600)(q:∀ M',Ge M M'->Q (dI (dU w)) M'):phi tab n 1 [.str w] M Q:=by
 refine aH (by omega) rfl rfl (ρ:=[some _,none,none]) rfl ?_
 unfold d1 b1;have lz:w.length<=Fz:=by rw[Fy];first|decide|omega
 have L:(g8 (Hh (1000:Int))).length=4:=by decide +kernel
 have O:NF (Lw 1000)<1920:=by decide
 have hr:=vR w;have Y:((4:Nat):Int)=4:=rfl;have tl:∀ {F:Mem},Ge M F -> ∀ b,b=fi w->wSs (phi tab (n - 1)) (.cons (.ite (.or (.cons (.cmp .is (.var 2) .non) (.cons (.not (.chain .le .le (.int 1) (.var 2) (.glob "GREATEST_FACTOR" (.int 1000)))) .nil))) (.cons (.ret .non) .nil) .nil)
  (.cons (.ret (.ite (.tru (.var 1)) (.neg (.var 2)) (.var 2))) .nil)) { nx:=λ_ M'=>Q .non M',rt:=Q } [some (.str w),some (.bl b),some (dO (aq (rest w) 4))] F:=λ{F} g1 b eb=>by
  subst eb;have j:=q _ g1;unfold dU at j
  cases hx:aq (rest w) 4 with
  | none =>
    rw[hx]at j;unfold dO;walk_at "st";exact⟨true,rfl,by walk_at "st";exact j⟩
  | some i =>
    rw[hx]at j;unfold dO;dsimp only at j ⊢;walk_at "st";refine⟨false,rfl,?_⟩;dsimp only;refine⟨false,rfl,?_⟩;rw[if_neg Fu];have ret : ¬ ((1:Int)<=(i:Nat)/\((i:Nat):Int)<=1000)->Q .non F:=λh=>by rw[if_neg h]at j;exact j
    by_cases h1:(1:Int)<=(i:Nat)
    ·rw[if_pos h1]
     by_cases h2:((i:Nat):Int)<=1000
     ·rw[if_neg (by simp;omega)]
      rw[if_pos ⟨h1,h2⟩]at j;walk_at "st";refine⟨_,rfl,?_⟩
      cases hb:fi w with
      |true=>rw[hb]at j;rw[if_pos rfl];exact j
      |false=>rw[hb]at j;rw[if_neg Fu];exact j
     ·rw[if_pos (by simp;omega)]
      walk_at "st";exact ret λz=>h2 z.2
    ·rw[if_neg h1,if_pos (by decide)]
     walk_at "st";exact ret λz=>h1 z.1
 walk_at "st";refine⟨⟨_,rfl⟩,_,rfl,_,rfl,?_⟩;show wSs _ _ _ [some (D.str w),some (D.bl (fi w)),none] M;have J:(rest w).length<=600:=by omega
 cases hb:fi w with
 | true =>
   have er:Hc w (some 1) none=rest w:=by unfold rest;rw[hb,if_pos rfl]
   walk_at "st";refine⟨true,rfl,?_⟩;rw[if_pos rfl];refine⟨_,rfl,lz,_,rfl,O,_,rfl,by rw[L,Fy];omega,?_⟩
   rw[er,L];exact kN (by omega) J λF g1=>tl g1 _ hb.symm
 | false =>
   have er:w=rest w:=by unfold rest;rw[hb,if_neg Fu]
   walk_at "st";refine⟨false,rfl,?_⟩;rw[if_neg Fu];refine⟨_,rfl,O,_,rfl,by rw[L,Fy];omega,?_⟩
   rw[L];have z:=kN (n:=n - 1) (most:=4) (by omega) (w:=rest w) J (M:=M) (Q:=λx F=>wSs (phi tab (n - 1)) (.cons (.ite (.or (.cons (.cmp .is (.var 2) .non) (.cons (.not (.chain .le .le (.int 1) (.var 2) (.glob "GREATEST_FACTOR" (.int 1000)))) .nil))) (.cons (.ret .non) .nil) .nil)
    (.cons (.ret (.ite (.tru (.var 1)) (.neg (.var 2)) (.var 2))) .nil)) { nx:=λ_ M'=>Q .non M',rt:=Q } [some (.str w),some (.bl false),some x] F) λF g1=>tl g1 _ hb.symm
   rw[<- er]at z;exact z
noncomputable def ay:Str:=g8 ":"
noncomputable def i4 (L:Nat):List Str->List Int->Int->Option (List Int)
 |[],p,_=>some p
 | w::r,p,a=>match dU (pa1 w ay),aq (pa3 w ay) 2 with
   |some c,some i=>if a<(i:Nat)/\((i:Nat):Int)<(L:Nat) then i4 L r (p.set i c) (i:Nat) else none
   |_,_=>none
noncomputable def aS (t:Str) (L:Nat):Option (List Int):=if t=g8 "-" then some (Fw L 0) else i4 L (FC t (g8 " ")) (Fw L 0) (-1)
noncomputable def dT:Option (List Int)->D
 |none=>.non
 |some ns=>.tup (ns.map .int)
variable {L:Nat}
theorem BZ (hn : 3<=n){t:Str}(ht:t.length<=600)(ok:Gd t=true)(hl:L<=81)(q:∀ M',Ge M M'->Q (dT (aS t L)) M'):phi tab n 2 [.str t,.int (L:Nat)] M Q:=by
 refine aH (by omega) rfl rfl (ρ:=[some _,some _,none,none,none,none,none,none,none,none]) rfl ?_
 unfold d2 b2;walk_at "st";refine⟨by rw[Fy];first|decide|omega,λp0 Z=>?_⟩
 rw[mQ];refine⟨[.int 0],aa,by omega,by omega,by rw[Fy];simp;omega,λp hp=>?_⟩
 have EK:M p=none:=by
  cases e:M p with
  |none=>rfl
  |some o=>rw[Ge.new (o:=.lst [.int 0]) Z _ _ e]at hp;cases hp
 have e1:af (af M p0 (.lst [.int 0])) p (.lst (Fw (L:Int).toNat [D.int 0]).flatten) p=some (.lst ((Fw L (0:Int)).map .int)):=by
  rw[aa];rw[GN,HP];simp
 have g1:Ge M (af (af M p0 (.lst [.int 0])) p (.lst (Fw (L:Int).toNat [D.int 0]).flatten)):=(Ge.new Z).trans (Ge.new hp);generalize af (af M p0 (.lst [.int 0])) p (.lst (Fw (L:Int).toNat [D.int 0]).flatten)=M1 at e1 g1;walk_at "st";refine fQ ok (bc _) ⟨_,rfl,?_⟩
 by_cases hx:t=g8 "-"
 ·rw[if_pos (decide_eq_true hx)];walk_at "st";refine⟨_,_,rfl,aj e1,?_⟩;have:=q _ g1;unfold aS at this;rw[if_pos hx]at this;exact this
 ·rw[if_neg (by rw[decide_eq_false hx];decide)]
  walk_at "st";refine⟨⟨_,rfl⟩,_,rfl,_,rfl,by rw[FH];rfl,by rw[Fy];first|decide|omega,λp2 Y=>?_⟩
  have hw:∀ w∈FC t (g8 " "),w.length<=t.length:=λw h=>by rw[mk1.1]at h;exact cN h
  have eS:aS t L=i4 L (FC t (g8 " ")) (Fw L 0) (-1):=if_neg hx;generalize FC t (g8 " ")=ws at hw eS ⊢;have e2:af M1 p2 (.lst (ws.map .str)) p2=some (.lst (ws.map .str)):=aa;have g2:=Ge.new (o:=.lst (ws.map .str)) Y;have EL:p2≠p:=λz=>by subst z;rw[e1]at Y;cases Y
  have e3:=g2 _ _ e1;have g3:=g1.trans g2;generalize af M1 p2 (.lst (ws.map .str))=M2 at e2 g2 e3 g3;refine⟨_,aj e2,?_⟩;refine cC (I:=λl ρ M'=>∃ (ns:List Int) (a:Int),(∃ o4 o5 o6 o7 o8 o9,ρ = [some (.str t),some (.int (L:Nat)),some (.ref p),some (.int a),o4,o5,o6,o7,o8,o9])/\Ge M M'/\M' p=some (.lst (ns.map .int))/\M' p2=some (.lst (ws.map .str))/\ns.length=L /\ -1<=a /\ ∀ r,ws=l++r->aS t L=i4 L r ns a) (ys:=ws) (f:=λx=>.str x) rfl ⟨_,_,⟨_,_,_,_,_,_,rfl⟩,g3,e3,e2,GB,by omega,λr h=>by rw[eS,h];rfl⟩ (λ_ _ _ hI=>by obtain⟨ns,a,_,_,_,h,_⟩:=hI;exact aj h) ?_ ?_
  ·rintro l x r ρ M3 ee ⟨ns,a,⟨o4,o5,o6,o7,o8,o9,rfl⟩,g4,e4,e5,hL,ha,J⟩;have EM:=hw x (by rw[ee];simp)
   have J:=J _ ee;refine⟨_,rfl,λF hF=>?_⟩;walk_at "st";refine⟨⟨_,rfl⟩,_,rfl,_,rfl,by rw[FH];rfl,by rw[Fy];first|decide|omega,?_⟩
   rw[cD];refine⟨_,rfl,?_⟩;have l1:=ju x ay;have l3:=jv x ay;show wSs _ _ _ [_,_,_,_,_,some (D.str (pa1 x ay)),some (D.str (pa2 x ay)),some (D.str (pa3 x ay)),_,_] M3;walk_at "st";refine BY (by omega) (by omega) λM4 g5=>?_
   walk_at "wp";have l4:(g8 (Hh (81:Int))).length=2:=by decide +kernel
   refine⟨_,rfl,by decide,_,rfl,by rw[l4,Fy];omega,?_⟩
   rw[l4];refine kN (by omega) (by omega) λM5 g6=>?_
   walk_at "wp";have gg:=g5.trans g6;have e6:=gg _ _ e4;have e7:=gg _ _ e5;have gA:=g4.trans gg;unfold i4 at J;have bad:aS t L=none->Q .non M5:=λe=>by have:=q _ gA;rw[e]at this;exact this
   cases hc:dU (pa1 x ay) with
   | none =>
     rw[hc]at J;unfold dI;walk_at "st";refine⟨true,rfl,true,rfl,?_⟩;rw[if_pos rfl];walk_at "st";exact bad J
   | some c =>
     cases hi:aq (pa3 x ay) 2 with
     | none =>
       rw[hc,hi]at J;unfold dI dO;walk_at "st";refine⟨false,rfl,false,rfl,?_⟩;rw[if_neg Fu];refine⟨true,rfl,true,rfl,?_⟩;rw[if_pos rfl];walk_at "st";exact bad J
     | some i =>
       rw[hc,hi]at J;unfold dI dO;dsimp only at J ⊢;walk_at "st";refine⟨false,rfl,false,rfl,?_⟩;rw[if_neg Fu];refine⟨false,rfl,false,rfl,?_⟩;rw[if_neg Fu]
       by_cases U:a<((i:Nat):Int)
       ·rw[if_pos U]
        by_cases EI:((i:Nat):Int)<(L:Nat)
        ·rw[if_pos ⟨U,EI⟩]at J;rw[if_neg (by simp;omega)]
         walk_at "st";refine bA e6 (j:=i) (by rw[FO,hL];unfold ixN;rw[if_pos (by omega),if_pos (by omega),GN]) ?_
         have EJ:∀ {o:O},af M5 p o p2=M5 p2:=λ{o}=>aB EL;have ab:∀ o,Ge M (af M5 p o):=λo a o' ea=>by rw[aB (λz=>by rw[z,EK]at ea;cases ea)];exact gg _ _ (g4 _ _ ea)
         walk_at "st";refine hF _ _ ⟨ns.set i c,(i:Nat),⟨_,_,_,_,_,_,rfl⟩,ab _,by rw[aa,List.map_set],by rw[EJ];exact e7,by rw[LA];exact hL,by omega,λr' h'=>?_⟩
         have er:r'=r:=by
          rw[ee,Hv]at h';have:=Lg h';exact(HF.inj this).2.symm
         rw[er,J]
        ·rw[if_pos (by simp;omega)]
         rw[if_neg (λz=>EI z.2)]at J;walk_at "st";exact bad J
       ·rw[if_neg U,if_pos (by decide)]
        rw[if_neg (λz=>U z.1)]at J;walk_at "st";exact bad J
  ·rintro ρ M3 ⟨ns,a,⟨o4,o5,o6,o7,o8,o9,rfl⟩,g4,e4,e5,hL,ha,J⟩;walk_at "st";refine⟨_,_,rfl,aj e4,?_⟩;have:=q _ g4;rw[J [] (by simp)]at this
   exact this
def asc (w:Str):Prop:=∀ c∈cl w,c<128
theorem bN (h:asc w):Gd w=true:=by
 unfold Gd;rw[Array.all_eq_true'];intro c j;exact decide_eq_true (J0 (h c (JR.mpr j)) (by decide))
variable {x:Str}
theorem oQ (h:asc x)(i j:Nat):asc (IC x i j):=λc z=>by
 rw[iV]at z;exact h c (GJ (IT z))
theorem tJ (y:Str)(h:asc x):asc (pa1 x y):=by
 unfold pa1 Gh
 split
 ·exact oQ h _ _
 ·exact h
theorem tK (y:Str)(h:asc x):asc (pa3 x y):=by
 unfold pa3 Gh
 split
 ·exact oQ h _ _
 ·intro c j;cases j
theorem tL {c:Nat}:∀ {xs:List (List Nat)} {x:List Nat},x∈xs -> ∀ a∈x,a∈jl c xs
 |[y],x,h,a,j=>by rw[HN.mp h]at j;exact j
 | y::z::r,x,h,a,j=>by
   show a∈y++c::jl c (z::r)
   rcases FA.mp h with rfl|h
   ·exact JQ _ j
   ·exact FZ _ (FL _ (tL h a j))
theorem bH {t:Str}(h:asc t)(hw:w∈FC t ⟨#[c]⟩):asc w:=λa j=>by
 have e:=congrArg cl (HM t ⟨#[c]⟩);rw[bJ]at e;exact h a (by rw[<- e];exact tL (Ib.mpr ⟨w,hw,rfl⟩) a j)
noncomputable def star:Str:=g8 " * "
noncomputable def arr:Str:=g8 " > "
noncomputable def bR (row:Str) (L0 L1 L2:Nat):Option Pr:=match aS (pa1 row star) L0,aS (pa1 (pa3 row star) arr) L1,aS (pa3 (pa3 row star) arr) L2 with
 |some x,some y,some z=>some (x,y,z)
 |_,_,_=>none
noncomputable def dP:Option Pr->D
 |none=>.non
 |some p=>prD p
theorem D4 (o:Option (List Int)):mj (dT o)=true:=by cases o <;> rfl
theorem isN (o:Option (List Int)):kJ (dT o)=o.isNone:=by cases o <;> rfl
variable {row:Str}{L0 L1 L2:Nat}
theorem wz (hn : 4<=n)(hr:row.length<=600)(O:asc row)(h0:L0<=81)(h1:L1<=81)(h2:L2<=81)(q:∀ M',Ge M M'->Q (dP (bR row L0 L1 L2)) M'):phi tab n 3 [.str row,.tup [.int (L0:Nat),.int (L1:Nat),.int (L2:Nat)]] M Q:=by
 refine aH (by omega) rfl rfl (ρ:=[some _,some _,none,none,none,none,none,none,none]) rfl ?_
 unfold d3 b3;have l1:=ju row star;have l3:=jv row star;have l4:=ju (pa3 row star) arr;have l5:=jv (pa3 row star) arr;have a1:=tJ star O;have U:=tK star O;have a4:=tJ arr U;have a5:=tK arr U;walk_at "st";refine⟨⟨_,rfl⟩,_,rfl,_,rfl,by rw[FH];rfl,by rw[Fy];first|decide|omega,?_⟩
 rw[cD];refine⟨_,rfl,?_⟩;show wSs _ _ _ [_,_,some (D.str (pa1 row star)),some (D.str (pa2 row star)),some (D.str (pa3 row star)),_,_,_,_] _;walk_at "st";refine⟨⟨_,rfl⟩,_,rfl,_,rfl,by rw[FH];rfl,by rw[Fy];first|decide|omega,?_⟩
 rw[cD];refine⟨_,rfl,?_⟩;show wSs _ _ _ [_,_,_,_,_,some (D.str (pa1 (pa3 row star) arr)),some (D.str (pa2 (pa3 row star) arr)),some (D.str (pa3 (pa3 row star) arr)),_] _;unfold bR at q;generalize pa1 row star=A at *
 generalize pa1 (pa3 row star) arr=B at *
 generalize pa3 (pa3 row star) arr=C at *
 walk_at "st";refine⟨by rw[Fy];first|decide|omega,λF J=>⟨_,aj aa,?_⟩⟩
 have g1:=Ge.new (o:=.lst [.str A,.str B,.str C]) J;have Y:af M F (.lst [.str A,.str B,.str C]) F=some (.lst [.str A,.str B,.str C]):=aa;generalize af M F (.lst [.str A,.str B,.str C])=M1 at g1 Y;refine bq (I:=λl ρ M' acc=>(∃ Z o2,ρ = [Z,o2])/\Ge M1 M'/\acc=l.map λx:Str×Nat=>dT (aS x.1 x.2)) (ys:=[(A,L0),(B,L1),(C,L2)]) (f:=λx=>gc (.str x.1) (.int (x.2:Nat))) rfl ⟨⟨_,_,rfl⟩,Ge.refl,rfl⟩ (λ_ _ _ _ hI=>aj (hI.2.1 _ _ Y)) ?_ ?_
 ·rintro l x r ρ M2 acc ee ⟨⟨Z,o2,rfl⟩,g2,rfl⟩;have hm:x∈[(A,L0),(B,L1),(C,L2)]:=by rw[ee];simp
  have L:=b8 ee;have hx:x.1.length<=600/\Gd x.1=true/\x.2<=81:=by
   simp only[FA,FQ,or_false]at hm
   rcases hm with rfl|rfl|rfl
   ·exact⟨by dsimp only;omega,bN a1,h0⟩
   ·exact⟨by dsimp only;omega,bN a4,h1⟩
   ·exact⟨by dsimp only;omega,bN a5,h2⟩
  refine⟨_,rfl,λN hN=>?_⟩;walk_at "wp";refine BZ (by omega) hx.1 hx.2.1 hx.2.2 λM3 g3=>?_
  walk_at "wp";refine⟨by rw[FO,Fy];simp only[FR,HA]at L;omega,hN _ _ _ ⟨⟨_,_,rfl⟩,g2.trans g3,?_⟩⟩
  rw[Gr];rfl
 ·rintro ρ M2 acc ⟨_,g2,rfl⟩ p2 hp2;have g3:=(g1.trans g2).trans (Ge.new (o:=.lst ([(A,L0),(B,L1),(C,L2)].map λx:Str×Nat=>dT (aS x.1 x.2))) hp2);have j:=q (af M2 p2 (.lst [dT (aS A L0),dT (aS B L1),dT (aS C L2)])) g3;walk_at "st";refine⟨_,aa,by simp[D4],?_⟩
  have f0:List.any [dT (aS A L0),dT (aS B L1),dT (aS C L2)] kJ=((aS A L0).isNone || ((aS B L1).isNone || ((aS C L2).isNone || false))):=by
   simp only[Ij,List.any_nil,isN]
  rw[f0]
  cases hA:aS A L0 with
  |none=>rw[hA]at j;rw[if_pos (by simp)];exact j
  | some x =>
    rw[hA]at j
    cases hB:aS B L1 with
    |none=>rw[hB]at j;rw[if_pos (by simp)];exact j
    | some y =>
      rw[hB]at j
      cases hC:aS C L2 with
      |none=>rw[hC]at j;rw[if_pos (by simp)];exact j
      | some z =>
        rw[hC]at j;rw[if_neg (by simp)]
        exact⟨_,_,rfl,aj aa,j⟩
noncomputable def okL (o:Option Nat):Bool:=match o with
 |none=>false
 |some i=>decide (1<=i)&&decide (i<=81)
noncomputable def cE (row:Str):Option (List Nat):=let ws:=FC row (g8 " ")
 if ws.length=4/\ws.head? = some (g8 "scheme") then (if (ws.drop 1).all (λw=>okL (aq w 2))=true then some ((ws.drop 1).map nv) else none) else none
noncomputable def dL:Option (List Nat)->D
 |none=>.non
 |some ls=>.tup (ls.map λx=>.int (x:Nat))
theorem iY {α:Type}(f : α -> Bool):∀ l:List α,az ji (l.map λc=>D.bl (f c))=some (l.map f)
 |[]=>rfl
 |x::r=>by rw[FY,az,iY f r];rfl
theorem eF {d:D}{ds:List D}:bF (d::ds) (some 1) none=ds:=by
 unfold bF;rw[HT.sIx_none,show (some (1:Int))=some ((1:Nat):Int) from rfl,HT.sIx_nat];have:min 1 (d::ds).length=1:=by rw[FR];omega
 rw[this,J9,JB,FR,Nat.add_sub_cancel,Lf]
theorem eG {a b:Int}(q:Q (.bl (!decide (a=b))) M):wNe (.int a) (.int b) M Q:=by
 refine⟨.int a,.int b,rfl,rfl,?_⟩;have:GI (.int a) (.int b)=decide (a=b):=by simp only[GI];by_cases h:a=b <;> simp[h]
 rw[this];exact q
theorem tM (h:okL (aq w 2)=true):aq w 2=some (nv w):=by
 unfold aq at h ⊢
 split
 ·rfl
 ·next h1=>rw[if_neg h1]at h;cases h
theorem wB (hn : 2<=n)(hr:row.length<=600)(ha:asc row)(q:∀ M',Ge M M'->Q (dL (cE row)) M'):phi tab n 4 [.str row] M Q:=by
 refine aH (by omega) rfl rfl (ρ:=[some _,none,none]) rfl ?_
 unfold d4 b4;walk_at "st";refine⟨⟨_,rfl⟩,_,rfl,_,rfl,by rw[FH];rfl,by rw[Fy];first|decide|omega,λp hp=>?_⟩
 have hw:∀ w∈FC row (g8 " "),w.length<=600/\Gd w=true:=λw h=>by
  rw[mk1.1]at h;have:=cN h;exact⟨by omega,bN (bH ha h)⟩
 unfold cE at q;generalize FC row (g8 " ")=ws at *
 dsimp only at q;have g1:=Ge.new (o:=.lst (ws.map .str)) hp;have O:af M p (.lst (ws.map .str)) p=some (.lst (ws.map .str)):=aa;generalize af M p (.lst (ws.map .str))=M1 at g1 O;have no:∀ {M':Mem},Ge M M' -> ¬ ((ws.length=4/\ws.head? = some (g8 "scheme"))/\(ws.drop 1).all (λw=>okL (aq w 2))=true)->Q .non M':=λg h=>by
  have:=q _ g
  split at this
  ·next h1 =>
   rw[if_neg (λz=>h ⟨h1,z⟩)]at this;exact this
  ·exact this
 walk_at "st";refine gr O ?_;rw[FO];refine eG ⟨_,rfl,?_⟩
 by_cases F : ¬ ws.length=4
 ·rw[if_pos (by simp;omega)]
  walk_at "st";exact no g1 λz=>F z.1.1
 have F:ws.length=4:=by omega
 rw[if_neg (by simp[F])]
 obtain⟨w,tl,rfl⟩:∃ w tl,ws=w::tl:=by
  cases ws with
  |nil=>cases F
  |cons w tl=>exact⟨w,tl,rfl⟩
 have h3:tl.length=3:=by rw[FR]at F;omega
 refine aD O (d:=.str w) (by simp[atI,ixN]) ?_
 refine tI (hw w (by simp)).2 (bc _) ⟨_,rfl,?_⟩
 by_cases J : ¬ w=g8 "scheme"
 ·rw[if_pos (by rw[decide_eq_false J];rfl)]
  walk_at "st";refine no g1 λz=>J ?_;have:=z.1.2;simpa using this
 have J:w=g8 "scheme":=GO.mp J;rw[if_neg (by rw[decide_eq_true J];decide)]
 rw[J9,JB]at no q;have hd:((w::tl).length=4/\(w::tl).head? = some (g8 "scheme")):=⟨F,by rw[J];rfl⟩
 rw[if_pos hd]at q;walk_at "st";refine⟨_,O,λp2 Y=>⟨_,aj aa,?_⟩⟩;rw[FY,eF];have g2:=g1.trans (Ge.new (o:=.lst (tl.map .str)) Y);have e2:af M1 p2 (.lst (tl.map .str)) p2=some (.lst (tl.map .str)):=aa;generalize af M1 p2 (.lst (tl.map .str))=M2 at g2 e2;have l4:(g8 (Hh (81:Int))).length=2:=by decide +kernel
 refine bq (I:=λl ρ M' acc=>(∃ Z,ρ = [Z])/\Ge M2 M'/\acc=l.map λx:Str=>dO (aq x 2)) (ys:=tl) (f:=λx:Str=>.str x) rfl ⟨⟨_,rfl⟩,Ge.refl,rfl⟩ (λ_ _ _ _ hI=>aj (hI.2.1 _ _ e2)) ?_ ?_
 ·rintro l x r ρ M3 acc ee ⟨⟨Z,rfl⟩,g3,rfl⟩;have EI:=b8 ee;have hx:=hw x (by rw[ee];simp)
  refine⟨_,rfl,λN hN=>?_⟩;walk_at "wp";refine⟨_,rfl,by decide,_,rfl,by rw[l4,Fy];omega,?_⟩
  rw[l4];refine kN (by omega) hx.1 λM4 L=>?_
  walk_at "wp";refine⟨by rw[FO,Fy];omega,hN _ _ _ ⟨⟨_,rfl⟩,g3.trans L,by rw[Gr];rfl⟩⟩
 ·rintro ρ M3 acc ⟨_,g3,rfl⟩ p3 hp3;have L:=(g2.trans g3).trans (Ge.new (o:=.lst (tl.map λx:Str=>dO (aq x 2))) hp3);have U:af M3 p3 (.lst (tl.map λx:Str=>dO (aq x 2))) p3=some (.lst (tl.map λx:Str=>dO (aq x 2))):=aa;generalize af M3 p3 (.lst (tl.map λx:Str=>dO (aq x 2)))=M4 at L U;walk_at "st";refine⟨_,aj U,?_⟩;refine bq (I:=λl ρ M' acc=>(∃ o,ρ = [o])/\M'=M4/\acc=l.map λx:Str=>.bl (okL (aq x 2))) (ys:=tl) (f:=λx:Str=>dO (aq x 2)) rfl ⟨⟨_,rfl⟩,rfl,rfl⟩ (λ_ _ _ _ hI=>by rw[hI.2.1];exact aj U) ?_ ?_
  ·rintro l x r ρ M5 acc ee ⟨⟨Z,rfl⟩,rfl,rfl⟩;have EI:=b8 ee;refine⟨_,rfl,λN hN=>?_⟩;have fin:∀ b,b=okL (aq x 2)->(l.map λx:Str=>D.bl (okL (aq x 2))).length<Fz/\N [some (dO (aq x 2))] M5 ((l.map λx:Str=>D.bl (okL (aq x 2)))++[.bl b]):=λb e=>⟨by rw[FO,Fy];omega,hN _ _ _ ⟨⟨_,rfl⟩,rfl,by rw[e,Gr];rfl⟩⟩
   cases hx:aq x 2 with
   | none =>
     rw[hx]at fin;unfold dO;walk_at "wp";refine⟨true,rfl,false,rfl,?_⟩;rw[if_neg Fu];exact fin false rfl
   | some i =>
     rw[hx]at fin;unfold dO;walk_at "wp";refine⟨false,rfl,true,rfl,?_⟩;rw[if_pos rfl]
     by_cases h1:(1:Int)<=(i:Nat)
     ·rw[if_pos h1];refine fin _ ?_;unfold okL;dsimp only;rw[decide_eq_true (show 1<=i by omega),Im]
      exact decide_eq_decide.mpr (by omega)
     ·rw[if_neg h1];refine fin _ ?_;unfold okL;dsimp only;rw[decide_eq_false (show ¬ 1<=i by omega)]
      rfl
  ·rintro ρ M5 acc ⟨_,rfl,rfl⟩ p4 hp4;have g5:=Ge.new (o:=.lst (tl.map λx:Str=>D.bl (okL (aq x 2)))) hp4;refine⟨_,_,_,rfl,aj aa,iY _ _,tl.all λx=>okL (aq x 2),by rw[Ka];rfl,?_⟩
   by_cases j : ¬ (tl.all λx=>okL (aq x 2))=true
   ·rw[if_pos (by simpa using j)]
    walk_at "st";exact no (L.trans g5) λz=>j z.2
   have j:(tl.all λx=>okL (aq x 2))=true:=GO.mp j;rw[if_neg (by rw[j];decide)]
   walk_at "st";refine⟨_,_,rfl,aj (g5 _ _ U),?_⟩;have q5:=q _ (L.trans g5);rw[if_pos j]at q5;have em:tl.map (λx:Str=>dO (aq x 2))=(tl.map nv).map λx=>.int (x:Nat):=by
    rw[List.map_map];refine List.map_congr_left λx hx=>?_;rw[tM (Gf.mp j x hx)];rfl
   rw[em];exact q5
noncomputable def bS (L0 L1 L2:Nat):List Str->Nat->Option Nat
 |[],_=>none
 |r::rs,k=>if (bR r L0 L1 L2).isNone=true∨400<k then some k else bS L0 L1 L2 rs (k+1)
noncomputable def nl:Str:=g8 "\n"
noncomputable def dW (t:Str):Option Nat:=match FC t nl with
 |[]=>none
 | h::rs=>match cE h with
   |some [L0,L1,L2]=>bS L0 L1 L2 rs 1
   |_=>some 0
noncomputable def dR:Option Nat->D
 |none=>.non
 |some k=>.tup [.int (k:Nat)]
variable {h:Str}
theorem eo {ls:List Nat}(e:cE h=some ls):∃ a b c,ls=[a,b,c]/\(1<=a/\a<=81)/\(1<=b/\b<=81)/\(1<=c/\c<=81):=by
 unfold cE at e;dsimp only at e
 split at e
 ·next h1 =>
  split at e
  ·next h2 =>
   cases e
   obtain⟨F,_⟩:=h1;generalize FC h (g8 " ")=ws at *
   match ws,F with
   |[w,x,y,z],_ =>
    have ok:∀ v,v∈[x,y,z]->1<=nv v/\nv v<=81:=λv J=>by
     have j:=Gf.mp h2 v J;have L:=tM j;rw[L]at j;unfold okL at j;simpa using j
    exact⟨nv x,nv y,nv z,rfl,ok x (by simp),ok y (by simp),ok z (by simp)⟩
  ·cases e
 ·cases e
theorem kf (rs:List Str):dG (rs.map .str)=rs.zipIdx.map λx=>.tup [.int ((x.2:Nat)+1),.str x.1]:=by
 unfold dG;apply NG;intro i;rw[IS,Gj,Gj,JU]
 cases rs[i]? <;> simp
variable {rs:List Str}
theorem mY {l r:List (Str×Nat)}{x:Str×Nat}(ee:rs.zipIdx=l++x::r):x.2=l.length/\rs.drop l.length=x.1::rs.drop (l.length+1):=by
 have h:rs.zipIdx[l.length]? = (l++x::r)[l.length]?:=by rw[ee]
 rw[JU,HI (FE _),Nat.sub_self,Ju]at h
 cases e:rs[l.length]? with
 |none=>rw[e]at h;cases h
 | some v =>
   rw[e]at h;have h2:x=(v,l.length):=by simpa using h.symm
   refine⟨by rw[h2],?_⟩
   obtain⟨j,z⟩:=G0.mp e;rw[HV j,z,h2]
theorem yD (hn : 5<=n){t:Str}(ht:t.length<=100000)(ha:asc t)(j:∀ w∈FC t nl,w.length<=600)(hc:(FC t nl).length<=900)(q:∀ M',Ge M M'->Q (dR (dW t)) M'):phi tab n 18 [.str t] M Q:=by
 refine aH (by omega) rfl rfl (ρ:=[some _,none,none,none,none,none,none]) rfl ?_
 unfold d18 b18;walk_at "st";refine⟨⟨_,rfl⟩,_,rfl,_,rfl,by rw[FH];rfl,by rw[Fy];first|decide|omega,λp EK=>?_⟩
 have Z:∀ w∈FC t nl,asc w:=λw h=>by unfold nl at h;rw[mk1.2.2.2.1]at h;exact bH ha h
 have EI:(FC t nl)≠[]:=λe=>by have:=Mn t nl;rw[e]at this;simp at this
 unfold dW at q;show wSs _ _ _ [_,some _,_,_,_,_,_] (af M p (.lst ((FC t nl).map .str)));generalize FC t nl=ws at *
 obtain⟨h,rs,rfl⟩:∃ h rs,ws=h::rs:=by
  cases ws with
  |nil=>exact absurd rfl EI
  |cons h rs=>exact⟨h,rs,rfl⟩
 dsimp only at q;have g1:=Ge.new (o:=.lst ((h::rs).map .str)) EK;have e1:af M p (.lst ((h::rs).map .str)) p=some (.lst (.str h::rs.map .str)):=aa;generalize af M p (.lst ((h::rs).map .str))=M1 at g1 e1;walk_at "st";refine aD e1 (d:=.str h) (by simp[atI,ixN]) ?_
 refine wB (by omega) (j h (by simp)) (Z h (by simp)) λM2 g2=>?_
 cases hl:cE h with
 | none =>
   rw[hl]at q;unfold dL;walk_at "st";refine⟨true,rfl,true,rfl,?_⟩;rw[if_pos rfl];walk_at "st";rw[if_pos (by omega),if_pos (by omega)]
   walk_at "st";exact⟨by rw[Fy];first|decide|omega,q _ (g1.trans g2)⟩
 | some ls =>
   obtain⟨L0,L1,L2,rfl,h0,h1,h2⟩:=eo hl;rw[hl]at q;dsimp only at q;unfold dL;walk_at "st";refine⟨false,rfl,false,rfl,?_⟩;rw[if_neg Fu];walk_at "st";refine⟨GX _,λp2 O=>?_⟩;have EL:M p2=none:=by
    cases e:M p2 with
    |none=>rfl
    |some o=>rw[g2 _ _ (g1 _ _ e)]at O;cases O
   have e2:af M2 p2 (.lst []) p2=some (.lst []):=aa;have e3:=Ge.new (o:=.lst []) O _ _ (g2 _ _ e1);have g3:=(g1.trans g2).trans (Ge.new (o:=.lst []) O);generalize af M2 p2 (.lst [])=M3 at e2 e3 g3;walk_at "st";refine⟨_,e3,λp3 Y=>?_⟩;rw[eF];have EM:p3≠p2:=λz=>by subst z;rw[e2]at Y;cases Y
   have e4:af M3 p3 (.lst (rs.map .str)) p3=some (.lst (rs.map .str)):=aa;have g4:=Ge.new (o:=.lst (rs.map .str)) Y;have e5:=g4 _ _ e2;have g5:=g3.trans g4;generalize af M3 p3 (.lst (rs.map .str))=M4 at e4 g4 e5 g5;refine⟨_,rfl,_,e4,?_⟩;rw[kf];rw[FR]at hc;refine cC (I:=λl ρ M'=>(∃ o4 o5 o6,ρ = [some (.str t),some (.ref p),some (.tup [.int (L0:Nat),.int (L1:Nat),.int (L2:Nat)]),some (.ref p2),o4,o5,o6])/\Ge M M'/\(∃ acc,M' p2=some (.lst acc)/\acc.length=l.length)/\M' p3=some (.lst (rs.map .str))/\bS L0 L1 L2 rs 1=bS L0 L1 L2 (rs.drop l.length) (l.length+1)) (ys:=rs.zipIdx) (f:=λx=>.tup [.int ((x.2:Nat)+1),.str x.1]) rfl ⟨⟨_,_,_,rfl⟩,g5,⟨_,e5,rfl⟩,e4,rfl⟩ (λ_ _ _ hI=>aj hI.2.2.2.1) ?_ ?_
   ·rintro l x r ρ M5 ee ⟨⟨o4,o5,o6,rfl⟩,g6,⟨acc,e6,J⟩,e7,L⟩;have EN:=b8 ee;rw[HQ]at EN;obtain⟨EO,EJ⟩:=mY ee;have U:x.1∈rs:=GJ (i:=l.length) (by rw[EJ];simp)
    rw[EJ,bS]at L;refine⟨_,rfl,λF hF=>?_⟩;walk_at "st";refine wz (by omega) (j x.1 (by simp[U])) (Z x.1 (by simp[U])) h0.2 h1.2 h2.2 λM6 g7=>?_
    have e8:=g7 _ _ e6;have e9:=g7 _ _ e7;have bad:bS L0 L1 L2 rs 1=some (l.length+1)->(if 0<=((x.2:Nat):Int)+1 then if ((x.2:Nat):Int)+1<=1000 then True else True else True)->Q (.tup [.int ((x.2:Nat)+1)]) M6:=λe _=>by
     have:=q _ (g6.trans g7);rw[e]at this;rw[EO];exact this
    cases hP:bR x.1 L0 L1 L2 with
    | none =>
      rw[hP,if_pos (.inl rfl)]at L;unfold dP;walk_at "st";refine⟨true,rfl,true,rfl,?_⟩;rw[if_pos rfl];walk_at "st";rw[if_pos (by omega),if_pos (by omega)]
      walk_at "st";exact⟨by rw[Fy];first|decide|omega,bad L (by simp)⟩
    | some pr =>
      unfold dP;walk_at "st";refine⟨false,rfl,false,rfl,?_⟩;rw[if_neg Fu]
      by_cases h400 : 400<l.length+1
      ·rw[if_pos (.inr h400)]at L;rw[if_pos (by omega)]
       walk_at "st";rw[if_pos (by omega),if_pos (by omega)]
       walk_at "st";exact⟨by rw[Fy];first|decide|omega,bad L (by simp)⟩
      ·rw[if_neg (by rw[hP];simp;omega)]at L
       rw[if_neg (by omega)]
       walk_at "st";refine⟨⟨_,e8⟩,_,_,_,rfl,rfl,e8,by rw[J,Fy];omega,?_⟩
       refine hF _ _ ⟨⟨_,_,_,rfl⟩,λa o ea=>?_,⟨_,aa,by rw[FW,FW,J];rfl⟩,by rw[aB EM];exact e9,by rw[L,FW];rfl⟩
       rw[aB (λz=>by rw[z,EL]at ea;cases ea)];exact g7 _ _ (g6 _ _ ea)
   ·rintro ρ M5 ⟨⟨o4,o5,o6,rfl⟩,g6,⟨acc,e6,J⟩,e7,L⟩;rw[HQ,J1]at L;have q6:=q _ g6;rw[L]at q6;walk_at "st";exact⟨by rw[Fy];first|decide|omega,.inr trivial,by rw[Fy];first|decide|omega,q6⟩
theorem oR (O : 6<=n){t:Str}(F:t.length<=100000)(J:asc t)(j:∀ w∈FC t nl,w.length<=600)(L:(FC t nl).length<=900)(q:∀ M',Ge M M'->Q (dO (dW t)) M'):phi tab n 14 [.str t] M Q:=by
 refine aH (by omega) rfl rfl (ρ:=[some _,none,none]) rfl ?_
 unfold d14 b14;walk_at "st";walk_at "st";refine yD (n:=n - 1) (by omega) F J j L λU g1=>?_
 have z:=q _ g1
 cases hR:dW t with
 | none =>
   rw[hR]at z;unfold dR;walk_at "st";refine⟨true,rfl,true,rfl,?_⟩;rw[if_pos rfl];walk_at "st";exact z
 | some k =>
   rw[hR]at z;unfold dR;walk_at "st";refine⟨false,rfl,false,rfl,?_⟩;rw[if_neg Fu];walk_at "st";exact⟨_,rfl,z⟩
theorem i5 (hn : 1<=n){lo hi:Int}(hw:w.length<=600)(ok:Gd w=true)(q:∀ M',Ge M M'->Q (.bl (am w lo hi)) M'):phi tab n 10 [.str w,.int lo,.int hi] M Q:=by
 refine aH (by omega) rfl rfl (ρ:=[some _,some _,some _]) rfl ?_
 unfold d10 b10;have Z:w.length<=Fz:=by rw[Fy];first|decide|omega
 have no:∀ {L:Mem},Ge M L -> ¬ ((1<=w.length/\w.length<=5)/\bL w=true)->Q (.bl false) L:=λg h=>by
  have:=q _ g;have e:am w lo hi=false:=II.mpr λz=>h ⟨(plainB_iff.mp z).1,(plainB_iff.mp z).2.1⟩;rw[e]at this;exact this
 walk_at "st";refine fQ ok (bc _) ⟨_,rfl,?_⟩;have ee:w=g8 "" ↔ w.length=0:=by
  constructor
  ·intro e;rw[e,FH];rfl
  ·intro e;have:cl w=[]:=GG.mp (by rw[ax];exact e)
   exact dS (by rw[this];rfl)
 by_cases h1:w=g8 ""
 ·rw[if_pos (decide_eq_true h1)];walk_at "st";exact no (λ_ _ e=>e) λz=>by have:=ee.mp h1;omega
 rw[if_neg (by rw[decide_eq_false h1];decide)]
 have O : 1<=w.length:=by
  rcases Ku w.length with z|z
  ·exact absurd (ee.mpr z) h1
  ·exact z
 refine⟨_,rfl,Z,?_⟩
 by_cases h5 : 5<w.length
 ·rw[if_pos (by omega)]
  walk_at "st";exact no (λ_ _ e=>e) λz=>by omega
 rw[if_neg (by omega)]
 refine⟨w,rfl,?_⟩;refine bq (I:=λl ρ M' acc=>(∃ o,ρ = [o])/\M'=M/\acc=l.map λc=>.bl (!dg c)) (ys:=cl w) (f:=λc=>.str ⟨#[c]⟩) rfl ⟨⟨_,rfl⟩,rfl,rfl⟩ (λ_ _ _ _ _=>trivial) ?_ ?_
 ·rintro l x r ρ Y acc ee ⟨⟨o,rfl⟩,rfl,rfl⟩;have U:=b8 ee;rw[ax]at U;refine⟨_,rfl,λN hN=>?_⟩;walk_at "wp";refine⟨_,_,rfl,rfl,?_⟩;rw[oJ,oK];refine⟨by rw[FO,Fy];omega,hN _ _ _ ⟨⟨_,rfl⟩,rfl,?_⟩⟩
  rw[Gr];rfl
 ·rintro ρ Y acc ⟨_,rfl,rfl⟩ p hp;have g1:=Ge.new (o:=.lst ((cl w).map λc=>D.bl (!dg c))) hp;refine⟨_,_,_,rfl,aj aa,iY (λc=>!dg c) _,!bL w,?_,?_⟩
  ·rw[List.any_map];unfold bL;rw[List.not_all_eq_any_not];rfl
  generalize af Y p (.lst ((cl w).map λc=>D.bl (!dg c)))=L at g1
  by_cases F : ¬ bL w=true
  ·rw[if_pos (by simpa using F)]
   walk_at "st";exact no g1 λz=>F z.2
  have F:bL w=true:=by simpa using F
  rw[if_neg (by simp[F])]
  have hr:=kM F O hw;have j:=q _ g1;walk_at "st";have hv:=BX F (by omega)
  have hl:NF (Lw ((nv w:Nat):Int))<1920:=by
   rw[Iz]
   by_cases h0:nv w=0
   ·rw[h0];decide
   ·exact J0 ((JT (k:=17) h0).mpr (by omega)) (by decide)
  refine⟨w,rfl,_,hr,by omega,_,rfl,hl,?_⟩
  refine fQ (bc _) ok ⟨_,rfl,?_⟩;unfold am at j;rw[decide_eq_true (show 1<=w.length/\w.length<=5 by omega),F,Im,Im]at j
  by_cases h6:tx (nv w:Nat)=w
  ·rw[decide_eq_true h6,Im]at j;rw[if_pos (decide_eq_true (show g8 (Hh ((nv w:Nat):Int))=w from h6))];refine⟨w,rfl,_,hr,by omega,?_⟩
   by_cases J:lo<=((nv w:Nat):Int)
   ·rw[if_pos J];rw[decide_eq_decide.mpr (show (lo<=((nv w:Nat):Int)/\((nv w:Nat):Int)<=hi)↔((nv w:Nat):Int)<=hi from⟨λz=>z.2,λz=>⟨J,z⟩⟩)]at j;exact j
   ·rw[if_neg J];rw[decide_eq_false (λz=>J z.1)]at j;exact j
  ·rw[decide_eq_false h6,Ip]at j;rw[if_neg (by rw[decide_eq_false (show ¬ g8 (Hh ((nv w:Nat):Int))=w from h6)];decide)]
   exact j
noncomputable def cS:Str:=g8 "-"
noncomputable def bC (h:Str):Str:=if Hc h none (some 1)=cS then Hc h (some 1) none else h
noncomputable def dX (L:Nat):List Str->Int->Bool
 |[],_=>true
 | w::r,last=>match FC w ay with
   |[h0,h1]=>am h1 (last+1) ((L:Nat) - 1)&&am (bC h0) 1 1000&&dX L r (nv h1:Nat)
   |_=>false
noncomputable def cG (ws:List Str) (L:Nat):Bool:=if ws=[cS] then true else dX L ws (-1) && !ws.isEmpty
theorem i6:∀ xs ys:List Str,IF (xs.map .str) (ys.map .str)=decide (xs=ys)
 |[],[]=>rfl
 |[],y::ys=>rfl
 |x::xs,[]=>rfl
 | x::xs,y::ys=>by
   rw[FY,FY,IF,i6 xs ys];simp only[GI]
   by_cases h:x=y <;> by_cases h2:xs=ys <;> simp[h,h2]
theorem kg {k:Nat}{M:Mem}:∀ {ws:List Str},(∀ w∈ws,Gd w=true)->az (rb k M) (ws.map .str)=some (ws.map .str)
 |[],_=>rfl
 | w::r,h=>by
   rw[FY,az,kg λv j=>h v (FL _ j)];have:rb k M (.str w)=some (.str w):=by simp only[rb,h w (by simp),if_true]
   rw[this];rfl
variable {a:Addr}
theorem gu {k:Nat}{ws:List Str}(h:M a=some (.lst (ws.map .str)))(ok:∀ w∈ws,Gd w=true):rb (k+1) M (.ref a)=some (.list (ws.map .str)):=by
 rw[tt h,kg ok];rfl
theorem yE {b:Addr}{xs ys:List Str}(j:M a=some (.lst (xs.map .str)))(z:M b=some (.lst (ys.map .str)))(ox:∀ w∈xs,Gd w=true)(oy:∀ w∈ys,Gd w=true)(q:Q (.bl (decide (xs=ys))) M):wEq (.ref a) (.ref b) M Q:=by
 refine⟨_,_,gu j ox,gu z oy,?_⟩;have:GI (.list (xs.map .str)) (.list (ys.map .str))=decide (xs=ys):=by rw[GI,i6]
 rw[this];exact q
theorem yF {b:Addr}{xs ys:List Str}(j:M a=some (.lst (xs.map .str)))(z:M b=some (.lst (ys.map .str)))(ox:∀ w∈xs,Gd w=true)(oy:∀ w∈ys,Gd w=true)(q:Q (.bl (!decide (xs=ys))) M):wNe (.ref a) (.ref b) M Q:=by
 refine⟨_,_,gu j ox,gu z oy,?_⟩;have:GI (.list (xs.map .str)) (.list (ys.map .str))=decide (xs=ys):=by rw[GI,i6]
 rw[this];exact q
theorem kh (h:asc x)(i j:Option Int):asc (Hc x i j):=by
 intro c z;unfold Hc at z
 split at z
 ·exact h c z
 ·have F:c∈(Builtin.Str.strSliceIndices i j 1 x.length).filterMap (x.cps[·]?):=by simpa[cl]using z
  obtain⟨k,_,hk⟩:=Kh.mp F;exact h c (JR.mpr (Array.mem_of_getElem? hk))
theorem yG (hn : 2<=n){ws:List Str}(hw:∀ w∈ws,w.length<=600/\asc w)(hc:ws.length<=1000)(hM:M a=some (.lst (ws.map .str)))(q:∀ M',Ge M M'->Q (.bl (cG ws L)) M'):phi tab n 11 [.ref a,.int (L:Nat)] M Q:=by
 refine aH (by omega) rfl rfl (ρ:=[some _,some _,none,none,none,none]) rfl ?_
 unfold d11 b11;have oks:∀ w∈ws,Gd w=true:=λw h=>bN (hw w h).2;walk_at "st";refine⟨by rw[Fy];first|decide|omega,λp hp=>?_⟩
 have g1:=Ge.new (o:=.lst [.str cS]) hp;have e1:af M p (.lst [.str cS]) p=some (.lst ([cS].map .str)):=aa;have Y:=g1 _ _ hM;show wEq (.ref a) (.ref p) (af M p (.lst [.str cS])) _;generalize af M p (.lst [.str cS])=M1 at g1 e1 Y;refine yE Y e1 oks (λw h=>by rw[HN.mp h];exact bc _) ⟨_,rfl,?_⟩
 unfold cG at q
 by_cases hd:ws=[cS]
 ·rw[if_pos (decide_eq_true hd)];rw[if_pos hd]at q;walk_at "st";exact q _ g1
 rw[if_neg (by rw[decide_eq_false hd];decide)]
 rw[if_neg hd]at q;walk_at "st";walk_at "st";refine⟨_,aj Y,?_⟩;have cz:∀ w∈ws,∀ h∈FC w ay,h.length<=600/\asc h:=λw EL h hh=>by
  unfold ay at hh;rw[mk1.2.1]at hh;have h1:=hw w EL;have:=cN hh;exact⟨by omega,bH h1.2 hh⟩
 refine cC (I:=λl ρ M'=>∃ (z:Int),(∃ o3 o4 o5,ρ = [some (.ref a),some (.int (L:Nat)),some (.int z),o3,o4,o5])/\Ge M M' /\ ∀ r,ws=l++r->dX L ws (-1)=dX L r z) (ys:=ws) (f:=λx=>.str x) rfl ⟨_,⟨_,_,_,rfl⟩,g1,λr h=>by rw[h];rfl⟩ (λ_ _ _ hI=>by obtain⟨z,_,g,_⟩:=hI;exact aj (g _ _ hM)) ?_ ?_
 ·rintro l x r ρ M2 ee ⟨z,⟨o3,o4,o5,rfl⟩,g2,j⟩;have hx:x∈ws:=by rw[ee];simp
  have EN:=hw x hx;have j:=j _ ee;rw[dX]at j;have J:=cz x hx;refine⟨_,rfl,λF hF=>?_⟩;walk_at "st";refine⟨⟨_,rfl⟩,_,rfl,_,rfl,by rw[FH];rfl,by rw[Fy];first|decide|omega,λp2 EM=>?_⟩
  show wSs _ _ _ _ (af M2 p2 (.lst ((FC x ay).map .str)));generalize FC x ay=hs at *
  have g3:=g2.trans (Ge.new (o:=.lst (hs.map .str)) EM);have U:af M2 p2 (.lst (hs.map .str)) p2=some (.lst (hs.map .str)):=aa;generalize af M2 p2 (.lst (hs.map .str))=M3 at g3 U;have bad:∀ {M':Mem},Ge M M'->dX L ws (-1)=false->Q (.bl false) M':=λg e=>by have:=q _ g;rw[e,Ip]at this;exact this
  walk_at "st";refine gr U ?_;rw[FO];refine eG ⟨_,rfl,?_⟩
  match hs,j,J,U with
  |[],j,J,U=>rw[if_pos (by simp)];walk_at "st";exact bad g3 j
  |[h0],j,J,U=>rw[if_pos (by simp)];walk_at "st";exact bad g3 j
  |h0::h1::h2::t,j,J,U=>rw[if_pos (by simp;omega)];walk_at "st";exact bad g3 j
  |[h0,h1],j,J,U =>
   rw[if_neg (by simp)]
   have c0:=J h0 (by simp)
   have c1:=J h1 (by simp)
   dsimp only at j;refine aD U (d:=.str h1) (by simp[atI,ixN]) ?_
   refine i5 (by omega) c1.1 (bN c1.2) λM4 g4=>⟨_,rfl,?_⟩
   have e4:=g4 _ _ U;have gA:=g3.trans g4
   by_cases Z : ¬ am h1 (z+1) ((L:Nat) - 1)=true
   ·have hf:am h1 (z+1) ((L:Nat) - 1)=false:=by simpa using Z
    rw[hf,Ip,Ip]at j;rw[if_pos (by rw[hf];rfl)]
    walk_at "st";exact bad gA j
   have Z:am h1 (z+1) ((L:Nat) - 1)=true:=GO.mp Z;rw[Z,Im]at j;rw[if_neg (by rw[Z];decide)]
   walk_at "st";have cn:(bC h0).length<=600/\asc (bC h0):=by
    unfold bC
    split
    ·exact⟨Gn (Kb _ _ _) c0.1,kh c0.2 _ _⟩
    ·exact c0
   have tl:∀ B,wSs (phi tab (n - 1)) (.cons (.ite (.not (.tru (.call 10 (.cons (.var 5) (.cons (.int 1) (.cons (.int 1000) .nil)))))) (.cons (.ret (.bl false)) .nil) .nil) (.cons (.asg (.name 2) (.blt .intS (.cons (.ix (.var 4) (.int 1)) .nil))) .nil))
    { nx:=F,rt:=Q,bk:=B,ct:=F } [some (.ref a),some (.int (L:Nat)),some (.int z),some (.str x),some (.ref p2),some (.str (bC h0))] M4:=λB=>by
    walk_at "st";refine i5 (by omega) cn.1 (bN cn.2) λM5 g5=>⟨_,rfl,?_⟩
    have e5:=g5 _ _ e4;have gB:=gA.trans g5
    by_cases O : ¬ am (bC h0) 1 1000=true
    ·have hf:am (bC h0) 1 1000=false:=by simpa using O
     rw[hf,Ip]at j;rw[if_pos (by rw[hf];rfl)]
     walk_at "st";exact bad gB j
    have O:am (bC h0) 1 1000=true:=GO.mp O;rw[O,Im]at j;rw[if_neg (by rw[O];decide)]
    walk_at "st";refine aD e5 (d:=.str h1) (by simp[atI,ixN]) ?_
    have EI:=plainB_iff.mp Z;refine⟨h1,rfl,_,kM EI.2.1 EI.1.1 c1.1,by omega,?_⟩
    refine hF _ _ ⟨(nv h1:Nat),⟨_,_,_,rfl⟩,gB,λr' h'=>?_⟩;have er:r'=r:=by
     rw[ee,Hv]at h';have:=Lg h';exact(HF.inj this).2.symm
    rw[er,j]
   refine aD e4 (d:=.str h0) (by simp[atI,ixN]) ?_
   have EJ:h0.length<=Fz:=by rw[Fy];first|decide|omega
   refine⟨h0,rfl,EJ,fQ (bN (kh c0.2 _ _)) (bc _) ⟨_,rfl,?_⟩⟩
   by_cases hn0:Hc h0 none (some 1)=cS
   ·rw[if_pos (decide_eq_true (show Hc h0 none (some 1)=g8 "-" from hn0))];refine aD e4 (d:=.str h0) (by simp[atI,ixN]) ⟨h0,rfl,EJ,?_⟩
    have en:bC h0=Hc h0 (some 1) none:=by unfold bC;rw[if_pos hn0]
    rw[<- en];exact tl _
   ·rw[if_neg (by rw[decide_eq_false (show ¬ Hc h0 none (some 1)=g8 "-" from hn0)];decide)]
    refine aD e4 (d:=.str h0) (by simp[atI,ixN]) ?_
    have en:bC h0=h0:=by unfold bC;rw[if_neg hn0]
    have t2:=tl;rw[en]at t2;exact t2 _
 ·rintro ρ M2 ⟨z,⟨o3,o4,o5,rfl⟩,g2,j⟩;have hE:=j [] (by simp)
  rw[dX]at hE;walk_at "st";refine⟨GX _,λp3 EK=>?_⟩;have g3:=g2.trans (Ge.new (o:=.lst []) EK);refine yF (xs:=ws) (ys:=[]) ((Ge.new (o:=.lst []) EK) _ _ (g2 _ _ hM)) aa oks (λw h=>by cases h) ?_
  have:=q _ g3;rw[hE,Im]at this;rw[show (!decide (ws=[])) = !ws.isEmpty from by cases ws <;> rfl]
  exact this
noncomputable def sta:Str:=g8 "*"
noncomputable def gt:Str:=g8 ">"
noncomputable def cu (row:Str) (L0 L1 L2:Nat):Bool:=let ws:=FC row (g8 " ")
 if ws.count sta=1/\ws.count gt=1/\ws.idxOf sta<=ws.idxOf gt then cG (ws.take (ws.idxOf sta)) L0&&(cG ((ws.drop (ws.idxOf sta+1)).take (ws.idxOf gt - (ws.idxOf sta+1))) L1&&cG (ws.drop (ws.idxOf gt+1)) L2) else false
variable {xs:List D}
theorem tN (h:n<=xs.length):bF xs none (some (n:Int))=xs.take n:=by
 unfold bF;rw[HT.sIx_none,HT.sIx_nat,K3 h];simp
theorem tO (h:n<=xs.length):bF xs (some (n:Int)) none=xs.drop n:=by
 unfold bF;rw[HT.sIx_none,HT.sIx_nat,K3 h];exact List.take_of_length_le (by simp)
theorem vS {a b:Nat}(h:a<=b)(j:b<=xs.length):bF xs (some (a:Int)) (some (b:Int))=(xs.drop a).take (b - a):=by
 unfold bF;rw[HT.sIx_nat,HT.sIx_nat,K3 j,K3 (Gn h j)]
theorem C0 (hn : 3<=n){b:Addr}(hr:row.length<=600)(ha:asc row)(hM:M b=some (.lst [.int (L0:Nat),.int (L1:Nat),.int (L2:Nat)]))(q:∀ M',Ge M M'->Q (.bl (cu row L0 L1 L2)) M'):phi tab n 12 [.str row,.ref b] M Q:=by
 refine aH (by omega) rfl rfl (ρ:=[some _,some _,none,none,none,none]) rfl ?_
 unfold d12 b12;walk_at "st";refine⟨⟨_,rfl⟩,_,rfl,_,rfl,by rw[FH];rfl,by rw[Fy];first|decide|omega,λp hp=>?_⟩
 have hw:∀ w∈FC row (g8 " "),w.length<=600/\asc w:=λw h=>by
  rw[mk1.1]at h;have:=cN h;exact⟨by omega,bH ha h⟩
 have EM:(FC row (g8 " ")).length<=601:=by
  rw[mk1.1];have:=tH row 32;omega
 unfold cu at q;generalize FC row (g8 " ")=ws at *
 dsimp only at q;have g1:=Ge.new (o:=.lst (ws.map .str)) hp;have j:af M p (.lst (ws.map .str)) p=some (.lst (ws.map .str)):=aa;generalize af M p (.lst (ws.map .str))=M1 at g1 j;walk_at "st";have no:∀ {M':Mem},Ge M M' -> ¬ (ws.count sta=1/\ws.count gt=1/\ws.idxOf sta<=ws.idxOf gt)->Q (.bl false) M':=λg h=>by
  have:=q _ g;rw[if_neg h]at this;exact this
 refine⟨⟨_,j⟩,_,ws,sta,rfl,rfl,j,?_⟩;refine eG ⟨_,rfl,?_⟩
 by_cases h1 : ¬ ws.count sta=1
 ·rw[if_pos (by simp;omega)]
  walk_at "st";exact no g1 λz=>h1 z.1
 have h1:ws.count sta=1:=GO.mp h1;rw[if_neg (by simp[h1])]
 refine⟨⟨_,j⟩,_,ws,gt,rfl,rfl,j,?_⟩;refine eG ⟨_,rfl,?_⟩
 by_cases h2 : ¬ ws.count gt=1
 ·rw[if_pos (by simp;omega)]
  walk_at "st";exact no g1 λz=>h2 z.2.1
 have h2:ws.count gt=1:=GO.mp h2;rw[if_neg (by simp[h2])]
 have Z:sta∈ws:=N7.mp (by omega)
 have m2:gt∈ws:=N7.mp (by omega)
 refine⟨⟨_,j⟩,_,ws,sta,rfl,rfl,j,Z,?_⟩;refine⟨⟨_,j⟩,_,ws,gt,rfl,rfl,j,m2,?_⟩;have i1:ws.idxOf sta<ws.length:=Jg.mpr Z;have i2:ws.idxOf gt<ws.length:=Jg.mpr m2
 by_cases O : ¬ ws.idxOf sta<=ws.idxOf gt
 ·refine⟨_,rfl,?_⟩;rw[if_pos (decide_eq_true (by omega))]
  walk_at "st";exact no g1 λz=>O z.2.2
 have O:ws.idxOf sta<=ws.idxOf gt:=GO.mp O;rw[if_pos ⟨h1,h2,O⟩]at q;have EN:ws.idxOf sta≠ws.idxOf gt:=λe=>by
  have a1:=Ks i1;have a2:=Ks i2;have:sta=gt:=by
   have a3:ws[ws.idxOf sta]=ws[ws.idxOf gt]:=by congr 1
   rw[a1,a2]at a3;exact a3
  exact absurd (congrArg cl this) (by decide +kernel)
 refine⟨_,rfl,?_⟩;rw[if_neg (by simp;omega)]
 walk_at "st";refine⟨⟨_,j⟩,_,ws,sta,rfl,rfl,j,Z,?_⟩;refine⟨⟨_,j⟩,_,ws,gt,rfl,rfl,j,m2,?_⟩;generalize ws.idxOf sta=I at *
 generalize ws.idxOf gt=J at *
 walk_at "st";have c1:((I:Nat):Int)+1=((I+1:Nat):Int):=by push_cast;rfl
 have c2:((J:Nat):Int)+1=((J+1:Nat):Int):=by push_cast;rfl
 refine⟨_,j,λpa F=>?_⟩;rw[tN (by rw[FO];omega),<- List.map_take]
 have f1:af M1 pa (.lst ((ws.take I).map .str)) pa=some (.lst ((ws.take I).map .str)):=aa;have g2:=g1.trans (Ge.new (o:=.lst ((ws.take I).map .str)) F);have e2:=Ge.new (o:=.lst ((ws.take I).map .str)) F _ _ j;generalize af M1 pa (.lst ((ws.take I).map .str))=M2 at f1 g2 e2;refine⟨_,e2,λpb EI=>?_⟩;rw[c1,vS (by omega) (by rw[FO];omega),<- List.map_drop,<- List.map_take]
 have f2:af M2 pb (.lst (((ws.drop (I+1)).take (J - (I+1))).map .str)) pb=some (.lst (((ws.drop (I+1)).take (J - (I+1))).map .str)):=aa;have n2:=Ge.new (o:=.lst (((ws.drop (I+1)).take (J - (I+1))).map .str)) EI;have f1:=n2 _ _ f1;have e3:=n2 _ _ e2;have g3:=g2.trans n2;generalize af M2 pb (.lst (((ws.drop (I+1)).take (J - (I+1))).map .str))=M3 at f1 f2 g3 e3;refine⟨_,e3,λpc EJ=>?_⟩;rw[c2,tO (by rw[FO];omega),<- List.map_drop]
 have L:af M3 pc (.lst ((ws.drop (J+1)).map .str)) pc=some (.lst ((ws.drop (J+1)).map .str)):=aa;have n3:=Ge.new (o:=.lst ((ws.drop (J+1)).map .str)) EJ;have f1:=n3 _ _ f1;have f2:=n3 _ _ f2;have g4:=g3.trans n3;generalize af M3 pc (.lst ((ws.drop (J+1)).map .str))=M4 at f1 f2 L g4;refine⟨by rw[Fy];first|decide|omega,λpp EK=>?_⟩
 have U:=Ge.new (o:=.lst [D.ref pa,.ref pb,.ref pc]) EK;have f1:=U _ _ f1;have f2:=U _ _ f2;have L:=U _ _ L;have g5:=g4.trans U;have f4:af M4 pp (.lst [D.ref pa,.ref pb,.ref pc]) pp=some (.lst [D.ref pa,.ref pb,.ref pc]):=aa;generalize af M4 pp (.lst [D.ref pa,.ref pb,.ref pc])=M5 at f1 f2 L f4 g5;have wT:∀ w∈ws.take I,w.length<=600/\asc w:=λw h=>hw w (IT h);have wM:∀ w∈(ws.drop (I+1)).take (J - (I+1)),w.length<=600/\asc w:=λw h=>hw w (GJ (IT h));have wD:∀ w∈ws.drop (J+1),w.length<=600/\asc w:=λw h=>hw w (GJ h);have lT:(ws.take I).length<=ws.length:=by rw[GU];omega
 have lM:((ws.drop (I+1)).take (J - (I+1))).length<=ws.length:=by rw[GU,IW];omega
 have lD:(ws.drop (J+1)).length<=ws.length:=by rw[IW];omega
 generalize ws.take I=A at *
 generalize (ws.drop (I+1)).take (J - (I+1))=B at *
 generalize ws.drop (J+1)=C at *
 walk_at "st";refine⟨_,aj f4,_,aj (g5 _ _ hM),?_⟩;refine bq (I:=λl ρ M' acc=>(∃ o1 o2,ρ = [o1,o2])/\Ge M5 M'/\acc=l.map λx:List Str×Addr×Nat=>.bl (cG x.1 x.2.2)) (ys:=[(A,pa,L0),(B,pb,L1),(C,pc,L2)]) (f:=λx=>gc (.ref x.2.1) (.int (x.2.2:Nat))) rfl ⟨⟨_,_,rfl⟩,Ge.refl,rfl⟩ (λ_ _ _ _ hI=>L6 (aj (hI.2.1 _ _ f4)) (aj (hI.2.1 _ _ (g5 _ _ hM)))) ?_ ?_
 ·rintro l x r ρ M6 acc ee ⟨⟨o1,o2,rfl⟩,Y,rfl⟩;have hm:x∈[(A,pa,L0),(B,pb,L1),(C,pc,L2)]:=by rw[ee];simp
  have EL:=b8 ee;have hx:(∀ w∈x.1,w.length<=600/\asc w)/\x.1.length<=1000/\M5 x.2.1=some (.lst (x.1.map .str)):=by
   simp only[FA,FQ,or_false]at hm
   rcases hm with rfl|rfl|rfl
   ·exact⟨wT,by dsimp only;omega,f1⟩
   ·exact⟨wM,by dsimp only;omega,f2⟩
   ·exact⟨wD,by dsimp only;omega,L⟩
  refine⟨_,rfl,λN hN=>?_⟩;walk_at "wp";refine yG (by omega) hx.1 hx.2.1 (Y _ _ hx.2.2) λM7 g7=>?_
  walk_at "wp";refine⟨by rw[FO,Fy];simp only[FR,HA]at EL;omega,hN _ _ _ ⟨⟨_,_,rfl⟩,Y.trans g7,?_⟩⟩
  rw[Gr];rfl
 ·rintro ρ M6 acc ⟨_,Y,rfl⟩ p4 hp4;have g7:=Ge.new (o:=.lst ([(A,pa,L0),(B,pb,L1),(C,pc,L2)].map λx:List Str×Addr×Nat=>D.bl (cG x.1 x.2.2))) hp4;refine⟨_,_,_,rfl,aj aa,iY (λx:List Str×Addr×Nat=>cG x.1 x.2.2) _,?_⟩;have:=q _ ((g5.trans Y).trans g7);simpa using this
noncomputable def fR (L0 L1 L2:Nat):List Str->Nat->Option Nat
 |[],_=>none
 |r::rs,k=>if 399<k∨cu r L0 L1 L2=false then some (k+1) else fR L0 L1 L2 rs (k+1)
noncomputable def iZ (row:Str):Option (List Nat):=let ws:=FC row (g8 " ")
 if ws.length=4/\ws.head? = some (g8 "scheme") then (if (ws.drop 1).all (λw=>am w 1 81)=true then some ((ws.drop 1).map nv) else none) else none
noncomputable def fbO (t:Str):Option Nat:=match FC t nl with
 |[]=>none
 | h::rs=>match iZ h with
   |some [a,b,c]=>fR a b c rs 0
   |_=>some 0
theorem vT (rs:List Str):eU (rs.map .str)=rs.zipIdx.map λx=>.tup [.int (x.2:Nat),.str x.1]:=by
 unfold eU;apply NG;intro i;rw[IS,Gj,Gj,JU]
 cases rs[i]? <;> simp
theorem first {n:Nat}(hn : 4<=n){t:Str}(ht:t.length<=100000)(ha:asc t)(L:∀ w∈FC t nl,w.length<=600)(hc:(FC t nl).length<=900){M:Mem}{Q:QD}(q:∀ M',Ge M M'->Q (dO (fbO t)) M'):phi tab n 13 [.str t] M Q:=by
 refine aH (by omega) rfl rfl (ρ:=[some _,none,none,none,none,none]) rfl ?_
 unfold d13 b13;walk_at "st";refine⟨⟨_,rfl⟩,_,rfl,_,rfl,by rw[FH];rfl,by rw[Fy];first|decide|omega,λp EQ=>?_⟩
 have EI:∀ w∈FC t nl,asc w:=λw h=>by unfold nl at h;rw[mk1.2.2.2.1]at h;exact bH ha h
 have EJ:(FC t nl)≠[]:=λe=>by have:=Mn t nl;rw[e]at this;simp at this
 unfold fbO at q;show wSs _ _ _ [_,some _,_,_,_,_] (af M p (.lst ((FC t nl).map .str)));generalize FC t nl=ws at *
 obtain⟨h,rs,rfl⟩:∃ h rs,ws=h::rs:=by
  cases ws with
  |nil=>exact absurd rfl EJ
  |cons h rs=>exact⟨h,rs,rfl⟩
 dsimp only at q;have g1:=Ge.new (o:=.lst ((h::rs).map .str)) EQ;have j:af M p (.lst ((h::rs).map .str)) p=some (.lst (.str h::rs.map .str)):=aa;generalize af M p (.lst ((h::rs).map .str))=M1 at g1 j;have hh:=L h (by simp)
 have ER:=EI h (by simp)
 walk_at "st";refine aD j (d:=.str h) (by simp[atI,ixN]) ?_
 refine⟨⟨_,rfl⟩,_,rfl,_,rfl,by rw[FH];rfl,by rw[Fy];first|decide|omega,λp2 EK=>?_⟩
 have hw:∀ w∈FC h (g8 " "),w.length<=600/\asc w:=λw hw=>by
  rw[mk1.1]at hw;have:=cN hw;exact⟨by omega,bH ER hw⟩
 have no:∀ {M':Mem},Ge M M'->iZ h=none->Q (.int 0) M':=λg e=>by
  have:=q _ g;rw[e]at this;exact this
 unfold iZ at no q;generalize FC h (g8 " ")=ws at *
 dsimp only at no q;have g2:=g1.trans (Ge.new (o:=.lst (ws.map .str)) EK);have O:af M1 p2 (.lst (ws.map .str)) p2=some (.lst (ws.map .str)):=aa;have j:=(Ge.new (o:=.lst (ws.map .str)) EK) _ _ j;generalize af M1 p2 (.lst (ws.map .str))=M2 at g2 O j;walk_at "st";refine gr O ?_;rw[FO];refine eG ⟨_,rfl,?_⟩
 by_cases h4 : ¬ ws.length=4
 ·rw[if_pos (by simp;omega)]
  walk_at "st";exact no g2 (if_neg λz=>h4 z.1)
 have h4:ws.length=4:=by omega
 rw[if_neg (by simp[h4])]
 obtain⟨w,tl,rfl⟩:∃ w tl,ws=w::tl:=by
  cases ws with
  |nil=>cases h4
  |cons w tl=>exact⟨w,tl,rfl⟩
 have h3:tl.length=3:=by rw[FR]at h4;omega
 refine aD O (d:=.str w) (by simp[atI,ixN]) ?_
 refine tI (bN (hw w (by simp)).2) (bc _) ⟨_,rfl,?_⟩
 by_cases hs : ¬ w=g8 "scheme"
 ·rw[if_pos (by rw[decide_eq_false hs];rfl)]
  walk_at "st";refine no g2 (if_neg λz=>hs ?_);have:=z.2;simpa using this
 have hs:w=g8 "scheme":=GO.mp hs;rw[if_neg (by rw[decide_eq_true hs];decide)]
 have hd:((w::tl).length=4/\(w::tl).head? = some (g8 "scheme")):=⟨h4,by rw[hs];rfl⟩
 rw[if_pos hd,J9,JB]at no;rw[if_pos hd,J9,JB]at q;have EL:∀ x∈tl,x.length<=600/\asc x:=λx hx=>hw x (FL _ hx);refine⟨_,O,λp3 ES=>⟨_,aj aa,?_⟩⟩;rw[FY,eF];have n3:=Ge.new (o:=.lst (tl.map .str)) ES;have g3:=g2.trans n3;have e3:af M2 p3 (.lst (tl.map .str)) p3=some (.lst (tl.map .str)):=aa;have j:=n3 _ _ j;have O:=n3 _ _ O;generalize af M2 p3 (.lst (tl.map .str))=M3 at g3 e3 j O;refine bq (I:=λl ρ M' acc=>(∃ o1,ρ = [o1])/\Ge M3 M'/\acc=l.map λx:Str=>.bl (am x 1 81)) (ys:=tl) (f:=λx:Str=>.str x) rfl ⟨⟨_,rfl⟩,Ge.refl,rfl⟩ (λ_ _ _ _ hI=>aj (hI.2.1 _ _ e3)) ?_ ?_
 ·rintro l x r ρ M4 acc ee ⟨⟨o1,rfl⟩,g4,rfl⟩;have Z:=b8 ee;have hx:=EL x (by rw[ee];simp)
  refine⟨_,rfl,λN hN=>?_⟩;walk_at "wp";refine i5 (by omega) hx.1 (bN hx.2) λM5 g5=>?_
  walk_at "wp";refine⟨by rw[FO,Fy];omega,hN _ _ _ ⟨⟨_,rfl⟩,g4.trans g5,by rw[Gr];rfl⟩⟩
 ·rintro ρ M4 acc ⟨_,g4,rfl⟩ p4 hp4;have n4:=Ge.new (o:=.lst (tl.map λx:Str=>D.bl (am x 1 81))) hp4;refine⟨_,_,_,rfl,aj aa,iY _ _,tl.all λx=>am x 1 81,by rw[Ka];rfl,?_⟩
  have gA:=(g3.trans g4).trans n4;have j:=n4 _ _ (g4 _ _ j);have O:=n4 _ _ (g4 _ _ O);generalize af M4 p4 (.lst (tl.map λx:Str=>D.bl (am x 1 81)))=M5 at gA j O
  by_cases h5 : ¬ (tl.all λx=>am x 1 81)=true
  ·rw[if_pos (by simpa using h5)]
   walk_at "st";exact no gA (if_neg h5)
  have h5:(tl.all λx=>am x 1 81)=true:=GO.mp h5;rw[if_neg (by rw[h5];decide)]
  rw[if_pos h5]at q;clear no;have ET:=λx hx=>plainB_iff.mp (Gf.mp h5 x hx);walk_at "st";refine⟨_,O,λp5 EU=>⟨_,aj aa,?_⟩⟩;rw[FY,eF];have n5:=Ge.new (o:=.lst (tl.map .str)) EU;have gB:=gA.trans n5;have e5:af M5 p5 (.lst (tl.map .str)) p5=some (.lst (tl.map .str)):=aa;have j:=n5 _ _ j;generalize af M5 p5 (.lst (tl.map .str))=M6 at gB e5 j;refine bq (I:=λl ρ M' acc=>(∃ o1,ρ = [o1])/\M'=M6/\acc=l.map λx:Str=>.int (nv x:Nat)) (ys:=tl) (f:=λx:Str=>.str x) rfl ⟨⟨_,rfl⟩,rfl,rfl⟩ (λ_ _ _ _ hI=>by rw[hI.2.1];exact aj e5) ?_ ?_
  ·rintro l x r ρ M7 acc ee ⟨⟨o1,rfl⟩,rfl,rfl⟩;have Z:=b8 ee;have EM:x∈tl:=by rw[ee];simp
   have hx:=EL x EM;have hp:=ET x EM;refine⟨_,rfl,λN hN=>?_⟩;walk_at "wp";refine⟨x,rfl,_,kM hp.2.1 hp.1.1 hx.1,by omega,by rw[FO,Fy];omega,hN _ _ _ ⟨⟨_,rfl⟩,rfl,by rw[Gr];rfl⟩⟩
  ·rintro ρ M7 acc ⟨_,rfl,rfl⟩ p6 hp6;have n6:=Ge.new (o:=.lst (tl.map fun x:Str=>D.int (nv x:Nat))) hp6;have gC:=gB.trans n6;have e6:af M7 p6 (.lst (tl.map fun x:Str=>D.int (nv x:Nat))) p6=some (.lst (tl.map fun x:Str=>D.int (nv x:Nat))):=aa;have j:=n6 _ _ j;generalize af M7 p6 (.lst (tl.map fun x:Str=>D.int (nv x:Nat)))=M8 at gC e6 j;obtain ⟨a,b,c,rfl⟩:∃ a b c,tl=[a,b,c]:=by
    match tl,h3 with
    |[a,b,c],_=>exact⟨a,b,c,rfl⟩
   rw[FY,FY,FY,HC]at q;rw[FY,FY,FY,HC]at e6;dsimp only at q;generalize nv a=L0 at *
   generalize nv b=L1 at *
   generalize nv c=L2 at *
   walk_at "st";refine⟨_,j,λp7 EV=>?_⟩;rw[eF];have n7:=Ge.new (o:=.lst (rs.map .str)) EV;have gD:=gC.trans n7;have e7:af M8 p7 (.lst (rs.map .str)) p7=some (.lst (rs.map .str)):=aa;have e6:=n7 _ _ e6;generalize af M8 p7 (.lst (rs.map .str))=M9 at gD e7 e6;refine⟨_,aj e7,?_⟩;rw[vT];rw[FR]at hc;refine cC (I:=λl ρ M'=>(∃ o4 o5,ρ = [some (.str t),some (.ref p),some (.ref p2),some (.ref p6),o4,o5])/\Ge M9 M'/\fR L0 L1 L2 rs 0=fR L0 L1 L2 (rs.drop l.length) l.length) (ys:=rs.zipIdx) (f:=λx=>.tup [.int (x.2:Nat),.str x.1]) rfl ⟨⟨_,_,rfl⟩,Ge.refl,rfl⟩ (λ_ _ _ hI=>aj (hI.2.1 _ _ e7)) ?_ ?_
   ·rintro l x r ρ M10 ee ⟨⟨o4,o5,rfl⟩,J,U⟩;have Z:=b8 ee;rw[HQ]at Z;obtain⟨EW,EN⟩:=mY ee;have Y:x.1∈rs:=GJ (i:=l.length) (by rw[EN];simp)
    rw[EN,fR]at U;have bad:∀ {M':Mem},Ge M M'->fR L0 L1 L2 rs 0=some (l.length+1)->Q (.int ((x.2:Nat)+1)) M':=λg e=>by
     have:=q _ g;rw[e]at this;rw[EW];exact this
    refine⟨_,rfl,λF hF=>?_⟩;walk_at "st"
    by_cases h399 : 399<l.length
    ·rw[if_pos (.inl h399)]at U;rw[if_pos (by omega)]
     walk_at "st";exact bad (gD.trans J) U
    rw[if_neg (by omega)]
    refine C0 (by omega) (L x.1 (by simp[Y])) (EI x.1 (by simp[Y])) (J _ _ e6) λEX EO=>⟨_,rfl,?_⟩
    have gE:=(gD.trans J).trans EO
    cases hP:cu x.1 L0 L1 L2 with
    | false =>
      rw[hP,if_pos (.inr rfl)]at U;rw[if_pos (by decide)]
      walk_at "st";exact bad gE U
    | true =>
      rw[hP,if_neg (by simp;omega)]at U
      rw[if_neg (by decide)]
      exact hF _ _ ⟨⟨_,_,rfl⟩,J.trans EO,by rw[U,FW];rfl⟩
   ·rintro ρ M10 ⟨⟨o4,o5,rfl⟩,J,U⟩;rw[HQ,J1]at U;have q6:=q _ (gD.trans J);rw[U]at q6;walk_at "st";exact q6
theorem tP (w:Str):okL (aq w 2)=am w 1 81:=by
 have h:=tE (w:=w) (lo:=1) (hi:=81) (by omega)
 cases e:aq w 2 with
 | none =>
   rw[e]at h;unfold okL;refine(II.mpr λz=>?_).symm;obtain⟨i,hi,_⟩:=h.mp z
   cases hi
 | some i =>
   rw[e]at h;unfold okL;dsimp only
   by_cases hb:am w 1 81=true
   ·obtain⟨j,F,h1,h2⟩:=h.mp hb
    cases F
    rw[hb,decide_eq_true (show 1<=i by omega),decide_eq_true (show i<=81 by omega)];rfl
   ·have hf:am w 1 81=false:=by simpa using hb
    rw[hf];refine II.mpr λz=>hb (h.mpr ⟨i,rfl,?_⟩);rw[hX,decide_eq_true_iff,decide_eq_true_iff]at z;omega
theorem yH (row:Str):iZ row=cE row:=by
 unfold iZ cE;simp only[tP]
theorem yI (h:c∉cl w):pa1 w ⟨#[c]⟩=w/\pa3 w ⟨#[c]⟩=KY:=by
 rcases NX w ⟨#[c]⟩ 1 (FE 1) with⟨h0,_⟩|⟨i,r,h0,hi,hk⟩
 ·unfold pa1 pa3 Gh;rw[h0];exact⟨rfl,rfl⟩
 ·have h1:=(iW _ _ _).mp hi;have h2:((cl w).drop i).take 1=[c]:=h1.2;exact absurd (GJ (IT (by rw[h2];simp:c∈((cl w).drop i).take 1))) h
theorem mZ {a:Str}(h:c∉cl a):pa1 (a++⟨#[c]⟩++b) ⟨#[c]⟩=a/\pa3 (a++⟨#[c]⟩++b) ⟨#[c]⟩=b:=by
 have e:=vO (b:=b) h;rw[cD]at e;exact⟨(HF.inj e).1,(HF.inj (HF.inj (HF.inj e).2).2).1⟩
theorem bZ:ay=⟨#[58]⟩:=mk1.2.1
noncomputable def kO (L:Nat) (w:Str) (a:Int):Option Nat:=match FC w ay with
 |[h0,h1]=>if am h1 (a+1) ((L:Nat) - 1)=true/\am (bC h0) 1 1000=true then some (nv h1) else none
 |_=>none
theorem vU (h : 1<=x.length):cl (Hc x none (some 1))=(cl x).take 1:=by
 have e:=slice_closes_to (x:=x) (j:=1) ⟨by decide,by rw[show x.cps.toList.length=x.length from ax x];omega⟩
 have z:=L4 e;rw[z];rfl
theorem jw:cS=⟨#[45]⟩:=mk1.2.2.1
theorem tQ (x:Str):bC x=rest x:=by
 unfold bC rest fi;rw[mk1.2.2.1,qO];have key:Hc x none (some 1)=cS↔(cl x)[0]? = some 45:=by
  rcases Ku x.length with z|z
  ·have h1:=Kb x none (some 1);have hx:cl x=[]:=GG.mp (by rw[ax];exact z)
   rw[hx];constructor
   ·intro e;rw[e,jw]at h1;have:(1:Nat)<=x.length:=h1;omega
   ·intro e;cases e
  ·have h1:=vU (x:=x) z;have j:cl x≠[]:=λe=>by have:=ax x;rw[e]at this;simp at this;omega
   obtain⟨a,r,e⟩:∃ a r,cl x=a::r:=by
    cases h:cl x with
    |nil=>exact absurd h j
    |cons a r=>exact⟨a,r,rfl⟩
   rw[e]at h1 ⊢;constructor
   ·intro h;rw[h,jw,bB]at h1;have : 45=a:=by simpa using h1
    rw[<- this];rfl
   ·intro h;have F:a=45:=by simpa using h
    refine dS ?_;rw[h1,jw,bB,F];rfl
 by_cases h:Hc x none (some 1)=cS
 ·rw[if_pos h,if_pos (decide_eq_true (key.mp h))]
 ·rw[if_neg h,if_neg (by rw[decide_eq_false (λz=>h (key.mpr z))];decide)]
theorem tR (x:Str):(∃ c,dU x=some c)↔am (bC x) 1 1000=true:=by
 rw[tQ,AE];unfold dU
 cases e:aq (rest x) 4 with
 |none=>exact⟨λz=>(by obtain⟨c,F⟩:=z;cases F),λz=>(by obtain⟨i,hi,_⟩:=z;cases hi)⟩
 | some i =>
   dsimp only;constructor
   ·rintro⟨c,F⟩
    split at F
    ·next h=>exact⟨i,rfl,h.1,h.2⟩
    ·cases F
   ·rintro⟨j,J,h1,h2⟩
    cases J
    rw[if_pos ⟨h1,h2⟩];exact⟨_,rfl⟩
variable {m:Nat}
theorem AG {i:Nat}(h:aq w m=some i):i=nv w:=by
 unfold aq at h
 split at h
 ·exact(Hd.inj h).symm
 ·cases h
theorem yJ (hL:L<=81)(w:Str)(a:Int):(match dU (pa1 w ay),aq (pa3 w ay) 2 with
 |some _,some i=>if a<(i:Nat)/\((i:Nat):Int)<(L:Nat) then some i else none
 |_,_=>none)=kO L w a:=by
 unfold kO;have O:=HM w ay;have hf:∀ x∈FC w ay,58∉cl x:=λx hx=>by rw[bZ]at hx;exact N5 _ 58 x hx
 have F:=Mn w ay;rw[bZ]at O;rw[show GD ⟨#[58]⟩ (FC w ⟨#[58]⟩)=GD ⟨#[58]⟩ (FC w ay) from by rw[bZ]]at O
 generalize FC w ay=hs at *
 have J : 58∈cl (pa3 w ay)∨(pa3 w ay)=KY->aq (pa3 w ay) 2=none:=λh=>by
  unfold aq;refine if_neg λz=>?_
  rcases h with h|h
  ·have:=Gf.mp z.2.1 58 h;exact absurd this (by decide)
  ·rw[h]at z;exact absurd z.1.1 (by decide)
 match hs,O,hf,F with
 |[],O,hf,F=>simp at F
 |[x],O,hf,F =>
  have e:x=w:=O;have U:=(yI (w:=w) (c:=58) (by rw[<- e];exact hf x (by simp))).2
  rw[<- bZ]at U;rw[J (.inr U)]
  cases dU (pa1 w ay) <;> rfl
 | x::y::z::r,O,hf,F =>
   have e:w=x++⟨#[58]⟩++GD ⟨#[58]⟩ (y::z::r):=O.symm;have U:=(mZ (b:=GD ⟨#[58]⟩ (y::z::r)) (hf x (by simp))).2
   rw[<- e,<- bZ]at U;rw[J (.inl (by rw[U,bZ,bJ];show 58∈cl y++58::jl 58 ((z::r).map cl);simp))]
   cases dU (pa1 w ay) <;> rfl
 |[x,y],O,hf,F =>
  have e:w=x++⟨#[58]⟩++y:=O.symm;have U:=mZ (b:=y) (hf x (by simp))
  rw[<- e,<- bZ]at U;rw[U.1,U.2];dsimp only;have f1:=tR x;have f2:=tE (w:=y) (lo:=a+1) (hi:=(L:Nat) - 1) (by omega)
  cases hc:dU x with
  | none =>
    rw[if_neg];intro z;obtain⟨c,Y⟩:=f1.mpr z.2;rw[hc]at Y
    cases Y
  | some c =>
    cases hi:aq y 2 with
    | none =>
      rw[if_neg];intro z;obtain⟨i,Z,_⟩:=f2.mp z.1;rw[hi]at Z
      cases Z
    | some i =>
      have en:=AG hi;dsimp only
      by_cases hr:a<(i:Nat)/\((i:Nat):Int)<(L:Nat)
      ·rw[if_pos hr,if_pos ⟨f2.mpr ⟨i,hi,by omega,by omega⟩,f1.mp ⟨c,hc⟩⟩,en]
      ·rw[if_neg hr,if_neg];intro z;obtain⟨j,EI,h1,h2⟩:=f2.mp z.1;rw[hi]at EI
       cases EI
       exact hr ⟨by omega,by omega⟩
theorem vV (w:Str)(r:List Str)(a:Int):dX L (w::r) a=(match kO L w a with|some i=>dX L r (i:Nat)|none=>false):=by
 rw[dX];unfold kO;generalize FC w ay=l
 match l with
 |[]=>rfl
 |[x]=>rfl
 |x::y::z::r=>rfl
 |[x,y] =>
  dsimp only
  by_cases h:am y (a+1) ((L:Nat) - 1)=true/\am (bC x) 1 1000=true
  ·rw[if_pos h,h.1,h.2];rfl
  ·rw[if_neg h];have:(am y (a+1) ((L:Nat) - 1)&&am (bC x) 1 1000)=false:=II.mpr λz=>h (by simpa using z)
   rw[this];rfl
theorem tS {L:Nat}(j:L<=81):∀ (ws:List Str) (ns:List Int) (a:Int),(i4 L ws ns a).isSome=dX L ws a
 |[],ns,a=>rfl
 | w::r,ns,a=>by
   rw[vV,<- yJ j,i4]
   cases dU (pa1 w ay) with
   |none=>rfl
   | some c =>
     cases aq (pa3 w ay) 2 with
     |none=>rfl
     | some i =>
       dsimp only
       by_cases hr:a<(i:Nat)/\((i:Nat):Int)<(L:Nat)
       ·rw[if_pos hr,if_pos hr];exact tS j r (ns.set i c) (i:Nat)
       ·rw[if_neg hr,if_neg hr];rfl
theorem jx (J:L<=81)(t:Str):(aS t L).isSome=cG (FC t (g8 " ")) L:=by
 unfold aS cG;have F:=HM t (g8 " ");have j:=Mn t (g8 " ")
 by_cases h:t=g8 "-"
 ·rw[if_pos h,if_pos (by rw[h];decide +kernel)];rfl
 ·rw[if_neg h,if_neg (λz=>h (by rw[z]at F;exact F.symm)),tS J]
  have:(FC t (g8 " ")).isEmpty=false:=by
   cases hz:FC t (g8 " ") with
   |nil=>rw[hz]at j;simp at j
   |cons _ _=>rfl
  rw[this];simp
noncomputable def aN (A B C:Str):Str:=A++star++B++arr++C
structure Fr (A:Str):Prop where
 s : 32∉cl A
 a : 42∉cl A
 g : 62∉cl A
 n : 10∉cl A
 c:asc A
theorem eI:star=⟨#[32,42,32]⟩:=mk3.1
theorem j4:arr=⟨#[32,62,32]⟩:=mk3.2
theorem n8:sta=⟨#[42]⟩:=by decide +kernel
theorem qR:gt=⟨#[62]⟩:=by decide +kernel
theorem wF:g8 " " = ⟨#[32]⟩:=mk1.1
variable {A B C:Str}
theorem tT (z:Fr A)(F:Fr B)(J:Fr C):FC (aN A B C) (g8 " ")=[A,sta,B,gt,C]:=by
 have e:aN A B C=GD ⟨#[32]⟩ [A,sta,B,gt,C]:=by
  refine dS ?_;rw[bJ];unfold aN;rw[aE,aE,aE,aE,eI,j4,n8,qR];show cl A++[32,42,32]++cl B++[32,62,32]++cl C=cl A++32::([42]++32::(cl B++32::([62]++32::cl C)));simp
 rw[wF,e];refine dh (by simp) λy j=>?_
 simp only[FA,FQ,or_false]at j
 rcases j with rfl|rfl|rfl|rfl|rfl
 ·exact z.s
 ·rw[n8,bB];decide
 ·exact F.s
 ·rw[qR,bB];decide
 ·exact J.s
theorem fS (j:Fr A):FC A (g8 " ")=[A]:=by
 have e:A=GD ⟨#[32]⟩ [A]:=rfl;rw[wF]
 conv=>lhs;rw[e]
 exact dh (by simp) λy z=>by rw[HN.mp z];exact j.s
theorem tU (j:Fr A)(z:Fr B):pa1 (aN A B C) star=A/\pa1 (pa3 (aN A B C) star) arr=B/\pa3 (pa3 (aN A B C) star) arr=C:=by
 have e:aN A B C=A++⟨#[32,42,32]⟩++(B++arr++C):=by unfold aN;rw[eI];simp only[JH]
 have h1:=iX (a:=A) (b:=B++arr++C) (c0:=32) (c1:=42) (c2:=32) j.a (by decide)
 rw[<- e,cD,<- eI]at h1;have F:pa1 (aN A B C) star=A:=(HF.inj h1).1;have J:pa3 (aN A B C) star=B++arr++C:=(HF.inj (HF.inj (HF.inj h1).2).2).1;have h2:=iX (a:=B) (b:=C) (c0:=32) (c1:=62) (c2:=32) z.g (by decide)
 rw[<- j4,cD]at h2;rw[J];exact⟨F,(HF.inj h2).1,(HF.inj (HF.inj (HF.inj h2).2).2).1⟩
theorem qS (h:Fr A):A≠sta/\A≠gt:=by
 refine⟨λe=>?_,λe=>?_⟩
 ·have:=h.a;rw[e,n8,bB]at this;simp at this
 ·have:=h.g;rw[e,qR,bB]at this;simp at this
theorem AH (j:Fr A)(z:Fr B)(F:Fr C)(h0:L0<=81)(h1:L1<=81)(h2:L2<=81):(bR (aN A B C) L0 L1 L2).isNone = !cu (aN A B C) L0 L1 L2:=by
 unfold bR cu;obtain⟨J,L,O⟩:=tU (C:=C) j z;rw[J,L,O,tT j z F];have nA:=qS j;have nB:=qS z;have nC:=qS F;have ns:sta≠gt:=by decide +kernel
 have c1:List.count sta [A,sta,B,gt,C]=1:=by simp[LG,nA.1,nB.1,nC.1,Ne.symm ns]
 have c2:List.count gt [A,sta,B,gt,C]=1:=by simp[LG,nA.2,nB.2,nC.2,ns]
 have U:List.idxOf sta [A,sta,B,gt,C]=1:=by simp[LH,beq_false_of_ne nA.1]
 have Y:List.idxOf gt [A,sta,B,gt,C]=3:=by simp[LH,beq_false_of_ne nA.2,beq_false_of_ne nB.2,beq_false_of_ne ns]
 dsimp only;rw[c1,c2,U,Y,if_pos (by decide)]
 have fA:=jx h0 A;have fB:=jx h1 B;have fC:=jx h2 C;rw[fS j]at fA;rw[fS z]at fB;rw[fS F]at fC;show _ = !(cG [A] L0&&(cG [B] L1&&cG [C] L2));rw[<- fA,<- fB,<- fC]
 cases aS A L0 <;> cases aS B L1 <;> cases aS C L2 <;> rfl
theorem wG {L0 L1 L2:Nat}:∀ (rs:List Str) (k:Nat),(∀ r∈rs,(bR r L0 L1 L2).isNone = !cu r L0 L1 L2)->bS L0 L1 L2 rs (k+1)=fR L0 L1 L2 rs k
 |[],k,_=>rfl
 | r::rs,k,h=>by
   rw[bS,fR,wG rs (k+1) λx hx=>h x (FL _ hx),h r (by simp)]
   have:((!cu r L0 L1 L2)=true∨400<k+1)↔(399<k∨cu r L0 L1 L2=false):=by
    cases cu r L0 L1 L2 <;> simp <;> omega
   by_cases h9:(!cu r L0 L1 L2)=true∨400<k+1
   ·rw[if_pos h9,if_pos (this.mp h9)]
   ·rw[if_neg h9,if_neg (λz=>h9 (this.mpr z))]
theorem AI {t:Str}(e:FC t nl=h::rs)(hr:∀ r∈rs,∃ A B C,Fr A/\Fr B/\Fr C/\r=aN A B C):dW t=fbO t:=by
 unfold dW fbO;rw[e];dsimp only;rw[yH]
 cases hl:cE h with
 |none=>rfl
 | some ls =>
   obtain⟨a,b,c,rfl,h0,h1,h2⟩:=eo hl;exact wG rs 0 λr j=>by
    obtain⟨A,B,C,z,F,J,rfl⟩:=hr r j;exact AH z F J h0.2 h1.2 h2.2
variable {ps:List Pr}
theorem tV (hn : 5<=n){t:Str}(e:FC t nl=h::rs)(hl:cE h=some [L0,L1,L2])(U:rs.map (λr=>bR r L0 L1 L2)=ps.map some)(ht:t.length<=100000)(ha:asc t)(j:∀ w∈h::rs,w.length<=600)(hc:rs.length<=400)(q:∀ pr M',Ge M M'->M pr=none->M' pr=some (.lst (ps.map prD))->Q (.tup [.int (L0:Nat),.int (L1:Nat),.int (L2:Nat),.ref pr]) M'):phi tab n 5 [.str t] M Q:=by
 refine aH (by omega) rfl rfl (ρ:=[some _,none,none,none,none,none,none]) rfl ?_
 unfold d5 b5;walk_at "st";refine⟨⟨_,rfl⟩,_,rfl,_,rfl,by rw[FH];rfl,by rw[Fy];first|decide|omega,λp EK=>?_⟩
 have Y:∀ w∈h::rs,asc w:=λw hw=>by rw[<- e]at hw;unfold nl at hw;rw[mk1.2.2.2.1]at hw;exact bH ha hw
 show wSs _ _ _ [_,some _,_,_,_,_,_] (af M p (.lst ((FC t nl).map .str)));rw[e];have g1:=Ge.new (o:=.lst ((h::rs).map .str)) EK;have e1:af M p (.lst ((h::rs).map .str)) p=some (.lst (.str h::rs.map .str)):=aa;generalize af M p (.lst ((h::rs).map .str))=M1 at g1 e1;obtain⟨_,_,_,EL,h0,h1,h2⟩:=eo hl
 cases EL
 walk_at "st";refine aD e1 (d:=.str h) (by simp[atI,ixN]) ?_
 refine wB (by omega) (j h (by simp)) (Y h (by simp)) λM2 g2=>?_
 rw[hl];unfold dL;walk_at "st";refine⟨false,rfl,false,rfl,?_⟩;rw[if_neg Fu];walk_at "st";refine⟨GX _,λp2 J=>?_⟩;have Z:M p2=none:=by
  cases e:M p2 with
  |none=>rfl
  |some o=>rw[g2 _ _ (g1 _ _ e)]at J;cases J
 have e2:af M2 p2 (.lst []) p2=some (.lst []):=aa;have e3:=Ge.new (o:=.lst []) J _ _ (g2 _ _ e1);have g3:=(g1.trans g2).trans (Ge.new (o:=.lst []) J);generalize af M2 p2 (.lst [])=M3 at e2 e3 g3;walk_at "st";refine⟨_,e3,λp3 O=>?_⟩;rw[eF];have EM:p3≠p2:=λz=>by subst z;rw[e2]at O;cases O
 have e4:af M3 p3 (.lst (rs.map .str)) p3=some (.lst (rs.map .str)):=aa;have g4:=Ge.new (o:=.lst (rs.map .str)) O;have e5:=g4 _ _ e2;have g5:=g3.trans g4;generalize af M3 p3 (.lst (rs.map .str))=M4 at e4 g4 e5 g5;refine⟨_,rfl,_,e4,?_⟩;rw[kf];have EN:rs.length=ps.length:=by have:=congrArg List.length U;simpa using this
 refine cC (I:=λl ρ M'=>(∃ o4 o5 o6,ρ = [some (.str t),some (.ref p),some (.tup [.int (L0:Nat),.int (L1:Nat),.int (L2:Nat)]),some (.ref p2),o4,o5,o6])/\Ge M M'/\M' p2=some (.lst ((ps.take l.length).map prD))/\M' p3=some (.lst (rs.map .str))) (ys:=rs.zipIdx) (f:=λx=>.tup [.int ((x.2:Nat)+1),.str x.1]) rfl ⟨⟨_,_,_,rfl⟩,g5,e5,e4⟩ (λ_ _ _ hI=>aj hI.2.2.2) ?_ ?_
 ·rintro l x r ρ M5 ee ⟨⟨o4,o5,o6,rfl⟩,g6,e6,e7⟩;have EO:=b8 ee;rw[HQ]at EO;obtain⟨ER,EI⟩:=mY ee;have L:x.1∈rs:=GJ (i:=l.length) (by rw[EI];simp)
  have EQ:rs[l.length]? = some x.1:=by
   have:=congrArg (λz=>z.head?) EI;simpa[List.head?_drop]using this
  obtain⟨pr,EJ⟩:∃ pr,ps[l.length]? = some pr:=⟨_,FP (by omega)⟩
  have hP:bR x.1 L0 L1 L2=some pr:=by
   have:=congrArg (λz=>z[l.length]?) U;simp only[Gj,EQ,EJ,HX]at this;exact Hd.inj this
  refine⟨_,rfl,λF hF=>?_⟩;walk_at "st";refine wz (by omega) (j x.1 (by simp[L])) (Y x.1 (by simp[L])) h0.2 h1.2 h2.2 λM6 g7=>?_
  rw[hP];unfold dP;have e8:=g7 _ _ e6;have e9:=g7 _ _ e7;walk_at "st";refine⟨false,rfl,false,rfl,?_⟩;rw[if_neg Fu,if_neg (by omega)]
  walk_at "st";refine⟨⟨_,e8⟩,_,_,_,rfl,rfl,e8,by rw[FO,GU,Fy];omega,?_⟩
  refine hF _ _ ⟨⟨_,_,_,rfl⟩,λa o ea=>?_,?_,by rw[aB EM];exact e9⟩
  ·rw[aB (λz=>by rw[z,Z]at ea;cases ea)];exact g7 _ _ (g6 _ _ ea)
  ·rw[aa,FW,Hj,List.take_add_one,EJ,Gr];rfl
 ·rintro ρ M5 ⟨⟨o4,o5,o6,rfl⟩,g6,e6,e7⟩;rw[HQ,EN,Lf]at e6;walk_at "st";exact⟨by rw[Fy];first|decide|omega,.inr trivial,by rw[Fy];first|decide|omega,q p2 _ g6 Z e6⟩
theorem cb (j : 2<=n):AC tab n 9:=λz h1 h2 q=>yz (s:=ar 18) (fm:=7) rfl (kb (x:="_law_number") (s:=ar 16) rfl (by omega)) j z h1 h2 q
theorem kP {ds:List Int}{r:Int}(h0 : 0<=r)(h1:r<ds.length):∃ v,v∈ds/\atI (ds.map D.int) r=some (.int v):=by
 obtain⟨x,hx,j⟩:=i3 (xs:=ds.map D.int) h0 (by rw[FO];exact h1)
 obtain⟨v,z,rfl⟩:=Ib.mp (I8 j);exact⟨v,z,hx⟩
theorem C1 {ds:List Str}{r:Int}(h0 : 0<=r)(h1:r<ds.length):∃ v,v∈ds/\atI (ds.map D.str) r=some (.str v):=by
 obtain⟨x,hx,j⟩:=i3 (xs:=ds.map D.str) h0 (by rw[FO];exact h1)
 obtain⟨v,z,rfl⟩:=Ib.mp (I8 j);exact⟨v,z,hx⟩
theorem nh (n:Nat):∀ c∈cl (tx (n:Nat)),48<=c/\c<=57:=by
 intro c z;rw[el]at z;obtain⟨ch,j,e⟩:=Ib.mp z;rw[<- e];exact digit_range (Nat.isDigit_of_mem_toDigits (by decide) (by decide) j)
theorem kQ (h:∀ c∈cl A,(48<=c/\c<=58)∨c=45∨c=43):Fr A:=by
 refine⟨λz=>?_,λz=>?_,λz=>?_,λz=>?_,λc z=>?_⟩ <;> (have:=h _ z;omega)
theorem yK {W:Str}(z:∀ c∈cl W,(48<=c/\c<=58)∨c=45∨c=43)(N K:Nat):Fr (W++tx (N:Nat)++g8 ":" ++ tx (K:Nat)):=by
 refine kQ λc j=>?_;rw[aE,aE,aE,mk1.2.1,bB]at j;simp only[Hy,HN]at j
 rcases j with((j|j)|j)|j
 ·exact z c j
 ·have:=nh N c j;omega
 ·omega
 ·have:=nh K c j;omega
structure Bd (t:Str):Prop where
 ex:∃ (L0 L1 L2:Nat) (A B C:Str),(L0<=100/\L1<=100/\L2<=100)/\(Fr A/\Fr B/\Fr C)/\(A.length<=50/\B.length<=50/\C.length<=50)/\t=aP L0 L1 L2++nl++aN A B C
noncomputable def tB4:MSs:=(.cons (.ret (.bin .add (.bin .add (.bin .add (.bin .add (.bin .add (.bin .add (.bin .add (.str (g8 "scheme ")) (.join (.str (g8 " ")) (.comp [none] ["_law_one"] (.last (.seq (.var 5)) (.name 0) .nil (.blt .str (.cons (.var 0) .nil)))))) (.str (g8 "\n"))) (.ix (.var 7) (.int 0))) (.str (g8 " * "))) (.ix (.var 7) (.int 1))) (.str (g8 " > "))) (.ix (.var 7) (.int 2))))
 .nil)
noncomputable def tB3:MSs:=(.cons (.asg (.name 7) (.lst (.cons (.str (g8 "1:0")) (.cons (.str (g8 "-1:0")) (.cons (.str (g8 "-")) .nil)))))
 (.cons (.put (.var 7) (.var 6) (.bin .add (.bin .add (.var 3) (.str (g8 ":"))) (.blt .str (.cons (.var 4) .nil))))
 (.cons (.ret (.bin .add (.bin .add (.bin .add (.bin .add (.bin .add (.bin .add (.bin .add (.str (g8 "scheme ")) (.join (.str (g8 " ")) (.comp [none] ["_law_one"] (.last (.seq (.var 5)) (.name 0) .nil (.blt .str (.cons (.var 0) .nil)))))) (.str (g8 "\n"))) (.ix (.var 7) (.int 0))) (.str (g8 " * "))) (.ix (.var 7) (.int 1))) (.str (g8 " > "))) (.ix (.var 7) (.int 2))))
 .nil)))
noncomputable def tB2:MSs:=(.cons (.ite (.cmp .eq (.call 9 (.cons (.var 0) (.cons (.int 4) .nil))) (.int 0)) (.cons (.put (.var 5) (.call 9 (.cons (.var 0) (.cons (.int 3) .nil))) (.ix (.lst (.cons (.int 0) (.cons (.int 82) (.cons (.int 81) (.cons (.int 1) (.cons (.int 100) .nil)))))) (.call 9 (.cons (.var 0) (.cons (.int 5) .nil)))))
 .nil) .nil)
 (.cons (.asg (.name 7) (.lst (.cons (.str (g8 "1:0")) (.cons (.str (g8 "-1:0")) (.cons (.str (g8 "-")) .nil)))))
 (.cons (.put (.var 7) (.var 6) (.bin .add (.bin .add (.var 3) (.str (g8 ":"))) (.blt .str (.cons (.var 4) .nil))))
 (.cons (.ret (.bin .add (.bin .add (.bin .add (.bin .add (.bin .add (.bin .add (.bin .add (.str (g8 "scheme ")) (.join (.str (g8 " ")) (.comp [none] ["_law_one"] (.last (.seq (.var 5)) (.name 0) .nil (.blt .str (.cons (.var 0) .nil)))))) (.str (g8 "\n"))) (.ix (.var 7) (.int 0))) (.str (g8 " * "))) (.ix (.var 7) (.int 1))) (.str (g8 " > "))) (.ix (.var 7) (.int 2))))
 .nil))))
theorem AJ (hn : 3<=n){b:Addr}(hb:Box b M)(q:∀ t M',Bd t->Q (.str t) M'):phi tab n 16 [.ref b] M Q:=by
 refine aH (by omega) rfl rfl (ρ:=[some _,none,none,none,none,none,none,none]) rfl ?_
 unfold d16 b16;have nb:∀ {p:Addr} {M':Mem},Box b M'->M' p=none->p≠b:=λhb hp z=>by obtain⟨x,y,w,e⟩:=hb;rw[<- z,hp]at e;cases e
 have step:∀ {M':Mem} {ds:List D} {m:Int} {K:QD},Box b M'->0<m->m<=100000->ds.length<=100->(∀ r M2,0<=r->r<m->Bx b M' M2 -> ∀ p,M2 p=some (.lst ds)->wIx (.ref p) (.int r) M2 K) ->
  (ds.length<=Fz /\ ∀ p,M' p=none->phi tab (n - 1) 9 [.ref b,.int m] (af M' p (.lst ds)) λy M2=>wIx (.ref p) y M2 K):=λ{M' ds m K} hb' m0 m1 hd k=>by
  refine⟨by rw[Fy];first|decide|omega,λp hp=>?_⟩
  have Y:=nb hb' hp;have x0:=(Bx.refl hb').upd (o:=.lst ds) hp Y;refine cb (by omega) x0.box m0 (by omega) λr M2 r0 r1 x2=>k r M2 r0 r1 (x0.trans x2) p (x2.keep p _ Y aa)
 walk_at "st";refine cb (by omega) hb (by decide) (by decide) λr M1 r0 r1 x1=>?_
 walk_at "wp";refine step (ds:=[D.int 1,.int 81,.int 80,.int 9,.int 10,.int 11,.int (2+r)]) x1.box (by decide) (by decide) (by simp) λs M2 s0 s1 x2 p e2=>?_
 obtain⟨L',hL,J⟩:=kP (ds:=[1,81,80,9,10,11,2+r]) s0 s1;obtain⟨L,rfl,l1,l2⟩:∃ L:Nat,L'=(L:Int)/\1<=L/\L<=81:=by
  simp only[FA,FQ,or_false]at hL;exact⟨L'.toNat,by omega,by omega,by omega⟩
 refine aD e2 J ?_;clear J hL e2;walk_at "st";refine⟨by decide,by decide,by decide,?_⟩
 refine cb (by omega) x2.box (by decide) (by decide) λr M3 r0 r1 x3=>?_
 walk_at "wp";refine step (ds:=[D.int 0,.int 1,.int 1000,.int 1001,.int 999,.int (10 ^ OH 9),.int (1+r),.int 10000]) x3.box (by decide) (by decide) (by simp) λs M4 s0 s1 x4 p e4=>?_
 obtain⟨N',hN,J⟩:=kP (ds:=[0,1,1000,1001,999,10 ^ OH 9,1+r,10000]) s0 s1;have e9:(10:Int) ^ OH 9=1000000000:=by decide
 obtain⟨N,rfl,n2⟩:∃ N:Nat,N'=(N:Int)/\N<=1000000000:=by
  simp only[FA,FQ,or_false,e9]at hN;exact⟨N'.toNat,by omega,by omega⟩
 refine aD e4 J ?_;clear J hN e4;walk_at "st";refine step (ds:=[D.str (g8 ""),.str (g8 ""),.str (g8 ""),.str (g8 "-"),.str (g8 "-"),.str (g8 "0"),.str (g8 "+")]) x4.box (by decide) (by decide) (by simp) λs M5 s0 s1 x5 p e5=>?_
 obtain⟨W,hW,J⟩:=C1 (ds:=[g8 "",g8 "",g8 "",g8 "-",g8 "-",g8 "0",g8 "+"]) s0 s1;refine aD e5 J ?_;clear J e5;walk_at "wp";have F8:NF (Lw ((N:Nat):Int))<1920:=by
  rw[Iz]
  by_cases h0:N=0
  ·rw[h0];decide
  ·exact J0 ((JT (k:=30) h0).mpr (by omega)) (by decide)
 refine⟨_,rfl,F8,?_⟩;have F9:W.length<=1 /\ ∀ c∈cl W,(48<=c/\c<=58)∨c=45∨c=43:=by
  have z:∀ v∈[g8 "",g8 "",g8 "",g8 "-",g8 "-",g8 "0",g8 "+"],v.length<=1 /\ ∀ c∈cl v,(48<=c/\c<=58)∨c=45∨c=43:=by decide +kernel
  exact z W hW
 have Fl:(g8 (Hh ((N:Nat):Int))).length<=20:=Gn (N8 (by omega) (by omega)) (by decide)
 dsimp only;rw[dN];refine⟨by rw[Fy];first|decide|omega,?_⟩
 walk_at "st";refine step (ds:=[D.int ((L:Nat) - 1),.int ((L:Nat) - 1),.int (L:Nat),.int 0,.int 81,.int 100]) x5.box (by decide) (by decide) (by simp) λs M6 s0 s1 x6 p e6=>?_
 obtain⟨K',hK,J⟩:=kP (ds:=[((L:Nat):Int) - 1,((L:Nat):Int) - 1,(L:Nat),0,81,100]) s0 s1;obtain⟨K,rfl,k2⟩:∃ K:Nat,K'=(K:Int)/\K<=100:=by
  simp only[FA,FQ,or_false]at hK;exact⟨K'.toNat,by omega,by omega⟩
 refine aD e6 J ?_;clear J hK e6;walk_at "st";refine⟨by rw[Fy];first|decide|omega,λp5 EV=>?_⟩
 have Y:=nb x6.box EV;have x7:=(Bx.refl x6.box).upd (o:=.lst [D.int (L:Nat),.int 81,.int 81]) EV Y;have e7:af M6 p5 (.lst [D.int (L:Nat),.int 81,.int 81]) p5=some (.lst [D.int (L:Nat),.int 81,.int 81]):=aa;generalize af M6 p5 (.lst [D.int (L:Nat),.int 81,.int 81])=M7 at x7 e7;walk_at "st";refine cb (by omega) x7.box (by decide) (by decide) λsd M8 r0 r1 x8=>?_
 have e8:=x8.keep p5 _ Y e7;have fin:∀ {O:Mem} {qa:Addr} {L0 L1 L2:Nat},Box b O->O qa=some (.lst [.int (L0:Nat),.int (L1:Nat),.int (L2:Nat)])->L0<=100->L1<=100->L2<=100 -> ∀ rs:Int,0<=rs->rs<3 ->
  wSs (phi tab (n - 1)) tB3 { nx:=λ_ M'=>Q .non M',rt:=Q } [some (.ref b),some (.int (L:Nat)),some (.int (N:Nat)),some (.str (W++g8 (Hh ((N:Nat):Int)))),some (.int (K:Nat)),some (.ref qa),some (.int rs),none] O:=λ{O qa L0 L1 L2} hb9 h9 h0 h1 h2 rs q0 q1=>by
  unfold tB3;walk_at "st";refine⟨by rw[Fy];first|decide|omega,λpp EM=>?_⟩
  have EN:qa≠pp:=λz=>by rw[z]at h9;rw[h9]at EM;cases EM
  have n9:=Ge.new (o:=.lst [D.str (g8 "1:0"),.str (g8 "-1:0"),.str (g8 "-")]) EM;have e9:=n9 _ _ h9;have f9:af O pp (.lst [D.str (g8 "1:0"),.str (g8 "-1:0"),.str (g8 "-")]) pp=some (.lst [D.str (g8 "1:0"),.str (g8 "-1:0"),.str (g8 "-")]):=aa;generalize af O pp (.lst [D.str (g8 "1:0"),.str (g8 "-1:0"),.str (g8 "-")])=EW at e9 f9;have Z:∀ {A B C:Str} {U:Mem},(Fr A/\Fr B/\Fr C)->(A.length<=50/\B.length<=50/\C.length<=50)->U pp=some (.lst [.str A,.str B,.str C])->U qa=some (.lst [.int (L0:Nat),.int (L1:Nat),.int (L2:Nat)]) ->
   wSs (phi tab (n - 1)) tB4 { nx:=λ_ M'=>Q .non M',rt:=Q } [some (.ref b),some (.int (L:Nat)),some (.int (N:Nat)),some (.str (W++g8 (Hh ((N:Nat):Int)))),some (.int (K:Nat)),some (.ref qa),some (.int rs),some (.ref pp)] U:=λ{A B C U} hF hL EO EX=>by
   unfold tB4;walk_at "st";refine⟨⟨_,rfl⟩,_,aj EX,?_⟩;have lx:∀ x:Nat,x<=100->(tx (x:Nat)).length<=5:=λx hx=>tu (i:=(x:Int)) (by omega)
   refine bq (I:=λl ρ M' acc=>(∃ o,ρ = [o])/\M'=U/\acc=l.map λx:Nat=>.str (tx (x:Nat))) (ys:=[L0,L1,L2]) (f:=λx:Nat=>.int (x:Nat)) rfl ⟨⟨_,rfl⟩,rfl,rfl⟩ (λ_ _ _ _ hI=>by rw[hI.2.1];exact aj EX) ?_ ?_
   ·rintro l x r ρ EI acc ee ⟨⟨o,rfl⟩,rfl,rfl⟩;have hm:x∈[L0,L1,L2]:=by rw[ee];simp
    have Fa:=b8 ee;have hx:x<=100:=by
     simp only[FA,FQ,or_false]at hm
     rcases hm with rfl|rfl|rfl <;> assumption
    refine⟨_,rfl,λF hF=>?_⟩;walk_at "wp";have Fb:NF (Lw ((x:Nat):Int))<1920:=by
     rw[Iz]
     by_cases h0:x=0
     ·rw[h0];decide
     ·exact J0 ((JT (k:=7) h0).mpr (by omega)) (by decide)
    refine⟨_,rfl,Fb,by rw[FO,Fy];simp only[FR,HA]at Fa;omega,hF _ _ _ ⟨⟨_,rfl⟩,rfl,by rw[Gr];rfl⟩⟩
   ·rintro ρ EI acc ⟨_,rfl,rfl⟩ EQ hp12;have Fc:=Ge.new (o:=.lst ([L0,L1,L2].map λx:Nat=>D.str (tx (x:Nat)))) hp12;have EJ:=Fc _ _ EO;have EY:af EI EQ (.lst ([L0,L1,L2].map λx:Nat=>D.str (tx (x:Nat)))) EQ=some (.lst (([tx L0,tx L1,tx L2]:List Str).map D.str)):=aa;generalize af EI EQ (.lst ([L0,L1,L2].map λx:Nat=>D.str (tx (x:Nat))))=M13 at EJ EY;have a0:=lx L0 h0;have a1:=lx L1 h1;have a2:=lx L2 h2;have js:g8 "scheme " ++ Ma (g8 " ") [tx L0,tx L1,tx L2]=aP L0 L1 L2:=by rw[show Ma (g8 " ") [tx L0,tx L1,tx L2]=GD (g8 " ") [tx L0,tx L1,tx L2] from LK _ _];exact vN L0 L1 L2
    have EZ:(g8 " ").length=1:=by rw[FH];rfl
    have Fd:(g8 "scheme ").length=7:=by rw[FH];rfl
    have Fn:(g8 "\n").length=1:=by rw[FH];rfl
    have Fo:(g8 " * ").length=3:=by rw[FH];rfl
    have Fp:(g8 " > ").length=3:=by rw[FH];rfl
    have hh:(aP L0 L1 L2).length<=100:=by unfold aP;simp only[FX,EZ,Fd];omega
    have hj:(Ma (g8 " ") [tx L0,tx L1,tx L2]).length<=100:=by have:=congrArg MP js;rw[FX]at this;omega
    refine⟨_,rfl,[tx L0,tx L1,tx L2],EY,by simp[EZ];omega,by rw[Fy];first|decide|omega,by rw[js,Fy];omega,?_⟩
    rw[js];refine aD EJ (d:=.str A) rfl ?_;rw[dN];refine⟨by rw[FX,Fy];omega,?_⟩
    rw[dN];refine⟨by simp only[FX];rw[Fy];first|decide|omega,?_⟩
    refine aD EJ (d:=.str B) rfl ?_;rw[dN];refine⟨by simp only[FX];rw[Fy];first|decide|omega,?_⟩
    rw[dN];refine⟨by simp only[FX];rw[Fy];first|decide|omega,?_⟩
    refine aD EJ (d:=.str C) rfl ?_;rw[dN];refine⟨by simp only[FX];rw[Fy];first|decide|omega,?_⟩
    refine q _ _ ⟨L0,L1,L2,A,B,C,⟨h0,h1,h2⟩,hF,hL,?_⟩;unfold aN star arr nl;simp only[JH]
  have Fe:NF (Lw ((K:Nat):Int))<1920:=by
   rw[Iz]
   by_cases h0:K=0
   ·rw[h0];decide
   ·exact J0 ((JT (k:=7) h0).mpr (by omega)) (by decide)
  have Fq:(g8 (Hh ((K:Nat):Int))).length<=20:=Gn (N8 (by omega) (by omega)) (by decide)
  have Fs:(g8 ":").length=1:=by rw[FH];rfl
  walk_at "st";refine⟨by rw[FX,Fy];omega,?_⟩
  refine⟨_,rfl,Fe,?_⟩;dsimp only;rw[dN];refine⟨by simp only[FX];rw[Fy];first|decide|omega,?_⟩
  have ER:=yK F9.2 N K;have f1:Fr (g8 "1:0"):=kQ (by decide +kernel)
  have f2:Fr (g8 "-1:0"):=kQ (by decide +kernel)
  have f3:Fr (g8 "-"):=kQ (by decide +kernel)
  have g1:(g8 "1:0").length<=50:=by decide +kernel
  have g2:(g8 "-1:0").length<=50:=by decide +kernel
  have g3:(g8 "-").length<=50:=by decide +kernel
  have gX:(W++g8 (Hh ((N:Nat):Int))++g8 ":" ++ g8 (Hh ((K:Nat):Int))).length<=50:=by simp only[FX];omega
  have Ff:rs=0∨rs=1∨rs=2:=by omega
  rcases Ff with rfl|rfl|rfl
  ·refine bA f9 (j:=0) rfl ?_;exact Z (A:=_) (B:=_) (C:=_) ⟨ER,f2,f3⟩ ⟨gX,g2,g3⟩ aa (by rw[aB EN];exact e9)
  ·refine bA f9 (j:=1) rfl ?_;exact Z (A:=_) (B:=_) (C:=_) ⟨f1,ER,f3⟩ ⟨g1,gX,g3⟩ aa (by rw[aB EN];exact e9)
  ·refine bA f9 (j:=2) rfl ?_;exact Z (A:=_) (B:=_) (C:=_) ⟨f1,f2,ER⟩ ⟨g1,g2,gX⟩ aa (by rw[aB EN];exact e9)
 have F0:∀ {O:Mem} {qa:Addr} {L0 L1 L2:Nat},Box b O->qa≠b->O qa=some (.lst [.int (L0:Nat),.int (L1:Nat),.int (L2:Nat)])->L0<=100->L1<=100->L2<=100 -> ∀ rs:Int,0<=rs->rs<3 ->
  wSs (phi tab (n - 1)) tB2 { nx:=λ_ M'=>Q .non M',rt:=Q } [some (.ref b),some (.int (L:Nat)),some (.int (N:Nat)),some (.str (W++g8 (Hh ((N:Nat):Int)))),some (.int (K:Nat)),some (.ref qa),some (.int rs),none] O:=λ{O qa L0 L1 L2} hb9 EK h9 h0 h1 h2 rs q0 q1=>by
  unfold tB2;walk_at "st";refine cb (by omega) hb9 (by decide) (by decide) λw4 EW w0 w1 ES=>?_
  have F3:=ES.keep qa _ EK h9;rw[ww];refine⟨_,rfl,?_⟩
  by_cases F4:w4=0
  ·rw[if_pos (by simpa using F4)]
   walk_at "st";refine step (ds:=[D.int 0,.int 82,.int 81,.int 1,.int 100]) ES.box (by decide) (by decide) (by decide) λs U s0 s1 F5 p EO=>?_
   obtain⟨V',hV,J⟩:=kP (ds:=[0,82,81,1,100]) s0 s1;obtain⟨V,rfl,v2⟩:∃ V:Nat,V'=(V:Int)/\V<=100:=by
    simp only[FA,FQ,or_false]at hV;exact⟨V'.toNat,by omega,by omega⟩
   refine aD EO J ?_;have Fg:=F5.keep qa _ EK F3;refine cb (by omega) F5.box (by decide) (by decide) λj EI j0 j1 F6=>?_
   have ET:=F6.keep qa _ EK Fg;have EU:∀ o,Box b (af EI qa o):=λo=>by
    obtain⟨x,y,z,e⟩:=F6.box;exact⟨x,y,z,by rw[aB EK.symm];exact e⟩
   have j3:j=0∨j=1∨j=2:=by omega
   rcases j3 with rfl|rfl|rfl
   ·refine bA ET (j:=0) rfl ?_;exact fin (L0:=V) (L1:=L1) (L2:=L2) (EU _) aa v2 h1 h2 rs q0 q1
   ·refine bA ET (j:=1) rfl ?_;exact fin (L0:=L0) (L1:=V) (L2:=L2) (EU _) aa h0 v2 h2 rs q0 q1
   ·refine bA ET (j:=2) rfl ?_;exact fin (L0:=L0) (L1:=L1) (L2:=V) (EU _) aa h0 h1 v2 rs q0 q1
  ·rw[if_neg (by simpa using F4)]
   exact fin ES.box F3 h0 h1 h2 rs q0 q1
 walk_at "st";have Fh:sd=0∨sd=1∨sd=2:=by omega
 have go:∀ (xs ys:List D) (L0 L1 L2:Nat),bF [D.int (L:Nat),.int 81,.int 81] (some (3 - sd)) none=xs->bF [D.int (L:Nat),.int 81,.int 81] none (some (3 - sd))=ys->xs++ys=[D.int (L0:Nat),.int (L1:Nat),.int (L2:Nat)]->L0<=100->L1<=100->L2<=100 ->
  dD (D.ref p5) (some (3 - sd)) none M8 λx M1=>dD (D.ref p5) none (some (3 - sd)) M1 λy M2=>et x y M2 λx M1 =>
   wSs (phi tab (n - 1)) tB2 { nx:=λ_ M'=>Q .non M',rt:=Q } [some (.ref b),some (.int (L:Nat)),some (.int (N:Nat)),some (.str (W++g8 (Hh ((N:Nat):Int)))),some (.int (K:Nat)),some x,some (.int sd),none] M1:=λxs ys L0 L1 L2 ex ey exy h0 h1 h2=>by
  refine⟨_,e8,λpa Fi=>?_⟩;rw[ex];have n1:=Ge.new (o:=.lst xs) Fi;have e9:=n1 _ _ e8;have fa:af M8 pa (.lst xs) pa=some (.lst xs):=aa;have b9:Box b (af M8 pa (.lst xs)):=by obtain⟨x,y,z,e⟩:=x8.box;exact⟨x,y,z,n1 _ _ e⟩
  generalize af M8 pa (.lst xs)=O at e9 fa b9;refine⟨_,e9,λpc Fj=>?_⟩;rw[ey];have n2:=Ge.new (o:=.lst ys) Fj;have F7:=n2 _ _ fa;have fc:af O pc (.lst ys) pc=some (.lst ys):=aa;have b10:Box b (af O pc (.lst ys)):=by obtain⟨x,y,z,e⟩:=b9;exact⟨x,y,z,n2 _ _ e⟩
  generalize af O pc (.lst ys)=EW at F7 fc b10;dsimp only;rw[tm];have hle:xs.length+ys.length=3:=by rw[<- FW,exy];rfl
  refine⟨xs,ys,F7,fc,by rw[hle,Fy];omega,λpd Fk=>?_⟩
  rw[exy];have EL:=nb b10 Fk;refine F0 (L0:=L0) (L1:=L1) (L2:=L2) ?_ EL aa h0 h1 h2 sd r0 r1;obtain⟨x,y,z,e⟩:=b10;exact⟨x,y,z,by rw[aB EL.symm];exact e⟩
 rcases Fh with rfl|rfl|rfl
 ·exact go [] [.int (L:Nat),.int 81,.int 81] L 81 81 rfl rfl rfl (by omega) (by omega) (by omega)
 ·exact go [.int 81] [.int (L:Nat),.int 81] 81 L 81 rfl rfl rfl (by omega) (by omega) (by omega)
 ·exact go [.int 81,.int 81] [.int (L:Nat)] 81 81 L rfl rfl rfl (by omega) (by omega) (by omega)
theorem gv:nl=⟨#[10]⟩:=mk1.2.2.2.1
theorem be {a:Str}(z:asc a)(F:asc b):asc (a++b):=λc j=>by
 rw[aE]at j
 rcases Hy.mp j with h|h
 ·exact z c h
 ·exact F c h
theorem ni (n:Nat):asc (tx (n:Nat)):=λc j=>by have:=nh n c j;omega
theorem eJ {a:Str}(h:(cl a).all (λc=>decide (c<128))=true):asc a:=λc j=>by simpa using Gf.mp h c j
theorem vW (a b c:Nat):asc (aP a b c):=by
 unfold aP;refine be (be (be (be (be ?_ (ni a)) ?_) (ni b)) ?_) (ni c)
 all_goals exact eJ (by decide +kernel)
theorem nj {a b:Nat}(F:a<=100)(J:b<=100)(L:c<=100):(aP a b c).length<=100:=by
 have lx:∀ x:Nat,x<=100->(tx (x:Nat)).length<=5:=λx hx=>tu (i:=(x:Int)) (by omega)
 have j:(g8 " ").length=1:=by rw[FH];rfl
 have z:(g8 "scheme ").length=7:=by rw[FH];rfl
 have:=lx a F;have:=lx b J;have:=lx c L;unfold aP;simp only[FX,j,z];omega
theorem yL (j:Fr A)(z:Fr B)(F:Fr C):asc (aN A B C):=by
 unfold aN;refine be (be (be (be j.c ?_) z.c) ?_) F.c
 all_goals exact eJ (by decide +kernel)
theorem vX (j:Fr A)(z:Fr B)(F:Fr C) : 10∉cl (aN A B C):=by
 unfold aN;rw[aE,aE,aE,aE,eI,j4];simp only[Hy,not_or];exact⟨⟨⟨⟨j.n,by decide⟩,z.n⟩,by decide⟩,F.n⟩
theorem oS (F:A.length<=50)(J:B.length<=50)(L:C.length<=50):(aN A B C).length<=200:=by
 have j:star.length=3:=by rw[eI];rfl
 have z:arr.length=3:=by rw[j4];rfl
 unfold aN;simp only[FX,j,z];omega
theorem vY (z:Fr A)(F:Fr B)(J:Fr C):FC (aP L0 L1 L2++nl++aN A B C) nl=[aP L0 L1 L2,aN A B C]:=by
 have e:aP L0 L1 L2++nl++aN A B C=GD ⟨#[10]⟩ [aP L0 L1 L2,aN A B C]:=by rw[gv];rfl
 rw[e,gv];refine dh (by simp) λy j=>?_
 simp only[FA,FQ,or_false]at j
 rcases j with rfl|rfl
 ·exact qQ _ _ _
 ·exact vX z F J
theorem D5 (j : 1<=n){o:Option Nat}(q:Q (.bl true) M):phi tab n 15 [dO o,dO o] M Q:=by
 refine aH (by omega) rfl rfl (ρ:=[some _,some _]) rfl ?_
 unfold d15 b15
 cases o with
 | none =>
   unfold dO;walk_at "st";refine⟨true,rfl,true,rfl,?_⟩;rw[if_pos rfl];walk_at "st";refine⟨true,rfl,true,rfl,?_⟩;rw[if_pos rfl];exact⟨true,rfl,q⟩
 | some i =>
   unfold dO;walk_at "st";refine⟨false,rfl,false,rfl,?_⟩;rw[if_neg Fu];refine⟨false,rfl,false,rfl,?_⟩;rw[if_neg Fu];walk_at "st";refine⟨_,rfl,?_⟩;rw[if_pos (by decide)]
   refine⟨_,rfl,?_⟩;rw[if_pos (by decide),beq_self_eq_true]
   exact q
theorem yM {t r:Str}(z:FC t nl=[h,r])(e:dW t=none):∃ L0 L1 L2 p,cE h=some [L0,L1,L2]/\bR r L0 L1 L2=some p:=by
 unfold dW at e;rw[z]at e;dsimp only at e
 cases hl:cE h with
 |none=>rw[hl]at e;cases e
 | some ls =>
   obtain⟨a,b,c,rfl,_⟩:=eo hl;rw[hl]at e;dsimp only at e;rw[bS,bS]at e
   cases j:bR r a b c with
   |none=>rw[j]at e;simp at e
   |some p=>exact⟨a,b,c,p,rfl,j⟩
noncomputable def rowR:Str:=g8 "-1000:0 * 7:0 > 1:0"
noncomputable def prR:Pr:=([-1000],[7],[1])
noncomputable def headR:Str:=g8 "scheme 1 1 1"
noncomputable def di (m:Nat):Str:=GD nl (headR::Fw m rowR)
theorem wH:bR rowR 1 1 1=some prR:=by decide +kernel
theorem AK:cE headR=some [1,1,1]:=by decide +kernel
theorem tW (m:Nat):FC (di m) nl=headR::Fw m rowR:=by
 unfold di;rw[gv];refine dh (by simp) λy j=>?_
 rcases FA.mp j with rfl|h
 ·decide +kernel
 ·rw[Io h];decide +kernel
theorem AL:∀ (m k:Nat),k<=401->bS 1 1 1 (Fw m rowR) k=if 400<k+m - 1/\0<m then some 401 else none
 |0,k,_=>by rw[if_neg (by omega)];rfl
 | m+1,k,hk=>by
   rw[GA,bS,wH]
   by_cases h : 400<k
   ·rw[if_pos (.inr h),if_pos (by omega)];congr 1;omega
   ·rw[if_neg (by simp;omega),AL m (k+1) (by omega)]
    by_cases h2 : 400<k+1+m - 1/\0<m
    ·rw[if_pos h2,if_pos (by omega)]
    ·rw[if_neg h2,if_neg (by omega)]
theorem D6 (h : 400<m):dW (di m)=some 401:=by
 unfold dW;rw[tW];dsimp only;rw[AK];dsimp only;rw[AL m 1 (by omega),if_pos (by omega)]
theorem nk {c:Nat}(F:c<128):∀ {ys:List Str},(∀ y∈ys,asc y)->asc (GD ⟨#[c]⟩ ys)
 |[],_=>λa j=>by cases j
 |[y],h=>h y (by simp)
 | y::z::r,h=>by
   show asc (y++⟨#[c]⟩++GD ⟨#[c]⟩ (z::r));exact be (be (h y (by simp)) λa j=>by rw[bB]at j;rw[HN.mp j];exact F) (nk F λx hx=>h x (FL _ hx))
theorem AM (m:Nat):asc (di m):=by
 unfold di;rw[gv];refine nk (by decide) λy j=>?_
 rcases FA.mp j with rfl|h
 ·exact eJ (by decide +kernel)
 ·rw[Io h];exact eJ (by decide +kernel)
theorem qT:headR.length=12:=by rw[show headR=g8 "scheme 1 1 1" from rfl,FH];rfl
theorem qU:rowR.length=19:=by rw[show rowR=g8 "-1000:0 * 7:0 > 1:0" from rfl,FH];rfl
theorem wJ (m:Nat):∀ w∈headR::Fw m rowR,w.length<=600:=λw hw=>by
 rcases FA.mp hw with rfl|h
 ·rw[qT];omega
 ·rw[Io h,qU];omega
theorem wK (h:m<=402):(di m).length<=100000:=by
 have j:∀ t∈headR::Fw m rowR,t.length<=20:=by
  intro w hw
  rcases FA.mp hw with rfl|h
  ·rw[qT];omega
  ·rw[Io h,qU];omega
 have h2:=mW (s:=nl) j;have e:nl.length=1:=by rw[gv];rfl
 rw[e,FR,GB]at h2;unfold di;omega
theorem ny:∀ ns:List Int,IF (ns.map .int) (ns.map .int)=true
 |[]=>rfl
 |x::r=>by simp[IF,GI,ny r]
theorem oU:∀ ps:List Pr,IF (ps.map dQ) (ps.map dQ)=true
 |[]=>rfl
 |x::r=>by simp[IF,GI,oU r,dQ,ny]
theorem yN {k:Nat}(h:M a=some (.lst (ps.map prD))):rb (k+3) M (.ref a)=some (.list (ps.map dQ)):=by
 rw[tt h,tq];rfl
theorem tX {x y z:Int}(h:M a=some (.lst (ps.map prD))):rb 16 M (.tup [.int x,.int y,.int z,.ref a])=some (.tuple [.int x,.int y,.int z,.list (ps.map dQ)]):=by
 have j:rb 15 M (.ref a)=some (.list (ps.map dQ)):=yN (k:=12) h;have i:∀ v:Int,rb 15 M (.int v)=some (.int v):=λ_=>rfl;show (az (rb 15 M) [.int x,.int y,.int z,.ref a]).map PyData.tuple=_;simp only[az,i,j,Ho,HX]
theorem law_holds (ns:List Int)(hl:ns.length<=63):phi tab 38 17 [.con (ns.map D.int)] (λ_=>none) λd _=>d = .bl true:=by
 refine aH (by omega) rfl rfl (ρ:=[some _,none,none,none,none]) rfl ?_
 unfold d17 b17;walk_at "st";rw[FO];refine⟨by split <;> split <;> omega,by split <;> split <;> omega,?_⟩
 have box:∀ {k:Int} {M:Mem} {Q:QD},0<=k->(∀ p x y,M p=none->Q (.ref p) (af M p (.lst [.int x,.int y,.int 0])))->phi tab 37 8 [.con (ns.map D.int),.int k] M Q:=λ{k M Q} k0 q =>
  AB (s:=ar 17) (fc:=6) (fm:=7) (sc:=ar 15) rfl rfl (λq=>kb (x:="_law_number") (s:=ar 16) rfl (by omega) q) (by omega) (by omega) q
 refine cC (I:=λl ρ M'=>∃ Y Z o3 o4,ρ = [some (.con (ns.map D.int)),Y,Z,o3,o4]) qN ⟨_,_,_,_,rfl⟩ (λ_ _ _ hI=>trivial) ?_ ?_
 ·rintro l k r ρ M8 e ⟨Y,Z,o3,o4,rfl⟩;refine⟨_,rfl,λF hF=>?_⟩;walk_at "st";refine box (by omega) λp x y hp=>?_
  refine AJ (by omega) ⟨_,_,_,aa⟩ λt O EI=>?_
  obtain⟨L0,L1,L2,A,B,C,⟨h0,h1,h2⟩,⟨hA,hB,hC⟩,⟨a1,a2,a3⟩,rfl⟩:=EI.ex;have J:=vY (L0:=L0) (L1:=L1) (L2:=L2) hA hB hC;have hlen:(aP L0 L1 L2++nl++aN A B C).length<=100000:=by
   have z1:=nj h0 h1 h2;have z2:=oS a1 a2 a3;have z3:nl.length=1:=by rw[gv];rfl
   simp only[FX];omega
  have j:asc (aP L0 L1 L2++nl++aN A B C):=be (be (vW _ _ _) (eJ (by decide +kernel))) (yL hA hB hC)
  have z:∀ w∈[aP L0 L1 L2,aN A B C],w.length<=600:=λw hw=>by
   simp only[FA,FQ,or_false]at hw
   rcases hw with rfl|rfl
   ·have:=nj h0 h1 h2;omega
   ·have:=oS a1 a2 a3;omega
  have heq:dW (aP L0 L1 L2++nl++aN A B C)=fbO (aP L0 L1 L2++nl++aN A B C):=AI J λr hr=>⟨A,B,C,hA,hB,hC,by simpa using hr⟩
  generalize aP L0 L1 L2++nl++aN A B C=t at *
  walk_at "st";refine first (by omega) hlen j (by rw[J];exact z) (by rw[J];simp) λM2 g2=>?_
  walk_at "st";refine oR (by omega) hlen j (by rw[J];exact z) (by rw[J];simp) λM3 g3=>?_
  rw[heq];refine D5 (by omega) ⟨true,rfl,?_⟩
  rw[if_neg (by decide)]
  cases hF0:fbO t with
  | some i =>
    unfold dO;walk_at "st";refine⟨false,rfl,false,rfl,?_⟩;rw[if_neg Fu];exact hF _ _ ⟨_,_,_,_,rfl⟩
  | none =>
    obtain⟨x0,x1,x2,p0,EJ,EK⟩:=yM J (heq.trans hF0);unfold dO;walk_at "st";refine⟨true,rfl,true,rfl,?_⟩;rw[if_pos rfl];refine tV (ps:=[p0]) (by omega) J EJ (by rw[FY,HC,EK];rfl) hlen j z (by simp) λpr M4 g4 ES e4=>?_
    refine⟨3,.ref pr,rfl,rfl,?_⟩;refine gr e4 ?_;refine eG ⟨_,rfl,?_⟩;rw[if_neg (by simp)]
    exact hF _ _ ⟨_,_,_,_,rfl⟩
 ·rintro ρ M8 ⟨Y,Z,o3,o4,rfl⟩;dsimp only;walk_at "st";refine box (by omega) λp x y hp=>?_
  refine cb (by omega) ⟨_,_,_,aa⟩ (by decide) (by decide) λr O r0 r1 x1=>?_
  obtain⟨m,hm,m2⟩:∃ m:Nat,(399:Int)+r=(m:Int)/\m<=402:=⟨(399+r).toNat,by omega,by omega⟩
  have m1 : 399<=m:=by omega
  rw[Ax,hm];walk_at "st";refine⟨⟨_,rfl⟩,by rw[Fy];first|decide|omega,λpa EL=>?_⟩
  have n1:=Ge.new (o:=.lst [D.str headR]) EL;have fa:af O pa (.lst [D.str headR]) pa=some (.lst [D.str headR]):=aa;refine⟨by rw[Fy];first|decide|omega,λpb EM=>?_⟩
  have n2:=Ge.new (o:=.lst [D.str rowR]) EM;have fa:=n2 _ _ fa;have fb:af (af O pa (.lst [D.str headR])) pb (.lst [D.str rowR]) pb=some (.lst [D.str rowR]):=aa;rw[mQ];refine⟨[D.str rowR],fb,by omega,by omega,by rw[GN,Hj,Fy];omega,λpc EN=>?_⟩
  rw[GN];have er:(Fw m [D.str rowR]).flatten=(Fw m rowR).map D.str:=by rw[HP];simp
  rw[er];have n3:=Ge.new (o:=.lst ((Fw m rowR).map D.str)) EN;have fa:=n3 _ _ fa;have fc:=aa (M:=af (af O pa (.lst [D.str headR])) pb (.lst [D.str rowR])) (a:=pc) (o:=.lst ((Fw m rowR).map D.str));rw[tm];refine⟨_,_,fa,fc,by rw[FO,GB,Hj,Fy];omega,λpd ET=>?_⟩
  have es : [D.str headR]++(Fw m rowR).map D.str=(headR::Fw m rowR).map D.str:=rfl;rw[es];refine⟨_,rfl,_,rfl,headR::Fw m rowR,aa,?_,?_⟩
  ·have EO:(g8 "\n").length=1:=by rw[FH];rfl
   rw[FY,List.sum_cons,HP,FR,GB,EO,qT,qU];have:(Fw m 19).sum=m*19:=by rw[List.sum_replicate_nat]
   rw[this];omega
  rw[show Ma (g8 "\n") (headR::Fw m rowR)=di m from LK _ _];generalize af (af (af (af O pa (.lst [D.str headR])) pb (.lst [D.str rowR])) pc (.lst ((Fw m rowR).map D.str))) pd (.lst ((headR::Fw m rowR).map D.str))=M5;have L:=tW m;have z:∀ w∈FC (di m) nl,w.length<=600:=by rw[L];exact wJ m
  walk_at "st"
  by_cases hm4 : 400<m
  ·rw[if_pos (by omega)]
   walk_at "st";refine oR (by omega) (wK m2) (AM m) z (by rw[L,FR,GB];omega) λU g6=>?_
   rw[D6 hm4];unfold dO;dsimp only;rw[ww];rfl
  ·rw[if_neg (by omega)]
   walk_at "st";refine tV (ps:=Fw m prR) (by omega) L AK (by rw[HP,HP,wH]) (wK m2) (AM m) (wJ m) (by rw[GB];omega) λpr U g6 EU e6=>?_
   have one : 0+1<=Fz:=by rw[Fy];first|decide|omega
   refine⟨one,one,one,by rw[Fy];first|decide|omega,one,λpe EQ=>?_⟩
   have k1:=Ge.new (o:=.lst [prD prR]) EQ;have e7:=k1 _ _ e6;have fe:af U pe (.lst [prD prR]) pe=some (.lst [prD prR]):=aa;show eP (.ref pe) (.int (m:Nat)) (af U pe (.lst [prD prR])) _;generalize af U pe (.lst [prD prR])=M7 at e7 fe;rw[mQ];refine⟨_,fe,by omega,by omega,by rw[GN,Hj,Fy];omega,λpf ER=>?_⟩
   rw[GN];have ep:(Fw m [prD prR]).flatten=(Fw m prR).map prD:=by rw[HP];simp
   rw[ep];have k2:=Ge.new (o:=.lst ((Fw m prR).map prD)) ER;have e8:=k2 _ _ e7;refine⟨by rw[Fy];first|decide|omega,?_⟩
   refine⟨_,_,tX e8,tX aa,?_⟩;have ev:GI (.tuple [.int (1:Nat),.int (1:Nat),.int (1:Nat),.list ((Fw m prR).map dQ)]) (.tuple [.int 1,.int 1,.int 1,.list ((Fw m prR).map dQ)])=true:=by
    simp only[GI,IF,oU,Bool.and_true];decide
   rw[ev]
end K55
end
end
end Mi
end L2
open PySem.W in
set_option maxRecDepth 100000 in
set_option maxHeartbeats 0 in
theorem PySem.Challenge.cw_fewtimes_k55_bounds_of_texts_holds : PySem.Challenge.rw_fewtimes_k55_bounds_of_texts.Holds := by
 w_on;o_law;k_head;(case hw=>w_witness2)
 k_fill
 refine L2.Mi.K55.walk (l:=PySem.Challenge.rw_fewtimes_k55_bounds_of_texts) rfl rfl L2.Mi.K55.law_holds (fun w h Y=>PySem.W.kIn_of Y) ?F
 case F =>
  intro w mg fa h KX G hmg;refine' L2.Mi.K55.all_mk KX G hmg ?z ?_ ?_ ?_ ?_ ?_ ?_ ?_ ?_ ?_ ?_ ?_ ?_ ?_ ?_ ?_ ?_ ?_ ?_ ?_ ?_ ?_ ?_ ?_ ?_ ?_ ?_ ?_ ?_ ?_ ?_ ?_ ?_ ?_ ?_ ?_ ?_ ?_ ?_ ?_ ?_ ?_ ?_ ?_ ?_ ?_ ?_ ?_ ?_ ?_ ?_ ?_ ?_ ?_ ?_ ?_ ?_ ?_ ?_ ?_ ?_ ?_ ?_ ?_ ?_ ?_ ?_ ?_ ?_ ?_ ?_ ?_ ?_ ?_ ?_ ?_ ?_ ?_ ?_ ?_ ?_ ?_ ?_ ?_ ?_ ?_ ?_ ?_ ?_ ?_ ?_ ?_ ?_ ?_ ?_ ?_ ?_ ?_ ?_ ?_ ?_ ?_ ?_
  case z =>
   intro x hx;simp only [L2.Mi.bltNames,List.mem_cons,List.not_mem_nil,or_false] at hx
   rcases hx with rfl | rfl | rfl | rfl | rfl | rfl | rfl | rfl | rfl | rfl | rfl | rfl | rfl | rfl | rfl | rfl | rfl | rfl | rfl | rfl <;> k_is
  all_goals try (show _=_;first | k_is | k_exc | kit_is | rfl | decide +kernel)
