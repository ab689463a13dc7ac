import PyProof.Rows.All
import Wide.All
import OpenK.AllK
import Wide.FinOn
import Lean
import PyProof.EqAt
import PyProof.EqKinds
import PyProof.TupleCall
import PyProof.ZipIter
import PyProof.EnumMake
import PyProof.EnumFor
import PyProof.CollectIter
import PyProof.TupleKey
import PyProof.DictRoadsH
import PyProof.P3Eq
import PyProof.Rows.SeqMore
import PyProof.ConsumeWalk
import PyProof.Rows.SortShellK
import PyProof.DictItems
import PyProof.DictWalks
import PyProof.AttrMissHeap
import PyProof.DictIter
import PyProof.MaxThree
import PyProof.SeqI3
import PyProof.DictTruth
import PyProof.Rows.TupDisplay
import PyProof.ListCopy
import PyProof.NeKinds
import PyProof.SetKind
import PyProof.IsRules
import PyProof.Rows.SetFrom
import PyProof.SetRoads
import PyProof.RaisesDict
import KE.KIntText
import PyProof.Rows.CallKwBuiltin
import KE.KDictOf
import PyProof.DelItemList
import PySem.Challenge.RW_fewtimes_k53_schemes_read
set_option Elab.async false
set_option linter.all false
set_option compiler.extract_closed false
set_option genSizeOf false
set_option bootstrap.genMatcherCode false
set_option maxRecDepth 100000
set_option maxHeartbeats 4000000
open PySem.W (Frag)
open PySem.Str renaming ofString → g8, length_append → z4, join → CS, empty → E2, append_assoc → Ez, empty_append → F8, length → J7
open PySem renaming wpAny_bind → gV, Value → h6, Shared → hQ, sizeLine_eq → s9, ofString_length → td, sizeLine → tv, wpAny_pure → y1, wpAny → Cj, starEach → Cm, Program → Ct, compareOp → CA, World → CC, wpAny_field → CD, Comprehension → CF, mainGlobals → CH, Around → CK, wpAny_setField_rec → CL, wpAny_callSpecial?_slot → CM, mem_of_lookup → CU, wpAny_truthy_bool → CV, binaryOp → CW, Paired → D0, wpAny_pyIter_tuple → D1, wpAny_holding → D4, wpAny_pyIter_list → Dd, wpAny_loadPart' → Dh, assignEach → Dj, wpAny_call_entry → Dl, wpAny_newObj_type → Dq, foldedSetIterable → Dr, cellsFrom → Ds, wpAny_seqItems → DG, backTo → DH, inplaceOp → DM, wpAny_passesOwn → DN, keywordEach → DO, wpAny_mono → DR, wpAny_standAt → DS, swappedStores → DT, call_meets → DW, IsPair → DY, NameKind → E3, sysModules → E6, bootBuiltins → E7, wpAny_rule → E8, wpAny_Call_Name_kw → E9, FuncData → Ee, codeAny_mono → Eu, swapsWithSole → ED, behindInMarks → EE, Keyword → EJ, swapsWith → EO, sliceBounds → ET, Operator → EU, backToKw → EY, cpsOfBytes_string → F0, rawInt → F5, typeIs_str → F6, codeAny → F9, wpAny_updateSeq_pair → Fc, letOwnedTupleGo → Fd, Builtin → Fo, pyNext → Fu, wpAny_binaryOp_repeat_ref → FG, standAt → FK, wpAny_of_eq → FL, IsZip → FN, wpAny_pyIter_enum → FP, wpAny_getItem_list_slice → FT, wpAny_comprehension_free → FV, wpAny_onRaise → FW, wpAny_attempt → FX, IsEnum → FY, lastMarks → G2, noFill_tuple_add → G3, builtinsNs → Gd, IsPart → Gf, getItem → Gg, wpAny_typeOf → Gh, typeIs_int → Gm, wpAny_execs_nil → Gr, pushCells_keeps → Gx, wpAny_loadName_local → GC, cLine → GF, newFunctionEnv → GH, ZipApart → GI, wpAny_letGo → GJ, intText? → GO, codeAny_call_builtin → GP, tupleKind → GX, BindsTo → GY, callerA → GZ, valueAt → H0, wpAny_loadName_cell → Ha, assignInOrder → Hi, CmpOp → Hj, seq_tuple_add → Hk, evalPart_none → Hl, attributeBase → Hn, foldedForSure → Hs, wpAny_Constant_int → Hu, pyIter → Hv, typeLookup → Hy, tupleKind_room_in1 → HC, cpsOfBytes → HK, Model → HM, concat_meets → HR, wpAny_sequenceKey → HS, seqIndex_neg → HU, pushCells → Ip, wpAny_isInstance → Ir, wpAny_pyIter_zip → Iv, IsEnumOut → Iw, fillsInplaceSlot → Iz, seqIndex_of → IG, atKey → IH, wpAny_Name → J0, bindName → J1, bindL → J2, bindC → J3, call → J8, Meets → Ja, PyData → Jb
open Bool renaming and_eq_true → h8, false_ne_true → q7, not_eq_true' → CJ, false_eq_true → EL, not_eq_true → F7, or_eq_true → Fi, false_or → FU, and_eq_true_iff → GL
open PySem.Heap renaming get?_push_of_some → hD, get?_push_size → Ce, lt_size → Cg, size_push → CY, SameBut → D8, IsTuple → Fp, IsList → FO, get?_update_other → Gk, get?_update_self → Gy, get?_push_cases → GK, ExtBut → II
open List renaming size_toArray → y2, length_map → Ca, mem_cons → Cb, replicate → Cd, getElem?_eq_getElem → Cf, mem_cons_of_mem → Ci, not_mem_nil → Ck, length_cons → Cp, mem_append_right → Cq, map_cons → Cr, length_append → Cv, getElem?_eq_some_iff → Cw, map_append → Cy, getElem?_map → CB, mem_of_getElem? → CI, mem_cons_self → CN, mem_map → CO, length_nil → CP, replicate_succ → CQ, mem_zipIdx_iff_getElem? → CZ, range → D6, flatten_cons → Dc, mem_append → Df, find?_cons → Dg, all_eq_true → Dm, filter_cons_of_neg → Dt, filter_cons_of_pos → Du, append_nil → Dv, getElem?_set_self → Dw, length_take → DC, lookup_cons → DD, getElem?_append_left → DI, mem_filter → DL, append_assoc → DP, any_cons → DX, eraseIdx_eq_take_drop_succ → E1, length_eq_zero_iff → E4, map → E5, map_nil → Eb, getElem?_drop → Ed, mem_range → El, getElem?_set_ne → Em, getElem?_append_right → Ep, getElem?_mapIdx → Er, length_drop → Ew, zipIdx_cons → Ex, drop_eq_getElem_cons → EB, all_cons → EG, nodup_cons → EI, forIn_cons → EK, filter_append → EN, getElem?_replicate → ER, reverse_cons → EZ, length_replicate → F1, length_filter_le → F3, mem_append_left → Fb, foldl_cons → Fe, filterMap_cons → Fk, getD_eq_getElem?_getD → FA, length_zipIdx → FF, ext_getElem? → FR, sum_cons → G1, getElem?_cons_zero → G9, getElem?_cons_succ → Ga, zipWith → Gp, of_mem_zip → Gs, length_set → Gu, nil_append → Gv, take_append_drop → GA, getElem?_eq_none → GB, mem_iff_getElem → GN, getElem?_zipIdx → GW, length_reverse → Hf, map_eq_nil_iff → Hh, mem_filterMap → Hw, foldl → HA, set_cons_zero → HI, set_cons_succ → HJ, all_map → Ia, sum_nil → Ig, filter_cons → Io, drop_length → Iy, isEmpty_iff → IA, take_length → IF, zipIdx_nil → IS
open Nat renaming le_refl → Cc, lt_of_lt_of_le → Co, ne_of_lt → CG, le_trans → D7, lt_irrefl → DA, zero_le → DB, le_of_lt → Et, ne_of_gt → EV, succ_le_succ → G6, succ_mul → HV, not_lt_zero → IU, not_lt → J9
open PySem.W renaming mg_of → Cn, kia_one → CT, nsIn → Dy, keepIn → DE, fnOf → Ea, cellsFrom_some → EW, codeIn → Fv, methodObj → FI, instObj → Gq, OpenLaw → Gw, lookIn → GD, kitx_list → HP, kitx_dict → HQ, plainGet → Ij
open PySem.NameKind renaming free → Cu, cell → Dp
open PySem.PyData renaming strOk → Cz, eqv → DZ, eqvAll → EH, canLayAll0 → I8, list → IJ, depthAll → IT
open PySem.Builtin.Str renaming occurrences → D2, strSub → FE, partsBetween → FZ, strKind → Hg
open PySem.Txt renaming split → D3, partition → D5, startswith → Es, slice → IB, join → Jd
open ToString renaming toString → D9
open PyProof.Rows renaming Keyed → De, slot_tuple_getitem → Di, callWith_type1 → Dx, kindOf → Eh, assignInOrder_cons → Ft, AllBare → FJ, seqSlot_of → G5, subscriptTail_builtinR → Gi, envOfC → GG, pendingOf → H9, entry_tuple_getitem → Hb, subscriptTail → Hm, args_tuple_getitem → Hx, SortSt → HG, assignInOrder_nil → HN, failedOf → Ib, IntsAre → IX, Subscript_ → J4, tail_any → J6, SortKind → Jc
open PySem.Builtin.List renaming listTooLong → Dn
open Option renaming some → Dz, isSome_iff_exists → DU, map_some → Eg, bind_some → Ey, isSome_some → HB, getD_none → Il, join_some → IC, bind_none → ID, join_none → IE
open PySem.F renaming slot_tuple_iterator_next → DF, plainAttrs_str → Ec, slot_enumerate_next → Ei, args_tuple_add_2 → EF, entry_tuple_add → ES, slot_tuple_add → EX, slot_int_rmul → Ff, args_tuple_iterator_next_1 → Fg, slot_zip_next → Fh, entry_tuple_iterator_next → Fn, args_str_split_2 → FC, entry_str_split → FQ, args_enumerate_next_1 → G4, slot_str_split → G7, plainAttrs_list → G8, entry_enumerate_next → Gn, entry_enumerate_new → Gz, called_enumerate → HE, args_int_rmul_2 → HW, args_zip_next_1 → HY, entry_int_rmul → Im, entry_zip_next → Iq, fills_int_mul → IQ
open PySem.Builtin.Slice renaming slicePlaces → DJ, sliceAdjust → EA, sliceApplied → Fw
open PySem.Value renaming ref → DK, none → Fq, int → Ih, str → Ii, bool → IY, type → IZ
open PySem.Shared renaming heap → DQ
open PySem.Builtin.Tuple renaming tupleExact → DV, tupleItemsOf → Fx, tupleIsExact → Fy, tupleTooMany → Fz, tupleHashOf → FH
open ForInStep renaming yield → Ef
open Int renaming toNat_natCast → Ej, emod_lt_of_pos → EM, emod_nonneg → Fj, toNat_of_nonneg → Hd
open Array renaming getD_eq_getD_getElem? → Ek, length_toList → Fl, append_assoc → Ht, replicate → IV
open True renaming intro → Eo
open PySem.Paired renaming length → EC
open PyProof.Rows.IsTup renaming new → F4
open PySem.Expr renaming FormattedValue → Fm, Subscript → GQ, Attribute → GR, JoinedStr → GS, Constant → Ho, ListComp → Hq, UnaryOp → Ic, Compare → Ie, BoolOp → IK, BinOp → Je, IfExp → Jf, Tuple → Jg, Slice → Jh, Name → Jl, List → Jm, Call → Jn
open PySem.Calls renaming Name_function_global → Fs
open PySem.Env renaming blockKind → G0, kindOf → HH
open Sum renaming inl → Gb, inr → Gc
open PySem.Obj renaming mapSeq → Gj, data_mapFields → HD
open PySem.Stmt renaming AugAssign → GU, Continue → Hr, Assign → IM, Return → IP, While → Ji, Break → Jj, Expr → Jo, Pass → Jp
open And renaming intro → H8
open PySem.Heap.SameBut renaming update → Hc
open PySem.Builtin.Int renaming intBits → He
open PySem.Heap.IsSliceOf renaming new → Hz
open PySem.Around renaming in1_handled → HF
open PySem.StrLaws renaming At → HL
open List.Pairwise renaming nil → HX
open PySem.Heap.IsTuple renaming push → HZ
open Iff renaming rfl → I0
open Option.some renaming injEq → I9
open LawfulBEq renaming eq_of_beq → Ik
open PySem.Heap.IsList renaming push → Iu
open List.cons renaming injEq → IW
open Char renaming toNat → Jk
namespace L2
open PySem PySem.Spec PyProof.Rows
section
noncomputable abbrev Key:=Sum Int Str
noncomputable def eo:Key->h6->Bool
 |.inl k,v=>Value.isInt k v
 |.inr x,v=>Value.isStrOf x v
noncomputable def yH (w:CC):Key->Int
 |.inl k=>hashInt k
 |.inr x=>hashStr w x
theorem aP:∀ {k:Key} {v:h6},eo k v=true->(∃ i t,k=Gb i/\v=Ih i t)∨(∃ x t,k=Gc x/\v=Ii x t)
 |.inl i,v,h=>by
  obtain⟨t,e⟩:=Value.isInt_shape (k:=i) (v:=v) h;exact .inl ⟨i,t,rfl,e⟩
 |.inr x,v,h=>by
  obtain⟨t,e⟩:=Value.isStrOf_shape (x:=x) (v:=v) h;exact .inr ⟨x,t,rfl,e⟩
theorem nK (i:Int)(t:Tok):eo (.inl i) (.int i t)=true:=by simp[eo,Value.isInt]
theorem nL (x:Str)(t:Tok):eo (.inr x) (.str x t)=true:=by simp[eo,Value.isStrOf]
theorem uV (a b:Int):decide ((Gb a:Key)=Gb b)=(a==b):=by
 by_cases e:a=b
 ·subst e;simp
 ·have h : ¬ (Gb a:Key)=Gb b:=λq=>e (Gb.inj q);rw[decide_eq_false h];exact(beq_eq_false_iff_ne.mpr e).symm
theorem uW (a b:Str):decide ((Gc a:Key)=Gc b)=decide (a=b):=by
 by_cases e:a=b
 ·subst e;simp
 ·have h : ¬ (Gc a:Key)=Gc b:=λq=>e (Gc.inj q);rw[decide_eq_false h,decide_eq_false e]
theorem uX (a:Int)(b:Str):decide ((Gb a:Key)=Gc b)=false:=decide_eq_false (λq=>nomatch q)
theorem uY (a:Str)(b:Int):decide ((Gc a:Key)=Gb b)=false:=decide_eq_false (λq=>nomatch q)
noncomputable def aT (prog:Ct) (w:CC):PySem.KeyKind prog w Key where
 is:=eo
 hash:=yH w
 inj:=λv a b ha hb=>by
  rcases aP ha with⟨i,t,rfl,rfl⟩|⟨x,t,rfl,rfl⟩
  ·rcases aP hb with⟨j,u,rfl,e⟩|⟨y,u,rfl,e⟩
   ·injection e with e1 _;rw[e1]
   ·exact nomatch e
  ·rcases aP hb with⟨j,u,rfl,e⟩|⟨y,u,rfl,e⟩
   ·exact nomatch e
   ·injection e with e1 _;rw[e1]
 byValue:=λk v h=>by
  rcases aP h with⟨i,t,rfl,rfl⟩|⟨x,t,rfl,rfl⟩ <;> rfl
 pyHash:=λhv h=>by
  rcases aP hv with⟨i,t,rfl,rfl⟩|⟨x,t,rfl,rfl⟩
  ·exact wpAny_pyHash_int h
  ·exact wpAny_pyHash_str h
 eqBool:=λhu hv h=>by
  rcases aP hu with⟨i,t,rfl,rfl⟩|⟨x,t,rfl,rfl⟩
  ·rcases aP hv with⟨j,u,rfl,rfl⟩|⟨y,u,rfl,rfl⟩
   ·rw[uV]at h;exact wpAny_eqBool_int h
   ·rw[uX]at h;exact SeqAt.EqAt.int_str i t y u _ _ _ _ h
  ·rcases aP hv with⟨j,u,rfl,rfl⟩|⟨y,u,rfl,rfl⟩
   ·rw[uY]at h;exact SeqAt.EqAt.str_int x t j u _ _ _ _ h
   ·rw[uW]at h;exact wpAny_eqBool_str h
 «strs»:=λk x t v h=>by
  rcases aP h with⟨i,u,rfl,e⟩|⟨y,u,rfl,e⟩
  ·exact nomatch e
  ·injection e with e1 _
   subst e1
   cases v <;> rfl
theorem kn (prog:Ct)(w:CC)(i:Int)(t:Tok):(aT prog w).is (.inl i) (.int i t)=true:=nK i t
theorem ko (prog:Ct)(w:CC)(x:Str)(t:Tok):(aT prog w).is (.inr x) (.str x t)=true:=nL x t
end
variable {us:List h6}{a b:Addr}{P:Ct}{w:CC}{h:Heap}
section
inductive V where
 |non|bl (b:Bool)|int (i:Int)|str (x:Str)|byt (b:Array UInt8)|flt (b:UInt64)|ref (a:Addr)|ty (n:String)
 deriving DecidableEq
noncomputable def RelV:V->h6->Prop
 |.non,u=>u=Fq
 |.bl b,u=>u=IY b
 |.int i,u=>∃ t,u=Ih i t
 |.str x,u=>∃ t,u=Ii x t
 |.byt b,u=>∃ t,u=Value.bytes b t
 |.flt b,u=>∃ t,u=Value.float b t
 |.ref a,u=>u=DK a
 |.ty n,u=>u=IZ n
noncomputable abbrev Vals:List V->List h6->Prop:=D0 RelV
theorem Vals.length {xs:List V}(r:Vals xs us):xs.length=us.length:=EC r
theorem Vals.get:∀ {xs:List V} {us:List h6} {i:Nat} {x:V},Vals xs us->xs[i]? = some x -> ∃ u,us[i]? = some u/\RelV x u
 |_,_,_,_,.nil,e=>by simp at e
 |_,_,0,_,.cons r _,e=>by simp at e;subst e;exact⟨_,rfl,r⟩
 | _,_,i+1,x,.cons _ t,e=>by
   obtain⟨u,h1,h2⟩:=Vals.get (i:=i) (x:=x) t (by simpa using e)
   exact⟨u,by simpa using h1,h2⟩
theorem Vals.set {x:V}{u:h6}(r:RelV x u):∀ {xs:List V} {us:List h6} (i:Nat),Vals xs us->Vals (xs.set i x) (us.set i u)
 |_,_,_,.nil=>.nil
 |_,_,0,.cons _ t=>.cons r t
 |_,_,i+1,.cons q t=>.cons q (Vals.set r i t)
theorem Vals.append:∀ {xs ys:List V} {us ws:List h6},Vals xs us->Vals ys ws->Vals (xs++ys) (us++ws)
 |_,_,_,_,.nil,s=>s
 |_,_,_,_,.cons r t,s=>.cons r (Vals.append t s)
theorem Vals.take:∀ {xs:List V} {us:List h6} (n:Nat),Vals xs us->Vals (xs.take n) (us.take n)
 |_,_,0,_=>.nil
 |_,_,_+1,.nil=>.nil
 |_,_,n+1,.cons r t=>.cons r (Vals.take n t)
theorem Vals.drop:∀ {xs:List V} {us:List h6} (n:Nat),Vals xs us->Vals (xs.drop n) (us.drop n)
 |_,_,0,r=>r
 |_,_,_+1,.nil=>.nil
 |_,_,n+1,.cons _ t=>Vals.drop n t
noncomputable def RelO:Option V->Option h6->Prop
 |some v,some u=>RelV v u
 |none,none=>True
 |_,_=>False
noncomputable def KV {κ:Type}:List (κ × V)->List (κ × h6)->Prop:=D0 λ(p : κ × V) (q : κ × h6)=>p.1=q.1/\RelV p.2 q.2
noncomputable def kV:Key->V
 |.inl i=>.int i
 |.inr x=>.str x
inductive HO where
 |lst (xs:List V)
 |tup (xs:List V)
 |dK (kvs:List (Key×V))|dT (kvs:List (List Key×V))
 |set (S:Int->Bool) (n:Nat)
 |ins (C dx:Addr) (fs:List (Str×V))
 |own (x:Addr)
 |xd (fs:List (Str×V))
 |met (f x:Addr)
 |rng (lo hi:Int)
 |frz (o:Obj) (u:HO)
 |tbl (ps:Array h6)
 |ext (φ:Heap->Prop)
noncomputable abbrev Hp:=Addr->Option HO
noncomputable def upd (H:Hp) (a:Addr) (o:HO):Hp:=λb=>if b=a then some o else H b
theorem aM {H:Hp}{o:HO}:upd H a o a=some o:=by unfold upd;rw[if_pos rfl]
theorem ak {H:Hp}{o:HO}(h:b≠a):upd H a o b=H b:=by unfold upd;rw[if_neg h]
theorem xk {H:Hp}{o u:HO}(h:H a=some o)(h':H b=some u)(d:o≠u):a≠b:=by
 intro e;subst e;rw[h]at h';exact d (Dz.inj h')
theorem aQ {H:Hp}{o:HO}(h:H a=some o)(h':H b=none):a≠b:=by
 intro e;subst e;rw[h]at h';cases h'
section
variable (P:Ct) (w:CC)
noncomputable def ObjOk (H:Hp) (h:Heap) (a:Addr):HO->Prop
 |.lst xs=>xs.length<=tv /\ ∃ (its:List h6) (n:Nat),Vals xs its/\h.get? a=some { cls:=.type "list",data:=.seq its.toArray n }
 |.tup xs=>xs.length<=tv /\ ∃ its:List h6,Vals xs its/\IsTup h a its.toArray
 |.dK kvs=>kvs.length<=tv/\(a==E6)=false /\ ∃ vs,KV kvs vs/\h.DictOf (aT P w) a vs
 |.dT kvs=>kvs.length<=tv/\(a==E6)=false /\ ∃ xs:List (List Key×Addr×h6),
  D0 (λ(p:List Key×V) (q:List Key×Addr×h6)=>p.1=q.1/\H q.2.1=some (.tup (p.1.map kV))/\RelV p.2 q.2.2) kvs xs /\
  ∃ o es ep,h.get? a=some o/\o.ExactDict/\o.data = .dict es ep/\es.toList=xs.map (entryOfKey (GX (aT P w)))/\(xs.map (·.1)).Nodup
 |.set S n=>h.SetOf (intKind P w) a S n
 |.ins C dx fs=>H dx=some (.own a)/\fs.length<=1000/\dx≠a/\h.get? a=some (Gq C dx) /\
  ∃ mA,h.Ns1 dx mA/\(∀ f,RelO (fs.lookup f) (mA f))/\PySem.Within mA (fs.map (·.1))
 |.own _=>∃ o,h.get? a=some o
 |.xd fs=>∃ mA,h.Ns1 a mA /\ ∀ f,RelO (fs.lookup f) (mA f)
 |.rng lo hi=>∃ t u v,h.get? a=some { cls:=.type "range",data:=.fields #[.int lo t,.int hi u,.int 1 v] }
 |.frz o u=>h.get? a=some o/\ObjOk H h a u
 |.tbl ps=>h.get? a=some { cls:=.none,data:=.fields ps }
 |.met f x=>h.get? a=some (FI (.ref f) (.ref x))
 |.ext φ=>φ h/\(∃ o,h.get? a=some o) /\ ∀ h1 h2:Heap,φ h1->(∀ o,h1.get? a=some o->h2.get? a=some o) -> φ h2
def HOk (H:Hp) (h:Heap):Prop:=∀ a o,H a=some o->ObjOk P w H h a o
end
section
variable {P:Ct} {w:CC} {H H':Hp} {h h':Heap} {a:Addr} {o:HO}
theorem ObjOk.lt (x:ObjOk P w H h a o):a<h.objs.size:=by
 cases o with
 |lst xs=>obtain⟨_,_,_,_,e⟩:=x;exact Cg e
 |tup xs=>obtain⟨_,_,_,p⟩:=x;exact p.lt
 |dK kvs=>obtain⟨_,_,_,_,o,_,_,e,_⟩:=x;exact Cg e
 |dT kvs=>obtain⟨_,_,_,_,o,_,_,e,_⟩:=x;exact Cg e
 |set S n=>obtain⟨o,_,_,_,e,_⟩:=x;exact Cg e
 |ins C dx fs=>obtain⟨_,_,_,e,_⟩:=x;exact Cg e
 |own y=>obtain⟨_,e⟩:=x;exact Cg e
 |xd fs=>obtain⟨_,⟨_,_,_,e,_⟩,_⟩:=x;exact Cg e
 |rng lo hi=>obtain⟨_,_,_,e⟩:=x;exact Cg e
 |frz ob u=>obtain⟨e,_⟩:=x;exact Cg e
 |tbl ps=>exact Cg (show h.get? a=some _ from x)
 |met f y=>exact Cg (show h.get? a=some _ from x)
 |ext φ=>obtain⟨_,⟨_,e⟩,_⟩:=x;exact Cg e
theorem Jx {α β:Type}{F G : α -> β -> Prop}:∀ {l₁:List α} {l₂:List β},D0 F l₁ l₂ -> (∀ a b,F a b->G a b)->D0 G l₁ l₂
 |_,_,.nil,_=>.nil
 |_,_,.cons r t,f=>.cons (f _ _ r) (Jx t f)
theorem ObjOk.stay (x:ObjOk P w H h a o)(k:∀ b u,(b=a∨H b=some (.own a))->h.get? b=some u->h'.get? b=some u)(ho:∀ b,H b=some (.own a)->H' b=some (.own a))(j:∀ b xs,H b=some (.tup xs)->H' b=some (.tup xs)):ObjOk P w H' h' a o:=by
 induction o with
 |lst xs=>obtain⟨z,its,n,r,e⟩:=x;exact⟨z,its,n,r,k _ _ (.inl rfl) e⟩
 |tup xs=>obtain⟨z,its,r,ob,e,c⟩:=x;exact⟨z,its,r,ob,k _ _ (.inl rfl) e,c⟩
 |dK kvs=>obtain⟨z,y,vs,r,ob,es,ep,e,c⟩:=x;exact⟨z,y,vs,r,ob,es,ep,k _ _ (.inl rfl) e,c⟩
 | dT kvs =>
   obtain⟨z,y,xs,r,ob,es,ep,e,c⟩:=x;exact⟨z,y,xs,Jx r λp q z=>⟨z.1,j _ _ z.2.1,z.2.2⟩,ob,es,ep,k _ _ (.inl rfl) e,c⟩
 |set S n=>obtain⟨ob,es,ep,t,e,c⟩:=x;exact⟨ob,es,ep,t,k _ _ (.inl rfl) e,c⟩
 | ins C dx fs =>
   obtain⟨d,z,ne,e,mA,⟨od,es,ep,B,c⟩,r⟩:=x;exact⟨ho _ d,z,ne,k _ _ (.inl rfl) e,mA,⟨od,es,ep,k _ _ (.inr d) B,c⟩,r⟩
 |own y=>obtain⟨ob,e⟩:=x;exact⟨ob,k _ _ (.inl rfl) e⟩
 |xd fs=>obtain⟨mA,⟨od,es,ep,e,c⟩,r⟩:=x;exact⟨mA,⟨od,es,ep,k _ _ (.inl rfl) e,c⟩,r⟩
 |rng lo hi=>obtain⟨t,u,v,e⟩:=x;exact⟨t,u,v,k _ _ (.inl rfl) e⟩
 |frz ob u ih=>obtain⟨e,q⟩:=x;exact⟨k _ _ (.inl rfl) e,ih q⟩
 | tbl ps =>
   have e:h.get? a=some { cls:=.none,data:=.fields ps }:=x;show h'.get? a=some { cls:=.none,data:=.fields ps };exact k a _ (.inl rfl) e
 | met f y =>
   have e:h.get? a=some (FI (.ref f) (.ref y)):=x;show h'.get? a=some (FI (.ref f) (.ref y));exact k a _ (.inl rfl) e
 |ext φ=>obtain⟨p,⟨o,e⟩,st⟩:=x;exact⟨st _ _ p λo q=>k _ _ (.inl rfl) q,⟨o,k _ _ (.inl rfl) e⟩,st⟩
theorem HOk.lt (x:HOk P w H h)(e:H a=some o):a<h.objs.size:=(x a o e).lt
theorem HOk.fresh (x:HOk P w H h)(e:h.objs.size<=a):H a=none:=by
 cases q:H a with
 |none=>rfl
 |some u=>exact absurd (Co (x.lt q) e) (DA _)
theorem HOk.kept (x:HOk P w H h)(k:∀ b u,h.get? b=some u->h'.get? b=some u):HOk P w H h':=λa o e =>
 (x a o e).stay (λb u _ q=>k b u q) (λ_ q=>q) λ_ _ q=>q
theorem HOk.laid (x:HOk P w H h)(k:∀ b u,h.get? b=some u->h'.get? b=some u)(z:h.objs.size<=a)(new:ObjOk P w (upd H a o) h' a o):HOk P w (upd H a o) h':=λb u e=>by
 have j:=x.fresh z
 by_cases hb:b=a
 ·subst hb;rw[aM]at e;cases e;exact new
 ·rw[ak hb]at e;exact(x b u e).stay (λc v _ q=>k c v q) (λc q=>by rw[ak (aQ q j)];exact q) λc xs q=>by rw[ak (aQ q j)];exact q
end
def Rd (H:Hp) (a:Addr) (u:HO):Prop:=H a=some u∨∃ o,H a=some (.frz o u)
theorem Rd.of {H:Hp}{u:HO}(h:H a=some u):Rd H a u:=.inl h
theorem Rd.ok {H:Hp}{u:HO}(r:Rd H a u)(x:HOk P w H h):ObjOk P w H h a u:=by
 rcases r with r|⟨o,r⟩
 ·exact x a u r
 ·obtain⟨_,q⟩:=x a _ r;exact q
noncomputable def Mut:Option HO->Prop
 |some (.lst _)=>True
 |some (.dK _)=>True
 |some (.dT _)=>True
 |some (.set _ _)=>True
 |some (.ins _ _ _)=>True
 |some (.ext _)=>True
 |_=>False
section
variable {P:Ct} {w:CC} {H:Hp} {h h':Heap} {x e:Addr} {o':HO}
theorem HOk.write (ok:HOk P w H h)(mu:Mut (H x))(he:e=x∨H e=some (.own x))(k:∀ b u,b≠e->h.get? b=some u->h'.get? b=some u)(F:∃ u,h'.get? e=some u)(new:ObjOk P w (upd H x o') h' x o'):HOk P w (upd H x o') h':=λb u q=>by
 have nown:∀ c y,H c=some (.own y)->c≠x:=λc y r z=>by subst z;rw[r]at mu;exact mu
 have ntup:∀ c xs,H c=some (.tup xs)->c≠x:=λc xs r z=>by subst z;rw[r]at mu;exact mu
 by_cases hb:b=x
 ·subst hb;rw[aM]at q;cases q;exact new
 ·rw[ak hb]at q
  by_cases j:b=e
  ·have q':H b=some (.own x):=by
    rcases he with z|z
    ·exact absurd (j.trans z) hb
    ·rw[j];exact z
   rw[q]at q';cases q';obtain⟨v,J⟩:=F;exact⟨v,by rw[j];exact J⟩
  ·refine(ok b u q).stay (λc v B r=>k c v ?_ r) (λc r=>by rw[ak (nown c b r)];exact r) λc xs r=>by rw[ak (ntup c xs r)];exact r
   rcases B with rfl|B
   ·exact j
   ·rintro rfl
    rcases he with z|z
    ·exact nown c b B z
    ·rw[B]at z;cases z;exact hb rfl
end
structure Un (fs ex:List Addr) (H H':Hp) (h h':Heap):Prop where
 keep:∀ b o,h.get? b=some o->H b=none->b∉fs->b∉ex->h'.get? b=some o
 slot:∀ b o,h.get? b=some o->H b=none->b∈fs->b∉ex -> ∃ sl,h'.get? b=some { o with slots:=sl }
 free:∀ b o,h.get? b=some o->H b=none->b∉ex->H' b=none
 there:∀ b o,h.get? b=some o->b∉ex -> ∃ o',h'.get? b=some o'
 tups:∀ b xs,H b=some (.tup xs)->H' b=some (.tup xs)
 frzs:∀ b o u,H b=some (.frz o u)->H' b=some (.frz o u)
 tbls:∀ b ps,H b=some (.tbl ps) -> ∃ more,H' b=some (.tbl (ps++more))
section
variable {fs fs' ex ex':List Addr} {H H1 H2:Hp} {h h1 h2 h':Heap} {a x e:Addr} {o:HO}
theorem Un.any (u:Un fs ex H H1 h h1){ob:Obj}(q:h.get? b=some ob)(n:H b=none)(hx:b∉ex):∃ sl,h1.get? b=some { ob with slots:=sl }:=by
 by_cases j:b∈fs
 ·exact u.slot b ob q n j hx
 ·exact⟨ob.slots,u.keep b ob q n j hx⟩
theorem Un.trans (a:Un fs ex H H1 h h1)(b:Un fs ex H1 H2 h1 h2):Un fs ex H H2 h h2 where
 keep:=λc ob q n z hx=>b.keep c ob (a.keep c ob q n z hx) (a.free c ob q n hx) z hx
 slot:=λc ob q n z hx=>by
  obtain⟨sl,j⟩:=a.slot c ob q n z hx;obtain⟨sl',B⟩:=b.slot c _ j (a.free c ob q n hx) z hx;exact⟨sl',B⟩
 free:=λc ob q n hx=>by
  obtain⟨o',j⟩:=a.there c ob q hx;exact b.free c o' j (a.free c ob q n hx) hx
 there:=λc ob q hx=>by
  obtain⟨o',j⟩:=a.there c ob q hx;exact b.there c o' j hx
 tups:=λc xs q=>b.tups c xs (a.tups c xs q)
 frzs:=λc ob xs q=>b.frzs c ob xs (a.frzs c ob xs q)
 tbls:=λc ps q=>by
  obtain⟨F,j⟩:=a.tbls c ps q;obtain⟨J,B⟩:=b.tbls c _ j;exact⟨F++J,by rw[B,Ht]⟩
theorem Un.kept (k:∀ b u,h.get? b=some u->h'.get? b=some u):Un fs ex H H h h' :=
 ⟨λb ob q _ _ _=>k b ob q,λb ob q _ _ _=>⟨ob.slots,k b ob q⟩,λ_ _ _ n _=>n,λb ob q _=>⟨ob,k b ob q⟩,λ_ _ q=>q,λ_ _ _ q=>q,λ_ ps q=>⟨#[],by rw[q];simp⟩⟩
theorem Un.refl:Un fs ex H H h h:=Un.kept λ_ _ q=>q
theorem Un.laid (k:∀ b u,h.get? b=some u->h'.get? b=some u)(z:h.objs.size<=a)(j:H a=none):Un fs ex H (upd H a o) h h' where
 keep:=λb u q _ _ _=>k b u q
 slot:=λb u q _ _ _=>⟨u.slots,k b u q⟩
 free:=λb u q n _=>by rw[ak (CG (Co (Cg q) z))];exact n
 there:=λb u q _=>⟨u,k b u q⟩
 tups:=λb xs q=>by rw[ak (aQ q j)];exact q
 frzs:=λb u xs q=>by rw[ak (aQ q j)];exact q
 tbls:=λb ps q=>⟨#[],by rw[ak (aQ q j),q];simp⟩
theorem Un.write (mu:Mut (H x))(he:e=x∨H e=some (.own x))(k:∀ b u,b≠e->h.get? b=some u->h'.get? b=some u)(B:∃ u,h'.get? e=some u):Un fs ex H (upd H x o) h h':=by
 have hx:∀ b,H b=none->b≠x:=λb n z=>by subst z;rw[n]at mu;exact mu
 have F:∀ b,H b=none->b≠e:=λb n z=>by
  subst z
  rcases he with r|r
  ·exact hx b n r
  ·rw[n]at r;cases r
 have hm:∀ b u,H b=some u -> ¬ Mut (some u)->b≠x:=λb u q nm z=>by subst z;rw[q]at mu;exact nm mu
 refine⟨λb u q n _ _=>k b u (F b n) q,λb u q n _ _=>⟨u.slots,k b u (F b n) q⟩,λb u q n _=>by rw[ak (hx b n)];exact n,λb u q _=>?_,
  λb xs q=>by rw[ak (hm b _ q λz=>z)];exact q,λb u xs q=>by rw[ak (hm b _ q λz=>z)];exact q,λb ps q=>⟨#[],by rw[ak (hm b _ q λz=>z),q];simp⟩⟩
 by_cases j:b=e
 ·subst j;exact B
 ·exact⟨u,k b u j q⟩
end
noncomputable def trk (h:Heap) (H:Hp):List Addr:=(D6 h.objs.size).filter λa=>(H a).isSome
noncomputable def du (h:Heap) (H:Hp):Heap:=PySem.W.hideAll h (trk h H)
theorem nM (h:Heap)(H:Hp):(du h H).objs.size=h.objs.size:=PySem.W.hideAll_size _ _
theorem qc {H:Hp}{o:Obj}(e:h.get? b=some o)(n:H b=none):(du h H).get? b=some o :=
 PySem.W.hideAll_get _ e λhm=>by
  have q:(H b).isSome=true:=(DL.mp hm).2;rw[n]at q;simp at q
theorem t5 {H:Hp}{o:Obj}(e:(du h H).get? b=some o):h.get? b=some o/\H b=none:=by
 have e':h.get? b=some o:=PySem.W.of_hideAll (trk h H) e;refine⟨e',?_⟩
 cases q:H b with
 |none=>rfl
 | some x =>
   have hm:b∈trk h H:=DL.mpr ⟨El.mpr (Cg e'),by simp[q]⟩
   have z:(du h H).get? b=none:=PySem.W.hideAll_none (trk h H) hm;rw[z]at e;cases e
noncomputable def t6 (g h:Heap) (L:Addr):List (Addr×Obj):=(D6 h.objs.size).filterMap λa=>if a=L∨(g.get? a).isSome=true then none else (h.get? a).map λo=>(a,o)
noncomputable def rest (g h:Heap) (L d:Addr):List (Addr×Obj):=(t6 g h L).filter λp=>decide (p.1≠d)
end
variable {H:Hp}{o:HO}{u:h6}{t' i:Nat}{ch:List Addr}{x:Str}{e:Expr}{N:List Str}{M:HM}{A:CK}{v:V}{s:hQ}
section
structure Mod (K:Frag) (mg:Str->Option h6) (base:Heap):Prop where
 kin:K.In base
 glob:base.Ns CH mg
 blt:∃ mb,base.Ns Gd mb /\ ∀ x:Str,x ≠ "__name__" -> mb x=E7 x
 nolimit:base.NoLimit
structure Cx where
 prog:Ct
 w:CC
 K:Frag
 mg:Str->Option h6
 base:Heap
 A:CK
 N:List Str
 s₀:hQ
 H₀:Hp
 env:Env
 outer:List Env
 stack:List Env
 ex:List Addr
 fn:Str->Bool
 calm:Bool
 pn:List (Addr×Obj)
 xe:h6->hQ->Prop
noncomputable def frs (l:List Env):List Addr:=l.filterMap (·.frame)
noncomputable abbrev Cx.fs (X:Cx):List Addr:=frs X.outer
def Vis (sc:Scope) (x:Str):Prop:=sc.names.lookup x=some .local∨sc.names.lookup x=some .cell∨sc.names.lookup x=some .free
def Loc (sc:Scope) (x:Str):Prop:=sc.names.lookup x=some .local∨sc.names.lookup x=some .cell
def yI (env:Env) (h:Heap) (m:Str->Option h6) (x:Str) (u:h6):Prop :=
 (env.kindOf x=some .local/\m x=some u)∨((env.kindOf x=some .cell∨env.kindOf x=some .free) /\ ∃ c,env.cells.lookup x=some c/\h.IsCell c (some u))
structure Cx.Ok (X:Cx):Prop where
 mod:Mod X.K X.mg X.base
 kind:X.env.scope.kind = .function
 glob:X.env.globals=CH
 blt:X.env.builtins=Gd
 above:X.s₀.heap.objs.size<=X.env.locals
 inj:∀ x y c,X.env.cells.lookup x=some c->X.env.cells.lookup y=some c->x=y
 has:∀ x,(X.env.kindOf x=some .cell∨X.env.kindOf x=some .free) -> ∃ c,X.env.cells.lookup x=some c
 cab:∀ x c,X.fn x=true->X.env.cells.lookup x=some c->X.s₀.heap.objs.size<=c
 hd:X.calm=true->X.A.handled=none
 frames:X.A.frames=some X.stack
 stk:X.stack=X.outer∨(X.stack=X.env::X.outer/\X.env.frame=some X.env.locals)
 exf:∀ b∈X.ex,b≠X.env.locals /\ ∀ x c,X.env.cells.lookup x=some c->c≠b
 bs:∀ b o,X.base.get? b=some o->X.s₀.heap.get? b=some o/\X.H₀ b=none
 bsz:X.base.objs.size<=X.s₀.heap.objs.size
 noex:∀ b o,X.base.get? b=some o->b∉X.ex
 exfs:∀ b∈X.ex,b∉X.fs
 funs:X.s₀.heap.FunFrames X.base X.outer
 frf:∀ b∈X.fs,X.H₀ b=none
structure Inv (X:Cx) (pins:List (Addr×Obj)) (σ:List (Option V)) (H:Hp) (s:hQ):Prop where
 ok:X.Ok
 os:s.os=X.s₀.os
 bare:FJ s.gens
 base:Un X.fs X.ex X.H₀ H X.s₀.heap s.heap
 loc:∃ m,s.heap.Ns X.env.locals m /\ ∀ (i:Nat) (x:Str) (v:V),X.N[i]? = some x -> σ[i]? = some (some v)->Vis X.env.scope x -> ∃ u,RelV v u/\yI X.env s.heap m x u
 cell:∀ x c,X.env.cells.lookup x=some c -> ∃ v,s.heap.IsCell c v
 free:H X.env.locals=none
 freeC:∀ x c,X.env.cells.lookup x=some c->H c=none
 pin:∀ p∈X.pn++pins,s.heap.get? p.1=some p.2/\H p.1=none/\p.1≠X.env.locals/\p.1∉X.fs /\ ∀ v,p.2.data ≠ .cell v
 hok:HOk X.prog X.w H s.heap
 len : σ.length=X.N.length
section
variable {X:Cx} {pins:List (Addr×Obj)} {σ:List (Option V)} {H H':Hp} {s:hQ} {h':Heap}
theorem Cx.Ok.nofr (ok:X.Ok){o:Obj}(e:X.base.get? b=some o):b∉X.fs:=λj=>by
 have:=(ok.funs.mem j).1;rw[e]at this;cases this
theorem Inv.bs (I:Inv X pins σ H s):∀ b o,X.base.get? b=some o->s.heap.get? b=some o/\H b=none:=λb o e =>
 ⟨I.base.keep b o (I.ok.bs b o e).1 (I.ok.bs b o e).2 (I.ok.nofr e) (I.ok.noex b o e),I.base.free b o (I.ok.bs b o e).1 (I.ok.bs b o e).2 (I.ok.noex b o e)⟩
theorem Inv.bk (I:Inv X pins σ H s):∀ b o,X.base.get? b=some o->s.heap.get? b=some o:=λb o e=>(I.bs b o e).1
theorem Inv.mod (I:Inv X pins σ H s):Mod X.K X.mg X.base:=I.ok.mod
theorem Inv.kIn (I:Inv X pins σ H s):X.K.In s.heap:=I.ok.mod.kin.keeps I.bk
theorem Inv.lt (I:Inv X pins σ H s):X.env.locals<s.heap.objs.size:=let ⟨_,j,_⟩:=I.loc;j.lt
theorem Inv.sz (I:Inv X pins σ H s):X.s₀.heap.objs.size<=s.heap.objs.size:=D7 I.ok.above (Et I.lt)
theorem Inv.nofs (I:Inv X pins σ H s)(h:s.heap.objs.size<=a):a∉X.fs:=λj=>by
 obtain⟨_,o,ho,_⟩:=I.ok.funs.mem j;exact absurd (Co (Cg ho) (D7 I.sz h)) (DA _)
theorem Inv.cne (I:Inv X pins σ H s):∀ x c,X.env.cells.lookup x=some c->c≠X.env.locals:=λx c e z=>by
 obtain⟨v,o,ho,hd⟩:=I.cell x c e;obtain⟨m,⟨o',es,ep,j,B,_⟩,_⟩:=I.loc;rw[z,j]at ho;cases ho;rw[B]at hd;cases hd
theorem Inv.funs (I:Inv X pins σ H s):s.heap.FunFrames X.base X.outer:=by
 have all:∀ (l:List Env),(∀ b∈frs l,b∈X.fs)->X.s₀.heap.FunFrames X.base l->s.heap.FunFrames X.base l:=by
  intro l
  induction l with
  |nil=>intro _ _;trivial
  | cons env r ih =>
    intro hs F;obtain⟨J,⟨L,o,hf,O,ho,hd⟩,U⟩:=F;have j:L∈X.fs:=hs L (by unfold frs;rw[Fk,hf];exact CN)
    obtain⟨sl,e⟩:=I.base.slot L o ho (I.ok.frf L j) j λz=>I.ok.exfs L z j;exact⟨J,⟨L,_,hf,O,e,hd⟩,ih (λb B=>hs b (by unfold frs;rw[Fk,hf];exact Ci _ B)) U⟩
 exact all X.outer (λ_ B=>B) I.ok.funs
theorem Inv.stack (I:Inv X pins σ H s):s.heap.FunFrames X.base X.stack:=by
 rcases I.ok.stk with e|⟨e,hf⟩
 ·rw[e];exact I.funs
 ·rw[e];obtain⟨m,j,_⟩:=I.loc;refine .cons (by rw[I.ok.kind];decide) hf j ?_ I.funs
  exact Heap.get?_none_of_le (D7 I.ok.bsz I.ok.above)
theorem Inv.stkSub (I:Inv X pins σ H s):∀ b∈frs X.stack,b∈X.env.locals::X.fs:=λb j=>by
 rcases I.ok.stk with e|⟨e,hf⟩
 ·rw[e]at j;exact Ci _ j
 ·rw[e]at j;unfold frs at j;rw[Fk,hf]at j;exact j
theorem Inv.stkFree (I:Inv X pins σ H s):∀ b∈frs X.stack,H b=none:=λb j=>by
 rcases Cb.mp (I.stkSub b j) with e|j
 ·rw[e];exact I.free
 ·obtain⟨_,o,ho,_⟩:=I.ok.funs.mem j;exact I.base.free b o ho (I.ok.frf b j) λz=>I.ok.exfs b z j
theorem Inv.step {g':Array GenState}{d':Drawn}(I:Inv X pins σ H s)(j:∀ b∈ch,(b∈X.ex∨X.s₀.heap.objs.size<=b)/\b≠X.env.locals/\(∀ x c,X.env.cells.lookup x=some c->c≠b) /\ ∀ p∈X.pn++pins,p.1≠b)(keep:∀ b o,b≠X.env.locals->b∉X.fs->b∉ch->s.heap.get? b=some o->H b=none->h'.get? b=some o)(slot:∀ b o,b≠X.env.locals->b∈X.fs->b∉ch->s.heap.get? b=some o->H b=none -> ∃ sl,h'.get? b=some { o with slots:=sl })(free:∀ b o,b∉ch->s.heap.get? b=some o->H b=none->H' b=none)(there:∀ b o,b∉ch->s.heap.get? b=some o -> ∃ o',h'.get? b=some o')(tups:∀ b xs,H b=some (.tup xs)->H' b=some (.tup xs))(frzs:∀ b o u,H b=some (.frz o u)->H' b=some (.frz o u))(tbls:∀ b ps,H b=some (.tbl ps) -> ∃ more,H' b=some (.tbl (ps++more)))(ns:∀ m,s.heap.Ns X.env.locals m->h'.Ns X.env.locals m)(hok:HOk X.prog X.w H' h')(U:FJ g') :
 Inv X pins σ H' { s with heap:=h',gens:=g',drawn:=d',toks:=t' }:=by
 have neL:∀ b o,X.s₀.heap.get? b=some o->b≠X.env.locals:=λb o e=>CG (Co (Cg e) I.ok.above);have neC:∀ b o,X.s₀.heap.get? b=some o->b∉X.ex->b∉ch:=λb o e hx F=>by
  rcases (j b F).1 with z|z
  ·exact hx z
  ·exact absurd (Co (Cg e) z) (DA _)
 have cellK:∀ x c,X.env.cells.lookup x=some c -> ∀ v,s.heap.IsCell c v->h'.IsCell c v:=λx c e v ⟨o,ho,hd⟩=>by
  have nch:c∉ch:=λz=>(j c z).2.2.1 x c e rfl
  by_cases L:c∈X.fs
  ·obtain⟨sl,q⟩:=slot c o (I.cne x c e) L nch ho (I.freeC x c e);exact⟨_,q,hd⟩
  ·exact⟨o,keep c o (I.cne x c e) L nch ho (I.freeC x c e),hd⟩
 refine⟨I.ok,I.os,U,⟨λb o e n F hx=>?_,λb o e n F hx=>?_,λb o e n hx=>?_,λb o e hx=>?_,λb xs e=>tups b xs (I.base.tups b xs e),λb o xs e=>frzs b o xs (I.base.frzs b o xs e),λb ps e=>?_⟩,?_,λx c e=>?_,?_,λx c e=>?_,λp O=>?_,hok,I.len⟩
 ·exact keep b o (neL b o e) F (neC b o e hx) (I.base.keep b o e n F hx) (I.base.free b o e n hx)
 ·obtain⟨sl,B⟩:=I.base.slot b o e n F hx;obtain⟨sl',J⟩:=slot b _ (neL b o e) F (neC b o e hx) B (I.base.free b o e n hx);exact⟨sl',J⟩
 ·obtain⟨o',B⟩:=I.base.there b o e hx;exact free b o' (neC b o e hx) B (I.base.free b o e n hx)
 ·obtain⟨o',B⟩:=I.base.there b o e hx;exact there b o' (neC b o e hx) B
 ·obtain⟨Y,B⟩:=I.base.tbls b ps e;obtain⟨Z,J⟩:=tbls b _ B;exact⟨Y++Z,by rw[J,Ht]⟩
 ·obtain⟨m,hn,hl⟩:=I.loc;refine⟨m,ns m hn,λi x v B J e3=>?_⟩;obtain⟨u,r,l⟩:=hl i x v B J e3;refine⟨u,r,?_⟩
  rcases l with l|⟨k,c,e,z⟩
  ·exact .inl l
  ·exact .inr ⟨k,c,e,cellK x c e _ z⟩
 ·obtain⟨v,z⟩:=I.cell x c e;exact⟨v,cellK x c e v z⟩
 ·obtain⟨m,⟨o,_,_,ho,_⟩,_⟩:=I.loc;exact free _ o (λz=>(j _ z).2.1 rfl) ho I.free
 ·obtain⟨v,o,ho,hd⟩:=I.cell x c e;exact free c o (λz=>(j c z).2.2.1 x c e rfl) ho (I.freeC x c e)
 ·obtain⟨e,n,ne,nf,d⟩:=I.pin p O;have nch:p.1∉ch:=λz=>(j p.1 z).2.2.2 p O rfl;exact⟨keep p.1 p.2 ne nf nch e n,free p.1 p.2 nch e n,ne,nf,d⟩
theorem Inv.un (I:Inv X pins σ H s)(u:Un X.fs [] H H' s.heap h')(hok:HOk X.prog X.w H' h'):Inv X pins σ H' { s with heap:=h',toks:=t' }:=by
 obtain⟨m,⟨o,es,ep,ho,r⟩,_⟩:=id I.loc;obtain⟨sl,F⟩:=u.any ho I.free (by simp)
 exact I.step (g':=s.gens) (d':=s.drawn) (ch:=[]) (λ_ z=>nomatch z) (λb o _ B _ e n=>u.keep b o e n B (by simp)) (λb o _ B _ e n=>u.slot b o e n B (by simp)) (λb o _ e n=>u.free b o e n (by simp)) (λb o _ e=>u.there b o e (by simp)) u.tups u.frzs u.tbls (λm' hm=>by
  obtain⟨o',es',ep',j,r'⟩:=hm;rw[ho]at j;cases j;exact⟨_,es',ep',F,r'⟩) hok I.bare
theorem Inv.call {g':Array GenState}{d':Drawn}(I:Inv X pins σ H s)(u:Un (frs X.stack) ch H H' s.heap h')(hok:HOk X.prog X.w H' h')(L:FJ g')(B:∀ b∈ch,(b∈X.ex∨X.s₀.heap.objs.size<=b)/\b≠X.env.locals/\(∀ x c,X.env.cells.lookup x=some c->c≠b) /\ ∀ p∈X.pn++pins,p.1≠b) :
 Inv X pins σ H' { s with heap:=h',gens:=g',drawn:=d',toks:=t' }:=by
 obtain⟨m,⟨o,es,ep,ho,r⟩,_⟩:=id I.loc;obtain⟨sl,J⟩:=u.any ho I.free λz=>(B _ z).2.1 rfl;exact I.step (ch:=ch) B (λb o J O j e n=>u.keep b o e n (λz=>(Cb.mp (I.stkSub b z)).elim J O) j) (λb o _ _ j e n=>u.any e n j) (λb o j e n=>u.free b o e n j) (λb o j e=>u.there b o e j) u.tups u.frzs u.tbls (λm' hm=>by
  obtain⟨o',es',ep',F,r'⟩:=hm;rw[ho]at F;cases F;exact⟨_,es',ep',J,r'⟩) hok L
theorem Inv.turned {it:Addr}(I:Inv X pins σ H s)(k:∀ b o,b≠it->s.heap.get? b=some o->h'.get? b=some o)(F:H it=none)(B:it≠X.env.locals)(h1:it∈X.ex∨X.s₀.heap.objs.size<=it)(h2:∀ x c,X.env.cells.lookup x=some c->c≠it)(J:∀ p∈X.pn++pins,p.1≠it):Inv X pins σ H { s with heap:=h',toks:=t' }:=by
 have nit:∀ b u,H b=some u->b≠it:=λb u e z=>by rw[z,F]at e;cases e
 refine I.step (g':=s.gens) (d':=s.drawn) (ch:=[it]) (λb L=>?_) (λb o _ _ j e _=>k b o (λz=>j (by simp[z])) e) (λb o _ _ j e _=>⟨o.slots,k b o (λz=>j (by simp[z])) e⟩) (λ_ _ _ _ n=>n)
  (λb o j e=>⟨o,k b o (λz=>j (by simp[z])) e⟩) (λ_ _ e=>e) (λ_ _ _ e=>e) (λb ps e=>⟨#[],by rw[e];simp⟩) (λm hm=>?_) (λb u e=>?_) I.bare
 ·have e:b=it:=by simpa using L
  subst e;exact⟨h1,B,h2,J⟩
 ·obtain⟨o,es,ep,ho,r⟩:=hm;exact⟨o,es,ep,k _ o (Ne.symm B) ho,r⟩
 ·refine(I.hok b u e).stay (λc v j q=>k c v ?_ q) (λ_ q=>q) λ_ _ q=>q
  rcases j with z|z
  ·rw[z];exact nit b u e
  ·exact nit c _ z
theorem Inv.tok (I:Inv X pins σ H s)(t:Nat):Inv X pins σ H { s with toks:=t }:=I.un (h':=s.heap) (t':=t) Un.refl I.hok
theorem Inv.kept (I:Inv X pins σ H s)(k:∀ b u,s.heap.get? b=some u->h'.get? b=some u):Inv X pins σ H { s with heap:=h',toks:=t' }:=I.un (Un.kept k) (I.hok.kept k)
theorem Inv.laid (I:Inv X pins σ H s)(k:∀ b u,s.heap.get? b=some u->h'.get? b=some u)(j:s.heap.objs.size<=a)(new:ObjOk X.prog X.w (upd H a o) h' a o) :
 Inv X pins σ (upd H a o) { s with heap:=h',toks:=t' }:=I.un (Un.laid k j (I.hok.fresh j)) (I.hok.laid k j new)
theorem Inv.write {x e:Addr}(I:Inv X pins σ H s)(mu:Mut (H x))(he:e=x∨H e=some (.own x))(k:∀ b u,b≠e->s.heap.get? b=some u->h'.get? b=some u)(j:∃ u,h'.get? e=some u)(new:ObjOk X.prog X.w (upd H x o) h' x o):Inv X pins σ (upd H x o) { s with heap:=h',toks:=t' }:=I.un (Un.write mu he k j) (I.hok.write mu he k j new)
theorem Inv.pins_of {pins':List (Addr×Obj)}(I:Inv X pins σ H s)(h:∀ p∈pins',s.heap.get? p.1=some p.2/\H p.1=none/\p.1≠X.env.locals/\p.1∉X.fs /\ ∀ v,p.2.data ≠ .cell v):Inv X pins' σ H s :=
 ⟨I.ok,I.os,I.bare,I.base,I.loc,I.cell,I.free,I.freeC,λp j=>(Df.mp j).elim (λz=>I.pin p (Fb _ z)) (h p),I.hok,I.len⟩
theorem j4 (z:N.Nodup){j:Nat}(a:N[i]? = some x)(b:N[j]? = some x):i=j:=by
 obtain⟨h1,B⟩:=Cw.mp a;obtain⟨h2,F⟩:=Cw.mp b;exact(List.getElem_inj z).mp (B.trans F.symm)
theorem nN {E:h6->hQ->Prop}{Q:Unit->hQ->Prop}(I:Inv X pins σ H s)(hN:X.N.Nodup)(hi:X.N[i]? = some x)(hx:Loc X.env.scope x)(r:RelV v u)(h:∀ s',Inv X pins (σ.set i (some v)) H s'->(∃ a,D8 a s.heap s'.heap/\(a=X.env.locals∨X.env.cells.lookup x=some a))->Q () s')(hf:X.fn x=true∨X.env.scope.names.lookup x=some .local:=by first|exact .inl rfl|exact .inr rfl|assumption):Cj M A (storeName X.env x u) Q E s:=by
 obtain⟨m,hn,hl⟩:=id I.loc;have BD:(X.env.scope.kind == .class || (X.env.scope.kind == .module&&X.env.locals != X.env.globals))=false:=by rw[I.ok.kind];rfl
 have BE:i<σ.length:=by rw[I.len];exact(Cw.mp hi).1
 have cne:=I.cne;have tracked:∀ {a:Addr} {h':Heap},(∃ o,s.heap.get? a=some o/\H a=none)->D8 a s.heap h'->HOk X.prog X.w H h':=λ{a h'} ha hs b ob e=>by
  obtain⟨_,_,J⟩:=ha;refine(I.hok b ob e).stay (λc w' F q=>(hs.2 c ?_).trans q) (λ_ q=>q) λ_ _ q=>q;rintro rfl
  rcases F with rfl|F
  ·rw[J]at e;cases e
  ·rw[J]at F;cases F
 rcases hx with O|O
 ·refine wpAny_storeName_local O hn (λh' BK hs=>?_) BD;obtain⟨oL,_,_,BL,_⟩:=id hn;refine h _ ⟨I.ok,I.os,I.bare,⟨λb o e n U hx=>?_,λb o e n U hx=>?_,I.base.free,λb o e hx=>?_,I.base.tups,I.base.frzs,I.base.tbls⟩,⟨_,BK,λj y v' B L e3=>?_⟩,λy c e=>?_,I.free,I.freeC,λp hp=>?_,tracked ⟨oL,BL,I.free⟩ hs,by simpa using I.len⟩ ⟨_,hs,.inl rfl⟩
  ·exact(hs.2 b (CG (Co (Cg e) I.ok.above))).trans (I.base.keep b o e n U hx)
  ·obtain⟨sl,B⟩:=I.base.slot b o e n U hx;exact⟨sl,(hs.2 b (CG (Co (Cg e) I.ok.above))).trans B⟩
  ·obtain⟨o',B⟩:=I.base.there b o e hx;exact⟨o',(hs.2 b (CG (Co (Cg e) I.ok.above))).trans B⟩
  ·by_cases Y:j=i
   ·subst Y;rw[hi]at B;cases B;rw[Dw BE]at L
    cases L
    exact⟨u,r,.inl ⟨O,by simp⟩⟩
   ·rw[Em (Ne.symm Y)]at L;obtain⟨u',r',q⟩:=hl j y v' B L e3;refine⟨u',r',?_⟩
    rcases q with⟨k,e⟩|⟨k,c,e,z⟩
    ·refine .inl ⟨k,?_⟩;have:y≠x:=λe=>Y (j4 hN B (e ▸ hi));simp[this,e]
    ·exact .inr ⟨k,c,e,z.sameBut hs (cne y c e)⟩
  ·obtain⟨w',z⟩:=I.cell y c e;exact⟨w',z.sameBut hs (cne y c e)⟩
  ·obtain⟨e,n,ne,nf,d⟩:=I.pin p hp;exact⟨(hs.2 p.1 ne).trans e,n,ne,nf,d⟩
 ·have Z:X.fn x=true:=by
   rcases hf with z|z
   ·exact z
   ·rw[z]at O;cases O
  obtain⟨c,F⟩:=I.ok.has x (.inl O);obtain⟨w',z⟩:=I.cell x c F;refine wpAny_storeName_cell I.ok.kind O F z (λh' BG hs=>?_);obtain⟨oc,BH,BI⟩:=id z;refine h { s with heap:=h' } ⟨I.ok,I.os,I.bare,⟨λb o e n U hx=>?_,λb o e n U hx=>?_,I.base.free,λb o e hx=>?_,I.base.tups,I.base.frzs,I.base.tbls⟩,⟨m,hn.sameBut hs (Ne.symm (cne x c F)),λj y v' B L e3=>?_⟩,λy c' e=>?_,I.free,I.freeC,λp hp=>?_,tracked ⟨oc,BH,I.freeC x c F⟩ hs,by simpa using I.len⟩ ⟨c,hs,.inr F⟩
  ·exact(hs.2 b (CG (Co (Cg e) (I.ok.cab x c Z F)))).trans (I.base.keep b o e n U hx)
  ·obtain⟨sl,B⟩:=I.base.slot b o e n U hx;exact⟨sl,(hs.2 b (CG (Co (Cg e) (I.ok.cab x c Z F)))).trans B⟩
  ·obtain⟨o',B⟩:=I.base.there b o e hx;exact⟨o',(hs.2 b (CG (Co (Cg e) (I.ok.cab x c Z F)))).trans B⟩
  ·by_cases Y:j=i
   ·subst Y;rw[hi]at B;cases B;rw[Dw BE]at L
    cases L
    exact⟨u,r,.inr ⟨.inl O,c,F,BG⟩⟩
   ·rw[Em (Ne.symm Y)]at L;obtain⟨u',r',q⟩:=hl j y v' B L e3;refine⟨u',r',?_⟩
    rcases q with q|⟨k,c',e,z'⟩
    ·exact .inl q
    ·refine .inr ⟨k,c',e,z'.sameBut hs ?_⟩;rintro rfl;exact Y (j4 hN B (I.ok.inj _ _ _ e F ▸ hi))
  ·by_cases BJ:c'=c
   ·subst BJ;exact⟨_,BG⟩
   ·obtain⟨w2,z2⟩:=I.cell y c' e;exact⟨w2,z2.sameBut hs BJ⟩
  ·obtain⟨e,n,ne,nf,d⟩:=I.pin p hp;refine⟨(hs.2 p.1 ?_).trans e,n,ne,nf,d⟩;intro q;rw[q,BH]at e;have q':oc=p.2:=Dz.inj e;exact d w' (by rw[<- q'];exact BI)
theorem dv {E:h6->hQ->Prop}{Q:Unit->hQ->Prop}(I:Inv X pins σ H s)(j:X.N.Nodup)(hi:X.N[i]? = some x)(hx:Loc X.env.scope x)(r:RelV v u)(h:∀ s',Inv X pins (σ.set i (some v)) H s'->Q () s')(hf:X.fn x=true∨X.env.scope.names.lookup x=some .local:=by first|exact .inl rfl|exact .inr rfl|assumption):Cj M A (storeName X.env x u) Q E s :=
 nN I j hi hx r (λs' I' _=>h s' I') hf
theorem Inv.call' {s':hQ}(I:Inv X pins σ H s)(ho:s'.os=s.os)(u:Un (frs X.stack) ch H H' s.heap s'.heap)(hok:HOk X.prog X.w H' s'.heap)(z:FJ s'.gens)(j:∀ b∈ch,(b∈X.ex∨X.s₀.heap.objs.size<=b)/\b≠X.env.locals/\(∀ x c,X.env.cells.lookup x=some c->c≠b) /\ ∀ p∈X.pn++pins,p.1≠b):Inv X pins σ H' s':=by
 obtain⟨h',g',d',t',o'⟩:=s';have e:o'=s.os:=ho;subst e;exact I.call (g':=g') (t':=t') (d':=d') u hok z j
end
noncomputable abbrev XK:=h6->Option Addr->Hp->Prop
noncomputable abbrev St:=List (Option V)
noncomputable abbrev VK:=V->Hp->Prop
noncomputable abbrev TE:=St->Hp->VK->Prop
noncomputable abbrev TT:=St->Hp->(Bool->Hp->Prop)->Prop
noncomputable abbrev TA:=St->Hp->(List V->Hp->Prop)->Prop
structure bp where
 nx:St->Hp->Prop
 rt:VK
 bk:St->Hp->Prop:=λ_ _=>False
 ct:St->Hp->Prop:=λ_ _=>False
noncomputable abbrev TS:=bp->St->Hp->Prop
def EP (X:Cx) (pins:List (Addr×Obj)) (σ:St) (Q:VK) (u:h6) (s':hQ):Prop:=∃ v H',Inv X pins σ H' s'/\RelV v u/\Q v H'
def TP (X:Cx) (pins:List (Addr×Obj)) (σ:St) (Q:Bool->Hp->Prop) (b:Bool) (s':hQ):Prop:=∃ H',Inv X pins σ H' s'/\Q b H'
def AP (X:Cx) (pins:List (Addr×Obj)) (σ:St) (Q:List V->Hp->Prop) (us:List h6) (s':hQ):Prop:=∃ vs H',Inv X pins σ H' s'/\Vals vs us/\Q vs H'
def SP (X:Cx) (pins:List (Addr×Obj)) (D:bp) (f:Flow) (s':hQ):Prop :=
 match f with
 |.next=>∃ σ' H',Inv X pins σ' H' s'/\D.nx σ' H'
 |.brk=>∃ σ' H',Inv X pins σ' H' s'/\D.bk σ' H'
 |.cont=>∃ σ' H',Inv X pins σ' H' s'/\D.ct σ' H'
 |.ret u=>∃ v σ' H',Inv X pins σ' H' s'/\RelV v u/\D.rt v H'
def PE (X:Cx) (e:Expr) (t:TE):Prop :=
 ∀ (pins:List (Addr×Obj)) (s:hQ) (σ:St) (H:Hp) (Q:VK),Inv X pins σ H s->t σ H Q->Cj (model X.prog X.w) X.A (eval e X.env) (EP X pins σ Q) X.xe s
def PT (X:Cx) (e:Expr) (t:TT):Prop :=
 ∀ (pins:List (Addr×Obj)) (s:hQ) (σ:St) (H:Hp) (Q:Bool->Hp->Prop),Inv X pins σ H s->t σ H Q->Cj (model X.prog X.w) X.A (isTrue e X.env (eval e X.env)) (TP X pins σ Q) X.xe s
def PW (X:Cx) (e:Expr) (t:TT):Prop :=
 ∀ (whole:Sem h6) (pins:List (Addr×Obj)) (s:hQ) (σ:St) (H:Hp) (Q:Bool->Hp->Prop),Inv X pins σ H s->t σ H Q->Cj (model X.prog X.w) X.A (isTrue e X.env whole) (TP X pins σ Q) X.xe s
theorem PW.pt {X:Cx}{t:TT}(h:PW X e t):PT X e t:=h _
def PA (X:Cx) (es:List Expr) (t:TA):Prop :=
 ∀ (pos:Pos) (pins:List (Addr×Obj)) (s:hQ) (σ:St) (H:Hp) (Q:List V->Hp->Prop),Inv X pins σ H s->t σ H Q->Cj (model X.prog X.w) X.A (spliced (DH pos (Cm es X.env))) (AP X pins σ Q) X.xe s
def PS (X:Cx) (st:Stmt) (t:TS):Prop :=
 ∀ (pins:List (Addr×Obj)) (s:hQ) (σ:St) (H:Hp) (D:bp),Inv X pins σ H s->t D σ H->Cj (model X.prog X.w) X.A (exec st X.env) (SP X pins D) X.xe s
def PSs (X:Cx) (st:List Stmt) (t:TS):Prop :=
 ∀ (pins:List (Addr×Obj)) (s:hQ) (σ:St) (H:Hp) (D:bp),Inv X pins σ H s->t D σ H->Cj (model X.prog X.w) X.A (execs st X.env) (SP X pins D) X.xe s
theorem thn {α:Type}{t:Sem α}{Q Q' : α -> hQ->Prop}{E:h6->hQ->Prop}(h:Cj M A t Q E s)(j:∀ a s,Q a s->Q' a s):Cj M A t Q' E s:=DR h j λ_ _ x=>x
end
variable {X:Cx}{pos:Pos}{pins:List (Addr×Obj)}{σ:St}{c:Expr}
section
section
variable {X:Cx}
noncomputable def yJ (i:Nat):TE:=λσ H Q=>∃ v,σ[i]? = some (some v)/\Q v H
noncomputable def tC (v:V):TE:=λ_ H Q=>Q v H
theorem uZ (J:X.N[i]? = some x)(L:Vis X.env.scope x)(hd:(x==("__debug__":Str))=false:=by decide)(B:(x==("__classdict__":Str))=false:=by decide):PE X (.Name x pos) (yJ i):=by
 intro pins s σ H Q I h;obtain⟨v,e,h⟩:=h;obtain⟨m,O,U⟩:=I.loc;obtain⟨u,r,l⟩:=U i x v J e L;have fin:EP X pins σ Q u s:=⟨v,H,I,r,h⟩
 rcases l with⟨z,hm⟩|⟨z,c,F,j⟩
 ·exact J0 (GC I.ok.kind z O hm fin) hd
 ·rcases z with z|z
  ·exact J0 (Ha I.ok.kind z F j fin) hd
  ·exact J0 (wpAny_loadName_free I.ok.kind z F j fin B) hd
theorem v0 {i j pos}:PE X (.Constant (.int i) j pos) (tC (.int i)):=λ_ _ _ H _ I h=>Hu ⟨.int i,H,I.tok _,⟨_,rfl⟩,h⟩
theorem xl {b j pos}:PE X (.Constant (.bool b) j pos) (tC (.bl b)):=λ_ _ _ H _ I h=>Constant_bool ⟨.bl b,H,I,rfl,h⟩
theorem v5 {j pos}:PE X (.Constant .none j pos) (tC .non):=λ_ _ _ H _ I h=>Constant_none ⟨.non,H,I,rfl,h⟩
theorem v6 {x j pos}:PE X (.Constant (.str x) j pos) (tC (.str x)):=λ_ _ _ H _ I h=>Calls.Constant_str ⟨.str x,H,I.tok _,⟨_,rfl⟩,h⟩
def Gl (X:Cx) (x:Str):Prop:=X.env.kindOf x=some .globalImplicit
theorem gG {E Q:h6->hQ->Prop}(I:Inv X pins σ H s)(j:Gl X x)(hm:X.mg x=some u)(h:Q u s)(hd:(x==("__debug__":Str))=false:=by decide):Cj (model X.prog X.w) X.A (eval (.Name x pos) X.env) Q E s :=
 Fs I.ok.kind j (Calls.loadGlobal_global (by rw[I.ok.glob];exact I.mod.glob.keeps I.bk) hm h) hd
theorem cO {E Q:h6->hQ->Prop}(I:Inv X pins σ H s)(j:Gl X x)(hm:X.mg x=none)(z:E7 x=some u)(h:Q u s)(B:x ≠ "__name__":=by decide)(hd:(x==("__debug__":Str))=false:=by decide):Cj (model X.prog X.w) X.A (eval (.Name x pos) X.env) Q E s:=by
 obtain⟨mb,h1,h2⟩:=I.mod.blt;exact Fs I.ok.kind j (Calls.loadGlobal_builtin (by rw[I.ok.glob];exact I.mod.glob.keeps I.bk) hm (by rw[I.ok.blt];exact h1.keeps I.bk) ((h2 x B).trans z) h) hd
theorem t7 (j:Gl X x)(hm:X.mg x=some u)(r:RelV v u)(hd:(x==("__debug__":Str))=false:=by decide):PE X (.Name x pos) (tC v) :=
 λ_ _ _ H _ I h=>gG I j hm ⟨v,H,I,r,h⟩ hd
theorem t8 (j:Gl X x)(hm:X.mg x=none)(z:E7 x=some u)(r:RelV v u)(B:x ≠ "__name__":=by decide)(hd:(x==("__debug__":Str))=false:=by decide):PE X (.Name x pos) (tC v) :=
 λ_ _ _ H _ I h=>cO I j hm z ⟨v,H,I,r,h⟩ B hd
variable {a b:Expr} {ta tb:TE} {pos:Pos}
variable {tA tB':TT} {rest:List Expr}
noncomputable def yK (t u:TT):TT:=λσ H Q=>t σ H λc H1=>if c=true then u σ H1 Q else Q false H1
noncomputable def tOr (t u:TT):TT:=λσ H Q=>t σ H λc H1=>if c=true then Q true H1 else u σ H1 Q
noncomputable def yL (t:TT):TT:=λσ H Q=>t σ H λc H1=>Q (!c) H1
theorem t9 (j:PT X a tA):PW X (.BoolOp .And [a] pos) tA:=by
 intro wh pins s σ H Q I h;refine isTrue_and (thn (j pins s σ H Q I h) λc s1 e=>?_)
 cases c with
 |true=>exact isTrue_and_nil e
 |false=>exact e
theorem v7 (j:PT X a tA):PW X (.BoolOp .Or [a] pos) tA:=by
 intro wh pins s σ H Q I h;refine isTrue_or (thn (j pins s σ H Q I h) λc s1 e=>?_)
 cases c with
 |false=>exact isTrue_or_nil e
 |true=>exact e
theorem v8 (B:PT X a tA)(F:PW X (.BoolOp .And (b::rest) pos) tB'):PW X (.BoolOp .And (a::b::rest) pos) (yK tA tB'):=by
 intro wh pins s σ H Q I h;refine isTrue_and (thn (B pins s σ H _ I h) λc s1 J=>?_);obtain⟨H1,j,z⟩:=J
 cases c with
 |true=>exact F wh pins s1 σ H1 Q j z
 |false=>exact⟨H1,j,z⟩
theorem xm (B:PT X a tA)(F:PW X (.BoolOp .Or (b::rest) pos) tB'):PW X (.BoolOp .Or (a::b::rest) pos) (tOr tA tB'):=by
 intro wh pins s σ H Q I h;refine isTrue_or (thn (B pins s σ H _ I h) λc s1 J=>?_);obtain⟨H1,j,z⟩:=J
 cases c with
 |true=>exact⟨H1,j,z⟩
 |false=>exact F wh pins s1 σ H1 Q j z
theorem v9 (j:PT X a tA):PT X (.UnaryOp .Not a pos) (yL tA):=by
 intro pins s σ H Q I h;exact isTrue_not (j pins s σ H (λc H1=>Q (!c) H1) I h)
noncomputable def xo (ta tb:TE):TE:=λσ H Q=>ta σ H λx H1=>∃ c,x = .bl c/\if c=true then tb σ H1 Q else Q (.bl false) H1
noncomputable def yM (ta tb:TE):TE:=λσ H Q=>ta σ H λx H1=>∃ c,x = .bl c/\if c=true then Q (.bl true) H1 else tb σ H1 Q
noncomputable def xp (ta:TE):TE:=λσ H Q=>ta σ H λx H1=>∃ c,x = .bl c/\Q (.bl (!c)) H1
theorem va {op}{t:TE}(h:PE X a t):PE X (.BoolOp op [a] pos) t:=λpins s σ H Q I hw=>BoolOp_one (h pins s σ H Q I hw)
theorem vb (B:PE X a ta)(F:PE X (.BoolOp .And (b::rest) pos) tb):PE X (.BoolOp .And (a::b::rest) pos) (xo ta tb):=by
 intro pins s σ H Q I h;refine BoolOp_and (thn (B pins s σ H _ I h) λv s1 J=>?_);obtain⟨x,H1,z,L,j⟩:=J;obtain⟨c,rfl,j⟩:=j
 cases L
 refine CV ?_
 cases c with
 |true=>exact F pins s1 σ H1 Q z j
 |false=>exact⟨.bl false,H1,z,rfl,j⟩
theorem xq (B:PE X a ta)(F:PE X (.BoolOp .Or (b::rest) pos) tb):PE X (.BoolOp .Or (a::b::rest) pos) (yM ta tb):=by
 intro pins s σ H Q I h;refine BoolOp_or (thn (B pins s σ H _ I h) λv s1 J=>?_);obtain⟨x,H1,z,L,j⟩:=J;obtain⟨c,rfl,j⟩:=j
 cases L
 refine CV ?_
 cases c with
 |false=>exact F pins s1 σ H1 Q z j
 |true=>exact⟨.bl true,H1,z,rfl,j⟩
theorem vc (z:PE X a ta):PE X (.UnaryOp .Not a pos) (xp ta):=by
 intro pins s σ H Q I h;refine UnaryOp_ (thn (z pins s σ H _ I h) λv s1 B=>?_);obtain⟨x,H1,F,J,j⟩:=B;obtain⟨c,rfl,j⟩:=j
 cases J
 exact not_of (CV ⟨.bl (!c),H1,F,rfl,j⟩)
noncomputable def tIf (t:TT) (ta tb:TE):TE:=λσ H Q=>t σ H λc H1=>if c=true then ta σ H1 Q else tb σ H1 Q
theorem qd (B:PT X c tA)(F:PE X a ta)(J:PE X b tb):PE X (.IfExp c a b pos) (tIf tA ta tb):=by
 intro pins s σ H Q I h;refine wpAny_IfExp (thn (B pins s σ H _ I h) λd s1 L=>?_);obtain⟨H1,j,z⟩:=L
 cases d with
 |true=>exact F pins s1 σ H1 Q j z
 |false=>exact J pins s1 σ H1 Q j z
end
end
variable {K:Frag}{tg:Expr}{body:List Stmt}
section
def SqL (K:Frag) (H:Hp) (a:Addr) (xs:List V):Prop :=
 Rd H a (.lst xs) ∨
  ∃ (o:Obj) (its:Array h6) (n:Nat),K.lookup a=some o/\o.cls = .type "list" /\ o.dict=none/\o.data = .seq its n/\its.size<=tv/\Vals xs its.toList
def SqT (K:Frag) (H:Hp) (a:Addr) (xs:List V):Prop :=
 Rd H a (.tup xs) ∨
  ∃ (o:Obj) (its:Array h6) (n:Nat),K.lookup a=some o/\o.cls = .type "tuple" /\ o.data = .seq its n/\its.size<=tv/\Vals xs its.toList
noncomputable def yN:h6->Option V
 |.none=>some .non
 |.bool b=>some (.bl b)
 |.int i _=>some (.int i)
 |.str x _=>some (.str x)
 |.bytes b _=>some (.byt b)
 |.float b _=>some (.flt b)
 |.ref a=>some (.ref a)
 |.type n=>some (.ty n)
 |_=>none
theorem RelV.abs {x:V}(r:RelV x u):yN u=some x:=by
 cases x with
 |non=>cases r;rfl
 |bl _=>cases r;rfl
 |int _=>obtain⟨t,rfl⟩:=r;rfl
 |str _=>obtain⟨t,rfl⟩:=r;rfl
 |byt _=>obtain⟨t,rfl⟩:=r;rfl
 |flt _=>obtain⟨t,rfl⟩:=r;rfl
 |ref _=>cases r;rfl
 |ty _=>cases r;rfl
theorem RelV.inj {x y:V}(r:RelV x u)(q:RelV y u):x=y:=Dz.inj (r.abs.symm.trans q.abs)
theorem Vals.inj:∀ {xs ys:List V} {us:List h6},Vals xs us->Vals ys us->xs=ys
 |_,_,_,.nil,.nil=>rfl
 |_,_,_,.cons r t,.cons r' t'=>by rw[r.inj r',Vals.inj t t']
section
variable {X:Cx} {pins:List (Addr×Obj)} {σ:St} {H:Hp} {s:hQ} {a:Addr} {xs ys:List V}
theorem SqL.of (h:H a=some (.lst xs)):SqL K H a xs:=.inl (.inl h)
theorem SqT.of (h:H a=some (.tup xs)):SqT K H a xs:=.inl (.inl h)
theorem Inv.list (I:Inv X pins σ H s)(h:SqL X.K H a xs):∃ its:List h6,Vals xs its/\PlainL s.heap a its.toArray/\xs.length<=tv:=by
 rcases h with h|⟨o,its,n,j,B,hd,hs,F,r⟩
 ·obtain⟨z,its,n,r,e⟩:=h.ok I.hok;exact⟨its,r,⟨_,n,e,rfl,rfl,rfl⟩,z⟩
 ·refine⟨its.toList,r,⟨o,n,I.kIn a o j,B,hd,by simpa using hs⟩,?_⟩
  have e:=r.length;simp only[Fl]at e;lia
theorem Inv.tuple (I:Inv X pins σ H s)(h:SqT X.K H a xs):∃ its:List h6,Vals xs its/\IsTup s.heap a its.toArray/\xs.length<=tv:=by
 rcases h with h|⟨o,its,n,j,B,hs,F,r⟩
 ·obtain⟨z,its,r,p⟩:=h.ok I.hok;exact⟨its,r,p,z⟩
 ·refine⟨its.toList,r,⟨o,I.kIn a o j,B,n,by simpa using hs⟩,?_⟩
  have e:=r.length;simp only[Fl]at e;lia
theorem Inv.list_inj (I:Inv X pins σ H s)(h:SqL X.K H a xs)(h':SqL X.K H a ys):xs=ys:=by
 obtain⟨its,r,⟨o,n,e,_,_,d⟩,_⟩:=I.list h;obtain⟨its',r',⟨o',n',e',_,_,d'⟩,_⟩:=I.list h';rw[e]at e';cases e';rw[d]at d'
 injection d' with d1 _
 have:its=its':=by simpa using congrArg Array.toList d1
 subst this;exact r.inj r'
theorem Inv.tuple_inj (I:Inv X pins σ H s)(h:SqT X.K H a xs)(h':SqT X.K H a ys):xs=ys:=by
 obtain⟨its,r,⟨o,e,_,n,d⟩,_⟩:=I.tuple h;obtain⟨its',r',⟨o',e',_,n',d'⟩,_⟩:=I.tuple h';rw[e]at e';cases e';rw[d]at d'
 injection d' with d1 _
 have:its=its':=by simpa using congrArg Array.toList d1
 subst this;exact r.inj r'
end
noncomputable abbrev Cx.wish (X:Cx) (E:h6->hQ->Prop):Cx:={ X with xe:=E }
noncomputable abbrev Cx.nox (X:Cx):Cx:=X.wish λ_ _=>False
theorem Cx.Ok.wish (ok:X.Ok)(E:h6->hQ->Prop):(X.wish E).Ok :=
 ⟨ok.mod,ok.kind,ok.glob,ok.blt,ok.above,ok.inj,ok.has,ok.cab,ok.hd,ok.frames,ok.stk,ok.exf,ok.bs,ok.bsz,ok.noex,ok.exfs,ok.funs,ok.frf⟩
theorem Cx.Ok.unwish {E:h6->hQ->Prop}(ok:(X.wish E).Ok):X.Ok :=
 ⟨ok.mod,ok.kind,ok.glob,ok.blt,ok.above,ok.inj,ok.has,ok.cab,ok.hd,ok.frames,ok.stk,ok.exf,ok.bs,ok.bsz,ok.noex,ok.exfs,ok.funs,ok.frf⟩
section
variable {X:Cx} {pins:List (Addr×Obj)} {σ:St} {H:Hp} {s:hQ} {E:h6->hQ->Prop}
theorem Inv.wish (I:Inv X pins σ H s)(E:h6->hQ->Prop):Inv (X.wish E) pins σ H s:=⟨I.ok.wish E,I.os,I.bare,I.base,I.loc,I.cell,I.free,I.freeC,I.pin,I.hok,I.len⟩
theorem Inv.unwish (I:Inv (X.wish E) pins σ H s):Inv X pins σ H s:=⟨I.ok.unwish,I.os,I.bare,I.base,I.loc,I.cell,I.free,I.freeC,I.pin,I.hok,I.len⟩
theorem SP.unwish {D:bp}{f:Flow}{s':hQ}(h:SP (X.wish E) pins D f s'):SP X pins D f s':=by
 cases f with
 |next=>obtain⟨σ',H',I,q⟩:=h;exact⟨σ',H',I.unwish,q⟩
 |brk=>obtain⟨σ',H',I,q⟩:=h;exact⟨σ',H',I.unwish,q⟩
 |cont=>obtain⟨σ',H',I,q⟩:=h;exact⟨σ',H',I.unwish,q⟩
 |ret u=>obtain⟨v,σ',H',I,r,q⟩:=h;exact⟨v,σ',H',I.unwish,r,q⟩
theorem PSs.nox {st:List Stmt}{t:TS}(h:PSs X.nox st t):PSs X st t:=λpins s σ H D I hw =>
 DR (h pins s σ H D (I.wish _) hw) (λ_ _ q=>q.unwish) λ_ _ z=>False.elim z
end
section
variable {X:Cx} {st:Stmt} {rest:List Stmt} {t u:TS} {e:Expr} {te:TE} {pos:Pos}
noncomputable def lF:TS:=λD σ H=>D.nx σ H
noncomputable def vd (t u:TS):TS:=λD σ H=>t { D with nx:=u D } σ H
theorem tf:PSs X [] lF:=λ_ _ σ H _ I h=>Gr ⟨σ,H,I,h⟩
theorem qe (h1:PS X st t)(h2:PSs X rest u):PSs X (st::rest) (vd t u):=by
 intro pins s σ H D I h;refine wpAny_execs_cons (thn (h1 pins s σ H { D with nx:=u D } I h) λf s1 q=>?_)
 cases f with
 | next =>
   obtain⟨σ',H',I',q⟩:=q;exact h2 pins s1 σ' H' D I' q
 |ret v=>exact q
 |brk=>exact q
 |cont=>exact q
noncomputable def nO:TS:=λD σ H=>D.bk σ H
noncomputable def sv:TS:=λD σ H=>D.ct σ H
theorem tm:PS X (.Pass pos) lF:=λ_ _ σ H _ I h=>wpAny_Pass ⟨σ,H,I,h⟩
theorem qf:PS X (.Break pos) nO:=λ_ _ σ H _ I h=>wpAny_Break ⟨σ,H,I,h⟩
theorem kr:PS X (.Continue pos) sv:=λ_ _ σ H _ I h=>wpAny_Continue ⟨σ,H,I,h⟩
theorem Inv.quiet (I:Inv X pins σ H s):interactive X.env=false:=by simp[interactive,I.ok.kind]
noncomputable def sx (te:TE):TS:=λD σ H=>te σ H λ_ H1=>D.nx σ H1
theorem tq (he:PE X e te)(hs:EO e none pos.line X.env=pure false:=by rfl):PS X (.Expr e pos) (sx te):=by
 intro pins s σ H D I h;exact wpAny_Expr_any (thn (he pins s σ H _ I h) λv s1 j=>(by obtain⟨x,H1,z,F,B⟩:=j;exact⟨σ,H1,z,B⟩)) I.quiet hs
noncomputable def ve (te:TE):TS:=λD σ H=>te σ H D.rt
theorem vf (he:PE X e te):PS X (.Return (some e) pos) (ve te):=by
 intro pins s σ H D I h;exact wpAny_Return_some (thn (he pins s σ H _ I h) λv s1 j=>(by obtain⟨x,H1,z,B,F⟩:=j;exact⟨x,σ,H1,z,B,F⟩))
noncomputable def vg (c:TT) (t u:TS):TS:=λD σ H=>c σ H λb H1=>if b=true then t D σ H1 else u D σ H1
theorem xr {a b:List Stmt}{tc:TT}(B:PT X c tc)(F:PSs X a t)(J:PSs X b u):PS X (.If c a b pos) (vg tc t u):=by
 intro pins s σ H D I h;refine wpAny_If (thn (B pins s σ H _ I h) λd s1 L=>?_);obtain⟨H1,j,z⟩:=L
 cases d with
 |true=>exact F pins s1 σ H1 D j z
 |false=>exact J pins s1 σ H1 D j z
end
noncomputable abbrev TG:=V->St->Hp->(St->Hp->Prop)->Prop
noncomputable abbrev TGs:=List V->St->Hp->(St->Hp->Prop)->Prop
def PG (X:Cx) (target:Expr) (t:TG):Prop :=
 ∀ (pins:List (Addr×Obj)) (s:hQ) (σ:St) (H:Hp) (v:V) (u:h6) (Q:St->Hp->Prop),Inv X pins σ H s->RelV v u->t v σ H Q ->
  Cj (model X.prog X.w) X.A (assign target X.env u) (λ_ s'=>∃ σ' H',Inv X pins σ' H' s'/\Q σ' H') X.xe s
def PGs (X:Cx) (ts:List Expr) (t:TGs):Prop :=
 ∀ (pins:List (Addr×Obj)) (s:hQ) (σ:St) (H:Hp) (vs:List V) (us:List h6) (Q:St->Hp->Prop),Inv X pins σ H s->Vals vs us->t vs σ H Q ->
  Cj (model X.prog X.w) X.A (Hi ((Dj ts X.env).map (·.2)) us) (λ_ s'=>∃ σ' H',Inv X pins σ' H' s'/\Q σ' H') X.xe s
noncomputable abbrev lH:=V->V->V->Hp->(Hp->Prop)->Prop
def PSet (X:Cx) (t:lH):Prop :=
 ∀ (pins:List (Addr×Obj)) (s:hQ) (σ:St) (H:Hp) (o i v:V) (ov iv u:h6) (Q:Hp->Prop),Inv X pins σ H s->RelV o ov->RelV i iv->RelV v u->t o i v H Q ->
  Cj (model X.prog X.w) X.A (setItem ov iv u) (λ_ s'=>∃ H',Inv X pins σ H' s'/\Q H') X.xe s
noncomputable abbrev TIp:=V->V->Hp->VK->Prop
def PIp (X:Cx) (op:EU) (t:TIp):Prop :=
 ∀ (pins:List (Addr×Obj)) (s:hQ) (σ:St) (H:Hp) (x y:V) (v u:h6) (Q:VK),Inv X pins σ H s->RelV x v->RelV y u->t x y H Q ->
  Cj (model X.prog X.w) X.A (DM op v u) (EP X pins σ Q) X.xe s
section
variable {X:Cx} {pos:Pos}
noncomputable def fE (i:Nat):TG:=λv σ H Q=>Q (σ.set i (some v)) H
theorem kG (j:X.N.Nodup)(hi:X.N[i]? = some x)(hx:Loc X.env.scope x)(hf:X.fn x=true∨X.env.scope.names.lookup x=some .local:=by first|exact .inl rfl|exact .inr rfl|assumption):PG X (.Name x pos) (fE i):=by
 intro pins s σ H v u Q I r h;exact wpAny_assign_Name (dv I j hi hx r (λs' I'=>⟨_,H,I',h⟩) hf)
noncomputable def yO:TGs:=λvs σ H Q=>vs=[]/\Q σ H
noncomputable def xt (t:TG) (u:TGs):TGs:=λvs σ H Q=>∃ v r,vs=v::r/\t v σ H λσ' H'=>u r σ' H' Q
theorem tt:PGs X [] yO:=by
 intro pins s σ H vs us Q I r h;obtain⟨e,h⟩:=h;subst e
 cases r
 exact HN ⟨σ,H,I,h⟩
theorem qg {es:List Expr}{t:TG}{u:TGs}(h1:PG X e t)(h2:PGs X es u)(hs:(Dj (e::es) X.env).map (·.2)=assign e X.env::(Dj es X.env).map (·.2):=by rfl):PGs X (e::es) (xt t u):=by
 intro pins s σ H vs us Q I r h;obtain⟨v,vr,j,h⟩:=h;subst j
 cases r with
 | cons r rr =>
   rw[hs];refine Ft (thn (h1 pins s σ H _ _ _ I r h) λ_ s1 z=>?_);obtain⟨σ1,H1,B,F⟩:=z;exact h2 pins s1 σ1 H1 _ _ Q B rr F
noncomputable def yP (K:Frag) (n:Nat) (t:TGs):TG:=λv σ H Q=>∃ a xs,v = .ref a/\SqT K H a xs/\xs.length=n/\t xs σ H Q
theorem vh {es:List Expr}{k:Nat}{t:TGs}{n:Nat}(z:X.calm=true)(h:PGs X es t)(B:(Dj es X.env).length=n:=by rfl)(j:(Dj es X.env).findIdx? (·.1)=none:=by rfl):PG X (.Tuple es k pos) (yP X.K n t):=by
 intro pins s σ H v u Q I r hw;obtain⟨a,xs,F,J,L,hw⟩:=hw;subst F
 cases r
 obtain⟨its,rv,O,Y⟩:=I.tuple J;refine assign_Tuple_tuple (I.ok.hd z) O (by simp[B,<- L,rv.length]) j λh' hx=>?_
 have U:Inv X pins σ H { s with heap:=h' }:=I.kept (t':=s.toks) λb o e=>hx b o (CG (Cg e)) e
 exact h pins _ σ H xs _ Q U (by simpa using rv) hw
noncomputable def yQ (to ti:TE) (t:lH):TG:=λv σ H Q=>to σ H λo H1=>ti σ H1 λi H2=>t o i v H2 λH3=>Q σ H3
theorem vj {o i:Expr}{to ti:TE}{t:lH}(ho:PE X o to)(hi:PE X i ti)(hs:PSet X t)(z:∀ v,assign (.Subscript o i pos) X.env v=(do
   let ov <- holding [v] (eval o X.env)
   let iv <- holding [v,ov] (eval i X.env)
   FK pos
   holding [v,ov,iv] (setItem ov iv v)
   release [v,ov,iv] []):=by intro _;rfl):PG X (.Subscript o i pos) (yQ to ti t):=by
 intro pins s σ H v u Q I r h;rw[z];refine gV (D4 (thn (ho pins s σ H _ I h) λov s1 j=>?_));obtain⟨x,H1,B,F,J⟩:=j;refine gV (D4 (thn (hi pins s1 σ H1 _ B J) λiv s2 j=>?_));obtain⟨y,H2,L,O,U⟩:=j;refine gV (DS (gV (D4 (thn (hs pins s2 σ H2 x y v ov iv u _ L F O r U) λ_ s3 j=>?_))));obtain⟨Y,Z,q3⟩:=j;exact wpAny_release ⟨σ,Y,Z,q3⟩
noncomputable def lJ (te:TE) (g:TG):TS:=λD σ H=>te σ H λx H1=>g x σ H1 D.nx
theorem nP {te:TE}{g:TG}(he:PE X e te)(j:PG X tg g)(hs:ED [tg] e pos.line X.env=pure false:=by rfl)(hw:DT [tg] e X.env=pure none:=by rfl)(h1:(Dj [tg] X.env).map (·.2)=[assign tg X.env]:=by rfl):PS X (.Assign [tg] e pos) (lJ te g):=by
 intro pins s σ H D I h;refine wpAny_Assign_stores (thn (he pins s σ H _ I h) λv s1 g9=>?_) hs hw;obtain⟨x,H1,z,B,F⟩:=g9;rw[h1];exact thn (j pins s1 σ H1 x v _ z B F) λ_ s2 q=>q
noncomputable def vk (i j:Nat) (ta:TA):TS:=λD σ H=>ta σ H λvs H1=>∃ v w,vs=[v,w]/\D.nx ((σ.set i (some v)).set j (some w)) H1
theorem vm {j:Nat}{y:Str}{a b:Expr}{ta:TA}{px py pt:Pos}{kt B z}(Z:X.calm=true)(O:X.N.Nodup)(hi:X.N[i]? = some x)(hj:X.N[j]? = some y)(F:i≠j)(hx:X.env.scope.names.lookup x=some .local)(U:X.env.scope.names.lookup y=some .local)(ha:PA X [a,b] ta)(hw:DT [.Tuple [.Name x px,.Name y py] kt pt] (.Tuple [a,b] B z) X.env=pure (some [x,y]))(hs:ED [.Tuple [.Name x px,.Name y py] kt pt] (.Tuple [a,b] B z) pos.line X.env=pure false:=by rfl) :
 PS X (.Assign [.Tuple [.Name x px,.Name y py] kt pt] (.Tuple [a,b] B z) pos) (vk i j ta):=by
 intro pins s σ H D I h;rw[exec_Assign_arm];refine gV (DS ?_);rw[hs];refine gV (y1 ?_);rw[if_neg (by decide)]
 refine gV (Tuple_ (thn (ha _ pins s σ H _ I h) λus s1 g9=>?_));obtain⟨vs,H1,I1,r1,J⟩:=g9;obtain⟨v,w,e1,J⟩:=J;subst e1;obtain⟨u1,u2,rfl,rv,rw'⟩:∃ u1 u2,us=[u1,u2]/\RelV v u1/\RelV w u2:=by
  cases r1 with
  | cons p q =>
    cases q with
    | cons p' q' =>
      cases q'
      exact⟨_,_,rfl,p,p'⟩
 refine Dq ?_ (by show 2<=tv;decide)
 have I2:Inv X pins σ H1 { s1 with heap:=s1.heap.push { cls:=.type "tuple",data:=.seq [u1,u2].toArray } }:=I1.kept (t':=s1.toks) λb o e=>hD _ e
 rw[hw];refine gV (y1 ?_);show Cj (model X.prog X.w) X.A (do rule "assign.swapped-stores";let items <- unpackItems (.ref s1.heap.objs.size) 2 none;Hi [λv=>J1 X.env y v,λv=>J1 X.env x v] items.reverse;pure Flow.next) _ _ _
 refine gV (E8 (gV (unpackItems_tuple (items:=#[u1,u2]) (I.ok.hd Z) (F4 s1.heap _) λh' L=>?_)));have I3:=I2.kept (h':=h') (t':=s1.toks) λb o e=>L b o (CG (Cg e)) e;show Cj _ _ (Hi [λv=>J1 X.env y v,λv=>J1 X.env x v] [u2,u1] >>= λ_=>pure Flow.next) _ _ _;refine gV (Ft (wpAny_bindName (dv I3 O hj (.inl U) rw' (λs2 I4=>?_) (.inr U))));refine Ft (wpAny_bindName (dv I4 O hi (.inl hx) rv (λs3 Y=>HN (y1 ?_)) (.inr hx)));rw[List.set_comm _ _ (Ne.symm F)]at Y;exact⟨_,H1,Y,J⟩
noncomputable def yR (i:Nat) (te:TE) (ti:TIp):TS:=λD σ H=>∃ x,σ[i]? = some (some x)/\te σ H λy H1=>ti x y H1 λz H2=>D.nx (σ.set i (some z)) H2
theorem vn {te:TE}{op:EU}{ti:TIp}{pos':Pos}(J:X.N.Nodup)(hi:X.N[i]? = some x)(hx:Loc X.env.scope x)(he:PE X e te)(ho:PIp X op ti)(hf:X.fn x=true∨X.env.scope.names.lookup x=some .local:=by first|exact .inl rfl|exact .inr rfl|assumption) :
 PS X (.AugAssign (.Name x pos') op e pos) (yR i te ti):=by
 intro pins s σ H D I h;obtain⟨v,L,h⟩:=h;obtain⟨m,O,U⟩:=I.loc;have vis:Vis X.env.scope x:=by rcases hx with k|k;exact .inl k;exact .inr (.inl k)
 obtain⟨u,r,l⟩:=U i x v hi L vis;refine wpAny_AugAssign_Name ?_;have go:Cj (model X.prog X.w) X.A (eval e X.env) (λw s₂=>Cj (model X.prog X.w) X.A (DM op u w) (λr s₃=>Cj (model X.prog X.w) X.A (storeName X.env x r) (λ_=>SP X pins D .next) X.xe s₃) X.xe s₂) X.xe s:=by
  refine thn (he pins s σ H _ I h) λw s1 F=>?_;obtain⟨y,H1,Y,Z,q1⟩:=F;refine thn (ho pins s1 σ H1 v y u w _ Y r Z q1) λz s2 F=>?_;obtain⟨zv,H2,I2,r2,q2⟩:=F;exact dv I2 J hi hx r2 (λs3 I3=>⟨_,H2,I3,q2⟩) hf
 rcases l with⟨j,hm⟩|⟨j,c,hc,B⟩
 ·exact GC I.ok.kind j O hm go
 ·rcases j with j|j
  ·exact Ha I.ok.kind j hc B go
  ·rcases hx with k|k
   ·have:X.env.scope.names.lookup x=some .free:=j;rw[k]at this;cases this
   ·have:X.env.scope.names.lookup x=some .free:=j;rw[k]at this;cases this
end
section
variable {X:Cx} {pos:Pos}
noncomputable def nQ (c:TT) (tb:TS):TS:=λD σ H=>∃ W:Nat->St->Hp->Prop,(∃ m,W m σ H) /\ ∀ m σ H,W m σ H ->
 c σ H λb H1=>if b=true then ∃ N:St->Hp->Prop,(∀ σ' H',N σ' H' -> ∃ m',m'<m/\W m' σ' H')/\tb { D with nx:=N,ct:=N,bk:=D.nx } σ H1 else D.nx σ H1
theorem qh {tc:TT}{tb:TS}(O:PassesOwn (model X.prog X.w) X.A X.env X.xe)(Z:PT X c tc)(hb:PSs X body tb):PS X (.While c body [] pos) (nQ tc tb):=by
 intro pins s σ H D I h;obtain⟨W,⟨m0,w0⟩,turn⟩:=h;refine wpAny_While (codeAny_whileLoop (λn s'=>∃ σ' H',Inv X pins σ' H' s'/\W n σ' H') ?_ m0 ⟨σ,H,I,w0⟩);rintro n s1 ⟨σ1,H1,I1,w1⟩;refine DN O (thn (Z pins s1 σ1 H1 _ I1 (turn n σ1 H1 w1)) λb s2 g9=>?_);obtain⟨H2,U,z⟩:=g9
 cases b with
 | true =>
   obtain⟨N,Y,z⟩:=z;rw[if_pos rfl];refine DN O (thn (hb pins s2 σ1 H2 _ U z) λf s3 B=>?_)
   cases f with
   | next =>
     obtain⟨σ3,j,F,J⟩:=B;obtain⟨m',hm,L⟩:=Y σ3 j J;exact⟨m',hm,σ3,j,F,L⟩
   | cont =>
     obtain⟨σ3,j,F,J⟩:=B;obtain⟨m',hm,L⟩:=Y σ3 j J;exact⟨m',hm,σ3,j,F,L⟩
   |brk=>exact B
   |ret v=>exact B
 | false =>
   rw[if_neg q7];exact Gr ⟨σ1,H2,U,z⟩
end
structure It where
 go:Nat->Hp->Prop
 yld:Nat->Hp->V->Hp->Prop
 stop:Nat->Hp->Prop
def bK (X:Cx) (pins:List (Addr×Obj)) (H:Hp) (b:Addr):Prop :=
 H b=none/\b≠X.env.locals/\b∉X.fs/\(b∈X.ex∨X.s₀.heap.objs.size<=b)/\(∀ x c,X.env.cells.lookup x=some c->c≠b) /\ ∀ p∈X.pn++pins,p.1≠b
theorem Inv.fpOk {H':Hp}(I:Inv X pins σ H s)(j:s.heap.objs.size<=b)(B:H' b=none):bK X pins H' b:=by
 refine⟨B,EV (Co I.lt j),I.nofs j,.inr (D7 I.sz j),λx c e z=>?_,λp F z=>?_⟩
 ·obtain⟨v,q⟩:=I.cell x c e;exact absurd (Co q.lt (by rw[z];exact j)) (DA _)
 ·exact absurd (Co (Cg (I.pin p F).1) (by rw[z];exact j)) (DA _)
structure dO (P:Ct) (w:CC) (K:Frag) (tg:Expr) (J:It) (fp:List Addr) (it:Addr) (tn:Nat->Heap->Prop):Prop where
 mem:it∈fp
 obj:∀ i h,tn i h -> ∀ b∈fp,∃ o,h.get? b=some o /\ ∀ v,o.data ≠ .cell v
 keep:∀ i h h',tn i h->(∀ b∈fp,∀ o,h.get? b=some o->h'.get? b=some o)->tn i h'
 item:∀ (X:Cx),X.prog=P->X.w=w->X.K=K->X.calm=true -> ∀ (i:Nat) (pins:List (Addr×Obj)) (s:hQ) (σ:St) (H:Hp) (E:h6->hQ->Prop),Inv X pins σ H s->(∀ b∈fp,bK X pins H b)->tn i s.heap->J.go i H ->
  Cj (model P w) X.A (Fu (.ref it)) (λr s1=>∃ u,r=some u /\
   Cj (model P w) X.A (Fd tg (.ref it) u) (λ_ s2=>∃ x H',Inv X pins σ H' s2/\RelV x u/\J.yld i H x H'/\tn (i+1) s2.heap /\ ∀ b∈fp,H' b=none) E s1) E s
 done:∀ (X:Cx),X.prog=P->X.w=w->X.K=K->X.calm=true -> ∀ (i:Nat) (pins:List (Addr×Obj)) (s:hQ) (σ:St) (H:Hp) (E:h6->hQ->Prop),Inv X pins σ H s->(∀ b∈fp,bK X pins H b)->tn i s.heap->J.stop i H ->
  Cj (model P w) X.A (Fu (.ref it)) (λr s1=>r=none/\Inv X pins σ H s1) E s
 self:∀ (A:CK) (i:Nat) (s:hQ) (Q:h6->hQ->Prop) (E:h6->hQ->Prop),tn i s.heap->Q (.ref it) s->Cj (model P w) A (Hv (.ref it)) Q E s
noncomputable abbrev TI:=St->Hp->(It->Hp->Prop)->Prop
def PIE (X:Cx) (pins:List (Addr×Obj)) (σ:St) (tg:Expr) (R:It->Hp->Prop) (itv:h6) (s2:hQ):Prop :=
 ∃ (it:Addr) (fp:List Addr) (tn:Nat->Heap->Prop) (J:It) (H':Hp),itv = .ref it/\Inv X pins σ H' s2/\dO X.prog X.w X.K tg J fp it tn/\tn 0 s2.heap/\(∀ b∈fp,bK X pins H' b)/\R J H'
def PI (X:Cx) (tg iter:Expr) (wi:TI):Prop :=
 ∀ (pins:List (Addr×Obj)) (s:hQ) (σ:St) (H:Hp) (R:It->Hp->Prop),Inv X pins σ H s->wi σ H R ->
  Cj (model X.prog X.w) X.A (eval iter X.env) (λv s1=>Cj (model X.prog X.w) X.A (Hv v) (PIE X pins σ tg R) X.xe s1) X.xe s
theorem iD {E:h6->hQ->Prop}{it:Addr}{o:Obj}{n:String}{vs:Array h6}{Q:Unit->hQ->Prop}(ho:s.heap.get? it=some o)(z:o.cls = .type n)(hd:o.data = .fields vs)(B : ["enumerate","zip","dict_itemiterator","dict_reverseitemiterator","odict_iterator","itertools.zip_longest","itertools.pairwise"].contains n=false)(j:Q () s):Cj M A (Fd tg (.ref it) u) Q E s:=by
 unfold Fd
 cases tg <;> first
  |exact y1 j
  | (cases u <;> first
      |exact y1 j
      | (refine gV (wpAny_load ho ?_)
         rw[z,hd];show Cj M A (if (["enumerate","zip","dict_itemiterator","dict_reverseitemiterator","odict_iterator","itertools.zip_longest","itertools.pairwise"].contains n&&vs[0]? == some (F5 _))=true then _ else _) Q E s
         rw[if_neg (by intro h;rw[B,Bool.false_and]at h;cases h)]
         exact y1 j))
noncomputable def Itl (K:Frag) (a:Addr):It :=
 ⟨λi H=>∃ xs x,SqL K H a xs/\xs[i]? = some x,λi H x H'=>H'=H /\ ∀ xs,SqL K H a xs->xs[i]? = some x,λi H=>∃ xs,SqL K H a xs/\xs.length<=i⟩
noncomputable def Itt (K:Frag) (a:Addr):It :=
 ⟨λi H=>∃ xs x,SqT K H a xs/\xs[i]? = some x,λi H x H'=>H'=H /\ ∀ xs,SqT K H a xs->xs[i]? = some x,λi H=>∃ xs,SqT K H a xs/\xs.length<=i⟩
noncomputable def Itr (lo:Int) (n:Nat):It:=⟨λi _=>i<n,λi H x H'=>H'=H/\x = .int (lo+i),λi _=>n<=i⟩
theorem nR (a it:Addr):dO P w K tg (Itl K a) [it] it (λi h=>h.IsListIter it a i) where
 mem:=by simp
 obj:=λi h st b j=>by
  have e:b=it:=by simpa using j
  subst e;obtain⟨o,e,c,d⟩:=st;exact⟨o,e,λv z=>by rw[d]at z;cases z⟩
 keep:=λi h h' st k=>st.at λo e=>k it (by simp) o e
 item:=by
  intro X F hw J U i pins s σ H E I hf st hg;subst F hw J;obtain⟨xs,x,B,hx⟩:=hg;obtain⟨its,rv,p,Y⟩:=I.list B;obtain⟨u,Z,ru⟩:=rv.get hx;obtain⟨f0,f1,f2,L,f4,O⟩:=hf it (by simp)
  refine wpAny_pyNext_list_item st p.isList (x:=u) (by simpa using Z) λh' st' sb=>?_
  have I1:Inv X pins σ H { s with heap:=h' }:=I.turned (t':=s.toks) (λb o j e=>(sb.2 b j).trans e) f0 f1 L f4 O
  obtain⟨o,e,c,d⟩:=id st';exact⟨u,rfl,iD (s:={ s with heap:=h' }) e c d (by decide) ⟨x,H,I1,ru,⟨rfl,λys hy=>by rw[I.list_inj hy B];exact hx⟩,st',λb j=>(hf b j).1⟩⟩
 done:=by
  intro X F hw J U i pins s σ H E I hf st hg;subst F hw J;obtain⟨xs,B,hx⟩:=hg;obtain⟨its,rv,p,Y⟩:=I.list B;obtain⟨f0,f1,f2,L,f4,O⟩:=hf it (by simp)
  have hl:=rv.length;exact wpAny_pyNext_list_end (I.ok.hd U) st p.isList (by simp;lia) λh' eb=>⟨rfl,I.turned (t':=s.toks) (λb o j e=>eb b o j e) f0 f1 L f4 O⟩
 self:=λ_ _ _ _ _ st h=>wpAny_pyIter_listiter st h
theorem lK (a it:Addr):dO P w K tg (Itt K a) [it] it (λi h=>h.IsTupleIter it a i) where
 mem:=by simp
 obj:=λi h st b j=>by
  have e:b=it:=by simpa using j
  subst e;obtain⟨o,e,c,d⟩:=st;exact⟨o,e,λv z=>by rw[d]at z;cases z⟩
 keep:=λi h h' st k=>st.at λo e=>k it (by simp) o e
 item:=by
  intro X F hw J U i pins s σ H E I hf st hg;subst F hw J;obtain⟨xs,x,B,hx⟩:=hg;obtain⟨its,rv,p,Y⟩:=I.tuple B;obtain⟨u,Z,ru⟩:=rv.get hx;obtain⟨f0,f1,f2,L,f4,O⟩:=hf it (by simp)
  refine wpAny_pyNext_tuple_item st (show s.heap.IsTuple a its.toArray from p) (x:=u) (by simpa using Z) λh' st' sb=>?_
  have I1:Inv X pins σ H { s with heap:=h' }:=I.turned (t':=s.toks) (λb o j e=>(sb.2 b j).trans e) f0 f1 L f4 O
  obtain⟨o,e,c,d⟩:=id st';exact⟨u,rfl,iD (s:={ s with heap:=h' }) e c d (by decide) ⟨x,H,I1,ru,⟨rfl,λys hy=>by rw[I.tuple_inj hy B];exact hx⟩,st',λb j=>(hf b j).1⟩⟩
 done:=by
  intro X F hw J U i pins s σ H E I hf st hg;subst F hw J;obtain⟨xs,B,hx⟩:=hg;obtain⟨its,rv,p,Y⟩:=I.tuple B;obtain⟨f0,f1,f2,L,f4,O⟩:=hf it (by simp)
  have hl:=rv.length;exact wpAny_pyNext_tuple_end (I.ok.hd U) st (show s.heap.IsTuple a its.toArray from p) (by simp;lia) λh' eb=>⟨rfl,I.turned (t':=s.toks) (λb o j e=>eb b o j e) f0 f1 L f4 O⟩
 self:=λ_ _ _ _ _ st h=>wpAny_pyIter_tupleiter st h
theorem lL (it:Addr)(lo:Int)(n:Nat):dO P w K tg (Itr lo n) [it] it (λi h=>IsRangeIter h it (lo+(i:Nat)*1) ((n:Int) - (i:Nat)) 1) where
 mem:=by simp
 obj:=λi h st b j=>by
  have e:b=it:=by simpa using j
  subst e;exact⟨_,st,λv z=>by
   have z':Data.fields _=Data.cell v:=z
   cases z'⟩
 keep:=λi h h' st k=>k it (by simp) _ st
 item:=by
  intro X B hw F J i pins s σ H E I hf st hg;subst B hw F;obtain⟨f0,f1,f2,L,f4,O⟩:=hf it (by simp)
  have W:=Walks.range (prog:=X.prog) (w:=X.w) (I.ok.hd J) it lo 1 n;refine W.item i s _ _ hg st λv h' tk U st' kk=>?_;obtain⟨t,rfl⟩:=U;have Y:Inv X pins σ H { s with heap:=h',toks:=tk }:=I.turned (λb o j e=>kk b o (by simpa using j) e) f0 f1 L f4 O
  refine⟨_,rfl,iD (s:={ s with heap:=h',toks:=tk }) (n:="range_iterator") st' rfl rfl (by decide) ⟨.int (lo+i),H,Y,⟨t,?_⟩,⟨rfl,rfl⟩,st',λb j=>(hf b j).1⟩⟩
  rw[Int.mul_one]
 done:=by
  intro X B hw F J i pins s σ H E I hf st hg;subst B hw F;obtain⟨f0,f1,f2,L,f4,O⟩:=hf it (by simp)
  exact wpAny_pyNext_range_end (I.ok.hd J) st (by have:n<=i:=hg;lia) λh' eb=>⟨rfl,I.turned (t':=s.toks) (λb o j e=>eb b o j e) f0 f1 L f4 O⟩
 self:=λ_ _ _ _ _ st h=>wpAny_pyIter_rangeiter st h
end
variable {fp:List Addr}
section
section
variable {X:Cx} {tg:Expr}
theorem qi {R:It->Hp->Prop}{E:h6->hQ->Prop}{lo hi:Int}{t u v:Tok}{tk:Nat}(I:Inv X pins σ H s)(h1 : -(2 ^ 62)<=lo)(h2:lo<2 ^ 62)(z : -(2 ^ 62)<=hi)(B:hi<2 ^ 62)(q:R (Itr lo (hi - lo).toNat) H):Cj (model X.prog X.w) X.A (Hv (.ref s.heap.objs.size)) (PIE X pins σ tg R) E { s with heap:=s.heap.push { cls:=.type "range",data:=.fields #[.int lo t,.int hi u,.int 1 v] },toks:=tk }:=by
 refine wpAny_pyIter_range (IsRange.new ..) (small_one h1 h2 z B) ?_;have j:Inv X pins σ H { s with heap:=s.heap.push { cls:=.type "range",data:=.fields #[.int lo t,.int hi u,.int 1 v] },toks:=tk }:=I.kept λb o e=>hD _ e
 refine⟨(s.heap.push { cls:=.type "range",data:=.fields #[.int lo t,.int hi u,.int 1 v] }).objs.size,[(s.heap.push { cls:=.type "range",data:=.fields #[.int lo t,.int hi u,.int 1 v] }).objs.size],_,_,H,rfl,
  j.kept (t':=tk) λb o e=>hD _ e,lL _ lo (hi - lo).toNat,?_,λb F=>?_,q⟩
 ·have J:lo+((0:Nat):Int)*1=lo:=by simp
  have L:(((hi - lo).toNat:Nat):Int) - ((0:Nat):Int)=Builtin.Range.rangeSize lo hi 1:=by rw[rangeSize_one];split <;> lia
  show IsRangeIter _ _ (lo+((0:Nat):Int)*1) ((((hi - lo).toNat:Nat):Int) - ((0:Nat):Int)) 1;rw[J,L];exact Ce _ rfl
 ·have e:b=(s.heap.push { cls:=.type "range",data:=.fields #[.int lo t,.int hi u,.int 1 v] }).objs.size:=by simpa using F
  subst e;exact j.fpOk (Cc _) (j.hok.fresh (Cc _))
noncomputable def xu (ta:TA):TI:=λσ H R=>ta σ H λvs H1=>∃ j:Int,vs=[.int j] /\ -(2 ^ 62)<=j/\j<2 ^ 62/\R (Itr 0 j.toNat) H1
theorem nS {a:Expr}{ta:TA}{p:Pos}(B:Gl X "range")(hm:X.mg "range" = none)(F:PA X [a] ta)(hs:Cm [a] X.env=[(false,eval a X.env)]:=by rfl):PI X tg (.Call (.Name "range" p) [a] [] pos) (xu ta):=by
 intro pins s σ H R I h;refine Call_ (cO I B hm boot_range (Dx (thn (F pos pins s σ H _ I h) λus s1 g9=>?_) hs rfl));obtain⟨vs,H1,J,L,z⟩:=g9;obtain⟨j,e,z,O,q⟩:=z;subst e
 cases L with
 | cons r rr =>
   cases rr
   obtain⟨t,rfl⟩:=r;exact call_range_1 (qi J (by lia) (by lia) z O (by simpa using q))
noncomputable def vp (wi:TI) (g:TG) (tb:TS):TS:=λD σ H=>wi σ H λJ H1=>∃ W:Nat->Nat->St->Hp->Prop,(∃ m,W 0 m σ H1) /\ ∀ i m σ H,W i m σ H ->
 (J.stop i H/\D.nx σ H)∨(J.go i H /\ ∃ N:St->Hp->Prop,(∀ σ' H',N σ' H' -> ∃ m',m'<m/\W (i+1) m' σ' H') /\ ∀ x H',J.yld i H x H'->g x σ H' λσ2 H2=>tb { D with nx:=N,ct:=N,bk:=D.nx } σ2 H2)
noncomputable def fF (fp:List Addr) (h:Heap):List (Addr×Obj):=fp.filterMap λb=>(h.get? b).map λo=>(b,o)
theorem cw {o:Obj}(j:b∈fp)(e:h.get? b=some o):(b,o)∈fF fp h:=Hw.mpr ⟨b,j,by rw[e];rfl⟩
theorem nT {p:Addr×Obj}(j:p∈fF fp h):p.1∈fp/\h.get? p.1=some p.2:=by
 obtain⟨b,z,e⟩:=Hw.mp j
 cases q:h.get? b with
 |none=>rw[q]at e;cases e
 | some o =>
   rw[q]at e;have e':(b,o)=p:=Dz.inj e;subst e';exact⟨z,q⟩
theorem Inv.pinned (I:Inv X pins σ H s)(hf:∀ b∈fp,bK X pins H b)(ho:∀ b∈fp,∃ o,s.heap.get? b=some o /\ ∀ v,o.data ≠ .cell v):Inv X (pins++fF fp s.heap) σ H s :=
 I.pins_of λp B=>(Df.mp B).elim (λz=>I.pin p (Cq _ z)) λz=>by
  obtain⟨j,e⟩:=nT z;obtain⟨f0,f1,f2,_⟩:=hf p.1 j;obtain⟨o,e',d⟩:=ho p.1 j;rw[e]at e';cases e';exact⟨e,f0,f1,f2,d⟩
theorem Inv.unpinned {pl:List (Addr×Obj)}(I:Inv X (pins++pl) σ H s):Inv X pins σ H s:=I.pins_of λp j=>I.pin p (Cq _ (Fb _ j))
theorem vq {iter:Expr}{wi:TI}{g:TG}{tb:TS}(U:PassesOwn (model X.prog X.w) X.A X.env X.xe)(hc:X.calm=true)(hi:PI X tg iter wi)(hg:PG X tg g)(j:PSs X body tb)(hs:∀ x,Dr iter X.env x=pure x:=by intro _;rfl):PS X (.For tg iter body [] pos) (vp wi g tb):=by
 intro pins s σ H D I h;refine wpAny_For (thn (hi pins s σ H _ I h) λv s1 h1=>thn h1 λitv s2 h2=>?_) hs;obtain⟨it,fp,tn,J,H2,e,I2,T,BD,f2,W,⟨m0,w0⟩,turn⟩:=h2;subst e;have stat:∀ {H':Hp},(∀ b∈fp,H' b=none) -> ∀ b∈fp,bK X pins H' b:=λhn b j=>⟨hn b j,(f2 b j).2⟩;refine codeAny_forLoop_any (λn s'=>∃ i σ' H',Inv X pins σ' H' s'/\tn i s'.heap/\(∀ b∈fp,H' b=none)/\W i n σ' H') ?_ m0 ⟨0,σ,H2,I2,BD,λb j=>(f2 b j).1,w0⟩;rintro n s3 ⟨i,σ3,H3,I3,Y,Z,w3⟩
 rcases turn i n σ3 H3 w3 with⟨stop,qn⟩|⟨go,N,hN,step⟩
 ·refine DN U (thn (T.done X rfl rfl rfl hc i pins s3 σ3 H3 X.xe I3 (stat Z) Y stop) λr s4 L=>?_);obtain⟨hr,I4⟩:=L;subst hr;exact Gr ⟨σ3,H3,I4,qn⟩
 ·refine DN U (thn (T.item X rfl rfl rfl hc i pins s3 σ3 H3 X.xe I3 (stat Z) Y go) fun r s4 L=>?_);obtain ⟨u,hr,h4⟩:=L;subst hr;refine DN U (thn h4 fun _ s5 L=>?_);obtain ⟨x,H5,I5,r5,y5,O,BE⟩:=L;have BG:=I5.pinned (stat BE) (T.obj _ _ O);refine DN U (thn (hg _ s5 σ3 H5 x u _ BG r5 (step x H5 y5)) fun _ s6 L=>?_);obtain ⟨σ6,H6,I6,q6⟩:=L;refine DN U (thn (j _ s6 σ6 H6 _ I6 q6) fun f s7 F=>?_);have again:∀ {σ7:St} {z:Hp},Inv X (pins++fF fp s5.heap) σ7 z s7->N σ7 z -> ∃ m,m < n /\ ∃ i σ' H',Inv X pins σ' H' s7/\tn i s7.heap/\(∀ b∈fp,H' b=none)/\W i m σ' H':=fun {σ7 z} B n7=>by
   obtain⟨m',hm,w7⟩:=hN σ7 z n7;refine⟨m',hm,i+1,σ7,z,B.unpinned,T.keep _ _ _ O λb j o e=>(B.pin (b,o) (Cq _ (Cq _ (cw j e)))).1,λb j=>?_,w7⟩;obtain⟨o,e,d⟩:=T.obj _ _ O b j;exact(B.pin (b,o) (Cq _ (Cq _ (cw j e)))).2.1
  cases f with
  |next=>obtain⟨σ7,z,B,n7⟩:=F;exact again B n7
  |cont=>obtain⟨σ7,z,B,n7⟩:=F;exact again B n7
  |brk=>obtain⟨σ7,z,B,F⟩:=F;exact⟨σ7,z,B.unpinned,F⟩
  |ret v=>obtain⟨x7,σ7,z,B,r7,F⟩:=F;exact⟨x7,σ7,z,B.unpinned,r7,F⟩
end
end
variable {f:h6->h6->Sem h6}{op:Hj}{Q:VK}
section
noncomputable abbrev R2:=V->V->Hp->VK->Prop
def OpR (X:Cx) (f:h6->h6->Sem h6) (r:R2):Prop :=
 ∀ (pins:List (Addr×Obj)) (s:hQ) (σ:St) (H:Hp) (x y:V) (v u:h6) (Q:VK),Inv X pins σ H s->RelV x v->RelV y u->r x y H Q ->
  Cj (model X.prog X.w) X.A (f v u) (EP X pins σ Q) X.xe s
def UnR (X:Cx) (f:h6->Sem h6) (r:V->Hp->VK->Prop):Prop :=
 ∀ (pins:List (Addr×Obj)) (s:hQ) (σ:St) (H:Hp) (x:V) (v:h6) (Q:VK),Inv X pins σ H s->RelV x v->r x H Q ->
  Cj (model X.prog X.w) X.A (f v) (EP X pins σ Q) X.xe s
def CallR (X:Cx) (f:h6) (r:List V->Hp->VK->Prop):Prop :=
 ∀ (pins:List (Addr×Obj)) (s:hQ) (σ:St) (H:Hp) (xs:List V) (us:List h6) (Q:VK),Inv X pins σ H s->Vals xs us->r xs H Q ->
  Cj (model X.prog X.w) X.A (call f us) (EP X pins σ Q) X.xe s
def yS (X:Cx) (r:V->Hp->(Bool->Hp->Prop)->Prop):Prop :=
 ∀ (pins:List (Addr×Obj)) (s:hQ) (σ:St) (H:Hp) (x:V) (v:h6) (Q:Bool->Hp->Prop),Inv X pins σ H s->RelV x v->r x H Q ->
  Cj (model X.prog X.w) X.A (truthy v) (TP X pins σ Q) X.xe s
noncomputable def tOp (r:R2) (ta tb:TE):TE:=λσ H Q=>ta σ H λx H1=>tb σ H1 λy H2=>r x y H2 Q
noncomputable def tUn (r:V->Hp->VK->Prop) (ta:TE):TE:=λσ H Q=>ta σ H λx H1=>r x H1 Q
noncomputable def rI (C:Int->Int->Prop) (g:Int->Int->V):R2:=λx y H Q=>∃ i j,x = .int i/\y = .int j/\C i j/\Q (g i j) H
noncomputable def rI0 (g:Int->Int->V):R2:=λx y H Q=>∃ i j,x = .int i/\y = .int j/\Q (g i j) H
noncomputable def rU (g:Int->V):V->Hp->VK->Prop:=λx H Q=>∃ i,x = .int i/\Q (g i) H
section
variable {X:Cx} {a b c:Expr} {ta tb tc:TE} {pos:Pos}
theorem qj (z:PE X a ta)(B:PE X b tb){R:V->V->Hp->Prop}(I:Inv X pins σ H s)(h:ta σ H λx H1=>tb σ H1 λy H2=>R x y H2){Q:h6->hQ->Prop}(hf:∀ v u s2 x y H2,Inv X pins σ H2 s2->RelV x v->RelV y u->R x y H2->Cj (model X.prog X.w) X.A (f v u) Q X.xe s2) :
 Cj (model X.prog X.w) X.A (eval a X.env) (λv s₁=>Cj (model X.prog X.w) X.A (eval b X.env) (λu s₂=>Cj (model X.prog X.w) X.A (f v u) Q X.xe s₂) X.xe s₁) X.xe s:=by
 refine thn (z pins s σ H _ I h) λv s1 j=>?_;obtain⟨x,H1,F,J,L⟩:=j;refine thn (B pins s1 σ H1 _ F L) λu s2 j=>?_;obtain⟨y,H2,O,U,Y⟩:=j;exact hf v u s2 x y H2 O J U Y
theorem xv {op:EU}{r:R2}(ho:OpR X (CW op) r)(j:PE X a ta)(z:PE X b tb):PE X (.BinOp a op b pos) (tOp r ta tb):=by
 intro pins s σ H Q I h;exact wpAny_BinOp (qj j z I h λv u s2 x y H2 B rx ry q=>ho pins s2 σ H2 x y v u Q B rx ry q)
theorem xw {op:UnaryOp}{r:V->Hp->VK->Prop}(ho:UnR X (unaryOp op) r)(j:PE X a ta):PE X (.UnaryOp op a pos) (tUn r ta):=by
 intro pins s σ H Q I h;exact UnaryOp_ (thn (j pins s σ H _ I h) λv s1 z=>(by obtain⟨x,H1,B,F,J⟩:=z;exact ho pins s1 σ H1 x v Q B F J))
theorem opI {C:Int->Int->Prop}{g:Int->Int->Int}(rule:∀ (i j:Int) (t u:Tok) (s:hQ) (Q:h6->hQ->Prop) (E:h6->hQ->Prop),C i j->Q (.int (g i j) s.toks) { s with toks:=s.toks+1 }->Cj (model X.prog X.w) X.A (f (.int i t) (.int j u)) Q E s) :
 OpR X f (rI C λi j=>.int (g i j)):=by
 intro pins s σ H x y v u Q I rx ry h;obtain⟨i,j,rfl,rfl,z,q⟩:=h;obtain⟨t,rfl⟩:=rx;obtain⟨t',rfl⟩:=ry;exact rule i j t t' s _ _ z ⟨.int (g i j),H,I.tok _,⟨_,rfl⟩,q⟩
theorem lM {g:Int->Int->Int}(rule:∀ (i j:Int) (t u:Tok) (s:hQ) (Q:h6->hQ->Prop) (E:h6->hQ->Prop),Q (.int (g i j) s.toks) { s with toks:=s.toks+1 }->Cj (model X.prog X.w) X.A (f (.int i t) (.int j u)) Q E s) :
 OpR X f (rI0 λi j=>.int (g i j)):=by
 intro pins s σ H x y v u Q I rx ry h;obtain⟨i,j,rfl,rfl,q⟩:=h;obtain⟨t,rfl⟩:=rx;obtain⟨t',rfl⟩:=ry;exact rule i j t t' s _ _ ⟨.int (g i j),H,I.tok _,⟨_,rfl⟩,q⟩
theorem lN {g:Int->Int->Bool}(rule:∀ (i j:Int) (t u:Tok) (s:hQ) (Q:h6->hQ->Prop) (E:h6->hQ->Prop),Q (.bool (g i j)) s->Cj (model X.prog X.w) X.A (f (.int i t) (.int j u)) Q E s) :
 OpR X f (rI0 λi j=>.bl (g i j)):=by
 intro pins s σ H x y v u Q I rx ry h;obtain⟨i,j,rfl,rfl,q⟩:=h;obtain⟨t,rfl⟩:=rx;obtain⟨t',rfl⟩:=ry;exact rule i j t t' s _ _ ⟨.bl (g i j),H,I,rfl,q⟩
def yT (i j:Int):Prop:=0<=j/\j<=1000000/\i.natAbs<2 ^ 64
theorem op_add:OpR X (CW .Add) (rI0 λi j=>.int (i+j)):=lM λ_ _ _ _ _ _ _ q=>add_int q
theorem vt:OpR X (CW .Sub) (rI0 λi j=>.int (i - j)):=lM λ_ _ _ _ _ _ _ q=>sub_int q
theorem vw:OpR X (CW .Mod) (rI (λ_ j=>0<j) λi j=>.int (i % j)):=opI λi j _ _ _ _ _ z q=>by
 have h1:(0:Int)<j:=z;exact mod_int' (by lia) (by rw[Int.fmod_eq_emod_of_nonneg i (by lia)];exact q)
theorem vx:OpR X (CW .Pow) (rI yT λi j=>.int (i ^ j.toNat)):=opI λ_ _ _ _ _ _ _ z q=>pow_int_small z.1 z.2.1 z.2.2 q
theorem tu:OpR X (DM .Add) (rI0 λi j=>.int (i+j)):=lM λ_ _ _ _ _ _ _ q=>iadd_int q
theorem tw:OpR X (DM .Sub) (rI0 λi j=>.int (i - j)):=lM λ_ _ _ _ _ _ _ q=>isub_int q
theorem unI {f:h6->Sem h6}{g:Int->Int}(rule:∀ (i:Int) (t:Tok) (s:hQ) (Q:h6->hQ->Prop) (E:h6->hQ->Prop),Q (.int (g i) s.toks) { s with toks:=s.toks+1 }->Cj (model X.prog X.w) X.A (f (.int i t)) Q E s) :
 UnR X f (rU λi=>.int (g i)):=by
 intro pins s σ H x v Q I rx h;obtain⟨i,rfl,q⟩:=h;obtain⟨t,rfl⟩:=rx;exact rule i t s _ _ ⟨.int (g i),H,I.tok _,⟨_,rfl⟩,q⟩
theorem vy:UnR X (unaryOp .USub) (rU λi=>.int (-i)):=unI λ_ _ _ _ _ q=>neg_int q
end
section
variable {X:Cx} {a b c:Expr} {ta tb tc:TE} {pos:Pos}
theorem vz {k k':Bool}(I:Inv X pins σ H s)(q:Q (.bl k) H)(e:k=k'):EP X pins σ Q (.bool k') s:=by
 subst e;exact⟨.bl k,H,I,rfl,q⟩
theorem xx:OpR X (CA .Lt) (rI0 λi j=>.bl (decide (i<j))):=lN λ_ _ _ _ _ _ _ q=>lt_int q
theorem xz:OpR X (CA .LtE) (rI0 λi j=>.bl (decide (i<=j))):=lN λ_ _ _ _ _ _ _ q=>le_int q
theorem xA:OpR X (CA .Gt) (rI0 λi j=>.bl (decide (j<i))):=lN λ_ _ _ _ _ _ _ q=>gt_int q
theorem xB:OpR X (CA .GtE) (rI0 λi j=>.bl (decide (j<=i))):=lN λ_ _ _ _ _ _ _ q=>ge_int q
theorem nU:OpR X (CA .In) (λx y H Q=>∃ i j,x = .str i/\y = .str j/\Q (.bl (!(D2 j i 0 j.length 1).isEmpty)) H):=by
 intro pins s σ H x y v u Q I rx ry h;obtain⟨i,j,rfl,rfl,q⟩:=h;obtain⟨t,rfl⟩:=rx;obtain⟨t',rfl⟩:=ry;exact in_str (vz I q rfl)
theorem OpR.or {r r':R2}(h:OpR X f r)(h':OpR X f r'):OpR X f (λx y H Q=>r x y H Q∨r' x y H Q):=by
 intro pins s σ H x y v u Q I rx ry q
 rcases q with q|q
 ·exact h pins s σ H x y v u Q I rx ry q
 ·exact h' pins s σ H x y v u Q I rx ry q
theorem tz {r:R2}(ho:OpR X (CA op) r)(j:PE X a ta)(z:PE X b tb)(hm:EE op b=false):PE X (.Compare a [op] [b] pos) (tOp r ta tb):=by
 intro pins s σ H Q I h;exact wpAny_Compare1 (qj j z I h λv u s2 x y H2 B rx ry q=>ho pins s2 σ H2 x y v u Q B rx ry q) hm
noncomputable def lP (t:TE):TT:=λσ H Q=>t σ H λx H'=>∃ k,x = .bl k/\Q k H'
theorem tD {r:R2}(ho:OpR X (CA op) r)(j:PE X a ta)(B:PE X b tb)(hm:EE op b=false):PT X (.Compare a [op] [b] pos) (lP (tOp r ta tb)):=by
 intro pins s σ H Q I h;refine wpAny_isTrue_Compare1 (thn (j pins s σ H _ I h) λv s1 ⟨x,H1,F,J,L⟩=>thn (B pins s1 σ H1 _ F L) λu s2 ⟨y,H2,O,U,Y⟩ =>
  thn (ho pins s2 σ H2 x y v u _ O J U Y) λc s3 ⟨z,Z,I3,r3,k,e,q3⟩=>?_) hm
 subst e
 cases r3
 exact CV ⟨Z,I3,q3⟩
noncomputable def j5 (r r':R2) (ta tb tc:TE):TE:=λσ H Q=>ta σ H λx H1=>tb σ H1 λy H2=>r x y H2 λz H3=>∃ k,z = .bl k /\
 (if k=true then tc σ H3 λw' H4=>r' y w' H4 Q else Q (.bl false) H3)
theorem qk {op':Hj}{r r':R2}(ho:OpR X (CA op) r)(j:OpR X (CA op') r')(O:PE X a ta)(U:PE X b tb)(Y:PE X c tc)(hm:G2 [op,op'] [b,c]=false:=by with_unfolding_all rfl):PE X (.Compare a [op,op'] [b,c] pos) (j5 r r' ta tb tc):=by
 intro pins s σ H Q I h;refine Compare_chain (thn (O pins s σ H _ I h) λv s1 ⟨x,H1,Z,r1,q1⟩=>chain_link (thn (U pins s1 σ H1 _ Z q1) λu s2 ⟨y,H2,I2,B,q2⟩ =>
  thn (ho pins s2 σ H2 x y v u _ I2 r1 B q2) λd s3 ⟨z,F,J,r3,k,e,L⟩=>?_)) hm
 subst e
 cases r3
 refine CV ?_
 cases k with
 |false=>exact ite_ff ⟨.bl false,F,J,rfl,L⟩
 |true=>exact ite_tt (chain_last (thn (Y pins s3 σ F _ J L) λw' s4 g9=>(by obtain⟨z',H4,I4,r4,q4⟩:=g9;exact j pins s4 σ H4 y z' u w' Q I4 B r4 q4)))
theorem ql {op':Hj}{r r':R2}(ho:OpR X (CA op) r)(j:OpR X (CA op') r')(O:PE X a ta)(U:PE X b tb)(Y:PE X c tc)(hm:G2 [op,op'] [b,c]=false:=by with_unfolding_all rfl):PT X (.Compare a [op,op'] [b,c] pos) (lP (j5 r r' ta tb tc)):=by
 intro pins s σ H Q I h;refine isTrue_chain (thn (O pins s σ H _ I h) λv s1 ⟨x,H1,Z,r1,q1⟩=>test_link (thn (U pins s1 σ H1 _ Z q1) λu s2 ⟨y,H2,I2,B,q2⟩ =>
  thn (ho pins s2 σ H2 x y v u _ I2 r1 B q2) λd s3 ⟨z,F,J,r3,k,e,L⟩=>?_)) hm
 subst e
 cases r3
 refine CV ?_
 cases k with
 | false =>
   obtain⟨k',e',q'⟩:=L
   cases e'
   exact ite_ff ⟨F,J,q'⟩
 | true =>
   refine ite_tt (test_last (thn (Y pins s3 σ F _ J L) λw' s4 ⟨z',H4,I4,r4,q4⟩=>thn (j pins s4 σ H4 y z' u w' _ I4 B r4 q4) λd' s5 g9=>?_));obtain⟨z2,H5,I5,r5,k2,e2,q5⟩:=g9;subst e2
   cases r5
   exact CV ⟨H5,I5,q5⟩
def qm (K:Frag) (x:V) (H:Hp) (k:Bool):Prop :=
 match x with
 |.non=>k=false
 |.bl b=>k=b
 |.int i=>k=(i != 0)
 |.str y=>y.length<=tv/\k=((y.length:Int) != 0)
 |.byt y=>y.size<=tv/\k=((y.size:Int) != 0)
 |.ref p=>(∃ xs,SqL K H p xs/\k = !xs.isEmpty)∨(∃ xs,SqT K H p xs/\k = !xs.isEmpty)∨∃ kvs,H p=some (.dK kvs)/\k = !kvs.isEmpty
 |_=>False
theorem lQ {κ:Type}{kvs:List (κ × V)}{vs:List (κ × h6)}(r:KV kvs vs):(!vs.isEmpty) = !kvs.isEmpty:=by
 cases r <;> rfl
theorem fG {xs:List V}{its:List h6}(r:Vals xs its):(!its.toArray.isEmpty) = !xs.isEmpty:=by
 cases r <;> simp
theorem dj:(tv:Nat)<2 ^ 63:=by rw[s9];decide
theorem nV:yS X (λx H Q=>∃ k,qm X.K x H k/\Q k H):=by
 intro pins s σ H x v Q I rx h;obtain⟨k,e,q⟩:=h;have F:=dj;have hs:tv=16777216:=s9
 cases x with
 | non =>
   cases rx
   have e':k=false:=e;subst e';exact truthy_none ⟨H,I,q⟩
 | bl b =>
   cases rx
   have e':k=b:=e;subst e';exact CV ⟨H,I,q⟩
 | int i =>
   obtain⟨t,rfl⟩:=rx;have e':k=(i != 0):=e;subst e';exact PySem.P.truthy_int ⟨H,I,q⟩
 | str y =>
   obtain⟨t,rfl⟩:=rx;obtain⟨z,e'⟩:y.length<=tv/\k=((y.length:Int) != 0):=e;subst e';exact PySem.P.truthy_str (by lia) ⟨H,I.tok _,q⟩
 | byt y =>
   obtain⟨t,rfl⟩:=rx;obtain⟨z,e'⟩:y.size<=tv/\k=((y.size:Int) != 0):=e;subst e';exact PySem.W.truthy_bytes (by lia) ⟨H,I.tok _,q⟩
 | ref p =>
   cases rx
   have e':(∃ xs,SqL X.K H p xs/\k = !xs.isEmpty)∨(∃ xs,SqT X.K H p xs/\k = !xs.isEmpty)∨∃ kvs,H p=some (.dK kvs)/\k = !kvs.isEmpty:=e
   rcases e' with⟨xs,hx,e'⟩|⟨xs,hx,e'⟩|⟨kvs,hx,e'⟩
   ·subst e';obtain⟨its,r,pl,j⟩:=I.list hx;have hlen:=r.length;exact wpAny_truthy_list pl.isList (by simp only[y2];lia) ⟨H,I.tok _,by rw[fG r];exact q⟩
   ·subst e';obtain⟨its,r,pl,j⟩:=I.tuple hx;have hlen:=r.length;exact truthy_tuple pl (by simp only[y2];lia) ⟨H,I.tok _,by rw[fG r];exact q⟩
   ·subst e';obtain⟨j,B,vs,r,m⟩:kvs.length<=tv/\(p==E6)=false /\ ∃ vs,KV kvs vs/\s.heap.DictOf (aT X.prog X.w) p vs:=I.hok p _ hx;have hlen:kvs.length=vs.length:=EC r;exact wpAny_truthy_dict B m (by lia) ⟨H,I.tok _,by rw[lQ r];exact q⟩
 |_=>exact(show False from e).elim
theorem qo (j:PE X a ta)(he:∀ whole,isTrue a X.env whole=(do let v <- whole;FK a.pos;holding [v] (truthy v))) :
 PT X a (λσ H Q=>ta σ H λx H'=>∃ k,qm X.K x H' k/\Q k H'):=by
 intro pins s σ H Q I h;exact isTrue_plain (thn (j pins s σ H _ I h) λv s1 z=>(by obtain⟨x,H1,B,F,J⟩:=z;exact nV pins s1 σ H1 x v Q B F J)) (he _)
theorem lU:OpR X (CW .Add) (λx y H Q=>∃ i j,x = .str i/\y = .str j/\i.length+j.length<=tv/\Q (.str (i++j)) H):=by
 intro pins s σ H x y v u Q I rx ry h;obtain⟨i,j,rfl,rfl,z,q⟩:=h;obtain⟨t,rfl⟩:=rx;obtain⟨t',rfl⟩:=ry;exact add_str (λt' tk=>⟨.str (i++j),H,I.tok _,⟨_,rfl⟩,q⟩) z
theorem cg {x:V}(r:Vals [x] us):∃ u,us=[u]/\RelV x u:=by
 cases r with
 |cons j z=>cases z;exact⟨_,rfl,j⟩
theorem lV {x y:V}(r:Vals [x,y] us):∃ u w',us=[u,w']/\RelV x u/\RelV y w':=by
 cases r with
 | cons j z =>
   cases z with
   |cons B F=>cases F;exact⟨_,_,rfl,j,B⟩
theorem qq:CallR X (.builtin "abs") (λxs H Q=>∃ i,xs=[.int i]/\Q (.int (if i<0 then -i else i)) H):=by
 intro pins s σ H xs us Q I r h;obtain⟨i,rfl,q⟩:=h;obtain⟨u,rfl,t,rfl⟩:=cg r;exact call_abs_int λu tk=>⟨.int (if i<0 then -i else i),H,I.tok _,⟨_,rfl⟩,q⟩
theorem nW (B:X.calm=true):CallR X (.builtin "max") (λxs H Q=>∃ i j,xs=[.int i,.int j]/\Q (.int (if j > i then j else i)) H):=by
 intro pins s σ H xs us Q I r h;obtain⟨i,j,rfl,q⟩:=h;obtain⟨u,w',rfl,⟨t,rfl⟩,⟨t',rfl⟩⟩:=lV r;refine max_two_ints (I.ok.hd B) λh' tk k=>⟨_,H,I.kept k,?_,q⟩
 by_cases z:j > i
 ·rw[if_pos z,if_pos z];exact⟨_,rfl⟩
 ·rw[if_neg z,if_neg z];exact⟨_,rfl⟩
theorem nX (B:X.calm=true):CallR X (.builtin "min") (λxs H Q=>∃ i j,xs=[.int i,.int j]/\Q (.int (if j<i then j else i)) H):=by
 intro pins s σ H xs us Q I r h;obtain⟨i,j,rfl,q⟩:=h;obtain⟨u,w',rfl,⟨t,rfl⟩,⟨t',rfl⟩⟩:=lV r;refine min_two_ints (I.ok.hd B) λh' tk k=>⟨_,H,I.kept k,?_,q⟩
 by_cases z:j<i
 ·rw[if_pos z,if_pos z];exact⟨_,rfl⟩
 ·rw[if_neg z,if_neg z];exact⟨_,rfl⟩
theorem nY:CallR X (.type "int") (λxs H Q=>(∃ i,xs=[.int i]/\Q (.int i) H)∨∃ k,xs=[.bl k]/\Q (.int (if k then 1 else 0)) H):=by
 intro pins s σ H xs us Q I r h
 rcases h with⟨i,rfl,q⟩|⟨k,rfl,q⟩
 ·obtain⟨u,rfl,t,rfl⟩:=cg r;exact call_int_int ⟨.int i,H,I,⟨_,rfl⟩,q⟩
 ·obtain⟨u,rfl,j⟩:=cg r
  cases j
  exact call_int_bool ⟨.int (if k then 1 else 0),H,I.tok _,⟨_,rfl⟩,q⟩
theorem j6:CallR X (.type "str") (λxs H Q=>∃ i,xs=[.int i]/\i.natAbs.log2<1920/\Q (.str (D9 i)) H):=by
 intro pins s σ H xs us Q I r h;obtain⟨i,rfl,j,q⟩:=h;obtain⟨u,rfl,t,rfl⟩:=cg r;exact PySem.P.str_of_int j ⟨.str _,H,I.tok _,⟨_,rfl⟩,q⟩
def yU (K:Frag) (x:V) (H:Hp) (n:Nat):Prop :=
 match x with
 |.str y=>y.length<=tv/\n=y.length
 |.byt y=>y.size<=tv/\n=y.size
 |.ref p=>(∃ xs,SqL K H p xs/\n=xs.length)∨∃ xs,SqT K H p xs/\n=xs.length
 |_=>False
theorem j7:CallR X (.builtin "len") (λxs H Q=>∃ x n,xs=[x]/\yU X.K x H n/\Q (.int n) H):=by
 intro pins s σ H xs us Q I r h;obtain⟨x,n,rfl,e,q⟩:=h;obtain⟨u,rfl,rx⟩:=cg r;have B:=dj;have hs:tv=16777216:=s9
 cases x with
 | str y =>
   obtain⟨t,rfl⟩:=rx;obtain⟨j,e'⟩:y.length<=tv/\n=y.length:=e;subst e';exact len_str (by lia) ⟨.int _,H,I.tok _,⟨_,rfl⟩,q⟩
 | byt y =>
   obtain⟨t,rfl⟩:=rx;obtain⟨j,e'⟩:y.size<=tv/\n=y.size:=e;subst e';exact PySem.W.len_bytes (by lia) ⟨.int _,H,I.tok _,⟨_,rfl⟩,q⟩
 | ref p =>
   cases rx
   have e':(∃ xs,SqL X.K H p xs/\n=xs.length)∨∃ xs,SqT X.K H p xs/\n=xs.length:=e
   rcases e' with⟨xs,hx,e'⟩|⟨xs,hx,e'⟩
   ·subst e';obtain⟨its,r',pl,z⟩:=I.list hx;have hlen:=r'.length;exact Calls.call_len_list pl.isList (by simp only[y2];lia) ⟨.int xs.length,H,I.tok _,⟨_,by simp only[y2];rw[hlen]⟩,q⟩
   ·subst e';obtain⟨its,r',pl,z⟩:=I.tuple hx;have hlen:=r'.length;exact len_tuple pl (by simp only[y2];lia) ⟨.int xs.length,H,I.tok _,⟨_,by simp only[y2];rw[hlen]⟩,q⟩
 |_=>exact(show False from e).elim
end
end
section
structure ObjM (h:Heap) (x dx C:Addr) (mA:Str->Option h6):Prop where
 obj:h.get? x=some (Gq C dx)
 ns:h.Ns1 dx mA
 ne:dx≠x
theorem nZ {dx:Addr}{mA:Str->Option h6}(n:h.Ns1 dx mA):∃ od,h.get? dx=some od /\ ∀ name,GD name od=some (mA name):=by
 obtain⟨o,es,ep,ho,hd,B,_,hm⟩:=n;refine⟨o,ho,λname=>?_⟩;have e:=hm name;unfold nsFind findBy at e;rw[<- Array.find?_toList]at e;unfold GD;rw[hd];dsimp only
 split
 ·rename_i y q;rw[q]at e;exact congrArg some e
 ·rename_i q;rw [q] at e;have a:es.toList.any (·.refKey)=false:=by
   rw[List.any_eq_false];intro y F;obtain⟨z,t,j⟩:=B y (Array.mem_toList_iff.mp F);simp[DictEntry.refKey,j]
  have a' : ¬ es.toList.any (·.refKey)=true:=by rw[a];exact q7
  rw[if_neg a'];exact congrArg some e
theorem ObjM.look {x dx C:Addr}{mA:Str->Option h6}(I:ObjM h x dx C mA):∃ od,PySem.W.InstAt h x (Gq C dx) C (some od) /\ ∀ name,GD name od=some (mA name) :=
 let ⟨od,ho,j⟩:=nZ I.ns
 ⟨od,⟨I.obj,rfl,rfl,ho⟩,j⟩
theorem JE {o:Option h6}(r:RelO (some v) o):∃ u,o=some u/\RelV v u:=by
 cases o with
 |none=>exact(show False from r).elim
 |some u=>exact⟨u,rfl,r⟩
section
variable {P:Ct} {w:CC} {H H':Hp} {h h':Heap} {a C dx:Addr} {fs fs':List (Str×V)}
theorem tE (hok:HOk P w H h)(e:H a=some (.ins C dx fs)):∃ mA,ObjM h a dx C mA/\(∀ f,RelO (fs.lookup f) (mA f))/\PySem.Within mA (fs.map (·.1))/\fs.length<=1000/\H dx=some (.own a):=by
 obtain⟨d,z,ne,ob,mA,n,r,q⟩:=(show ObjOk P w H h a (.ins C dx fs) from hok a _ e);exact⟨mA,⟨ob,n,ne⟩,r,q,z,d⟩
end
structure Cls (K:Frag) (C:Addr):Prop where
 pg:Ij K C E2=true
 hd:PySem.W.hasDictIn K C=true
 po:PySem.W.plainOver K C=true
 sa:PySem.W.findIn K (.ref C) "__setattr__" = some (some (.builtin "object.__setattr__"))
theorem Cls.get {C:Addr}(c:Cls K C)(f:Str):Ij K C f=true:=c.pg
section
variable {X:Cx} {pins:List (Addr×Obj)} {σ:St} {H:Hp} {s:hQ} {A:CK} {E:h6->hQ->Prop} {Q:h6->hQ->Prop} {c:h6} {b:Bool}
inductive bS (K:Frag) (H:Hp):V->h6->Prop where
 |non:bS K H .non (.type "NoneType")
 |bl (x:Bool):bS K H (.bl x) (.type "bool")
 |int (i:Int):bS K H (.int i) (.type "int")
 |str (x:Str):bS K H (.str x) (.type "str")
 |flt (x:UInt64):bS K H (.flt x) (.type "float")
 |lst {a:Addr} {xs:List V} (e:H a=some (.lst xs)):bS K H (.ref a) (.type "list")
 |frz {a:Addr} {o:Obj} {xs:List V} (e:H a=some (.frz o (.lst xs))):bS K H (.ref a) (.type "list")
 |tup {a:Addr} {xs:List V} (e:SqT K H a xs):bS K H (.ref a) (.type "tuple")
 |dK {a:Addr} {kvs:List (Key×V)} (e:H a=some (.dK kvs)):bS K H (.ref a) (.type "dict")
 |dT {a:Addr} {kvs:List (List Key×V)} (e:H a=some (.dT kvs)):bS K H (.ref a) (.type "dict")
 | ins {a C dx:Addr} {fs:List (Str×V)} (e:H a=some (.ins C dx fs)) (cl:Cls K C) (ha:PySem.W.findIn K (.ref C) "__class__" = some (some (.builtin "object.__class__")))
    (hn:PySem.W.specialIn K (.builtin "object.__class__") "__get__" = some (some (.builtin "getset_descriptor.__get__"))) (htk:PySem.W.takesIn K (.builtin "object.__class__")=some true)
    (hm:PySem.W.mroIn K C (.type "object")=some true):bS K H (.ref a) (.ref C)
theorem oa {x:V}{t:h6}(I:Inv X pins σ H s)(rx:RelV x u)(ty:bS X.K H x t)(e:PySem.W.kitOne X.K t c=some b)(h:∀ tk,Q (.bool b) { s with toks:=tk }) :
 Cj (model X.prog X.w) A (call (.builtin "isinstance") [u,c]) Q E s:=by
 cases ty with
 |non=>cases (show u=Fq from rx);exact CT PySem.W.kitx_none I.kIn Eo e (λz=>nomatch z) h
 |bl y=>cases (show u=IY y from rx);exact CT PySem.W.kitx_bool I.kIn Eo e (λz=>nomatch z) h
 |int i=>obtain⟨t,q⟩:=(show ∃ t,u=Ih i t from rx);cases q;exact CT PySem.W.kitx_int I.kIn Eo e (λz=>nomatch z) h
 |str y=>obtain⟨t,q⟩:=(show ∃ t,u=Ii y t from rx);cases q;exact CT PySem.W.kitx_str I.kIn Eo e (λz=>nomatch z) h
 |flt y=>obtain⟨t,q⟩:=(show ∃ t,u=Value.float y t from rx);cases q;exact CT PySem.W.kitx_float I.kIn Eo e (λz=>nomatch z) h
 |@lst a xs ea =>
  cases (show u=DK a from rx)
  obtain⟨_,_,n,_,h1⟩:=(show ObjOk X.prog X.w H s.heap a (.lst xs) from I.hok a _ ea);exact CT HP I.kIn ⟨_,h1,rfl⟩ e (λz=>nomatch z) h
 |@frz a ob xs ea =>
  cases (show u=DK a from rx)
  obtain⟨_,_,_,n,_,h1⟩:=(show ObjOk X.prog X.w H s.heap a (.frz ob (.lst xs)) from I.hok a _ ea);exact CT HP I.kIn ⟨_,h1,rfl⟩ e (λz=>nomatch z) h
 |@tup a xs ea =>
  cases (show u=DK a from rx)
  obtain⟨_,_,p,_⟩:=I.tuple ea;obtain⟨o,h1,h2,_⟩:=p;exact CT PySem.W.kitx_tuple I.kIn ⟨o,h1,h2⟩ e (λz=>nomatch z) h
 |@dK a kvs ea =>
  cases (show u=DK a from rx)
  obtain⟨_,_,vs,_,p⟩:=(show ObjOk X.prog X.w H s.heap a (.dK kvs) from I.hok a _ ea);obtain⟨o,es,ep,h1,h2,_⟩:=p;exact CT HQ I.kIn ⟨o,h1,h2.1⟩ e (λz=>nomatch z) h
 |@dT a kvs ea =>
  cases (show u=DK a from rx)
  obtain⟨_,_,xs,_,o,es,ep,h1,h2,_⟩:=(show ObjOk X.prog X.w H s.heap a (.dT kvs) from I.hok a _ ea);exact CT HQ I.kIn ⟨o,h1,h2.1⟩ e (λz=>nomatch z) h
 |@ins a C dx fs ea cl ha hn htk hm =>
  cases (show u=DK a from rx)
  obtain⟨mA,O,_⟩:=tE I.hok ea;obtain⟨od,J,_⟩:=O.look;exact CT (PySem.W.kitx_own (cl.get _) cl.hd ha hn htk hm) I.kIn J e (λz=>nomatch z) h
end
end
variable {ps:List Str}
section
structure Room (k:Nat) (A:CK):Prop where
 hd:A.handled=none
 dp:A.depth+3*k+5<recursionLimit
 un:A.units+16*k+200<GF
theorem Room.deeper {k:Nat}(r:Room (k+1) A)(env:Env):Room k (A.deeper env) :=
 ⟨r.hd,by have:=r.dp;show A.depth+1+3*k+5<_;lia,by have:=r.un;show A.units+3+16*k+200<_;lia⟩
theorem Room.depth {k:Nat}(r:Room k A):A.depth<recursionLimit:=by have:=r.dp;lia
theorem Room.units {k:Nat}(r:Room k A):A.units+64<GF:=by have:=r.un;lia
noncomputable def vA:TA:=λ_ H Q=>Q [] H
noncomputable def sy (ta:TE) (tr:TA):TA:=λσ H Q=>ta σ H λx H1=>tr σ H1 λxs H2=>Q (x::xs) H2
section
variable {X:Cx} {e:Expr} {es:List Expr} {te:TE} {t:TA} {pos:Pos}
theorem og:PA X [] vA:=λ_ _ _ _ H Q I h=>Calls.spliced_nil ⟨[],H,I,.nil,h⟩
theorem gH (z:PE X e te)(B:PA X es t)(hs:Cm (e::es) X.env=(false,eval e X.env)::Cm es X.env:=by rfl):PA X (e::es) (sy te t):=by
 intro pos pins s σ H Q I h;rw[hs];show Cj _ _ (spliced ((false,eval e X.env)::DH pos (Cm es X.env))) _ _ s;refine Calls.spliced_cons (thn (z pins s σ H _ I h) λu s1 j=>?_);obtain⟨x,H1,F,J,L⟩:=j;exact thn (B pos pins s1 σ H1 _ F L) λus s2 j=>(by obtain⟨xs,H2,O,U,Y⟩:=j;exact⟨x::xs,H2,O,.cons J U,Y⟩)
noncomputable def yV (t:TA):TE:=λσ H Q=>t σ H λxs H1=>xs.length<=tv /\ ∀ p,H1 p=none->Q (.ref p) (upd H1 p (.tup xs))
noncomputable def yW (t:TA):TE:=λσ H Q=>t σ H λxs H1=>xs.length<=tv /\ ∀ p,H1 p=none->Q (.ref p) (upd H1 p (.lst xs))
theorem vB {B}(h:PA X es t):PE X (.Tuple es B pos) (yV t):=by
 intro pins s σ H Q I hq;refine wpAny_Tuple_spliced (thn (h pos pins s σ H _ I hq) λus s1 ⟨xs,H1,j,r,z,q⟩=>⟨by rw[<- r.length];exact z,?_⟩)
 have hf:H1 s1.heap.objs.size=none:=j.hok.fresh (Cc _);refine⟨.ref s1.heap.objs.size,upd H1 s1.heap.objs.size (.tup xs),j.laid (t':=s1.toks) (λb u e=>hD _ e) (Cc _) ?_,rfl,q _ hf⟩;exact⟨z,us,r,⟨_,Ce _ rfl,rfl,_,rfl⟩⟩
theorem vC (h:PA X es t):PE X (.List es pos) (yW t):=by
 intro pins s σ H Q I hq;refine wpAny_List_spliced (thn (h pos pins s σ H _ I hq) λus s1 ⟨xs,H1,j,r,z,q⟩=>⟨by rw[<- r.length];exact z,?_⟩)
 have hf:H1 s1.heap.objs.size=none:=j.hok.fresh (Cc _);refine⟨.ref s1.heap.objs.size,upd H1 s1.heap.objs.size (.lst xs),j.laid (t':=s1.toks) (λb u e=>hD _ e) (Cc _) ?_,rfl,q _ hf⟩;exact⟨z,us,0,r,Ce _ rfl⟩
end
noncomputable abbrev Sp:=List V->Hp->VK->XK->Prop
noncomputable abbrev CXT:=List Env->Hp->hQ->XK->h6->hQ->Prop
structure gI (P:Ct) (w:CC) (K:Frag) (mg:Str->Option h6) (base:Heap) (A:CK) (outer:List Env) (s:hQ) (H:Hp):Prop where
 frames:A.frames=some outer
 mod:Mod K mg base
 bs:∀ b o,base.get? b=some o->s.heap.get? b=some o/\H b=none
 bsz:base.objs.size<=s.heap.objs.size
 funs:s.heap.FunFrames base outer
 frf:∀ b∈frs outer,H b=none
 hok:HOk P w H s.heap
 bare:FJ s.gens
def CE (outer:List Env) (P:Ct) (w:CC) (H:Hp) (s:hQ) (Q:VK) (u:h6) (s':hQ):Prop :=
 ∃ v H',s'.os=s.os/\FJ s'.gens/\Un (frs outer) [] H H' s.heap s'.heap/\HOk P w H' s'.heap/\RelV v u/\Q v H'
def CR (CX:CXT) (outer:List Env) (P:Ct) (w:CC) (H:Hp) (s:hQ) (Q:VK) (E:XK) (r:Result) (s':hQ):Prop :=
 match r with
 |.ok (.ret u)=>CE outer P w H s Q u s'
 |.ok _=>False
 |.error e=>CX outer H s E e s'
structure cr (P:Ct) (w:CC) (K:Frag) (mg:Str->Option h6) (base:Heap) (CX:CXT) (k:Nat) (f:Addr) (fd:Ee) (ps:List Str) (sp:Sp):Prop where
 len:∀ vs H Q E,sp vs H Q E->vs.length=ps.length
 run:∀ (A:CK) (outer:List Env) (s:hQ) (H:Hp) (args:Args) (us:List h6) (vs:List V) (Q:VK) (E:XK),Room k A->gI P w K mg base A outer s H->GY s fd args (ps.zip us)->Vals vs us->sp vs H Q E ->
  F9 (model P w) A (.call (.ref f) args) (CR CX outer P w H s Q E) s
section
variable {X:Cx} {pins:List (Addr×Obj)} {σ:St} {H:Hp} {s s':hQ}
theorem Inv.env0 (I:Inv X pins σ H s):gI X.prog X.w X.K X.mg X.base X.A X.stack s H :=
 ⟨I.ok.frames,I.ok.mod,I.bs,D7 I.ok.bsz I.sz,I.stack,I.stkFree,I.hok,I.bare⟩
theorem Inv.after (I:Inv X pins σ H s)(h:CE X.stack X.prog X.w H s Q u s'):EP X pins σ Q u s':=by
 obtain⟨v,H',os,bare,un,hok,r,q⟩:=h;obtain⟨j,g,d,t,os'⟩:=s';obtain rfl:os'=s.os:=os;exact⟨v,H',I.call (h':=j) (g':=g) (d':=d) (t':=t) (ch:=[]) un hok bare (λb z=>absurd z (by simp)),r,q⟩
end
noncomputable def sB (sp:Sp) (dvs:List V) (E:XK) (t:TA):TE:=λσ H Q=>t σ H λvs H1=>sp (vs++dvs) H1 Q E
def Binds (K:Frag) (fd:Ee) (ps:List Str) (ds:List h6):Prop :=
 ∀ (s:hQ) (us:List h6),K.In s.heap->(us++ds).length=ps.length->GY s fd ⟨us,[]⟩ (ps.zip (us++ds))
theorem Binds.all {fd:Ee}(h:∀ us:List h6,us.length=ps.length->bindArgs fd ⟨us,[]⟩=pure (ps.zip us)):Binds K fd ps []:=λs us _ j=>by
 rw[Dv]at j ⊢;exact .of_eq (h us j)
def fH (CX:CXT) (X:Cx) (E:XK):Prop:=∀ (pins:List (Addr×Obj)) (σ:St) (H:Hp) (s:hQ) (e:h6) (s':hQ),Inv X pins σ H s->CX X.stack H s E e s'->X.xe e s'
section
variable {X:Cx} {CX:CXT} {k:Nat} {f C:Addr} {fd:Ee} {ps:List Str} {sp:Sp} {dvs:List V} {ds:List h6} {E:XK} {x m:Str} {p pos apos:Pos} {e o:Expr} {es:List Expr} {ta:TE} {t:TA}
theorem oh {vs:List V}(F:cr X.prog X.w X.K X.mg X.base CX k f fd ps sp)(B:Room k X.A)(J:Binds X.K fd ps ds)(hd:Vals dvs ds)(hx:fH CX X E)(I:Inv X pins σ H s)(r:Vals vs us)(h:sp (vs++dvs) H Q E):Cj (model X.prog X.w) X.A (call (.ref f) us) (EP X pins σ Q) X.xe s:=by
 have z:Vals (vs++dvs) (us++ds):=r.append hd;have L:(us++ds).length=ps.length:=by rw[<- z.length];exact F.len _ _ _ _ h
 refine wpAny_call (Eu (F.run X.A X.stack s H ⟨us,[]⟩ (us++ds) (vs++dvs) Q E B I.env0 (J s us I.kIn L) z h) λr s' j=>?_)
 cases r with
 |error e=>exact hx pins σ H s e s' I j
 | ok fl =>
   cases fl with
   |ret u=>exact I.after j
   |next=>exact False.elim j
   |brk=>exact False.elim j
   |cont=>exact False.elim j
theorem tF (F:cr X.prog X.w X.K X.mg X.base CX k f fd ps sp)(J:Room k X.A)(L:Gl X x)(hm:X.mg x=some (.ref f))(O:DE X.K (.ref f)=true)(U:Binds X.K fd ps ds)(hd:Vals dvs ds)(hx:fH CX X E)(Y:PA X (e::es) t)(j:(x==("__debug__":Str))=false:=by decide)(he:Cm (e::es) X.env=(false,eval e X.env)::Cm es X.env:=by rfl)(z:(DH pos (Cm es X.env)).any (·.1)=false:=by rfl) :
 PE X (.Call (.Name x p) (e::es) [] pos) (sB sp dvs E t):=by
 intro pins s σ H Q I h;refine E9 (gG I L hm ?_ j);refine PySem.W.callWith_K (h₀:=X.base) I.ok.mod.kin O (thn (Y pos pins s σ H _ I h) λus s1 ⟨vs,H1,B,r,q⟩=>⟨B.kIn,?_⟩) he z;exact oh F J U hd hx B r q
theorem qr (F:cr X.prog X.w X.K X.mg X.base CX k f fd ps sp)(z:Room k X.A)(B:Gl X x)(hm:X.mg x=some (.ref f))(J:DE X.K (.ref f)=true)(L:Binds X.K fd ps ds)(hd:Vals dvs ds)(hx:fH CX X E)(j:(x==("__debug__":Str))=false:=by decide):PE X (.Call (.Name x p) [] [] pos) (sB sp dvs E vA):=by
 intro pins s σ H Q I h;refine E9 (gG I B hm ?_ j);exact PySem.W.callWith_K0 I.kIn J (oh (us:=[]) F z L hd hx I .nil h)
end
structure er (N P:List Str) (sc:Scope):Prop where
 kind:sc.kind = .function
 co:sc.isCoroutine=false
 gen:sc.isGenerator=false
 nd:N.Nodup
 pre:N.take P.length=P
 par:∀ x∈P,sc.names.lookup x=some .local∨sc.names.lookup x=some .cell
 nofree:∀ y∈sc.names,y.2 ≠ .free
theorem hC {Eh:Str->Option E3}{x:Str}:∀ {binds:List (Str×h6)} {m:Str->Option h6},(∀ v,(x,v)∉binds)->J2 Eh binds m x=m x
 |[],_,_=>rfl
 |(n,v)::r,m,h=>by
  unfold J2;rw[hC λw hw=>h w (Ci _ hw)]
  split
  ·have:x≠n:=by rintro rfl;exact h v CN
   simp[this]
  ·rfl
theorem hE {Eh:Str->Option E3}{x:Str}:∀ {binds:List (Str×h6)} {m:Str->Option h6},(∀ v,(x,v)∉binds)->J3 Eh binds m x=m x
 |[],_,_=>rfl
 |(n,v)::r,m,h=>by
  unfold J3;rw[hE λw hw=>h w (Ci _ hw)]
  split
  ·rfl
  ·have:x≠n:=by rintro rfl;exact h v CN
   simp[this]
theorem hG {Eh:Str->Option E3}{x:Str}{v:h6}:∀ {P:List Str} {vs:List h6} {i:Nat} {m:Str->Option h6},P.Nodup->P[i]? = some x->vs[i]? = some v->Eh x=some .local ->
 J2 Eh (P.zip vs) m x=some v
 |[],_,_,_,_,h,_,_=>by simp at h
 |_::_,[],_,_,_,_,h,_=>by simp at h
 | p::P,w::vs,0,m,nd,h1,h2,j=>by
   simp at h1 h2;subst h1;subst h2;show J2 Eh ((p,w)::P.zip vs) m p=_;unfold J2;rw[hC λv z=>(EI.mp nd).1 (Gs z).1,if_pos j];simp
 | p::P,w::vs,i+1,m,nd,h1,h2,j=>by
   show J2 Eh ((p,w)::P.zip vs) m x=_;unfold J2;exact hG (i:=i) (EI.mp nd).2 (by simpa using h1) (by simpa using h2) j
theorem hJ {Eh:Str->Option E3}{x:Str}{v:h6}:∀ {P:List Str} {vs:List h6} {i:Nat} {m:Str->Option h6},P.Nodup->P[i]? = some x->vs[i]? = some v->Eh x≠some .local ->
 J3 Eh (P.zip vs) m x=some v
 |[],_,_,_,_,h,_,_=>by simp at h
 |_::_,[],_,_,_,_,h,_=>by simp at h
 | p::P,w::vs,0,m,nd,h1,h2,j=>by
   simp at h1 h2;subst h1;subst h2;show J3 Eh ((p,w)::P.zip vs) m p=_;unfold J3;rw[hE λv z=>(EI.mp nd).1 (Gs z).1,if_neg j];simp
 | p::P,w::vs,i+1,m,nd,h1,h2,j=>by
   show J3 Eh ((p,w)::P.zip vs) m x=_;unfold J3;exact hJ (i:=i) (EI.mp nd).2 (by simpa using h1) (by simpa using h2) j
noncomputable def ci (N:List Str) (vs:List V):St:=vs.map some++Cd (N.length - vs.length) none
noncomputable def eZ (CX:CXT) (P:Ct) (w:CC) (K:Frag) (mg:Str->Option h6) (base:Heap) (N:List Str) (qual:Str) (scope:Scope) (f:Addr) (cd:h6) (A:CK) (outer:List Env) (s:hQ) (H:Hp) (E:XK):Cx where
 prog:=P
 w:=w
 K:=K
 mg:=mg
 base:=base
 A:=A.deeper (GG qual scope s.heap.objs.size f cd)
 N:=N
 s₀:=s
 H₀:=H
 env:=GG qual scope s.heap.objs.size f cd
 outer:=outer
 stack:=GG qual scope s.heap.objs.size f cd::outer
 ex:=[]
 calm:=true
 fn:=λ_=>true
 pn:=[]
 xe:=λe s'=>Cj (model P w) (A.deeper (GG qual scope s.heap.objs.size f cd)) (leaving (GG qual scope s.heap.objs.size f cd) e) (λ_ s''=>CX outer H s E e s'') (λe' s''=>CX outer H s E e' s'') s'
theorem j8 {sc:Scope}{n:Nat}(h:sc.names.lookup x=some .cell):∃ c,(Ds n sc.names []).lookup x=some c:=by
 have q:=EW sc.names n [] (.inl h);exact DU.mp q
theorem oi {CX:CXT}{mg:Str->Option h6}{base:Heap}{qual:Str}{scope:Scope}{f:Addr}{cd:h6}{outer:List Env}{s1:hQ}{E:XK}{vs:List V}(S:er N ps scope)(hd:A.handled=none)(j:gI P w K mg base A outer s H)(Y:vs.length=ps.length)(r:Vals vs us)(x:InCallC s s.heap.objs.size (J2 (GG qual scope s.heap.objs.size f cd).kindOf (ps.zip us) λ_=>none) (Ds (s.heap.objs.size+1) scope.names []) (J3 (GG qual scope s.heap.objs.size f cd).kindOf (ps.zip us) λ_=>none) s1) :
 Inv (eZ CX P w K mg base N qual scope f cd A outer s H E) [] (ci N vs) H s1:=by
 have O:ps.length<=N.length:=by have:=congrArg List.length S.pre;rw[DC]at this;lia
 obtain⟨h1,tk,rfl,J⟩:=x.done;have noA:∀ b:Addr,b∉(eZ CX P w K mg base N qual scope f cd A outer s H E).ex:=λb z=>absurd (show b∈([]:List Addr) from z) (by simp)
 refine⟨⟨j.mod,S.kind,rfl,rfl,Cc _,λy z c h1 h2=>?_,λy B=>?_,λy c _ h=>?_,λ_=>hd,Around.frames_deeper j.frames,.inr ⟨rfl,rfl⟩,λb z=>absurd z (noA b),j.bs,j.bsz,λb _ _=>noA b,λb z=>absurd z (noA b),j.funs,j.frf⟩,
  rfl,j.bare,Un.kept J,⟨_,x.toInCall.ns,λi y v h1 h2 Z=>?_⟩,λy c h=>⟨_,x.cell y c h⟩,j.hok.fresh (Cc _),λy c h=>?_,λp F=>absurd (show p∈([]:List (Addr×Obj)) from F) (by simp),j.hok.kept J,?_⟩
 ·exact name_of_addr x.apart (CU h1) (CU h2)
 ·have B:scope.names.lookup y=some .cell∨scope.names.lookup y=some .free:=B
  rcases B with B|B
  ·exact j8 B
  ·exact absurd rfl (S.nofree _ (CU B))
 ·exact Et (x.above y c (CU h))
 ·have hi:i < vs.length:=by
   unfold ci at h2
   by_cases hi:i<vs.length
   ·exact hi
   ·rw[Ep (by simpa using hi)]at h2
    rw[ER]at h2
    split at h2 <;> cases h2
  have U:vs[i]? = some v:=by
   unfold ci at h2;rw[DI (by simpa using hi),CB]at h2
   cases e:vs[i]? with
   |none=>rw[e]at h2;cases h2
   |some a=>rw[e]at h2;cases h2;rfl
  obtain⟨u,L,rv⟩:=r.get U;have F:ps[i]? = some y:=by
   rw[<- S.pre,List.getElem?_take_of_lt (by lia)];exact h1
  have ndP:ps.Nodup:=by rw[<- S.pre];exact S.nd.sublist (List.take_sublist _ _)
  refine⟨u,rv,?_⟩
  rcases S.par y (CI F) with k|k
  ·exact .inl ⟨k,hG ndP F L k⟩
  ·obtain⟨c,e⟩:=j8 (n:=s.heap.objs.size+1) k;refine .inr ⟨.inl k,c,e,?_⟩;have q:=x.cell y c e;rw[hJ ndP F L (by show scope.names.lookup y≠_;rw[k];decide)]at q
   exact q
 ·exact j.hok.fresh (Et (x.above y c (CU h)))
 ·unfold ci;show _=N.length;rw[Cv,Ca,F1];lia
theorem xC {CX:CXT}{mg:Str->Option h6}{base:Heap}{k:Nat}{f:Addr}{name qual:Str}{params:Arguments}{scope:Scope}{dV kV doc pm cdv ct oc:h6}{an od:Option Addr}{osl:Array (Option h6)}{sp:Sp}(lk:K.lookup f=some ⟨oc,od,.func (Ea name qual params body scope dV kV doc pm an cdv ct),osl⟩)(L:Fv K cdv qual=true)(S:er N ps scope)(len:∀ vs H Q E,sp vs H Q E->vs.length=ps.length)(j:∀ (A:CK) (outer:List Env) (s:hQ) (H:Hp) (vs:List V) (Q:VK) (E:XK),Room k (A.deeper (GG qual scope s.heap.objs.size f cdv))->sp vs H Q E ->
   ∃ t,PSs (eZ CX P w K mg base N qual scope f cdv A outer s H E) body t/\t { nx:=λ_ H'=>Q .non H',rt:=Q } (ci N vs) H) :
 cr P w K mg base CX (k+1) f (Ea name qual params body scope dV kV doc pm an cdv ct) ps sp:=by
 refine⟨len,λA outer s H args us vs Q E O B U r F=>?_⟩;have Y:=len _ _ _ _ F;have KX:K.In s.heap:=B.mod.kin.keeps λb o e=>(B.bs b o e).1;have lim:s.heap.NoLimit:=B.mod.nolimit.keeps λb o e=>(B.bs b o e).1;have z:∀ y∈ps.zip us,scope.names.lookup y.1=some .local∨(scope.names.lookup y.1=some .cell/\((Ds (s.heap.objs.size+1) scope.names []).lookup y.1).isSome=true):=λ⟨n,v⟩ hy=>by
  rcases S.par n (Gs hy).1 with q|q
  ·exact .inl q
  ·exact .inr ⟨q,EW _ _ _ (.inl q)⟩
 refine codeAny_call_function O.depth (KX _ _ lk) rfl S.co S.gen rfl (PySem.W.codeRec_of KX L) (U _ _ _ _ ?_);refine wpAny_newFunctionEnv_cells S.kind z λenv he s1 x=>?_;subst he;refine⟨lim.keeps x.toInCall.keep,codeAny_func ?_⟩;obtain⟨t,Z,hq⟩:=j A outer s H vs Q E (O.deeper _) F;have I:Inv (eZ CX P w K mg base N qual scope f cdv A outer s H E) [] (ci N vs) H s1:=oi S O.hd B Y r x;refine DR (Z [] s1 (ci N vs) H _ I hq) (λfl s' hs=>?_) λe s' hs=>hs;have fin:∀ {σ':St} {H':Hp} {v:V} {u:h6},Inv (eZ CX P w K mg base N qual scope f cdv A outer s H E) [] σ' H' s'->RelV v u->Q v H'->CE outer P w H s Q u s' :=
  λ{σ' H' v u} J rv q=>⟨v,H',J.os,J.bare,J.base,J.hok,rv,q⟩
 cases fl with
 | ret u =>
   obtain⟨v,σ',H',J,rv,q⟩:=hs;exact fin J rv q
 | next =>
   obtain⟨σ',H',J,q⟩:=hs;exact fin (v:=V.non) (u:=Fq) J rfl q
 | brk =>
   obtain⟨_,_,_,q⟩:=hs;exact False.elim q
 | cont =>
   obtain⟨_,_,_,q⟩:=hs;exact False.elim q
end
section
section
variable {X:Cx} {x:Str} {p pos:Pos} {e:Expr} {es:List Expr} {t:TA} {id T:String} {r:List V->Hp->VK->Prop}
noncomputable def tCB (r:List V->Hp->VK->Prop) (t:TA):TE:=λσ H Q=>t σ H λvs H1=>r vs H1 Q
theorem bw (B:CallR X (.builtin id) r)(F:Gl X x)(hm:X.mg x=none)(J:E7 x=some (.builtin id))(L:PA X (e::es) t)(O:x ≠ "__name__":=by decide)(j:(x==("__debug__":Str))=false:=by decide)(he:Cm (e::es) X.env=(false,eval e X.env)::Cm es X.env:=by rfl)(z:(DH pos (Cm es X.env)).any (·.1)=false:=by rfl):PE X (.Call (.Name x p) (e::es) [] pos) (tCB r t):=by
 intro pins s σ H Q I h;refine E9 (cO I F hm J ?_ O j);exact PyProof.Rows.callWith_builtin1 (thn (L pos pins s σ H _ I h) λus s1 U=>(by obtain⟨vs,H1,Y,Z,q1⟩:=U;exact B pins s1 σ H1 vs us Q Y Z q1)) he z
theorem ck (B:CallR X (.type T) r)(F:Gl X x)(hm:X.mg x=none)(J:E7 x=some (.type T))(L:PA X (e::es) t)(O:x ≠ "__name__":=by decide)(j:(x==("__debug__":Str))=false:=by decide)(he:Cm (e::es) X.env=(false,eval e X.env)::Cm es X.env:=by rfl)(z:(DH pos (Cm es X.env)).any (·.1)=false:=by rfl):PE X (.Call (.Name x p) (e::es) [] pos) (tCB r t):=by
 intro pins s σ H Q I h;refine E9 (cO I F hm J ?_ O j);exact Dx (thn (L pos pins s σ H _ I h) λus s1 U=>(by obtain⟨vs,H1,Y,Z,q1⟩:=U;exact B pins s1 σ H1 vs us Q Y Z q1)) he z
end
end
end L2
namespace HT
open PySem PyProof.Rows
section
variable {prog:Ct} {w:CC} {A:CK} {E:h6->hQ->Prop} {s:hQ}
theorem cat_tup {t b:Addr}{vs ws:List h6}{Q:h6->hQ->Prop}(Z:IsTup s.heap t vs.toArray)(hb:IsTup s.heap b ws.toArray)(L:vs≠[])(h1:ws=[]->Q (.ref t) s)(h2:ws≠[]->Q (.ref s.heap.objs.size) { s with heap:=s.heap.push { cls:=.type "tuple",data:=.seq (vs++ws).toArray } })(hsz:vs.length+ws.length<=tv):Cj (model prog w) A (CW .Add (.ref t) (.ref b)) Q E s:=by
 obtain⟨⟨cls,dd,data,sl⟩,ho,O,n,hd⟩:=id Z;obtain⟨⟨U,z,data2,B⟩,j,J,Y,hd2⟩:=id hb;simp only at O hd J hd2;subst O hd J hd2;have e:vs.toArray++ws.toArray=(vs++ws).toArray:=by simp
 by_cases hw:ws=[]
 ·exact HR ⟨_,ho,rfl⟩ ⟨_,j,rfl⟩ G3 Hk EX ES (EF _ _)
   (tuple_addW1 t b vs.toArray ws.toArray n Y dd z sl B (by simpa using L) (by simp[hw])) ⟨ho,j,h1 hw⟩
 ·refine HR ⟨_,ho,rfl⟩ ⟨_,j,rfl⟩ G3 Hk EX ES (EF _ _)
   (tuple_addW2 t b vs.toArray ws.toArray n Y dd z sl B (by simpa using L) (by simpa using hw) (by rw[y2,y2];exact hsz)) ⟨ho,j,?_⟩
  rw[e];exact h2 hw
noncomputable def sIx (n d:Nat):Option Int->Nat
 |none=>d
 |some v=>if v<0 then (v+(n:Int)).toNat else min v.toNat n
theorem sIx_none (n d:Nat):sIx n d none=d:=rfl
theorem sIx_nat (n d k:Nat):sIx n d (some (k:Int))=min k n:=by
 show (if (k:Int)<0 then ((k:Int)+(n:Int)).toNat else min (k:Int).toNat n)=min k n
 rw[if_neg (by lia),Ej]
theorem vD (n d:Nat)(hd:d<=n)(o:Option Int):sIx n d o<=n:=by
 cases o with
 |none=>exact hd
 | some v =>
   show (if v<0 then (v+(n:Int)).toNat else min v.toNat n)<=n
   by_cases hv:v<0
   ·rw[if_pos hv];lia
   ·rw[if_neg hv];exact Nat.min_le_right _ _
theorem kH (v:Int)(n d:Nat):(if v<0 then max (v+(n:Int)) 0 else min v (n:Int))=((sIx n d (some v):Nat):Int):=by
 show (if v<0 then max (v+(n:Int)) 0 else min v (n:Int))=(((if v<0 then (v+(n:Int)).toNat else min v.toNat n):Nat):Int)
 by_cases hv:v<0
 ·simp only[if_pos hv];lia
 ·simp only[if_neg hv];lia
theorem lW (lo hi:Option Int)(n:Nat):EA lo hi 1 (n:Int)=(((sIx n 0 lo:Nat):Int),((sIx n n hi:Nat):Int)):=by
 have h1 : ¬ ((1:Int)<0):=by lia
 unfold EA;simp only[h1,if_false];refine Prod.ext ?_ ?_
 ·cases lo with
  |none=>rfl
  |some v=>exact kH v n 0
 ·cases hi with
  |none=>rfl
  |some v=>exact kH v n n
theorem lX (i j:Nat):DJ (i:Int) (j:Int) 1=j - i:=by
 unfold DJ;have h1:(1:Int) > 0:=by lia
 simp only[h1,if_true,Int.ediv_one]
 split <;> lia
theorem fI {v:h6}{o:Option Int}{Q:Option Int->hQ->Prop}(p:Gf v o)(h:Q o s):Cj (model prog w) A (Builtin.Slice.slicePartIndex v) Q E s:=by
 cases p with
 |none=>exact slicePart_none h
 |int i t=>exact slicePart_int h
theorem cP {sl:Addr}{vl vu:h6}{lo hi:Option Int}{n:Nat}{Q:Int×Int×Nat->hQ->Prop}(hs:s.heap.IsSliceOf sl vl vu .none)(pl:Gf vl lo)(pu:Gf vu hi)(h:Q (((sIx n 0 lo:Nat):Int),1,sIx n n hi - sIx n 0 lo) s):Cj (model prog w) A (Fw (.ref sl) (pure (n:Int))) Q E s:=by
 obtain⟨os,j,B,z⟩:=id hs;unfold Fw Builtin.Slice.sliceFields;refine gV (gV (CD j z (x:=vl) rfl (gV (CD j z (x:=vu) rfl (gV (CD j z (x:=.none) rfl (y1 ?_)))))));refine gV (slicePart_none ?_);show Cj _ _ (if ((1:Int)==0)=true then _ else _) _ _ s
 rw[if_neg (by decide)]
 refine gV (fI pl (gV (fI pu (gV (y1 ?_)))));show Cj _ _ (match EA lo hi 1 (n:Int) with|(lo,hi)=>pure (lo,(1:Int),DJ lo hi 1)) _ _ s
 rw[lW lo hi n];show Cj _ _ (pure (((sIx n 0 lo:Nat):Int),(1:Int),DJ ((sIx n 0 lo:Nat):Int) ((sIx n n hi:Nat):Int) 1)) _ _ s;rw[lX];exact y1 h
theorem qt (xs:Array h6)(i k:Nat):((D6 k).filterMap λ(m:Nat)=>xs[((i:Int)+(m:Int)*1).toNat]?).toArray=((xs.toList.drop i).take k).toArray:=by
 have e:(λ(m:Nat)=>xs[((i:Int)+(m:Int)*1).toNat]?)=λm=>xs[i+m]?:=by
  funext m
  have:((i:Int)+(m:Int)*1).toNat=i+m:=by lia
  rw[this]
 rw[e];have:=pick_run xs i k;rw[List.filterMap_map]at this;have j:((λx=>xs[x]?) ∘ λx=>i+x)=λm=>xs[i+m]?:=rfl;rw[j]at this;rw[this]
theorem getItem_tuple_cut {t sl:Addr}{items:Array h6}{vl vu:h6}{lo hi:Option Int}{Q:h6->hQ->Prop}(z:IsTup s.heap t items)(hs:s.heap.IsSliceOf sl vl vu .none)(pl:Gf vl lo)(pu:Gf vu hi)(hw : ¬ (sIx items.size 0 lo=0/\sIx items.size items.size hi=items.size))(h:Q (.ref s.heap.objs.size) { s with heap:=s.heap.push { cls:=.type "tuple",data:=.seq ((items.toList.drop (sIx items.size 0 lo)).take (sIx items.size items.size hi - sIx items.size 0 lo)).toArray } })(hsz:items.size<=tv):Cj (model prog w) A (Gg (.ref t) (.ref sl)) Q E s:=by
 have j:sizeOk (.seq ((items.toList.drop (sIx items.size 0 lo)).take (sIx items.size items.size hi - sIx items.size 0 lo)).toArray):=by
  show ((items.toList.drop (sIx items.size 0 lo)).take (sIx items.size items.size hi - sIx items.size 0 lo)).toArray.size<=tv;rw[y2,DC,Ew,Fl];lia
 have U:sIx items.size items.size hi<=items.size:=vD _ _ (Cc _) hi;obtain⟨os,B,F,O⟩:=id hs;have J:s.TypeIs (.ref sl) "slice":=⟨os,B,F⟩;unfold Gg
 try with_reducible refine D4 ?_
 first|refine gV (y1 ?_)|skip
 refine gV (HS z.typeIs (by decide) ?_)
 refine gV (CM (name:=g8 "__getitem__") z.typeIs Di
  (Dl Di z.typeIs Hb ?_ (Hx _ _)))
 show Cj _ _ (Fx (.ref t) >>= _) _ _ s;refine gV (tupleItemsOf_ z ?_);refine gV (Gh J ?_);rw[if_pos (by decide)]
 refine gV (cP hs pl pu ?_);have L : ¬ ((((sIx items.size 0 lo:Nat):Int)==0&&(1:Int)==1&&(sIx items.size items.size hi - sIx items.size 0 lo)==items.size)=true):=by
  intro q;rw[h8,h8]at q;have Y:((sIx items.size 0 lo:Nat):Int)=0:=Ik q.1.1;have Z:sIx items.size items.size hi - sIx items.size 0 lo=items.size:=Ik q.2;exact hw ⟨by lia,by lia⟩
 show Cj _ _ (if (((sIx items.size 0 lo:Nat):Int)==0&&(1:Int)==1&&(sIx items.size items.size hi - sIx items.size 0 lo)==items.size)=true then _ else _) _ _ s
 rw[if_neg L,qt]
 first
  |exact gV (m:=DV _) (Dq (y1 ⟨_,rfl,y1 h⟩) j)
  |exact gV (m:=DV _) (Dq (gV (y1 (y1 ⟨_,rfl,y1 h⟩))) j)
  |exact gV (gV (m:=DV _) (Dq (y1 (y1 ⟨_,rfl,y1 h⟩)) j))
  |exact gV (gV (m:=DV _) (Dq (y1 ⟨_,rfl,y1 h⟩) j))
end
end HT
namespace L2
open PySem PySem.Spec PyProof.Rows
variable {xs:List V}
section
noncomputable abbrev TO:=St->Hp->(Option Int->Hp->Prop)->Prop
def PO (X:Cx) (e:Option Expr) (t:TO):Prop :=
 ∀ (pins:List (Addr×Obj)) (s:hQ) (σ:St) (H:Hp) (Q:Option Int->Hp->Prop),Inv X pins σ H s->t σ H Q ->
  Cj (model X.prog X.w) X.A (evalPart e X.env) (λu s'=>∃ o H',Inv X pins σ H' s'/\Gf u o/\Q o H') X.xe s
noncomputable def tG:TO:=λ_ H Q=>Q none H
noncomputable def xD (t:TE):TO:=λσ H Q=>t σ H λx H1=>∃ i,x = .int i/\Q (some i) H1
section
variable {X:Cx} {e:Expr} {te:TE} {lo hi:Option Expr} {tl th:TO} {pos p2:Pos}
theorem kI:PO X none tG:=by
 intro pins s σ H Q I h;rw[Hl];exact y1 ⟨none,H,I,.none,h⟩
theorem tH (h:PE X e te):PO X (some e) (xD te):=by
 intro pins s σ H Q I hw;rw[evalPart_some];refine thn (h pins s σ H _ I hw) λu s1 j=>?_;obtain⟨x,H1,z,B,F⟩:=j;obtain⟨i,rfl,q⟩:=F;obtain⟨t,rfl⟩:=B;exact⟨some i,H1,z,.int i t,q⟩
def SlR (X:Cx) (r:V->Option Int->Option Int->Hp->VK->Prop):Prop :=
 ∀ (pins:List (Addr×Obj)) (s:hQ) (σ:St) (H:Hp) (x:V) (v vl vu:h6) (lo hi:Option Int) (sl:Addr) (Q:VK),Inv X pins σ H s->RelV x v->s.heap.IsSliceOf sl vl vu .none->Gf vl lo->Gf vu hi->r x lo hi H Q ->
  ∃ T id,Hy (.type T) "__getitem__" = pure (some (.builtin id))/\s.TypeIs v T/\Cj (model X.prog X.w) X.A (Gg v (.ref sl)) (EP X pins σ Q) X.xe s
theorem SlR.or {r r':V->Option Int->Option Int->Hp->VK->Prop}(h:SlR X r)(h':SlR X r'):SlR X (λx lo hi H Q=>r x lo hi H Q∨r' x lo hi H Q):=by
 intro pins s σ H x v vl vu lo hi sl Q I rx hs pl pu q
 rcases q with q|q
 ·exact h pins s σ H x v vl vu lo hi sl Q I rx hs pl pu q
 ·exact h' pins s σ H x v vl vu lo hi sl Q I rx hs pl pu q
noncomputable def tSl (r:V->Option Int->Option Int->Hp->VK->Prop) (te:TE) (tl th:TO):TE:=λσ H Q=>te σ H λx H1=>tl σ H1 λl H2=>th σ H2 λu H3=>r x l u H3 Q
theorem j9 {r:V->Option Int->Option Int->Hp->VK->Prop}(B:SlR X r)(he:PE X e te)(F:PO X lo tl)(J:PO X hi th):PE X (.Subscript e (.Slice lo hi none p2) pos) (tSl r te tl th):=by
 intro pins s σ H Q I h;refine J4 (thn (he pins s σ H _ I h) λv s1 j=>?_);obtain⟨x,H1,L,O,U⟩:=j;refine wpAny_Slice (thn (F pins s1 σ H1 _ L U) λvl s2 ⟨l,H2,Y,pl,Z⟩=>thn (J pins s2 σ H2 _ Y Z) λvu s3 j=>?_);obtain⟨u,z,I3,pu,q3⟩:=j;rw[Hl];refine y1 ?_;have I4:Inv X pins σ z { s3 with heap:=s3.heap.push { cls:=.type "slice",data:=.fields #[vl,vu,.none] } }:=I3.kept (t':=s3.toks) λb ob q=>hD _ q
 obtain⟨T,id,hT,ht,hg⟩:=B pins { s3 with heap:=s3.heap.push { cls:=.type "slice",data:=.fields #[vl,vu,.none] } } σ z x v vl vu l u s3.heap.objs.size Q I4 O (Hz ..) pl pu q3
 show Cj (model X.prog X.w) X.A (Hm e (.Slice lo hi none p2) v (.ref s3.heap.objs.size)) (EP X pins σ Q) X.xe { s3 with heap:=s3.heap.push { cls:=.type "slice",data:=.fields #[vl,vu,.none] } }
 exact J6 (ops:=[.ref s3.heap.objs.size,v]) ht hT hg (by with_unfolding_all rfl)
noncomputable def dP (xs:List V) (lo hi:Option Int):List V:=(xs.drop (HT.sIx xs.length 0 lo)).take (HT.sIx xs.length xs.length hi - HT.sIx xs.length 0 lo)
theorem eP (xs:List V)(lo hi:Option Int):(dP xs lo hi).length<=xs.length:=by
 unfold dP;rw[DC,Ew];lia
noncomputable def yX (K:Frag):V->Option Int->Option Int->Hp->VK->Prop:=λx lo hi H Q=>∃ a xs,x = .ref a/\SqT K H a xs /\
 ¬ (HT.sIx xs.length 0 lo=0/\HT.sIx xs.length xs.length hi=xs.length) /\ ∀ p,H p=none->Q (.ref p) (upd H p (.tup (dP xs lo hi)))
theorem sl_tup:SlR X (yX X.K):=by
 intro pins s σ H x v vl vu lo hi sl Q I rx hs pl pu h;obtain⟨a,xs,rfl,hx,hw,q⟩:=h
 cases rx
 obtain⟨its,r,j,z⟩:=I.tuple hx;have hlen:its.toArray.size=xs.length:=by rw[y2];exact r.length.symm
 refine⟨"tuple",_,PyProof.Rows.slot_tuple_getitem.lookup,j.typeIs,?_⟩;refine HT.getItem_tuple_cut j hs pl pu (by rw[hlen];exact hw) ?_ (by rw[hlen];exact z)
 rw[hlen];refine⟨.ref s.heap.objs.size,_,I.laid (t':=s.toks) (o:=.tup (dP xs lo hi)) (λb ob q=>hD _ q) (Cc _) ?_,rfl,q _ (I.hok.fresh (Cc _))⟩;exact⟨D7 (eP xs lo hi) z,_,(r.drop (HT.sIx xs.length 0 lo)).take (HT.sIx xs.length xs.length hi - HT.sIx xs.length 0 lo),F4 _ _⟩
noncomputable def sC (K:Frag):R2:=λx y H Q=>∃ a b xs ys,x = .ref a/\y = .ref b/\SqT K H a xs/\SqT K H b ys/\xs≠[]/\xs.length+ys.length<=tv /\
 (ys=[]->Q (.ref a) H)/\(ys≠[] -> ∀ p,H p=none->Q (.ref p) (upd H p (.tup (xs++ys))))
theorem Vals.nil_iff {us:List h6}(r:Vals xs us):us=[]↔xs=[]:=by
 cases r with
 |nil=>simp
 |cons _ _=>simp
theorem op_catT:OpR X (CW .Add) (sC X.K):=by
 intro pins s σ H x y v u Q I rx ry h;obtain⟨a,b,xs,ys,rfl,rfl,L,O,hx,F,U,Y⟩:=h
 cases rx
 cases ry
 obtain⟨its,B,Z,_⟩:=I.tuple L;obtain⟨J,j,p2,_⟩:=I.tuple O;refine HT.cat_tup Z p2 (λz=>hx (B.nil_iff.mp z)) (λz=>⟨.ref a,H,I,rfl,U (j.nil_iff.mp z)⟩) (λz=>?_) (by rw[<- B.length,<- j.length];exact F)
 refine⟨.ref s.heap.objs.size,_,I.laid (t':=s.toks) (o:=.tup (xs++ys)) (λb ob q=>hD _ q) (Cc _) ?_,rfl,Y (λw=>z (j.nil_iff.mpr w)) _ (I.hok.fresh (Cc _))⟩;exact⟨by rw[Cv];exact F,_,B.append j,F4 _ _⟩
end
end
variable {n:Nat}{its:List h6}
section
noncomputable def ixN (n:Nat) (i:Int):Option Nat:=if 0<=i then (if i<n then some i.toNat else none) else if -(n:Int)<=i then some (i+n).toNat else none
noncomputable def atI {α:Type} (xs:List α) (i:Int):Option α:=(ixN xs.length i).bind λj=>xs[j]?
theorem kJ {i:Int}{j:Nat}(h:ixN n i=some j):seqIndex? i n=some j/\j<n /\ -(n:Int)<=i/\i<n:=by
 unfold ixN at h
 by_cases h0 : 0<=i
 ·rw[if_pos h0]at h
  by_cases h1:i<n
  ·rw[if_pos h1]at h;have e:i.toNat=j:=Dz.inj h;exact⟨by rw[IG h0 h1,e],by lia,by lia,h1⟩
  ·rw[if_neg h1]at h;cases h
 ·rw[if_neg h0]at h
  by_cases h1 : -(n:Int)<=i
  ·rw[if_pos h1]at h;have e:(i+n).toNat=j:=Dz.inj h;exact⟨by rw[HU (by lia) h1,e],by lia,h1,by lia⟩
  ·rw[if_neg h1]at h;cases h
theorem gJ {α:Type}{xs:List α}{i:Int}{v : α}(h:atI xs i=some v):∃ j,seqIndex? i xs.length=some j/\xs[j]? = some v/\j<xs.length /\ -(xs.length:Int)<=i/\i<xs.length:=by
 unfold atI at h
 cases e:ixN xs.length i with
 |none=>rw[e]at h;cases h
 | some j =>
   rw[e]at h;obtain⟨h1,h2,z,B⟩:=kJ e;exact⟨j,h1,h,h2,z,B⟩
def gK (b:Expr):Prop:=∀ o i,subscripted b false o i=operate [o,i] (Gg o i)
def IxR (X:Cx) (r:R2):Prop :=
 ∀ (value slice:Expr) (pins:List (Addr×Obj)) (s:hQ) (σ:St) (H:Hp) (x y:V) (v u:h6) (Q:VK),Inv X pins σ H s->RelV x v->RelV y u->r x y H Q ->
  subscripted slice false v u=operate [v,u] (Gg v u)->Cj (model X.prog X.w) X.A (Hm value slice v u) (EP X pins σ Q) X.xe s
def MtR (X:Cx) (id:String) (r:V->List V->Hp->VK->Prop):Prop :=
 ∀ (pins:List (Addr×Obj)) (s:hQ) (σ:St) (H:Hp) (x:V) (xs:List V) (v:h6) (us:List h6) (Q:VK),Inv X pins σ H s->RelV x v->Vals xs us->r x xs H Q ->
  Cj (model X.prog X.w) X.A (call (.builtin id) (v::us)) (EP X pins σ Q) X.xe s
section
variable {X:Cx} {a b:Expr} {ta tb:TE} {pos:Pos}
theorem IxR.or {r r':R2}(h:IxR X r)(h':IxR X r'):IxR X (λx y H Q=>r x y H Q∨r' x y H Q):=by
 intro value slice pins s σ H x y v u Q I rx ry q hs
 rcases q with q|q
 ·exact h value slice pins s σ H x y v u Q I rx ry q hs
 ·exact h' value slice pins s σ H x y v u Q I rx ry q hs
theorem xE {r:R2}(j:IxR X r)(z:PE X a ta)(B:PE X b tb)(hs:gK b):PE X (.Subscript a b pos) (tOp r ta tb):=by
 intro pins s σ H Q I h;exact J4 (qj z B I h λv u s2 x y H2 F rx ry q=>j a b pins s2 σ H2 x y v u Q F rx ry q (hs _ _))
noncomputable def yY (K:Frag):R2:=λx y H Q=>∃ p xs i v,x = .ref p/\y = .int i/\SqL K H p xs/\atI xs i=some v/\Q v H
noncomputable def yZ (K:Frag):R2:=λx y H Q=>∃ p xs i v,x = .ref p/\y = .int i/\SqT K H p xs/\atI xs i=some v/\Q v H
noncomputable def z0:R2:=λx y H Q=>∃ z i c,x = .str z/\y = .int i/\z.length<=tv/\atI z.cps.toList i=some c/\Q (.str ⟨#[c]⟩) H
theorem ix_list:IxR X (yY X.K):=by
 intro value slice pins s σ H x y v u Q I rx ry h hs;obtain⟨p,xs,i,z,rfl,rfl,F,he,q⟩:=h
 cases rx
 obtain⟨t,rfl⟩:=ry;obtain⟨its,r,pl,U⟩:=I.list F;obtain⟨j,h1,h2,Y,J,L⟩:=gJ he;obtain⟨w,ew,rw'⟩:=r.get h2;have O:=r.length;have Z:=dj;have fin:EP X pins σ Q w s:=⟨z,H,I,rw',q⟩
 by_cases h0 : 0<=i
 ·have B:i.toNat=j:=by
   rw[IG h0 L]at h1;exact Dz.inj h1
  exact item_listR pl.isList h0 (by lia) (by rw[B];simpa using ew) fin hs
 ·have B:(i+(its.toArray.size:Int)).toNat=j:=by
   rw[HU (by lia) J]at h1
   rw[y2,<- O];exact Dz.inj h1
  exact Gi (x:=w) pl.isList.typeIs slot_list_getitem.lookup
   (wpAny_getItem_list_neg (Q:=λr s'=>r=w/\EP X pins σ Q r s') pl.isList (by lia) (by rw[y2] <;> lia) (by lia) (by rw[B];simpa using ew) ⟨rfl,fin⟩) hs
theorem ix_tup:IxR X (yZ X.K):=by
 intro value slice pins s σ H x y v u Q I rx ry h hs;obtain⟨p,xs,i,z,rfl,rfl,B,he,q⟩:=h
 cases rx
 obtain⟨t,rfl⟩:=ry;obtain⟨its,r,pl,J⟩:=I.tuple B;obtain⟨j,h1,h2,L,O,U⟩:=gJ he;obtain⟨w,ew,rw'⟩:=r.get h2;have F:=r.length;have Y:=dj;have fin:EP X pins σ Q w s:=⟨z,H,I,rw',q⟩;exact Gi (x:=w) pl.typeIs slot_tuple_getitem.lookup
  (getItem_tuple (j:=j) (Q:=λr s'=>r=w/\EP X pins σ Q r s') pl (by lia) (by lia) (by rw[y2,<- F];exact h1) (by simpa using ew) ⟨rfl,fin⟩) hs
theorem vE:IxR X z0:=by
 intro value slice pins s σ H x y v u Q I rx ry h hs;obtain⟨z,i,c,rfl,rfl,U,he,q⟩:=h;obtain⟨t,rfl⟩:=rx;obtain⟨t',rfl⟩:=ry;obtain⟨j,h1,h2,Y,B,F⟩:=gJ he;have J:z.cps.toList.length=z.length:=by simp[J7]
 rw[J]at h1 B F;have Z:=dj;exact J6 (F6 s z t) slot_str_getitem.lookup (getItem_str (c:=c) (by
  have L:decide (i < -(2 ^ 63:Int))=false:=decide_eq_false (by lia)
  have O:decide (i≥2 ^ 63)=false:=decide_eq_false (by lia)
  rw[L,O,Bool.or_false]) (by rw[h1];simpa using h2) ⟨.str ⟨#[c]⟩,H,I.tok _,⟨_,rfl⟩,q⟩) hs
theorem lY (its:List h6)(n j:Nat)(u:h6):Gj (·.setIfInBounds j u) { cls:=.type "list",data:=.seq its.toArray n } = { cls:=.type "list",data:=.seq (its.set j u).toArray n }:=by
 simp[Gj]
theorem Inv.lst {pins:List (Addr×Obj)}{σ:St}{H:Hp}{s:hQ}{p:Addr}{xs:List V}(I:Inv X pins σ H s)(h:H p=some (.lst xs)) :
 ∃ (its:List h6) (n:Nat),Vals xs its/\s.heap.get? p=some { cls:=.type "list",data:=.seq its.toArray n }/\xs.length<=tv:=by
 obtain⟨z,its,n,r,e⟩:=I.hok p _ h;exact⟨its,n,r,e,z⟩
theorem Inv.lstUpd {pins:List (Addr×Obj)}{σ:St}{H:Hp}{s:hQ}{p:Addr}{ys:List V}{its':List h6}{n':Nat}{f:Obj->Obj}(I:Inv X pins σ H s)(h:H p=some (.lst xs))(ho:s.heap.get? p=some { cls:=.type "list",data:=.seq its.toArray n })(hf:f { cls:=.type "list",data:=.seq its.toArray n } = { cls:=.type "list",data:=.seq its'.toArray n' })(r:Vals ys its')(j:ys.length<=tv)(t:Nat) :
 Inv X pins σ (upd H p (.lst ys)) { s with heap:=s.heap.update p f,toks:=t }:=by
 have e:(s.heap.update p f).get? p=some { cls:=.type "list",data:=.seq its'.toArray n' }:=by
  rw[Gy f ho (by rw[hf] <;> rfl),hf]
 refine I.write (x:=p) (e:=p) (by rw[h];trivial) (.inl rfl) (λb u z q=>(Gk _ _ (Ne.symm z)).trans q) ⟨_,e⟩ ?_
 exact⟨j,its',n',r,e⟩
noncomputable def sD:V->V->V->Hp->(Hp->Prop)->Prop:=λo i v H Q=>∃ p xs k j,o = .ref p/\i = .int k/\H p=some (.lst xs)/\ixN xs.length k=some j/\Q (upd H p (.lst (xs.set j v)))
theorem qw:PSet X sD:=by
 intro pins s σ H o i v ov iv u Q I ro ri rv h;obtain⟨p,xs,k,j,rfl,rfl,F,O,q⟩:=h
 cases ro
 obtain⟨t,rfl⟩:=ri;obtain⟨its,n,r,ho,U⟩:=I.lst F;obtain⟨h1,h2,J,L⟩:=kJ O;have z:=r.length;have Y:=dj;have I':Inv X pins σ (upd H p (.lst (xs.set j v))) { s with heap:=s.heap.update p (Gj (·.setIfInBounds j u)) } :=
  I.lstUpd F ho (lY its n j u) (r.set rv j) (by rw[Gu];exact U) s.toks
 by_cases h0 : 0<=k
 ·have B:k.toNat=j:=by
   rw[IG h0 L]at h1;exact Dz.inj h1
  exact PySem.W.ki_setAt ho h0 (by lia) (by rw[y2,<- z];exact L) (by rw[B];exact⟨_,I',q⟩)
 ·have B:(k+(its.toArray.size:Int)).toNat=j:=by
   rw[HU (by lia) J]at h1
   rw[y2,<- z];exact Dz.inj h1
  exact PySem.W.ki_setBack ho (by lia) (by rw[y2,<- z];exact J) (by lia) (by rw[B];exact⟨_,I',q⟩)
theorem ja (lo hi:Option Int)(n:Nat):(ET lo hi none n).1=((HT.sIx n 0 lo:Nat):Int)/\(ET lo hi none n).2.1=((HT.sIx n n hi:Nat):Int)/\(ET lo hi none n).2.2=1:=by
 refine⟨?_,?_,rfl⟩
 ·cases lo with
  |none=>simp[ET,HT.sIx]
  | some i =>
    simp only[ET,HT.sIx,Il,show (1:Int) > 0 by decide,if_true]
    by_cases h:i<0
    ·simp only[h,if_true] <;> lia
    ·simp only[h,if_false] <;> lia
 ·cases hi with
  |none=>simp[ET,HT.sIx]
  | some i =>
    simp only[ET,HT.sIx,Il,show (1:Int) > 0 by decide,if_true]
    by_cases h:i<0
    ·simp only[h,if_true] <;> lia
    ·simp only[h,if_false] <;> lia
theorem iA (its:List h6)(lo hi:Option Int):slicePick its.toArray lo hi none=((its.drop (HT.sIx its.length 0 lo)).take (HT.sIx its.length its.length hi - HT.sIx its.length 0 lo)).toArray:=by
 obtain⟨h1,h2,j⟩:=ja lo hi its.toArray.size;unfold slicePick;rw[h1,h2,j];simp only[sliceRange_one,pick_run,y2] <;> rfl
noncomputable def z9 (K:Frag):V->Option Int->Option Int->Hp->VK->Prop:=λx lo hi H Q=>∃ a xs,x = .ref a/\SqL K H a xs /\ ∀ p,H p=none->Q (.ref p) (upd H p (.lst (dP xs lo hi)))
theorem sl_list:SlR X (z9 X.K):=by
 intro pins s σ H x v vl vu lo hi sl Q I rx hs pl pu h;obtain⟨a,xs,rfl,hx,q⟩:=h
 cases rx
 obtain⟨its,r,j,z⟩:=I.list hx;have hlen:=r.length;refine⟨"list",_,slot_list_getitem.lookup,j.isList.typeIs,?_⟩;refine FT j.isList hs pl pu .none (by simp) ?_ (by rw[y2] <;> lia)
 rw[iA,<- hlen];refine⟨.ref s.heap.objs.size,_,I.laid (t':=s.toks) (o:=.lst (dP xs lo hi)) (λb ob q=>hD _ q) (Cc _) ?_,rfl,q _ (I.hok.fresh (Cc _))⟩;exact⟨D7 (eP xs lo hi) z,_,0,(r.drop (HT.sIx xs.length 0 lo)).take (HT.sIx xs.length xs.length hi - HT.sIx xs.length 0 lo),Ce _ rfl⟩
theorem jb:CallR X (.type "list") (λxs H Q=>∃ p ys,xs=[.ref p]/\(SqL X.K H p ys∨SqT X.K H p ys) /\ ∀ l,H l=none->Q (.ref l) (upd H l (.lst ys))):=by
 intro pins s σ H xs us Q I r h;obtain⟨p,ys,rfl,j,q⟩:=h;obtain⟨u,rfl,rx⟩:=cg r
 cases rx
 have fin:∀ (its:List h6),Vals ys its->ys.length<=tv -> ∀ (h':Heap) (c':Nat),(∀ b o',s.heap.get? b=some o'->h'.get? b=some o') ->
  h'.get? s.heap.objs.size=some { cls:=.type "list",dict:=none,data:=.seq its.toArray c',slots:=#[] }->EP X pins σ Q (.ref s.heap.objs.size) { s with heap:=h' }:=λits r' z h' c' kp e =>
  ⟨.ref s.heap.objs.size,_,I.laid (t':=s.toks) kp (Cc _) (show ObjOk X.prog X.w _ h' _ (.lst ys) from⟨z,its,c',r',e⟩),rfl,q _ (I.hok.fresh (Cc _))⟩
 rcases j with j|j
 ·obtain⟨its,r',pl,z⟩:=I.list j;have hlen:=r'.length;obtain⟨o,ho,B,n,hd⟩:=pl.isList;exact call_list_seq p (.inl rfl) ho B hd (λh' c' kp e=>fin its r' z h' c' kp e) (by simp only[y2] <;> lia)
 ·obtain⟨its,r',pl,z⟩:=I.tuple j;have hlen:=r'.length;obtain⟨o,ho,B,n,hd⟩:=pl;exact call_list_seq p (.inr rfl) ho B hd (λh' c' kp e=>fin its r' z h' c' kp e) (by simp only[y2] <;> lia)
theorem iB:CallR X (.type "tuple") (λxs H Q=>∃ p ys,xs=[.ref p]/\((SqL X.K H p ys /\ ∀ l,H l=none->Q (.ref l) (upd H l (.tup ys)))∨(SqT X.K H p ys/\Q (.ref p) H))):=by
 intro pins s σ H xs us Q I r h;obtain⟨p,ys,rfl,h⟩:=h;obtain⟨u,rfl,rx⟩:=cg r
 cases rx
 rcases h with⟨j,q⟩|⟨j,q⟩
 ·obtain⟨its,r',pl,z⟩:=I.list j;have hlen:=r'.length;refine call_tuple_list pl.isList (λh' kp=>?_) (by simp only[y2] <;> lia)
  have B:Inv X pins σ H { s with heap:=h' }:=I.kept (t':=s.toks) kp
  have F:Inv X pins σ (upd H h'.objs.size (.tup ys)) { s with heap:=h'.push { cls:=.type "tuple",data:=.seq its.toArray } } :=
   B.laid (t':=s.toks) (λb o e=>hD _ e) (Cc _) (show ObjOk X.prog X.w _ _ _ (.tup ys) from⟨z,its,r',F4 _ _⟩)
  exact⟨.ref h'.objs.size,_,F,rfl,q _ (B.hok.fresh (Cc _))⟩
 ·obtain⟨its,r',pl,z⟩:=I.tuple j;exact call_tuple_same pl ⟨.ref p,H,I,rfl,q⟩
def tyV (K:Frag) (T:String) (x:V) (H:Hp):Prop:=match x with
 |.str _=>T = "str"
 |.int _=>T = "int"
 |.ref p=>(T = "list" /\ ∃ xs,SqL K H p xs)∨(T = "tuple" /\ ∃ o,K.lookup p=some o/\o.cls = .type "tuple" /\ o.dict=none) ∨
  (T = "dict" /\ ((∃ kvs,H p=some (.dK kvs))∨∃ kvs,H p=some (.dT kvs)))∨(T = "set" /\ ∃ S n,H p=some (.set S n))
 |_=>False
theorem vF {pins:List (Addr×Obj)}{σ:St}{H:Hp}{s:hQ}{T:String}{x:V}{v:h6}(I:Inv X pins σ H s)(r:RelV x v)(ty:tyV X.K T x H) :
 s.TypeIs v T /\ ∀ a,v = .ref a -> ∃ ob,s.heap.get? a=some ob/\ob.dict=none:=by
 cases x with
 | str z =>
   obtain⟨t,rfl⟩:=r
   cases (show T = "str" from ty)
   exact⟨F6 s z t,λ_ e=>nomatch e⟩
 | int i =>
   obtain⟨t,rfl⟩:=r
   cases (show T = "int" from ty)
   exact⟨Gm s i t,λ_ e=>nomatch e⟩
 | ref p =>
   cases r
   rcases ty with⟨rfl,xs,F⟩|⟨rfl,o,j,J,hd⟩|⟨rfl,j⟩|⟨rfl,S,n,j⟩
   ·obtain⟨its,_,pl,_⟩:=I.list F;refine⟨pl.isList.typeIs,λa e=>?_⟩
    cases e
    obtain⟨o,n,e,c,hd,_⟩:=pl;exact⟨o,e,hd⟩
   ·refine⟨⟨o,I.kIn p o j,J⟩,λa e=>?_⟩
    cases e
    exact⟨o,I.kIn _ o j,hd⟩
   ·have z:∃ o,s.heap.get? p=some o/\o.ExactDict:=by
     rcases j with⟨kvs,j⟩|⟨kvs,j⟩
     ·obtain⟨_,_,_,_,o,_,_,e,ex,_⟩:=I.hok p _ j;exact⟨o,e,ex⟩
     ·obtain⟨_,_,_,_,o,_,_,e,ex,_⟩:=I.hok p _ j;exact⟨o,e,ex⟩
    obtain⟨o,e,ex⟩:=z;refine⟨⟨o,e,ex.1⟩,λa B=>?_⟩
    cases B
    exact⟨o,e,ex.2.1⟩
   ·obtain⟨o,_,_,_,e,ex,_⟩:=I.hok p _ j;refine⟨⟨o,e,ex.1⟩,λa B=>?_⟩
    cases B
    exact⟨o,e,ex.2.1⟩
 |_=>exact False.elim ty
noncomputable def tBM (K:Frag) (T:String) (r:V->List V->Hp->VK->Prop) (to:TE) (t:TA):TE:=λσ H Q=>to σ H λx H1=>tyV K T x H1/\t σ H1 λxs H2=>r x xs H2 Q
variable {o e:Expr} {es:List Expr} {to:TE} {t:TA} {name:Str} {apos cpos:Pos} {T id:String} {r:V->List V->Hp->VK->Prop}
theorem et (pa:PlainAttrs T)(slot:Slot T name id)(J:typeOf (.builtin id)=pure (.type "method_descriptor"))(hm:MtR X id r)(ho:PE X o to)(Z:PA X (e::es) t)(z:Hn o name X.env (eval o X.env)=eval o X.env:=by rfl)(F:((DH cpos (Cm (e::es) X.env)).all (fun x=>!x.1)&&(EY cpos (DO [] X.env)).all (fun x=>x.1.isSome)
   && decide ((e::es).length+([]:List EJ).length+(if ([]:List EJ).isEmpty then 0 else 1)<30))=true:=by rfl)(B:(apos.endLine==cpos.line)=true:=by rfl)(hs:Cm (e::es) X.env=(false,eval e X.env)::Cm es X.env:=by rfl)(j:(DH cpos (Cm es X.env)).any (·.1)=false:=by rfl) :
 PE X (.Call (.Attribute o name apos) (e::es) [] cpos) (tBM X.K T r to t):=by
 intro pins s σ H Q I h;refine wpAny_Call_method_late z F B rfl (thn (ho pins s σ H _ I h) λv s1 L=>?_);obtain⟨x,H1,O,U,ty,q1⟩:=L;obtain⟨h1,h2⟩:=vF O U ty;refine⟨T,id,pa,slot,J,h1,h2,?_⟩;have Y:=Z cpos pins s1 σ H1 _ O q1;rw[hs]at Y ⊢;refine Calls.callWith_builtin (by show (false || (DH cpos (Cm es X.env)).any (·.1))=false;rw[j] <;> rfl) (Calls.evalArgs_plain ?_)
 exact thn Y λus s2 L=>(by obtain⟨vs,H2,I2,r2,q2⟩:=L;exact hm pins s2 σ H2 x vs v us Q I2 U r2 q2)
end
end
section
def MtM (X:Cx) (id:String) (r:V->List V->Hp->VK->Prop):Prop :=
 ∀ (pins:List (Addr×Obj)) (s:hQ) (σ:St) (H:Hp) (x:V) (xs:List V) (v:h6) (us:List h6) (Q:VK),Inv X pins σ H s->RelV x v->Vals xs us->r x xs H Q ->
  Cj (model X.prog X.w) X.A (call (.builtin id) (v::us)) (EP X pins σ Q) X.xe s
theorem Vals.one:∀ {x:V} {us:List h6},Vals [x] us -> ∃ u,us=[u]/\RelV x u
 |_,_,.cons r .nil=>⟨_,rfl,r⟩
theorem Vals.eraseIdx:∀ {xs:List V} {us:List h6} (i:Nat),Vals xs us->Vals (xs.eraseIdx i) (us.eraseIdx i)
 |_,_,_,.nil=>.nil
 |_,_,0,.cons _ t=>t
 |_,_,i+1,.cons r t=>.cons r (Vals.eraseIdx i t)
theorem Vals.reverse {us:List h6}(h:Vals xs us):Vals xs.reverse us.reverse:=by
 induction h with
 |nil=>exact .nil
 |cons r t ih=>rw[EZ,EZ];exact Vals.append ih (.cons r .nil)
theorem Vals.rep {xs:List V}{us:List h6}(h:Vals xs us):∀ k:Nat,Vals (Cd k xs).flatten (Cd k us).flatten
 |0=>.nil
 | k+1=>by
   rw[CQ,CQ,Dc,Dc];exact Vals.append h (Vals.rep h k)
theorem dQ (its:List h6):∀ (k:Nat) (acc:List h6),
 HA (λj z=>j++z) acc.toArray (Cd k its.toArray)=(acc++(Cd k its).flatten).toArray
 |0,acc=>by simp
 | k+1,acc=>by
   have e:acc.toArray++its.toArray=(acc++its).toArray:=by simp
   have B:(acc++its)++(Cd k its).flatten=acc++(Cd (k+1) its).flatten:=by
    rw[CQ,Dc,DP]
   rw[<- B,<- dQ its k (acc++its),<- e,CQ,Fe]
section
variable {X:Cx} {pins:List (Addr×Obj)} {σ:St} {H:Hp} {s:hQ} {l b:Addr} {xs ys zs:List V}
theorem Inv.lset {its':List h6}{f:Array h6->Array h6}{t':Nat}(I:Inv X pins σ H s)(j:H l=some (.lst xs))(e:s.heap.get? l=some { cls:=.type "list",data:=.seq its.toArray n })(hf:f its.toArray=its'.toArray)(z:Vals ys its')(B:ys.length<=tv) :
 Inv X pins σ (upd H l (.lst ys)) { s with heap:=s.heap.update l (Gj f),toks:=t' }:=by
 have q:=PySem.IsL.update e f;rw[hf]at q;refine I.write (x:=l) (e:=l) (by rw[j];exact trivial) (.inl rfl) (λb' u F J=>(Gk s.heap (Gj f) (Ne.symm F)).trans J) ⟨_,q⟩ ?_
 exact⟨B,its',_,z,q⟩
theorem Inv.lnew {t':Nat}(I:Inv X pins σ H s)(j:Vals ys its)(z:ys.length<=tv) :
 Inv X pins σ (upd H s.heap.objs.size (.lst ys)) { s with heap:=s.heap.push { cls:=.type "list",data:=.seq its.toArray },toks:=t' } :=
 I.laid (λ_ _ q=>hD _ q) (Cc _) ⟨z,its,0,j,Ce _ rfl⟩
theorem Inv.fresh (I:Inv X pins σ H s):H s.heap.objs.size=none:=I.hok.fresh (Cc _)
theorem Inv.lstM (I:Inv X pins σ H s)(j:H l=some (.lst xs)):xs.length<=tv /\ ∃ (its:List h6) (n:Nat),Vals xs its/\xs.length=its.length/\s.heap.get? l=some { cls:=.type "list",data:=.seq its.toArray n }:=by
 obtain⟨z,its,n,r,e⟩:=I.hok l _ j;exact⟨z,its,n,r,r.length,e⟩
theorem fb (h:n<=tv):Dn n=false:=by
 unfold Dn;exact decide_eq_false (by lia)
end
section
variable {X:Cx}
noncomputable def kK:V->List V->Hp->VK->Prop:=λx vs H Q=>∃ l xs y,x = .ref l/\vs=[y]/\H l=some (.lst xs)/\xs.length<tv/\Q .non (upd H l (.lst (xs++[y])))
theorem hU:MtM X "list.append" kK:=by
 intro pins s σ H x vs v us Q I rx rv h;obtain⟨l,xs,y,rfl,rfl,j,B,q⟩:=h
 cases rx
 obtain⟨u,rfl,ru⟩:=rv.one;obtain⟨z,its,n,r,J,e⟩:=I.lstM j;refine DW F.slot_list_append ⟨_,e,rfl⟩ F.entry_list_append (F.args_list_append_2 _ _) (PySem.list_append l its.toArray n u (by rw[y2];lia)) ⟨e,?_⟩
 refine⟨.non,_,I.lset (its':=its++[u]) j e (by simp) (r.append (.cons ru .nil)) ?_,rfl,q⟩
 rw[Cv,List.length_singleton];lia
noncomputable def kL:V->List V->Hp->VK->Prop:=λx vs H Q=>∃ l b xs zs,x = .ref l/\vs=[.ref b]/\H l=some (.lst xs)/\H b=some (.lst zs)/\xs.length+zs.length<=tv/\Q .non (upd H l (.lst (xs++zs)))
theorem oj:MtM X "list.extend" kL:=by
 intro pins s σ H x vs v us Q I rx rv h;obtain⟨l,b,xs,zs,rfl,rfl,J,L,hz,q⟩:=h
 cases rx
 obtain⟨u,rfl,ru⟩:=rv.one
 cases ru
 obtain⟨z,its,n,r,hl,e⟩:=I.lstM J;obtain⟨z2,j,O,U,Y,Z⟩:=I.lstM L;have hsz:its.toArray.size+j.toArray.size<=tv:=by rw[y2,y2];lia
 have B : ¬ (!its.toArray.isEmpty&&Dn (its.toArray.size+j.toArray.size))=true:=by
  rw[fb hsz,Bool.and_false];exact q7
 refine DW F.slot_list_extend ⟨_,e,rfl⟩ F.entry_list_extend (F.args_list_extend_2 _ _)
  (AutoSeq1.list_extend_list_list_0 l its.toArray n b j.toArray O B (by rw[y2];lia) (by lia)) ⟨e,Z,?_⟩
 refine⟨.non,_,I.lset (its':=its++j) J e (by simp) (r.append U) ?_,rfl,q⟩
 rw[Cv];lia
noncomputable def za:R2:=λx y H Q=>∃ l b xs zs,x = .ref l/\y = .ref b/\H l=some (.lst xs)/\H b=some (.lst zs)/\xs.length+zs.length<=tv /\ ∀ p,H p=none->Q (.ref p) (upd H p (.lst (xs++zs)))
theorem op_cat:OpR X (CW .Add) za:=by
 intro pins s σ H x y v u Q I rx ry h;obtain⟨l,b,xs,zs,rfl,rfl,B,F,U,q⟩:=h
 cases rx
 cases ry
 obtain⟨z,its,n,r,Y,e⟩:=I.lstM B;obtain⟨Z,j,n2,J,L,O⟩:=I.lstM F;refine PySem.P.add_list e O ?_ (by rw[y2,y2];lia)
 have ea:its.toArray++j.toArray=(its++j).toArray:=by simp
 rw[ea];exact⟨.ref _,_,I.lnew (t':=s.toks) (r.append J) (by rw[Cv];lia),rfl,q _ I.fresh⟩
noncomputable def zb:R2:=λx y H Q=>∃ l k xs,x = .ref l/\y = .int k/\H l=some (.lst xs) /\ -(2 ^ 63)<=k/\k<2 ^ 63/\xs.length*k.toNat<=tv /\
 ∀ p,H p=none->Q (.ref p) (upd H p (.lst (Cd k.toNat xs).flatten))
theorem kM {α:Type}(xs:List α)(k:Nat):(Cd k xs).flatten.length=k*xs.length:=by
 induction k with
 |zero=>simp
 |succ k ih=>rw[CQ,Dc,Cv,ih,HV,Nat.add_comm]
theorem op_rep:OpR X (CW .Mult) zb:=by
 intro pins s σ H x y v u Q I rx ry h;obtain⟨l,k,xs,rfl,rfl,hH,h1,h2,Z,q⟩:=h
 cases rx
 obtain⟨t,rfl⟩:=ry;obtain⟨z,its,n,r,hl,e⟩:=I.lstM hH;have hlen:its.toArray.size*k.toNat<=tv:=by rw[y2,<- hl];exact Z
 have B : ¬ its.toArray.size*k.toNat > (2 ^ 63 - 1) / 8:=by
  have:(tv:Nat)<=(2 ^ 63 - 1) / 8:=by decide
  lia
 have J : ¬ (!Builtin.List.listFitsIndex k)=true:=by
  rw[fitsIndex_both h1 h2];exact q7
 have j : ¬ Dn (its.toArray.size*k.toNat)=true:=by
  rw[fb hlen];exact q7
 have L:HA (λO Y=>O++Y) #[] (Cd (if its.toArray.isEmpty=true then 0 else k.toNat) its.toArray)=(Cd k.toNat its).flatten.toArray:=by
  have f0:∀ m:Nat,HA (λO Y=>O++Y) #[] (Cd m its.toArray)=(Cd m its).flatten.toArray:=λm=>by
   have:=dQ its m [];rw[Gv]at this;exact this
  rw[f0]
  cases its with
  |nil=>simp
  |cons a r'=>rw[if_neg (by simp)]
 refine FG (T:="list") (U:="int") (by decide) ⟨_,e,rfl⟩ (λs'=>Gm s' k t) noFill_list_mul IQ Ff repeat_list F.slot_int_index.lookup
  (DW Ff (Gm s k t) Im (HW _ _) (int___rmul___int_list k t l its.toArray n)
    ⟨e,rfl,⟨_,e,rfl⟩,DW F.slot_list_mul ⟨_,e,rfl⟩ F.entry_list_mul (F.args_list_mul_2 _ _) (AutoListH.list___mul___list_int_3 l its.toArray n k t J B j) ⟨e,?_⟩⟩)
 rw[L];exact⟨.ref _,_,I.lnew (t':=s.toks) (r.rep k.toNat) (by rw[kM,Nat.mul_comm];exact Z),rfl,q _ I.fresh⟩
end
end
end L2
namespace Att
open PySem PySem.W PySem.Calls PyProof.Rows
theorem fJ {P:Params}{h:Heap}:∀ (ns:List Int) (vs:List h6),WellAll P h vs (ns.map WData.int)->IX vs ns:=by
 intro ns
 induction ns with
 | nil =>
   intro vs w;rw[Eb]at w
   cases w
   exact .nil
 | cons n ns ih =>
   intro vs w;rw[Cr]at w
   cases w with
   | cons a b =>
     cases a
     exact .cons _ _ (ih _ b)
theorem ol {l:OpenLaw}{n:Nat}(U:l.most=some n){P:Params}{h:Heap}{args:List WData}{vals:List h6}(j:l.row.toRowW.claim.pre args=true)(J:WellAll P h vals args) :
 ∃ a vs ns,vals=[DK a]/\args=[WData.list (ns.map WData.int)]/\h.get? a=some { cls:=.type "list",data:=.seq vs.toArray }/\IX vs ns/\ns.length<=n:=by
 have L:WShape.hasAll [] args [.list .int]=true:=(pre_splitW j).1;have O:l.pre.holds [] { args:=args }=true:=(pre_splitW j).2;obtain⟨d,r,rfl,h1,h2⟩:=hasAllW_cons L;obtain rfl:=hasAllW_nil h2;obtain⟨xs,rfl,Y⟩:=hasW_list h1;obtain⟨ns,rfl⟩:=items_int Y;have hlen:ns.length<=n:=by
  unfold OpenLaw.pre at O;have B:(WTm.not (.lt (.lit (.int (n:Int))) (.len (.arg 0)))).holds [] { args:=[.list (ns.map .int)] }=true:=by
   have B:=(holds_andW O).1;rw[U]at B;exact B
  have F:=condW_of B (w_not (w_lt w_lit (w_len_list (w_arg rfl))));rw[Ca]at F;refine Nat.le_of_not_lt λq=>?_;have q':(n:Int)<((ns.length:Nat):Int):=by lia
  first
   |(rw[decide_eq_true q']at F;exact absurd F (by decide))
   |(simp at F;lia)
 cases J with
 | cons Z w2 =>
   cases w2
   cases Z with
   |list ho z=>exact⟨_,_,ns,rfl,rfl,ho,fJ ns _ z,hlen⟩
theorem om (l:OpenLaw)(args:List WData):l.row.toRowW.claim.post args (.bool true) args=true :=
 postW_of (r:=l.row.toRowW) (X:=(true==true))
  (show WShape.has [] (.bool true) .bool=true by first|rfl|decide|simp[WShape.has,WShape.arms,WShape.armsAll])
  (show (WTm.eq .res (.lit (.bool true))).value [] { args:=args,res:=some (.bool true),after:=args }=some (.bool (true==true)) from w_eq_bool (w_res rfl) w_lit) rfl
theorem attach_call {l:OpenLaw}{n:Nat}{q:Ct}{loose:List Str}{XP:(Str->Option h6)->Heap->Prop}{YP:CC->Heap->Prop}{d:DefRec}(Z:l.most=some n)(B:d.params.defaults=[])(call:∀ (w:CC) (s₀ s₁:hQ) (mg mb:Str->Option h6) (fa:Addr) (o:Obj) (pm cd doc:h6) (a:Addr) (vs:List h6) (ns:List Int),
   Ground q loose [] XP w s₀ mg mb s₁.heap->YP w s₁.heap ->
   s₁.heap.get? fa=some o->o.data = .func (docDef d.name d.params d.body d.scope pm cd doc)->s₁.heap.CodeRec cd d.name->mg d.name=some (.ref fa) ->
   s₁.heap.get? a=some { cls:=.type "list",data:=.seq vs.toArray }->IX vs ns->ns.length<=n->s₁.gens = #[] ->
   F9 (model l.prog w) GZ (.call (.ref fa) ⟨[.ref a],[]⟩) (λr s'=>r = .ok (.ret (.bool true))/\OldK s₁.heap s'.heap/\s'.os=s₁.os/\FJ s'.gens) s₁) :
 WalkO q loose XP YP l.row.toRowW d [] (λf vs=>J8 f vs):=by
 intro w s₀ s₁ mg mb G Y fa o pm cd doc dV kV ho hd F O J hg args vals as j U BD L BE;obtain rfl:dV = .none:=Dflts.none O B;obtain rfl:kV = .none:=Dflts.noKw O;obtain⟨a,vs,ns,rfl,rfl,z,hints,hlen⟩:=ol Z j L;refine enter_call (Eu (call w s₀ s₁ mg mb fa o pm cd doc a vs ns G Y ho (fd_plain hd) F J z hints hlen hg) λr s' hq=>?_);obtain⟨rfl,h2,h3,h4⟩:=hq;exact⟨.inl ⟨.bool true,.bool true,[],rfl,λ_=>rfl,.bool true,om l _,λ_=>⟨HX,λ_ hm=>(nomatch hm)⟩⟩,h2,h3,h4⟩
section
variable {prog:Ct} {w:CC} {A:CK} {E:h6->hQ->Prop} {s:hQ} {K:Frag}
noncomputable def Aq (h:Heap) (L d:Addr):List (Addr×Obj):=(D6 h.objs.size).filterMap λa=>if a=L∨a=d then none else (h.get? a).map λo=>(a,o)
end
end Att
namespace L2
open PySem PySem.Spec PyProof.Rows
variable {fd:Ee}{x:Str}
section
theorem hV:∀ {vs:List h6} {ns:List Int},IX vs ns->Vals (ns.map V.int) vs
 |_,_,.nil=>.nil
 |_,_,.cons n t h=>.cons ⟨t,rfl⟩ (hV h)
def lZ (H:Hp):Prop:=∀ b,H b=none∨∃ o xs,H b=some (.frz o (.lst xs))
theorem qz {P:Ct}{w:CC}{K:Frag}{mg mb:Str->Option h6}{CX:CXT}{k:Nat}{fa a:Addr}{sp:Sp}{s₁:hQ}{vs:List h6}{ns:List Int}(KX:K.In s₁.heap)(J:s₁.heap.Ns CH mg)(j:s₁.heap.Ns Gd mb)(Z:∀ x:Str,x ≠ "__name__" -> mb x=E7 x)(L:s₁.heap.NoLimit)(hg:s₁.gens = #[])(Y:s₁.heap.get? a=some { cls:=.type "list",data:=.seq vs.toArray })(hi:IX vs ns)(hl:ns.length<=tv)(hr:Room k GZ)(F:∀ base:Heap,K.In base->base.Ns CH mg->cr P w K mg base CX k fa fd [x] sp)(B:∀ (s:hQ) (u:h6),GY s fd ⟨[u],[]⟩ [(x,u)])(BD:∀ H:Hp,lZ H->SqL K H a (ns.map V.int)->sp [.ref a] H (λv _=>v = .bl true) λ_ _ _=>False)(BE:∀ H e s',CX [] H s₁ (λ_ _ _=>False) e s'->False) :
 F9 (model P w) GZ (.call (.ref fa) ⟨[.ref a],[]⟩) (λr s'=>r = .ok (.ret (.bool true))/\OldK s₁.heap s'.heap/\s'.os=s₁.os/\FJ s'.gens) s₁:=by
 have rv:=hV hi;have lenV:=hi.length;have core:∀ H:Hp,lZ H->SqL K H a (ns.map V.int)->HOk P w H s₁.heap->(∀ b,H b≠none->b=a)->(H a≠none->K.lookup a=none) ->
  F9 (model P w) GZ (.call (.ref fa) ⟨[.ref a],[]⟩) (λr s'=>r = .ok (.ret (.bool true))/\OldK s₁.heap s'.heap/\s'.os=s₁.os/\FJ s'.gens) s₁:=by
  intro H hO hS hok hA hK;have base_of:∀ {b:Addr} {o:Obj},s₁.heap.get? b=some o->H b=none->(du s₁.heap H).get? b=some o:=λe n=>qc e n;have noA:∀ {b:Addr} {o:Obj} {es:Array DictEntry} {ep:Nat},s₁.heap.get? b=some o->o.data = .dict es ep->H b=none:=λ{b o es ep} e d=>by
   cases q:H b with
   |none=>rfl
   | some u =>
     have e':b=a:=hA b (by rw[q];simp)
     subst e';rw[Y]at e;cases e;have d':Data.seq vs.toArray _=Data.dict es ep:=d
     cases d'
  have nsK:∀ {b:Addr} {m:Str->Option h6},s₁.heap.Ns b m->(du s₁.heap H).Ns b m:=λ{b m} g9=>(by obtain⟨o,es,ep,e,d,r⟩:=g9;exact⟨o,es,ep,base_of e (noA e d),d,r⟩)
  have O:K.In (du s₁.heap H):=λb o e=>base_of (KX b o e) (by
   cases q:H b with
   |none=>rfl
   | some u =>
     have e':b=a:=hA b (by rw[q];simp)
     subst e';rw[hK (by rw[q];simp)]at e;cases e)
  have hM:Mod K mg (du s₁.heap H):=⟨O,nsK J,⟨mb,nsK j,Z⟩,let ⟨mc,h1,h2⟩:=L; ⟨mc,nsK h1,h2⟩⟩;have e0:gI P w K mg (du s₁.heap H) GZ [] s₁ H:=⟨rfl,hM,λb o e=>t5 e,Nat.le_of_eq (nM _ _),trivial,λb j=>absurd (show b∈([]:List Addr) from j) (by simp),hok,.of_eq hg⟩
  refine Eu ((F _ O (nsK J)).run GZ [] s₁ H ⟨[.ref a],[]⟩ [.ref a] [.ref a] _ _ hr e0 (B s₁ (.ref a)) (.cons rfl .nil) (BD H hO hS)) λr s' h=>?_
  cases r with
  |error e=>exact(BE H e s' h).elim
  | ok fl =>
    cases fl with
    |next=>exact False.elim h
    |brk=>exact False.elim h
    |cont=>exact False.elim h
    | ret u =>
      obtain⟨v,H',os,bare,un,U,r',q⟩:=h;have q':v = .bl true:=q;subst q';obtain rfl:u=IY true:=r';refine⟨rfl,OldK.of_keep λb o e=>?_,os,bare⟩
      cases q:H b with
      |none=>exact un.keep b o e q (by intro z;exact absurd (show b∈([]:List Addr) from z) (by simp)) (by simp)
      | some u =>
        rcases hO b with z|⟨ob,xs,z⟩
        ·rw[q]at z;cases z
        ·have z2:=un.frzs b ob _ z;obtain⟨e1,_⟩:=hok b _ z;obtain⟨e2,_⟩:=U b _ z2;rw[e]at e1;cases e1;exact e2
 cases hk:K.lookup a with
 | some o =>
   have e:=KX a o hk;rw[Y]at e
   cases e
   refine core (λ_=>none) (λ_=>.inl rfl) (.inr ⟨_,vs.toArray,_,hk,rfl,rfl,rfl,by rw[y2,lenV];exact hl,by simpa using rv⟩) (λb u z=>by have z':(none:Option HO)=some u:=z;cases z') (λb z=>absurd rfl z) λz=>absurd rfl z
 | none =>
   refine core (λb=>if b=a then some (.frz { cls:=.type "list",data:=.seq vs.toArray } (.lst (ns.map V.int))) else none) (λb=>?_) (.inl (.inr ⟨{ cls:=.type "list",data:=.seq vs.toArray },if_pos rfl⟩)) (λb u z=>?_) (λb z=>?_) λ_=>hk
   ·by_cases j:b=a
    ·exact .inr ⟨_,_,if_pos j⟩
    ·exact .inl (if_neg j)
   ·by_cases j:b=a
    ·have z':=(if_pos j).symm.trans z
     cases z'
     subst j;exact⟨Y,by rw[Ca];exact hl,vs,_,rv,Y⟩
    ·have z':=(if_neg j).symm.trans z
     cases z'
   ·by_cases j:b=a
    ·exact j
    ·exact absurd (if_neg j) z
end
section
theorem walk_of {l:Gw}{n k:Nat}{q:Ct}{loose:List Str}{XP:(Str->Option h6)->Heap->Prop}{YP:CC->Heap->Prop}{d:DefRec}{K:Params->Frag}{CX:CC->CXT}{sp:CC->Sp}(U:l.most=some n)(z:n<=tv)(B:d.params.defaults=[])(Z:Room k GZ)(hY:∀ (w:CC) (h:Heap),YP w h->(K w.params).In h)(F:∀ (w:CC) (mg:Str->Option h6) (fa:Addr) (h:Heap),(K w.params).In h->h.Ns CH mg->mg d.name=some (.ref fa) ->
   ∃ fd:Ee,(∀ (s:hQ) (u:h6),GY s fd ⟨[u],[]⟩ [(x,u)]) /\
    ∀ base:Heap,(K w.params).In base->base.Ns CH mg->cr l.prog w (K w.params) mg base (CX w) k fa fd [x] (sp w))(J:∀ (w:CC) (H:Hp) (a:Addr) (ns:List Int),ns.length<=n->lZ H->SqL (K w.params) H a (ns.map V.int)->sp w [.ref a] H (λv _=>v = .bl true) λ_ _ _=>False)(L:∀ (w:CC) (H:Hp) (s:hQ) (e:h6) (s':hQ),CX w [] H s (λ_ _ _=>False) e s'->False) :
 PySem.W.WalkO q loose XP YP l.row.toRowW d [] (λf vs=>J8 f vs):=by
 refine Att.attach_call U B λw s₀ s₁ mg mb fa o pm cd doc a vs ns G Y ho hd BD O j hints hlen hg=>?_;have KX:=hY w _ Y;obtain⟨fd,hb,hF⟩:=F w mg fa _ KX G.T.g O;exact qz KX G.T.g G.T.b G.T.builtins G.T.nolimit hg j hints (D7 hlen z) Z hF hb (λH hO hS=>J w H a ns hlen hO hS) λH e s'=>L w H s₁ e s'
end
variable {qual:Str}{st:Stmt}{f:Addr}{H:Hp}
section
noncomputable def cF (s:Stmt):Arguments:=match s with
 |.FunctionDef _ a _ _ _ _ _ _ _ _=>a
 |_=>{ posonlyargs:=[],args:=[],vararg:=none,kwonlyargs:=[],kw_defaults:=[],kwarg:=none,defaults:=[] }
noncomputable def bx (s:Stmt):List Stmt:=match s with
 |.FunctionDef _ _ b _ _ _ _ _ _ _=>b
 |_=>[]
noncomputable def au (s:Stmt):Scope:=match s with
 |.FunctionDef _ _ _ _ _ _ sc _ _ _=>sc
 |_=>{ kind:=.function,names:=[],isGenerator:=false,isCoroutine:=false }
noncomputable abbrev CX0:CXT:=λ_ _ _ _ _ _=>False
noncomputable abbrev E0:XK:=λ_ _ _=>False
theorem sF {X:Cx}:fH CX0 X E0:=λ_ _ _ _ _ _ _ h=>h.elim
structure Fun (K:Frag) (x qual:Str) (st:Stmt) (f:Addr) (fd:Ee):Prop where
 ex:∃ (oc:h6) (od:Option Addr) (kV doc pm:h6) (an:Option Addr) (cdv ct:h6) (osl:Array (Option h6)),
  fd=Ea x qual (cF st) (bx st) (au st) .none kV doc pm an cdv ct/\K.lookup f=some ⟨oc,od,.func fd,osl⟩/\Fv K cdv qual=true
 kp:DE K (.ref f)=true
section
variable {P:Ct} {w:CC} {K:Frag} {mg:Str->Option h6} {base:Heap}
theorem Fun.ok {N ps:List Str}{k:Nat}{sp:Sp}(F:Fun K x qual st f fd)(S:er N ps (au st))(len:∀ vs H Q E,sp vs H Q E->vs.length=ps.length)(j:∀ (cdv:h6) (A:CK) (outer:List Env) (s:hQ) (H:Hp) (vs:List V) (Q:VK) (E:XK),Room k (A.deeper (GG qual (au st) s.heap.objs.size f cdv))->sp vs H Q E ->
   ∃ t,PSs (eZ CX0 P w K mg base N qual (au st) f cdv A outer s H E).nox (bx st) t/\t { nx:=λ_ H'=>Q .non H',rt:=Q } (ci N vs) H):cr P w K mg base CX0 (k+1) f fd ps sp:=by
 obtain⟨oc,od,kV,doc,pm,an,cdv,ct,osl,rfl,lk,z⟩:=F.ex;refine xC lk z S len λA outer s H vs Q E J B=>?_;obtain⟨t,h,q⟩:=j cdv A outer s H vs Q E J B;exact⟨t,h.nox,q⟩
theorem Fun.binds {ps:List Str}(F:Fun K x qual st f fd)(h:∀ (kV doc pm:h6) (an:Option Addr) (cdv ct:h6) (us:List h6),us.length=ps.length->bindArgs (Ea x qual (cF st) (bx st) (au st) .none kV doc pm an cdv ct) ⟨us,[]⟩=pure (ps.zip us)):Binds K fd ps []:=by
 obtain⟨oc,od,kV,doc,pm,an,cdv,ct,osl,rfl,lk,j⟩:=F.ex;exact .all (h kV doc pm an cdv ct)
theorem af {oc:h6}{od an:Option Addr}{osl:Array (Option h6)}{kV doc pm cdv ct:h6}(l:K.lookup f=some ⟨oc,od,.func (Ea x qual (cF st) (bx st) (au st) .none kV doc pm an cdv ct),osl⟩)(c:Fv K cdv qual=true)(k:DE K (.ref f)=true):Fun K x qual st f (Ea x qual (cF st) (bx st) (au st) .none kV doc pm an cdv ct):=⟨⟨oc,od,kV,doc,pm,an,cdv,ct,osl,rfl,l,c⟩,k⟩
end
def Same (H H':Hp):Prop:=∀ b o,H b=some o->H' b=some o
theorem Same.refl (H:Hp):Same H H:=λ_ _ h=>h
theorem Same.trans {H1 H2:Hp}(a:Same H H1)(b:Same H1 H2):Same H H2:=λc o h=>b c o (a c o h)
theorem Same.free {H':Hp}(e:Same H H'){l:Addr}(h:H' l=Option.none):H l=Option.none:=by
 cases q:H l with
 |none=>rfl
 | some o =>
   rw[e l o q]at h
   cases h
theorem Same.seq {K:Frag}{H':Hp}{a:Addr}{xs:List V}(e:Same H H')(h:SqL K H a xs):SqL K H' a xs:=by
 rcases h with(h|⟨o,h⟩)|h
 ·exact .inl (.inl (e _ _ h))
 ·exact .inl (.inr ⟨o,e _ _ h⟩)
 ·exact .inr h
end
end L2
namespace HT
open PySem PySem.Spec PyProof.Rows
section
variable {prog:Ct} {w:CC} {A:CK} {E:h6->hQ->Prop} {s:hQ}
theorem getItem_tuple_whole {t sl:Addr}{items:Array h6}{vl vu:h6}{lo hi:Option Int}{Q:h6->hQ->Prop}(j:IsTup s.heap t items)(hs:s.heap.IsSliceOf sl vl vu .none)(pl:Gf vl lo)(pu:Gf vu hi)(hw:sIx items.size 0 lo=0/\sIx items.size items.size hi=items.size)(h:Q (.ref t) s):Cj (model prog w) A (Gg (.ref t) (.ref sl)) Q E s:=by
 obtain⟨os,z,B,L⟩:=id hs;have F:s.TypeIs (.ref sl) "slice":=⟨os,z,B⟩;unfold Gg
 try with_reducible refine D4 ?_
 first|refine gV (y1 ?_)|skip
 refine gV (HS j.typeIs (by decide) ?_)
 refine gV (CM (name:=g8 "__getitem__") j.typeIs Di
  (Dl Di j.typeIs Hb ?_ (Hx _ _)))
 show Cj _ _ (Fx (.ref t) >>= _) _ _ s;refine gV (tupleItemsOf_ j ?_);refine gV (Gh F ?_);rw[if_pos (by decide)]
 refine gV (cP hs pl pu ?_);have J:(((sIx items.size 0 lo:Nat):Int)==0&&(1:Int)==1&&(sIx items.size items.size hi - sIx items.size 0 lo)==items.size)=true:=by
  rw[hw.1,hw.2];simp
 show Cj _ _ (if (((sIx items.size 0 lo:Nat):Int)==0&&(1:Int)==1&&(sIx items.size items.size hi - sIx items.size 0 lo)==items.size)=true then _ else _) _ _ s
 rw[if_pos J];refine gV (m:=Fy (.ref t)) ?_;unfold Fy;refine gV (Gh j.typeIs (y1 ?_));show Cj _ _ (if true=true then _ else _) _ _ s
 rw[if_pos rfl];exact gV (E8 (y1 ⟨_,rfl,y1 h⟩))
end
end HT
namespace L2
open PySem PySem.Spec PyProof.Rows
section
section
variable {X:Cx}
noncomputable def zc (K:Frag):V->Option Int->Option Int->Hp->VK->Prop:=λx lo hi H Q=>∃ a xs,x = .ref a/\SqT K H a xs/\(HT.sIx xs.length 0 lo=0/\HT.sIx xs.length xs.length hi=xs.length)/\Q x H
theorem qA:SlR X (zc X.K):=by
 intro pins s σ H x v vl vu lo hi sl Q I rx hs pl pu h;obtain⟨a,xs,rfl,hx,hw,q⟩:=h
 cases rx
 obtain⟨its,r,j,z⟩:=I.tuple hx;have hlen:=r.length;refine⟨"tuple",_,slot_tuple_getitem.lookup,j.typeIs,?_⟩;refine HT.getItem_tuple_whole j hs pl pu (by rw[y2,<- hlen];exact hw) ⟨.ref a,H,I,rfl,q⟩
end
end
variable {u:h6}{y:V}{P:Ct}{w:CC}{H H':Hp}{kvs:List (List Key×V)}{xs:List (List Key×Addr×h6)}{b a:Addr}{h':Heap}{X:Cx}{pins:List (Addr×Obj)}{σ:St}{s:hQ}
section
section
variable {κ:Type} [DecidableEq κ]
noncomputable def bu (kvs:List (κ × V)) (k : κ):Option V:=(kvs.find? λkv=>decide (kv.1=k)).map (·.2)
noncomputable def bF (kvs:List (κ × V)) (k : κ) (v:V):List (κ × V) :=
 if (kvs.any λkv=>decide (kv.1=k))=true then kvs.map (λkv=>if kv.1=k then (kv.1,v) else kv) else kvs++[(k,v)]
noncomputable def iE (kvs:List (κ × V)) (k : κ):List (κ × V):=kvs.filter λkv=>decide (kv.1≠k)
theorem dw {p : κ × V}{r:List (κ × V)}{k : κ}(e:p.1=k):bu (p::r) k=some p.2:=by simp[bu,Dg,e]
theorem dy {p : κ × V}{r:List (κ × V)}{k : κ}(e : ¬ p.1=k):bu (p::r) k=bu r k:=by simp[bu,Dg,e]
theorem jc (k : κ):∀ kvs:List (κ × V),(kvs.any λkv=>decide (kv.1=k))=(bu kvs k).isSome
 |[]=>rfl
 | p::r=>by
   rw[DX]
   by_cases e:p.1=k
   ·simp only[dw e,decide_eq_true e,Bool.true_or,HB]
   ·rw[dy e,decide_eq_false e,FU];exact jc k r
theorem eQ (kvs:List (κ × V))(k : κ)(v:V):(bF kvs k v).length<=kvs.length+1:=by
 unfold bF
 split
 ·rw[Ca];lia
 ·rw[Cv,Cp,CP];lia
theorem RelO.isSome_eq {o:Option V}{u:Option h6}(r:RelO o u):o.isSome=u.isSome:=by
 cases o with
 | none=>cases u with
   |none=>rfl
   |some _=>exact(show False from r).elim
 | some _=>cases u with
   |none=>exact(show False from r).elim
   |some _=>rfl
theorem RelO.getD {o:Option V}{u:Option h6}{d:V}{d':h6}(r:RelO o u)(rd:RelV d d'):RelV (o.getD d) (u.getD d'):=by
 cases o with
 | none=>cases u with
   |none=>exact rd
   |some _=>exact(show False from r).elim
 | some _=>cases u with
   |none=>exact(show False from r).elim
   |some _=>exact r
theorem KV.val {kvs:List (κ × V)}{vs:List (κ × h6)}(r:KV kvs vs)(k : κ):RelO (bu kvs k) (H0 vs k):=by
 unfold KV at r
 induction r with
 |nil=>exact Eo
 |@cons p q ps qs h t ih =>
  obtain⟨h1,h2⟩:=h
  by_cases e:p.1=k
  ·have e':q.1=k:=h1.symm.trans e;have b:H0 (q::qs) k=some q.2:=by simp[H0,Dg,e']
   rw[dw e,b];exact h2
  ·have e' : ¬ q.1=k:=λz=>e (h1.trans z);have b:H0 (q::qs) k=H0 qs k:=by simp[H0,Dg,e']
   rw[dy e,b];exact ih
theorem KV.any {kvs:List (κ × V)}{vs:List (κ × h6)}(r:KV kvs vs)(k : κ):(kvs.any λkv=>decide (kv.1=k))=vs.any λkv=>decide (kv.1=k):=by
 unfold KV at r
 induction r with
 |nil=>rfl
 |cons h t ih=>rw[DX,DX,ih,h.1]
theorem KV.repl {kvs:List (κ × V)}{vs:List (κ × h6)}(r:KV kvs vs)(k : κ)(ry:RelV y u) :
 KV (kvs.map λkv=>if kv.1=k then (kv.1,y) else kv) (vs.map λkv=>if kv.1=k then (kv.1,u) else kv):=by
 unfold KV at r ⊢
 induction r with
 |nil=>exact .nil
 |@cons p q ps qs h t ih =>
  rw[Cr,Cr];refine .cons ?_ ih;obtain⟨h1,h2⟩:=h
  by_cases e:p.1=k
  ·rw[if_pos e,if_pos (h1.symm.trans e)];exact⟨h1,ry⟩
  ·rw[if_neg e,if_neg (λz=>e (h1.trans z))];exact⟨h1,h2⟩
theorem KV.put {kvs:List (κ × V)}{vs:List (κ × h6)}(r:KV kvs vs)(k : κ)(ry:RelV y u):KV (bF kvs k y) (stored vs k u):=by
 unfold bF stored;rw[r.any k]
 by_cases e:(vs.any λkv=>decide (kv.1=k))=true
 ·rw[if_pos e,if_pos e];exact r.repl k ry
 ·rw[if_neg e,if_neg e];exact Paired.snoc r ⟨rfl,ry⟩
theorem KV.drop {kvs:List (κ × V)}{vs:List (κ × h6)}(r:KV kvs vs)(k : κ):KV (iE kvs k) (without vs k):=by
 unfold KV at r ⊢;unfold iE without
 induction r with
 |nil=>exact .nil
 |@cons p q ps qs h t ih =>
  obtain⟨h1,h2⟩:=h;rw[Io,Io]
  by_cases e:p.1=k
  ·have a : ¬ decide (p.1≠k)=true:=by simp[e]
   have b : ¬ decide (q.1≠k)=true:=by simp[h1.symm.trans e]
   rw[if_neg a,if_neg b];exact ih
  ·have e' : ¬ q.1=k:=λz=>e (h1.trans z);have a:decide (p.1≠k)=true:=by simp[e]
   have b:decide (q.1≠k)=true:=by simp[e']
   rw[if_pos a,if_pos b];exact .cons ⟨h1,h2⟩ ih
theorem JL {kvs:List (κ × V)}{vs:List (κ × h6)}(r:KV kvs vs):kvs.map (·.1)=vs.map (·.1):=by
 unfold KV at r
 induction r with
 |nil=>rfl
 |cons h t ih=>rw[Cr,Cr,ih,h.1]
theorem KV.length {kvs:List (κ × V)}{vs:List (κ × h6)}(r:KV kvs vs):kvs.length=vs.length:=EC r
end
theorem m3 {k:Key}(r:RelV (kV k) u):(aT P w).is k u=true:=by
 cases k with
 |inl i=>obtain⟨t,e⟩:=(show ∃ t,u=Ih i t from r);subst e;exact kn P w i t
 |inr x=>obtain⟨t,e⟩:=(show ∃ t,u=Ii x t from r);subst e;exact ko P w x t
theorem hW {P:Ct}{w:CC}:∀ {ks:List Key} {us:List h6},Vals (ks.map kV) us->ItemsAre (aT P w) ks us
 |[],_,r=>by rw[Eb]at r;cases r;exact .nil
 | k::ks,_,r=>by
   rw[Cr]at r
   cases r with
   |cons h t=>exact .cons (m3 h) (hW t)
noncomputable abbrev KT (H:Hp):List (List Key×V)->List (List Key×Addr×h6)->Prop:=D0 λp q=>p.1=q.1/\H q.2.1=some (.tup (p.1.map kV))/\RelV p.2 q.2.2
theorem KT.val (r:KT H kvs xs)(k:List Key):RelO (bu kvs k) ((IH xs k).map (·.2)):=by
 induction r with
 |nil=>exact Eo
 |@cons p q ps qs h t ih =>
  obtain⟨h1,_,h2⟩:=h
  by_cases e:p.1=k
  ·have e':q.1=k:=h1.symm.trans e;have b:IH (q::qs) k=some q.2:=by simp[IH,Dg,e']
   rw[dw e,b];exact h2
  ·have e' : ¬ q.1=k:=λz=>e (h1.trans z);have b:IH (q::qs) k=IH qs k:=by simp[IH,Dg,e']
   rw[dy e,b];exact ih
theorem KT.repl (r:KT H kvs xs)(k:List Key)(ry:RelV y u) :
 KT H (kvs.map λkv=>if kv.1=k then (kv.1,y) else kv) (xs.map (putAt k u)):=by
 induction r with
 |nil=>exact .nil
 |@cons p q ps qs h t ih =>
  rw[Cr,Cr];refine .cons ?_ ih;obtain⟨h1,h2,j⟩:=h;unfold putAt
  by_cases e:p.1=k
  ·rw[if_pos e,if_pos (h1.symm.trans e)];exact⟨h1,h2,ry⟩
  ·rw[if_neg e,if_neg (λz=>e (h1.trans z))];exact⟨h1,h2,j⟩
theorem KT.put (r:KT H kvs xs)(k:List Key)(j:H b=some (.tup (k.map kV)))(ry:RelV y u) :
 KT H (bF kvs k y) (storedH xs k b u):=by
 have e:(kvs.any λkv=>decide (kv.1=k))=(IH xs k).isSome:=by
  rw[jc,(r.val k).isSome_eq,Option.isSome_map]
 unfold bF storedH;rw[e]
 by_cases q:(IH xs k).isSome=true
 ·rw[if_pos q,if_pos q];exact r.repl k ry
 ·rw[if_neg q,if_neg q];exact Paired.snoc r ⟨rfl,j,ry⟩
theorem KT.keeps (r:KT H kvs xs)(j:∀ b ys,H b=some (.tup ys)->H' b=some (.tup ys)):KT H' kvs xs :=
 Jx r λ_ _ z=>⟨z.1,j _ _ z.2.1,z.2.2⟩
section
variable {P:Ct} {w:CC} {H:Hp} {h:Heap} {a:Addr}
theorem sH {u:HO}(ok:HOk P w H h)(e:Rd H a u):ObjOk P w H h a u:=e.ok ok
theorem m4 {kvs:List (Key×V)}(ok:HOk P w H h)(e:Rd H a (.dK kvs)):kvs.length<=tv/\(a==E6)=false /\ ∃ vs,KV kvs vs/\h.DictOf (aT P w) a vs :=
 show ObjOk P w H h a (.dK kvs) from sH ok e
theorem xF {kvs:List (Key×V)}(ok:HOk P w H h)(e:H a=some (.dK kvs)):kvs.length<=tv/\(a==E6)=false /\ ∃ vs,KV kvs vs/\h.DictOf (aT P w) a vs:=m4 ok (.inl e)
theorem jd {ks:List Key}(ok:HOk P w H h)(e:H a=some (.tup (ks.map kV))):(GX (aT P w)).is h ks a:=by
 obtain⟨_,its,r,o,h1,h2,n,j⟩:=(show ObjOk P w H h a (.tup (ks.map kV)) from ok a _ e);exact⟨o,its.toArray,n,h1,h2,j,by simpa using hW r⟩
theorem m5 (ok:HOk P w H h)(e:Rd H a (.dT kvs)):kvs.length<=tv/\(a==E6)=false /\
 ∃ xs,KT H kvs xs/\h.DictOfH (GX (aT P w)) a xs:=by
 obtain⟨z,y,xs,r,o,es,ep,h1,h2,j,B,F⟩:=(show ObjOk P w H h a (.dT kvs) from sH ok e);refine⟨z,y,xs,r,o,es,ep,h1,h2,j,B,λx hx=>?_,F⟩;have all:∀ {l:List (List Key×V)} {m:List (List Key×Addr×h6)},KT H l m -> ∀ x∈m,(GX (aT P w)).is h x.1 x.2.1:=by
  intro l m q
  induction q with
  |nil=>intro x hx;exact nomatch hx
  |@cons p q ps qs hq t ih =>
   intro x hx
   rcases Cb.mp hx with e|hx
   ·subst e;exact jd ok (by rw[<- hq.1];exact hq.2.1)
   ·exact ih x hx
 exact all r x hx
theorem xG (ok:HOk P w H h)(e:H a=some (.dT kvs)):kvs.length<=tv/\(a==E6)=false /\
 ∃ xs,KT H kvs xs/\h.DictOfH (GX (aT P w)) a xs:=m5 ok (.inl e)
end
def DGet (H:Hp) (a:Addr) (y:V) (r:Option V):Prop :=
 (∃ kvs k,Rd H a (.dK kvs)/\y=kV k/\r=bu kvs k)∨∃ kvs k b,Rd H a (.dT kvs)/\y = .ref b/\H b=some (.tup (k.map kV))/\r=bu kvs k
def DPut (H:Hp) (a:Addr) (y v:V) (H':Hp):Prop :=
 (∃ kvs k,H a=some (.dK kvs)/\y=kV k/\kvs.length<tv/\H'=upd H a (.dK (bF kvs k v))) ∨
 ∃ kvs k b,H a=some (.dT kvs)/\y = .ref b/\H b=some (.tup (k.map kV))/\kvs.length<tv/\H'=upd H a (.dT (bF kvs k v))
theorem DGet.k {kvs:List (Key×V)}{k:Key}(e:H a=some (.dK kvs)):DGet H a (kV k) (bu kvs k):=.inl ⟨kvs,k,.inl e,rfl,rfl⟩
theorem DGet.t {k:List Key}(e:H a=some (.dT kvs))(eb:H b=some (.tup (k.map kV))):DGet H a (.ref b) (bu kvs k):=.inr ⟨kvs,k,b,.inl e,rfl,eb,rfl⟩
theorem DPut.k {kvs:List (Key×V)}{k:Key}{v:V}(e:H a=some (.dK kvs))(j:kvs.length<tv):DPut H a (kV k) v (upd H a (.dK (bF kvs k v))):=.inl ⟨kvs,k,e,rfl,j,rfl⟩
theorem DPut.t {k:List Key}{v:V}(e:H a=some (.dT kvs))(eb:H b=some (.tup (k.map kV)))(j:kvs.length<tv) :
 DPut H a (.ref b) v (upd H a (.dT (bF kvs k v))):=.inr ⟨kvs,k,b,e,rfl,eb,j,rfl⟩
section
variable {X:Cx} {pins:List (Addr×Obj)} {σ:St} {H:Hp} {s:hQ} {a:Addr} {y v:V} {u r:h6} {o:Option V} {A:CK} {E:h6->hQ->Prop}
theorem ot {Q:h6->hQ->Prop}(B:A.units+1<GF)(I:Inv X pins σ H s)(g:DGet H a y (some v))(ry:RelV y u)(h:∀ w' s',Inv X pins σ H s'->RelV v w'->Q w' s') :
 Cj (model X.prog X.w) A (Gg (.ref a) u) Q E s:=by
 rcases g with⟨kvs,k,e,ey,l⟩|⟨kvs,k,b,e,ey,eb,l⟩
 ·subst ey;obtain⟨z,hd,vs,rel,dd⟩:=m4 I.hok e;obtain⟨w',hw,rw'⟩:=JE (v:=v) (o:=H0 vs k) (by rw[l];exact rel.val k)
  exact wpAny_getItem_of (m3 ry) dd.mapOf hw (h w' _ (I.tok _) rw')
 ·subst ey
  cases (show u=DK b from ry)
  obtain⟨z,hd,xs,rel,dd⟩:=m5 I.hok e;obtain⟨w',hw,rw'⟩:=JE (v:=v) (o:=(IH xs k).map (·.2)) (by rw[l];exact rel.val k)
  obtain⟨p,F,j⟩:=Option.map_eq_some_iff.mp hw;refine wpAny_getItem_heap (HC B) (jd I.hok eb) dd F ?_;rw[j];exact h w' _ (I.tok _) rw'
theorem kN {t':Nat}{ob:HO}(I:Inv X pins σ H s)(mu:Mut (H a))(hs:D8 a s.heap h')(he:∃ q,h'.get? a=some q)(new:ObjOk X.prog X.w (upd H a ob) h' a ob) :
 Inv X pins σ (upd H a ob) { s with heap:=h',toks:=t' } :=
 I.write (x:=a) (e:=a) mu (.inl rfl) (λb q j z=>(hs.2 b j).trans z) he new
theorem vG {kvs:List (Key×V)}{vs:List (Key×h6)}(z:kvs.length<=tv)(hd:(a==E6)=false)(rel:KV kvs vs)(dd:h'.DictOf (aT P w) a vs) :
 ObjOk P w H' h' a (.dK kvs):=⟨z,hd,vs,rel,dd⟩
theorem ou {Q:Unit->hQ->Prop}(J:A.units+1<GF)(I:Inv X pins σ H s)(g:DPut H a y v H')(ry:RelV y u)(rv:RelV v r)(h:∀ s',Inv X pins σ H' s'->Q () s') :
 Cj (model X.prog X.w) A (setItem (.ref a) u r) Q E s:=by
 rcases g with⟨kvs,k,e,ey,l,eH⟩|⟨kvs,k,b,e,ey,eb,l,eH⟩
 ·subst ey eH;obtain⟨z,hd,vs,rel,dd⟩:=xF I.hok e;have B:vs.length<=tv:=by rw[<- rel.length];exact z
  have F:(bF kvs k v).length<=tv:=by have:=eQ kvs k v;lia
  refine wpAny_setItem_pairs (hsz:=B) (m3 ry) dd λh' dd' hs=>h _ ?_;have he:∃ q,h'.get? a=some q:=let ⟨q,_,_,j,_⟩:=dd'; ⟨q,j⟩;exact kN I (by rw[e];exact Eo) hs he (vG F hd (rel.put k rv) dd')
 ·subst ey eH
  cases (show u=DK b from ry)
  obtain⟨z,hd,xs,rel,dd⟩:=xG I.hok e;have B:xs.length<=tv:=by rw[<- EC rel];exact z
  have F:(bF kvs k v).length<=tv:=by have:=eQ kvs k v;lia
  refine wpAny_setItem_heap (hsz:=B) (HC J) (jd I.hok eb) dd λh' dd' hs=>h _ ?_;obtain⟨q,es,ep,j,h2,L,O,_,U⟩:=dd';refine kN I (by rw[e];exact Eo) hs ⟨q,j⟩ ⟨F,hd,_,(rel.put k eb rv).keeps λc ys ec=>?_,q,es,ep,j,h2,L,O,U⟩
  rw[ak (xk ec e (λz=>nomatch z))];exact ec
end
structure M2 (X:Cx) (o:Expr) (m:Str) (apos:Pos) (e f:Expr) (cpos:Pos):Prop where
 base:Hn o m X.env (eval o X.env)=eval o X.env
 few:((DH cpos (Cm [e,f] X.env)).all (λx=>!x.1)&&(EY cpos (DO [] X.env)).all (λx=>x.1.isSome)
  && decide (([e,f]:List Expr).length+([]:List EJ).length+(if ([]:List EJ).isEmpty then 0 else 1)<30))=true
 line:(apos.endLine==cpos.line)=true
 trees:DH cpos (Cm [e,f] X.env)=[(false,eval e X.env),(false,eval f X.env)]
def IsD (H:Hp) (a:Addr):Prop:=(∃ kvs,Rd H a (.dK kvs))∨∃ kvs,Rd H a (.dT kvs)
theorem vH (I:Inv X pins σ H s)(d:IsD H a) :
 s.TypeIs (.ref a) "dict" /\ (∀ b,DK a = .ref b -> ∃ ob,s.heap.get? b=some ob/\ob.dict=none)/\(a==E6)=false:=by
 rcases d with⟨kvs,e⟩|⟨kvs,e⟩
 ·obtain⟨_,hd,vs,_,dd⟩:=m4 I.hok e;refine⟨dd.typeIs,λb q=>?_,hd⟩
  cases q
  obtain⟨ob,_,_,h1,h2,_⟩:=dd;exact⟨ob,h1,h2.2.1⟩
 ·obtain⟨_,hd,xs,_,dd⟩:=m5 I.hok e;refine⟨dd.typeIs,λb q=>?_,hd⟩
  cases q
  obtain⟨ob,_,_,h1,h2,_⟩:=dd;exact⟨ob,h1,h2.2.1⟩
end
variable {d:Nat}{ifs:List Expr}{elt target iter:Expr}{gens:List CF}{scope:Scope}{pos pos':Pos}{te:TE}{acc:h6}{g:TG}{it:Addr}{A:CK}{wi:TI}{x:Str}
section
noncomputable def aV (elt:Expr) (gens:List CF) (scope:Scope) (pos:Pos) (d:Nat) (acc:h6) (env:Env) (k:Sem Fin):Sem Fin :=
 match gens[d+1]? with
 | some g'=>eval g'.iter env >>= fun x=>FK g'.iter.pos >>= fun _=>Dr g'.iter env x >>= fun x=>holding [x] (Hv x) >>= fun it' =>
    runOwn (.compStart (.ListComp elt gens scope pos) (d+1) it' acc env) env >>= λ_=>k
 |none=>(eval elt env >>= λx=>call (.builtin "list.append") [acc,x] >>= λ_=>pure ()) >>= λ_=>k
noncomputable def be (ifs:List Expr) (env:Env):Sem Bool :=
 forIn ifs true λc r=>if r=true then do let ok <- isTrue c env (eval c env);pure (Ef ok) else pure (Ef r)
theorem je (elt target iter:Expr)(ifs:List Expr)(gens:List CF)(scope:Scope)(pos:Pos)(d:Nat)(it acc:h6)(env:Env)(hd:gens[d]? = some ⟨target,iter,ifs,0⟩)(j:∀ g',gens[d+1]? = some g'->g'.is_async=0) :
 compTurn (.ListComp elt gens scope pos) d it acc env=(FK iter.pos >>= λ_=>Fu it >>= λr=>match r with
  |none=>pure (.done .next)
  | some v=>Fd target it v >>= fun _=>assign target env v >>= fun _=>be ifs env >>= fun ok =>
    (if ok=true then aV elt gens scope pos d acc env (again (.compLoop (.ListComp elt gens scope pos) d it acc env)) else again (.compLoop (.ListComp elt gens scope pos) d it acc env))):=by
 unfold compTurn;simp only[hd];unfold aV be
 cases hn:gens[d+1]? with
 |none=>rfl
 | some g' =>
   obtain⟨t',i',f',a'⟩:=g';have e:a'=0:=j _ hn;subst e;rfl
noncomputable abbrev TC:=St->Hp->(St->Hp->Prop)->Prop
def eA (J:It) (g:TG) (tb:TC) (N:St->Hp->Prop) (σ:St) (H:Hp):Prop :=
 ∃ W:Nat->Nat->St->Hp->Prop,(∃ m,W 0 m σ H) /\ ∀ i m σ H,W i m σ H ->
  (J.stop i H/\N σ H)∨(J.go i H /\ ∃ N':St->Hp->Prop,(∀ σ' H',N' σ' H' -> ∃ m',m'<m/\W (i+1) m' σ' H') /\ ∀ x H',J.yld i H x H'->g x σ H' λσ2 H2=>tb σ2 H2 N')
def PB (X:Cx) (F:Sem Fin->Sem Fin) (t:TC):Prop :=
 ∀ (pins:List (Addr×Obj)) (s:hQ) (σ:St) (H:Hp) (N:St->Hp->Prop) (k:Sem Fin) (Q:Fin->hQ->Prop) (E:h6->hQ->Prop),Inv X pins σ H s->t σ H N ->
  (∀ s' σ' H',Inv X pins σ' H' s'->N σ' H'->Cj (model X.prog X.w) X.A k Q E s')->Cj (model X.prog X.w) X.A (F k) Q E s
section
variable {X:Cx}
theorem nox {α:Type}{m:Sem α}{Q : α -> hQ->Prop}{E:h6->hQ->Prop}(hx:∀ e s,X.xe e s->False)(h:Cj (model X.prog X.w) X.A m Q X.xe s):Cj (model X.prog X.w) X.A m Q E s :=
 DR h (λ_ _ q=>q) λe s' q=>(hx e s' q).elim
noncomputable def fK (ts:List TT) (tb:TC):TC:=match ts with
 |[]=>tb
 |t::r=>λσ H N=>t σ H λb H1=>if b=true then fK r tb σ H1 N else N σ H1
theorem fL {env:Env}{M:HM}{A:CK}{Q:Bool->hQ->Prop}{E:h6->hQ->Prop}{s:hQ}(h:Q false s):∀ ifs:List Expr,
 Cj M A (forIn ifs false λc r=>if r=true then do let ok <- isTrue c env (eval c env);pure (Ef ok) else pure (Ef r)) Q E s
 |[]=>y1 h
 | c::r=>by
   rw[EK];simp only[EL,if_false];exact gV (y1 (fL h r))
theorem jf (hx:∀ e s,X.xe e s->False){tb:TC}{N:St->Hp->Prop}:∀ {ifs:List Expr} {ts:List TT},D0 (λc t=>PT X c t) ifs ts ->
 ∀ (pins:List (Addr×Obj)) (s:hQ) (σ:St) (H:Hp) (E:h6->hQ->Prop),Inv X pins σ H s->fK ts tb σ H N ->
 Cj (model X.prog X.w) X.A (be ifs X.env) (λok s'=>∃ H',Inv X pins σ H' s'/\if ok=true then tb σ H' N else N σ H') E s
 |_,_,.nil=>λpins s σ H E I h=>y1 ⟨H,I,by rw[if_pos rfl];exact h⟩
 | c::ifs,_,.cons (b:=t) B hr=>by
   intro pins s σ H E I h;have ih:=jf hx hr (tb:=tb) (N:=N) pins;unfold be at ih ⊢;rw[EK];simp only[if_true];refine gV (gV (nox hx (thn (B pins s σ H _ I h) λb s1 F=>?_)));obtain⟨H1,z,j⟩:=F;refine y1 ?_
   cases b with
   | false =>
     rw[if_neg q7]at j;exact fL ⟨H1,z,by rw[if_neg q7];exact j⟩ ifs
   | true =>
     rw[if_pos rfl]at j;exact ih s1 σ H1 E z j
theorem qB (hx:∀ e s,X.xe e s->False){F:Sem Fin->Sem Fin}{tb:TC}(B:PB X F tb){ts:List TT}(J:D0 (λc t=>PT X c t) ifs ts) :
 PB X (λk=>be ifs X.env >>= λok=>if ok=true then F k else k) (fK ts tb):=by
 intro pins s σ H N k Q E I h hk;refine gV (thn (jf hx J pins s σ H E I h) λok s1 L=>?_);obtain⟨H1,z,j⟩:=L
 cases ok with
 | false =>
   rw[if_neg q7]at j ⊢;exact hk s1 σ H1 z j
 | true =>
   rw[if_pos rfl]at j ⊢;exact B pins s1 σ H1 N k Q E z j hk
noncomputable def sJ (p:Addr) (te:TE):TC:=λσ H N=>te σ H λx H1=>∃ xs,H1 p=some (.lst xs)/\xs.length<tv/\N σ (upd H1 p (.lst (xs++[x])))
theorem gL (hx:∀ e s,X.xe e s->False){p:Addr}(he:PE X elt te)(hd:gens[d+1]? = none) :
 PB X (aV elt gens scope pos d (.ref p) X.env) (sJ p te):=by
 intro pins s σ H N k Q E I h z;unfold aV;rw[hd];refine gV (gV (nox hx (thn (he pins s σ H _ I h) λu s1 j=>?_)));obtain⟨x,H1,B,F,xs,J,l1,L⟩:=j;refine gV (nox hx (thn (hU (X:=X) pins s1 σ H1 (.ref p) [x] (.ref p) [u] (λ_ H2=>N σ H2) B rfl (.cons F .nil) ⟨p,xs,x,rfl,rfl,J,l1,L⟩) λv s2 j=>?_));obtain⟨_,H2,O,_,U⟩:=j;exact y1 (z s2 σ H2 O U)
theorem hX (hx:∀ e s,X.xe e s->False)(hc:X.calm=true)(hd:gens[d]? = some ⟨target,iter,ifs,0⟩)(ha:∀ g',gens[d+1]? = some g'->g'.is_async=0)(hg:PG X target g){tb:TC}(j:PB X (λk=>be ifs X.env >>= λok=>if ok=true then aV elt gens scope pos d acc X.env k else k) tb){N:St->Hp->Prop}{fp:List Addr}{tn:Nat->Heap->Prop}{J:It}(I:Inv X pins σ H s)(T:dO X.prog X.w X.K target J fp it tn)(t0:tn 0 s.heap)(f2:∀ b∈fp,bK X pins H b)(h:eA J g tb N σ H) :
 F9 (model X.prog X.w) X.A (.compLoop (.ListComp elt gens scope pos) d (.ref it) acc X.env) (λr s'=>match r with|.ok _=>∃ σ' H',Inv X pins σ' H' s'/\N σ' H'|.error _=>False) s:=by
 obtain⟨W,⟨m0,w0⟩,turn⟩:=h;have stat:∀ {H':Hp},(∀ b∈fp,H' b=none) -> ∀ b∈fp,bK X pins H' b:=λhn b j=>⟨hn b j,(f2 b j).2⟩;refine codeAny_loop rfl (λn s'=>∃ i σ' H',Inv X pins σ' H' s'/\tn i s'.heap/\(∀ b∈fp,H' b=none)/\W i n σ' H') ?_ m0 ⟨0,σ,H,I,t0,λb j=>(f2 b j).1,w0⟩;rintro n s3 ⟨i,σ3,O,I3,F,L,w3⟩;show Cj _ _ ((compTurn (.ListComp elt gens scope pos) d (.ref it) acc X.env).onRaise (λx=>do noteFrame x X.env;theTreesLotGoes x)) _ _ s3
 refine wpAny_noted ?_;rw[je elt target iter ifs gens scope pos d (.ref it) acc X.env hd ha];refine gV (DS (gV ?_));show Cj (model X.prog X.w) X.A _ _ _ s3
 rcases turn i n σ3 O w3 with⟨stop,qn⟩|⟨go,N',hN,step⟩
 ·refine thn (T.done X rfl rfl rfl hc i pins s3 σ3 O _ I3 (stat L) F stop) λr s4 z=>?_;obtain⟨U,I4⟩:=z;subst U;exact y1 ⟨σ3,O,I4,qn⟩
 ·refine thn (T.item X rfl rfl rfl hc i pins s3 σ3 O _ I3 (stat L) F go) λr s4 z=>?_;obtain⟨u,U,h4⟩:=z;subst U;refine gV (thn h4 λ_ s5 z=>?_);obtain⟨x,H5,I5,r5,y5,B,Y⟩:=z;have Z:=I5.pinned (stat Y) (T.obj _ _ B);refine gV (nox hx (thn (hg _ s5 σ3 H5 x u _ Z r5 (step x H5 y5)) λ_ s6 z=>?_));obtain⟨σ6,H6,I6,q6⟩:=z;refine j _ s6 σ6 H6 N' (again (.compLoop (.ListComp elt gens scope pos) d (.ref it) acc X.env)) _ _ I6 q6 λs7 σ7 H7 I7 n7=>?_;obtain⟨m',hm,w7⟩:=hN σ7 H7 n7;refine y1 ⟨rfl,m',hm,i+1,σ7,H7,I7.unpinned,T.keep _ _ _ B λb j o e=>(I7.pin (b,o) (Cq _ (Cq _ (cw j e)))).1,λb j=>?_,w7⟩;obtain⟨o,e,dd⟩:=T.obj _ _ B b j;exact(I7.pin (b,o) (Cq _ (Cq _ (cw j e)))).2.1
theorem fM {it:h6}{env:Env}{prog:Ct}{R:Result->hQ->Prop}(hd:gens[d]? = some ⟨target,iter,ifs,0⟩)(h0:F9 (model prog w) A (.compLoop (.ListComp elt gens scope pos) d it acc env) R s)(h:Cj (model prog w) A (Hv it) (fun it' s'=>F9 (model prog w) A (.compLoop (.ListComp elt gens scope pos) d it' acc env) R s')
   (notedBy (model prog w) A env λx s'=>R (.error x) s') s) :
 F9 (model prog w) A (.compStart (.ListComp elt gens scope pos) d it acc env) R s:=by
 refine codeAny_of_tree ?_;show Cj _ _ ((compStart (.ListComp elt gens scope pos) d it acc env).onRaise (λx=>do noteFrame x env;FK theWindowsPlace)) _ _ s
 refine wpAny_notedAt ?_;unfold compStart;have j:(clausesOf (.ListComp elt gens scope pos))[d]? = some ⟨target,iter,ifs,0⟩:=hd;rw[j];show Cj _ _ (ask >>= _) _ _ s;refine gV (wpAny_askSetting (wpAny_ite ?_))
 split
 ·first
   |exact gV (y1 (y1 (H8 rfl h0)))
   |exact y1 (H8 rfl h0)
 ·first
   |exact gV (E8 (gV (DS (gV (DR h (λit' s' h'=>y1 (H8 rfl h')) λ_ _ x=>x)))))
   |(refine gV (E8 ?_);show Cj _ _ (FK iter.pos >>= _) _ _ s;exact gV (DS (gV (DR h (λit' s' h'=>y1 (H8 rfl h')) λ_ _ x=>x))))
theorem hZ (hx:∀ e s,X.xe e s->False)(B:X.calm=true)(hd:gens[d+1]? = some ⟨target,iter,ifs,0⟩)(F:∀ g',gens[d+1+1]? = some g'->g'.is_async=0)(hi:PI X target iter wi)(L:PG X target g){tb:TC}(O:PB X (λk=>be ifs X.env >>= λok=>if ok=true then aV elt gens scope pos (d+1) acc X.env k else k) tb)(hs:∀ x,Dr iter X.env x=pure x) :
 PB X (aV elt gens scope pos d acc X.env) (λσ H N=>wi σ H λJ H1=>eA J g tb N σ H1):=by
 intro pins s σ H N k Q E I h hk;unfold aV;rw[hd];refine gV (nox hx (thn (hi pins s σ H _ I h) λv s1 h1=>?_));refine gV (DS (gV (FL (hs v) ?_)));refine gV (D4 (nox hx (thn h1 λitv s2 h2=>?_)));obtain⟨it,fp,tn,J,H2,e,U,T,j,f2,hw⟩:=h2;subst e;have loop:=hX (acc:=acc) hx B hd F L O U T j f2 hw;refine gV (wpAny_runOwn (Eu (fM (R:=λr s'=>match r with|.ok _=>∃ σ' H',Inv X pins σ' H' s'/\N σ' H'|.error _=>False) hd loop (T.self _ 0 _ _ _ j loop)) λr s3 z=>?_))
 cases r with
 |error e=>exact z.elim
 | ok f =>
   obtain⟨σ3,Y,Z,n3⟩:=z;exact hk s3 σ3 Y Z n3
noncomputable def aO (cells:List (Str×Addr)):List (Str×E3)->List (Str×Addr)->List (Str×Addr)
 |[],acc=>acc
 |(n,k)::r,acc=>if k == .free then (match cells.lookup n with|some c=>aO cells r ((n,c)::acc)|none=>aO cells r acc) else aO cells r acc
theorem eR {env:Env}:∀ (names:List (Str×E3)) (acc:List (Str×Addr)),(∀ x∈names,x.2 = .free->(env.cells.lookup x.1).isSome=true) ->
 (forIn names acc λ(x:Str×E3) (r:List (Str×Addr))=>(match x with|(name,kind)=>if (kind==Cu)=true then do let c <- cellOf env name;pure (Ef ((name,c)::r)) else pure (Ef r):Sem (ForInStep (List (Str×Addr)))))=(pure (aO env.cells names acc):Sem (List (Str×Addr)))
 |[],acc,_=>rfl
 |(n,k)::r,acc,h=>by
  rw[EK];have ih:=λacc'=>eR r acc' λx hx=>h x (Ci _ hx);unfold aO
  by_cases hk:(k==Cu)=true
  ·obtain⟨c,z⟩:=DU.mp (h (n,k) CN (beq_iff_eq.mp hk));have j:env.cells.lookup n=some c:=z;have B:cellOf env n=pure c:=by unfold cellOf;rw[j]
   simp only[hk,if_true,B,j,pure_bind];exact ih _
  ·simp only[hk,if_false,pure_bind];exact ih _
theorem fN {env:Env}(h:∀ x∈scope.names,x.2 = .free->(env.cells.lookup x.1).isSome=true):closureFor scope env=pure (aO env.cells scope.names []):=by
 unfold closureFor;have e:=eR (env:=env) scope.names [] h;simp only[bind_pure];exact e
theorem cy {cells:List (Str×Addr)}{y:Str}{c:Addr}:∀ {names:List (Str×E3)} {acc:List (Str×Addr)},(y,c)∈aO cells names acc->(y,c)∈acc∨(cells.lookup y=some c/\(y,Cu)∈names)
 |[],acc,h=>.inl h
 |(n,k)::r,acc,h=>by
  unfold aO at h
  by_cases hk:(k==Cu)=true
  ·rw[if_pos hk]at h;have F:k = .free:=beq_iff_eq.mp hk;subst F
   cases J:cells.lookup n with
   | none =>
     rw[J]at h
     rcases cy h with z|⟨j,B⟩
     ·exact .inl z
     ·exact .inr ⟨j,Ci _ B⟩
   | some c' =>
     rw[J]at h
     rcases cy h with z|⟨j,B⟩
     ·rcases Cb.mp z with e|z
      ·cases e
       exact .inr ⟨J,CN⟩
      ·exact .inl z
     ·exact .inr ⟨j,Ci _ B⟩
  ·rw[if_neg hk]at h
   rcases cy h with z|⟨j,B⟩
   ·exact .inl z
   ·exact .inr ⟨j,Ci _ B⟩
theorem cz {cells:List (Str×Addr)}{y:Str}{c:Addr}(j:cells.lookup y=some c):∀ {names:List (Str×E3)} {acc:List (Str×Addr)},((y,c)∈acc∨(y,Cu)∈names)->(y,c)∈aO cells names acc
 |[],acc,h=>by
  rcases h with h|h
  ·exact h
  ·simp at h
 |(n,k)::r,acc,h=>by
  unfold aO
  by_cases hk:(k==Cu)=true
  ·rw[if_pos hk];have z:k = .free:=beq_iff_eq.mp hk;subst z
   cases hl:cells.lookup n with
   | none =>
     refine cz j ?_
     rcases h with h|h
     ·exact .inl h
     ·rcases Cb.mp h with e|h
      ·cases e;rw[hl]at j;cases j
      ·exact .inr h
   | some c' =>
     refine cz j ?_
     rcases h with h|h
     ·exact .inl (Ci _ h)
     ·rcases Cb.mp h with e|h
      ·cases e;rw[hl]at j;cases j;exact .inl CN
      ·exact .inr h
  ·rw[if_neg hk];refine cz j ?_
   rcases h with h|h
   ·exact .inl h
   ·rcases Cb.mp h with e|h
    ·cases e;exact absurd rfl hk
    ·exact .inr h
theorem cu:∀ (names:List (Str×E3)) (n:Nat) (acc acc':List (Str×Addr)),Ds n names (acc++acc')=Ds n names acc++acc'
 |[],_,_,_=>rfl
 |(x,k)::r,n,acc,acc'=>by
  unfold Ds
  by_cases j:(k==Dp)=true
  ·rw[if_pos j,if_pos j];exact cu r (n+1) ((x,n)::acc) acc'
  ·rw[if_neg j,if_neg j];exact cu r n acc acc'
theorem cv:∀ {names:List (Str×E3)} {n:Nat} {acc:List (Str×Addr)} {y:Str} {c:Addr},(y,c)∈Ds n names acc->(y,c)∈acc∨(n<=c/\(y,Dp)∈names)
 |[],_,_,_,_,h=>.inl h
 |(x,k)::r,n,acc,y,c,h=>by
  unfold Ds at h
  by_cases hk:(k==Dp)=true
  ·rw[if_pos hk]at h;have j:k = .cell:=beq_iff_eq.mp hk;subst j
   rcases cv h with z|⟨B,F⟩
   ·rcases Cb.mp z with e|z
    ·cases e;exact .inr ⟨Cc _,CN⟩
    ·exact .inl z
   ·exact .inr ⟨Nat.le_of_succ_le B,Ci _ F⟩
  ·rw[if_neg hk]at h
   rcases cv h with z|⟨B,F⟩
   ·exact .inl z
   ·exact .inr ⟨B,Ci _ F⟩
structure aW (sc osc:Scope) (oN N':List Str) (fr:List (Option Nat)):Prop where
 kind:sc.kind = .function
 nd:(sc.names.map (·.1)).Nodup
 ndN:N'.Nodup
 free:∀ x∈sc.names,x.2 = .free->osc.names.lookup x.1=some .cell∨osc.names.lookup x.1=some .free
 len:fr.length=N'.length
 fr:∀ (i j:Nat) (x:Str),N'[i]? = some x->fr[i]? = some (some j)->oN[j]? = some x/\(x,Cu)∈sc.names
noncomputable def inh (fr:List (Option Nat)) (σ:St):St:=fr.map λo=>o.bind λj=>(σ[j]?).join
noncomputable def aX (X:Cx) (sc:Scope) (L:Addr):Env :=
 { scope:=relabel sc X.env,locals:=L,globals:=X.env.globals,cells:=Ds (L+1) sc.names (aO X.env.cells sc.names []),qual:=X.env.qual,func:=none,code:=X.env.code,frame:=X.env.frame,builtins:=X.env.builtins }
noncomputable def aA (X:Cx) (sc:Scope) (N':List Str) (s:hQ) (H:Hp) (fp:List Addr):Cx :=
 { X with N:=N',s₀:=s,H₀:=H,env:=aX X sc s.heap.objs.size,outer:=X.stack,stack:=X.stack,ex:=fp,fn:=λx=>sc.names.lookup x==some .cell,pn:=[],xe:=λ_ _=>False }
theorem aN:∀ {l:List (Str×E3)} {x:Str} {k:E3},(l.map (·.1)).Nodup->(x,k)∈l->l.lookup x=some k
 |(y,k')::r,x,k,nd,h=>by
  have nd':(y::r.map (·.1)).Nodup:=nd;obtain⟨z,B⟩:=EI.mp nd';rw[DD]
  rcases Cb.mp h with e|hm
  ·cases e;simp
  ·have j:(x==y)=false:=by
    refine beq_eq_false_iff_ne.mpr λe=>?_;subst e;exact z (CO.mpr ⟨(x,k),hm,rfl⟩)
   rw[j];exact aN B hm
theorem bT {env:Env}:∀ {names:List (Str×E3)} {x:Str},
 (names.map fun (n,k)=>if (k==Cu&&env.scope.kind == .function&&env.kindOf n==some .cell) then (n,Dp) else (n,k)).lookup x =
   (names.lookup x).map λk=>if (k==Cu&&env.scope.kind == .function&&env.kindOf x==some .cell) then Dp else k
 |[],_=>rfl
 |(n,k)::r,x=>by
  have ih:=bT (env:=env) (names:=r) (x:=x);show List.lookup x ((if (k==Cu&&env.scope.kind == .function&&env.kindOf n==some .cell)=true then (n,Dp) else (n,k))::_)=_
  rw[DD (a:=x) (b:=k)]
  by_cases hx:x=n
  ·subst hx;simp only[beq_self_eq_true];show _=some (if (k==Cu&&env.scope.kind == .function&&env.kindOf x==some .cell)=true then Dp else k)
   by_cases j:(k==Cu&&env.scope.kind == .function&&env.kindOf x==some .cell)=true
   ·rw[if_pos j,if_pos j,DD];simp only[beq_self_eq_true]
   ·rw[if_neg j,if_neg j,DD];simp only[beq_self_eq_true]
  ·have z:(x==n)=false:=beq_eq_false_iff_ne.mpr hx;rw[z]
   by_cases j:(k==Cu&&env.scope.kind == .function&&env.kindOf n==some .cell)=true
   ·rw[if_pos j,DD,z];exact ih
   ·rw[if_neg j,DD,z];exact ih
section
variable {pins:List (Addr×Obj)} {σ:St} {H:Hp} {s:hQ} {sc:Scope} {N':List Str} {fr:List (Option Nat)} {fp:List Addr}
theorem dR (I:Inv X pins σ H s)(B:aW sc X.env.scope X.N N' fr):∀ x∈sc.names,x.2 = .free->(X.env.cells.lookup x.1).isSome=true:=λx hx e=>by
 obtain⟨c,j⟩:=I.ok.has x.1 (B.free x hx e);rw[j];rfl
theorem ox (I:Inv X pins σ H s)(f2:∀ b∈fp,bK X pins H b)(BD:∀ b∈fp,b<s.heap.objs.size)(B:aW sc X.env.scope X.N N' fr) :
 Inv (aA X sc N' s H fp) [] (inh fr σ) H { s with heap:=Ip (s.heap.push { cls:=.type "dict",data:=.dict #[] }) sc.names }:=by
 have J:∀ b o,s.heap.get? b=some o->(Ip (s.heap.push { cls:=.type "dict",data:=.dict #[] }) sc.names).get? b=some o:=λb o e=>Gx _ _ b o (hD _ e);have ok:=cellsFrom_ok sc.names (s.heap.push { cls:=.type "dict",data:=.dict #[] }) (s.heap.objs.size+1) [] ⟨λ_ _ hm=>(nomatch hm),HX⟩ (by rw[CY];exact Cc _)
 rw[CY]at ok;have capp:Ds (s.heap.objs.size+1) sc.names (aO X.env.cells sc.names [])=Ds (s.heap.objs.size+1) sc.names []++aO X.env.cells sc.names []:=cu sc.names _ [] _;have cof:∀ x c,(aX X sc s.heap.objs.size).cells.lookup x=some c->((x,c)∈Ds (s.heap.objs.size+1) sc.names []/\s.heap.objs.size<c)∨(X.env.cells.lookup x=some c/\(x,Cu)∈sc.names):=λx c e=>by
  have m:=CU e;have m':(x,c)∈Ds (s.heap.objs.size+1) sc.names (aO X.env.cells sc.names []):=m;rw[capp]at m'
  rcases Df.mp m' with z|z
  ·exact .inl ⟨z,(ok.empty x c z).2⟩
  ·rcases cy z with q|q
   ·simp at q
   ·exact .inr q
 have cOld:∀ x c,X.env.cells.lookup x=some c->c<s.heap.objs.size:=λx c e=>by
  obtain⟨v,q⟩:=I.cell x c e;exact q.lt
 have kindF:∀ x,(x,Cu)∈sc.names->(aX X sc s.heap.objs.size).kindOf x=some .cell∨(aX X sc s.heap.objs.size).kindOf x=some .free:=λx hx=>by
  have e1:sc.names.lookup x=some .free:=aN B.nd hx;have U:(aX X sc s.heap.objs.size).kindOf x=_:=bT (env:=X.env) (names:=sc.names) (x:=x);rw[e1]at U;rw[U]
  by_cases L:(Cu==Cu&&X.env.scope.kind == .function&&X.env.kindOf x==some .cell)=true
  ·exact .inl (by simp only[Eg,if_pos L])
  ·exact .inr (by simp only[Eg,if_neg L])
 have cellF:∀ x c,(x,Cu)∈sc.names->X.env.cells.lookup x=some c->(aX X sc s.heap.objs.size).cells.lookup x=some c:=λx c hx L=>by
  have m:=cz (acc:=[]) L (.inr hx);have m2:(x,c)∈(aX X sc s.heap.objs.size).cells:=by
   show (x,c)∈Ds (s.heap.objs.size+1) sc.names (aO X.env.cells sc.names []);rw[capp];exact Cq _ m
  cases F:(aX X sc s.heap.objs.size).cells.lookup x with
  | none =>
    exfalso
    have:∀ {l:List (Str×Addr)},(x,c)∈l->l.lookup x=none->False:=by
     intro l
     induction l with
     |nil=>intro h;simp at h
     | cons a r ih =>
       intro h e;obtain⟨y,d⟩:=a;rw[DD]at e
       rcases Cb.mp h with z|z
       ·cases z;simp at e
       ·by_cases hxy:(x==y)=true
        ·rw[hxy]at e;cases e
        ·simp only[F7]at hxy;rw[hxy]at e;exact ih z e
    exact this m2 F
  | some c' =>
    rcases cof x c' F with⟨z,_⟩|⟨z,_⟩
    ·rcases cv z with q|⟨_,q⟩
     ·simp at q
     ·have a1:=aN B.nd hx;have a2:=aN B.nd q;rw[a1]at a2;cases a2
    ·rw[L]at z;rw[z]
 have kindC:∀ x,(aX X sc s.heap.objs.size).kindOf x=some .cell->(x,Dp)∈sc.names∨(x,Cu)∈sc.names:=λx e=>by
  have U:(aX X sc s.heap.objs.size).kindOf x=_:=bT (env:=X.env) (names:=sc.names) (x:=x);rw[U]at e
  cases F:sc.names.lookup x with
  |none=>rw[F]at e;cases e
  | some k =>
    rw[F]at e;have m:=CU F
    cases k with
    |cell=>exact .inl m
    |free=>exact .inr m
    |«local»=>simp at e
    |globalImplicit=>simp at e
    |globalExplicit=>simp at e
 have kindFr:∀ x,(aX X sc s.heap.objs.size).kindOf x=some .free->(x,Cu)∈sc.names:=λx e=>by
  have U:(aX X sc s.heap.objs.size).kindOf x=_:=bT (env:=X.env) (names:=sc.names) (x:=x);rw[U]at e
  cases F:sc.names.lookup x with
  |none=>rw[F]at e;cases e
  | some k =>
    rw[F]at e;have m:=CU F
    cases k with
    |free=>exact m
    |cell=>simp at e
    |«local»=>simp at e
    |globalImplicit=>simp at e
    |globalExplicit=>simp at e
 refine⟨⟨I.ok.mod,B.kind,I.ok.glob,I.ok.blt,Cc _,λy z c h1 h2=>?_,λy hy=>?_,λy c hf h=>?_,I.ok.hd,I.ok.frames,.inl rfl,λb Y=>⟨?_,λx c e=>?_⟩,λb o e=>I.bs b o e,?_,λb o e Y=>?_,λb Y=>?_,I.stack,I.stkFree⟩,
  rfl,I.bare,Un.kept J,⟨_,(Heap.Ns.new s.heap (.type "dict")).keeps (Gx _ _),λi x v h1 h2 h3=>?_⟩,λy c h=>?_,I.hok.fresh (Cc _),λy c h=>?_,λp hp=>absurd (show p∈([]:List (Addr×Obj)) from hp) (by simp),I.hok.kept J,?_⟩
 ·rcases cof y c h1 with⟨a1,a2⟩|⟨a1,a2⟩
  ·rcases cof z c h2 with⟨b1,b2⟩|⟨b1,b2⟩
   ·exact name_of_addr ok.apart a1 b1
   ·exact absurd (cOld z c b1) (J9.mpr (Et a2))
  ·rcases cof z c h2 with⟨b1,b2⟩|⟨b1,b2⟩
   ·exact absurd (cOld y c a1) (J9.mpr (Et b2))
   ·exact I.ok.inj y z c a1 b1
 ·have BH:(y,Dp)∈sc.names∨(y,Cu)∈sc.names:=by
   rcases hy with hy|hy
   ·exact kindC y hy
   ·exact .inr (kindFr y hy)
  rcases BH with q|q
  ·exact DU.mp (EW sc.names _ _ (.inl (aN B.nd q)))
  ·obtain⟨c,L⟩:=DU.mp (dR I B _ q rfl);exact⟨c,cellF y c q L⟩
 ·have BI:(sc.names.lookup y==some .cell)=true:=hf;have BE:sc.names.lookup y=some .cell:=by simpa using BI
  rcases cof y c h with⟨_,a2⟩|⟨_,a2⟩
  ·exact Et a2
  ·rw[aN B.nd a2]at BE;cases BE
 ·exact CG (BD b Y)
 ·rcases cof x c e with⟨_,a2⟩|⟨a1,_⟩
  ·exact EV (Nat.lt_trans (BD b Y) a2)
  ·exact(f2 b Y).2.2.2.2.1 x c a1
 ·exact D7 I.ok.bsz I.sz
 ·obtain⟨f0,f1,f3,f4,f5,f6⟩:=f2 b Y
  rcases f4 with z|z
  ·exact I.ok.noex b o e z
  ·exact absurd (Co (Co (Cg e) I.ok.bsz) z) (DA _)
 ·obtain⟨f0,f1,f3,f4,f5,f6⟩:=f2 b Y;exact λz=>(Cb.mp (I.stkSub b z)).elim f1 f3
 ·have hi:∃ j,fr[i]? = some (some j) /\ σ[j]? = some (some v):=by
   unfold inh at h2;rw[CB]at h2
   cases e:fr[i]? with
   |none=>rw[e]at h2;cases h2
   | some o =>
     rw[e]at h2
     cases o with
     |none=>cases h2
     | some j =>
       refine⟨j,rfl,?_⟩;have O:some ((σ[j]?).join)=some (some v):=h2
       cases e' : σ[j]? with
       |none=>rw[e']at O;cases O
       |some w=>rw[e']at O;cases O;rfl
  obtain⟨j,e1,U⟩:=hi;obtain⟨n1,n2⟩:=B.fr i j x h1 e1;obtain⟨m,hn,F⟩:=I.loc;have hv:Vis X.env.scope x:=.inr (B.free (x,.free) n2 rfl);obtain⟨u,ru,lk⟩:=F j x v n1 U hv;refine⟨u,ru,.inr ⟨kindF x n2,?_⟩⟩
  rcases lk with⟨k1,_⟩|⟨_,c,L,Z⟩
  ·have BG:X.env.scope.names.lookup x=some .local:=k1
   rcases B.free (x,.free) n2 rfl with z|z
   ·rw[BG]at z;cases z
   ·rw[BG]at z;cases z
  ·exact⟨c,cellF x c n2 L,Z.keeps J⟩
 ·rcases cof y c h with⟨a1,a2⟩|⟨a1,a2⟩
  ·exact⟨_,(ok.empty y c a1).1⟩
  ·obtain⟨v,q⟩:=I.cell y c a1;exact⟨v,q.keeps J⟩
 ·rcases cof y c h with⟨a1,a2⟩|⟨a1,a2⟩
  ·exact I.hok.fresh (Et a2)
  ·exact I.freeC y c a1
 ·show (inh fr σ).length=N'.length;unfold inh;rw[Ca];exact B.len
theorem i0 {σ':St}{s':hQ}(I:Inv X pins σ H s)(f2:∀ b∈fp,bK X pins H b)(J:Inv (aA X sc N' s H fp) [] σ' H' s')(hs:D8 s.heap.objs.size s'.heap h') :
 Inv X pins σ H' { s' with heap:=h' }:=by
 have u:Un (frs X.stack) fp H H' s.heap s'.heap:=J.base;have ne:∀ b o,s.heap.get? b=some o->b≠s.heap.objs.size:=λb o e=>CG (Cg e);refine I.call' (s':={ s' with heap:=h' }) (ch:=fp) J.os ⟨λb o e n j hx=>?_,λb o e n j hx=>?_,u.free,λb o e hx=>?_,u.tups,u.frzs,u.tbls⟩ (λb v e=>?_) J.bare λb j=>?_
 ·exact(hs.2 b (ne b o e)).trans (u.keep b o e n j hx)
 ·obtain⟨sl,q⟩:=u.slot b o e n j hx;exact⟨sl,(hs.2 b (ne b o e)).trans q⟩
 ·obtain⟨o',q⟩:=u.there b o e hx;exact⟨o',(hs.2 b (ne b o e)).trans q⟩
 ·refine(J.hok b v e).stay (λc w F q=>(hs.2 c ?_).trans q) (λ_ q=>q) λ_ _ q=>q;have fr:H' s.heap.objs.size=none:=J.free
  rcases F with z|z
  ·rw[z];intro B;rw[B,fr]at e;cases e
  ·intro B;rw[B,fr]at z;cases z
 ·obtain⟨f0,f1,U,f4,L,O⟩:=f2 b j;exact⟨f4,f1,L,O⟩
theorem iC {Q:Env->hQ->Prop}{E:h6->hQ->Prop}{M:HM}(h:Q { scope:=sc,locals:=s.heap.objs.size,globals:=X.env.globals,cells:=Ds (s.heap.objs.size+1) sc.names (aO X.env.cells sc.names []),qual:=X.env.qual,func:=none,code:=X.env.code,frame:=X.env.frame,builtins:=X.env.builtins }
   { s with heap:=Ip (s.heap.push { cls:=.type "dict",data:=.dict #[] }) sc.names }) :
 Cj M A (GH sc X.env.globals (aO X.env.cells sc.names []) [] X.env.qual none .none (some X.env)) Q E s:=by
 simp only[GH,HB,if_true];refine gV (wpAny_alloc ?_);refine gV (wpAny_layCells _ (λname kind cells=>by cases hkc:kind==Dp <;> simp[hkc]) _ _ _ _ ?_)
 rw[show ({ s with heap:=s.heap.push { cls:=.type "dict",data:=.dict #[] } }:hQ).heap.objs.size=s.heap.objs.size+1 from CY ..]
 exact gV (y1 (y1 h))
theorem jg (hc:X.calm=true){rest:List CF}{E:h6->hQ->Prop}(hx:∀ e s,X.xe e s->False)(B:aW sc X.env.scope X.N N' fr)(ha:∀ g',rest[0]? = some g'->g'.is_async=0)(hi:PI X target iter wi){tb:Addr->TC}(hg:∀ s H fp,PG (aA X sc N' s H fp) target g)(j:∀ s H fp p,PB (aA X sc N' s H fp) (λk=>be ifs (aA X sc N' s H fp).env >>= λok=>if ok=true then aV elt (⟨target,iter,ifs,0⟩::rest) sc pos 0 (.ref p) (aA X sc N' s H fp).env k else k) (tb p)){Nn:Addr->St->Hp->Prop}{RR:h6->Addr->Result->hQ->Prop}(I:Inv X pins σ H s)(h:wi σ H λJ H1=>∀ p,H1 p=none->eA J g (tb p) (Nn p) (inh fr σ) (upd H1 p (.lst [])))(hR:∀ p fp s3 U s' σ' H' f,Inv X pins σ U s3->(∀ b∈fp,bK X pins U b)->Inv (aA X sc N' s3 U fp) [] σ' H' s'->Nn p σ' H'->RR (.ref p) s3.heap.objs.size (.ok f) s') :
 Cj (model X.prog X.w) X.A (eval iter X.env) (λx s₁=>Cj (model X.prog X.w) X.A (Hv x) (λit s₂=>Cj (model X.prog X.w) X.A (newList []) (λacc s₃ =>
  Cj (model X.prog X.w) X.A (GH sc X.env.globals (aO X.env.cells sc.names []) [] X.env.qual none .none (some X.env)) (λcenv s₄ =>
   F9 (model X.prog X.w) X.A (.compStart (.ListComp elt (⟨target,iter,ifs,0⟩::rest) sc pos) 0 it acc { cenv with scope:=relabel sc X.env }) (RR acc cenv.locals) s₄) E s₃) E s₂) E s₁) E s:=by
 refine nox hx (thn (hi pins s σ H _ I h) λv s1 h1=>nox hx (thn h1 λitv s2 h2=>?_));obtain⟨it,fp,tn,J,H2,e,I2,T,F,f2,hw⟩:=h2;subst e;have hf:H2 s2.heap.objs.size=none:=I2.hok.fresh (Cc _);refine wpAny_newList ?_;have I3:Inv X pins σ (upd H2 s2.heap.objs.size (.lst [])) { s2 with heap:=s2.heap.push { cls:=.type "list",dict:=none,data:=.seq ([]:List h6).toArray } } :=
  I2.laid (t':=s2.toks) (λb u e=>hD _ e) (Cc _) ⟨DB _,[],0,.nil,Ce _ rfl⟩
 have fneq:∀ b∈fp,b≠s2.heap.objs.size:=λb j z=>by
  obtain⟨o,e,_⟩:=T.obj _ _ F b j;exact absurd (Cg e) (by rw[z];exact DA _)
 have Y:∀ b∈fp,bK X pins (upd H2 s2.heap.objs.size (.lst [])) b:=λb j=>⟨by rw[ak (fneq b j)];exact(f2 b j).1,(f2 b j).2⟩
 have Z:∀ b∈fp,b<(s2.heap.push { cls:=.type "list",dict:=none,data:=.seq ([]:List h6).toArray }).objs.size:=λb j=>by
  obtain⟨o,e,_⟩:=T.obj _ _ F b j;rw[CY];exact Nat.lt_succ_of_lt (Cg e)
 have BD:tn 0 (s2.heap.push { cls:=.type "list",dict:=none,data:=.seq ([]:List h6).toArray }):=T.keep _ _ _ F λb _ o e=>hD _ e;refine iC ?_;have O:=ox (N':=N') I3 Y Z B;have L:=T.keep _ (h':=Ip (({ s2 with heap:=s2.heap.push { cls:=.type "list",dict:=none,data:=.seq ([]:List h6).toArray } }:hQ).heap.push { cls:=.type "dict",data:=.dict #[] }) sc.names) _ BD λb _ o e=>Gx _ _ b o (hD _ e)
 have f4:∀ b∈fp,bK (aA X sc N' { s2 with heap:=s2.heap.push { cls:=.type "list",dict:=none,data:=.seq ([]:List h6).toArray } } (upd H2 s2.heap.objs.size (.lst [])) fp) [] (upd H2 s2.heap.objs.size (.lst [])) b:=λb j =>
  ⟨(Y b j).1,(O.ok.exf b j).1,O.ok.exfs b j,.inl j,(O.ok.exf b j).2,λp hp=>absurd (show p∈([]:List (Addr×Obj)) from hp) (by simp)⟩
 have loop:=hX (X:=aA X sc N' { s2 with heap:=s2.heap.push { cls:=.type "list",dict:=none,data:=.seq ([]:List h6).toArray } } (upd H2 s2.heap.objs.size (.lst [])) fp) (λ_ _ z=>z) hc
  (elt:=elt) (pos:=pos) (scope:=sc) (gens:=⟨target,iter,ifs,0⟩::rest) (d:=0) (acc:=.ref s2.heap.objs.size) rfl (λg' e=>ha g' (by simpa using e)) (hg _ _ _) (j _ _ _ _) O T L f4 (hw _ hf)
 refine Eu (fM (R:=λr s'=>match r with|.ok _=>∃ σ' H',Inv (aA X sc N' { s2 with heap:=s2.heap.push { cls:=.type "list",dict:=none,data:=.seq ([]:List h6).toArray } } (upd H2 s2.heap.objs.size (.lst [])) fp) [] σ' H' s'/\Nn s2.heap.objs.size σ' H'|.error _=>False)
  (gens:=⟨target,iter,ifs,0⟩::rest) (d:=0) rfl loop (T.self _ 0 _ _ _ L loop)) λr s5 hr=>?_
 cases r with
 |error e=>exact hr.elim
 | ok f =>
   obtain⟨σ5,H5,I5,n5⟩:=hr;exact hR _ fp _ _ s5 σ5 H5 f I3 Y I5 n5
noncomputable def m6 (wi:TI) (g:TG) (tb:Addr->TC) (fr:List (Option Nat)):TE:=λσ H Q=>wi σ H λJ H1=>∀ p,H1 p=none->eA J g (tb p) (λ_ H2=>Q (.ref p) H2) (inh fr σ) (upd H1 p (.lst []))
theorem i3 (B:aW sc X.env.scope X.N N' fr):∀ x∈sc.names,x.2 = .local->sc.names.lookup x.1=some .local:=λx hx e=>by
 obtain⟨n,k⟩:=x;have e':k = .local:=e;subst e';exact aN B.nd hx
theorem eS (z:X.calm=true){rest:List CF}(hx:∀ e s,X.xe e s->False)(B:aW sc X.env.scope X.N N' fr)(F:∀ g',rest[0]? = some g'->g'.is_async=0)(hi:PI X target iter wi){tb:Addr->TC}(L:∀ s H fp,PG (aA X sc N' s H fp) target g)(O:∀ s H fp p,PB (aA X sc N' s H fp) (λk=>be ifs (aA X sc N' s H fp).env >>= λok=>if ok=true then aV elt (⟨target,iter,ifs,0⟩::rest) sc pos 0 (.ref p) (aA X sc N' s H fp).env k else k) (tb p))(hs:∀ x,Dr iter X.env x=pure x) :
 PE X (.ListComp elt (⟨target,iter,ifs,0⟩::rest) sc pos) (m6 wi g tb fr):=by
 intro pins s σ H Q I h;rw[eval_ListComp];refine FV (use:=none) rfl hs (fN (dR I B)) B.kind (i3 B) (jg (Nn:=λp _ H2=>Q (.ref p) H2) (RR:=λacc C=>compPost (model X.prog X.w) X.A X.xe none (EP X pins σ Q) acc C) z hx B F hi L O I h ?_);intro p fp s3 H3 s' σ' H' f U Y J q;obtain⟨m,Z,_⟩:=J.loc;exact⟨m,Z,λh' j=>⟨.ref p,H',i0 U Y J j,rfl,q⟩⟩
theorem fO (hc:X.calm=true){rest:List CF}{spos:Pos}{i:Nat}(hx:∀ e s,X.xe e s->False)(B:aW sc X.env.scope X.N N' fr)(ha:∀ g',rest[0]? = some g'->g'.is_async=0)(hi:PI X target iter wi){tb:Addr->TC}(hg:∀ s H fp,PG (aA X sc N' s H fp) target g)(F:∀ s H fp p,PB (aA X sc N' s H fp) (λk=>be ifs (aA X sc N' s H fp).env >>= λok=>if ok=true then aV elt (⟨target,iter,ifs,0⟩::rest) sc pos 0 (.ref p) (aA X sc N' s H fp).env k else k) (tb p))(hs:∀ x,Dr iter X.env x=pure x)(L:PG X (.Name x pos') (fE i))(O:EO (.ListComp elt (⟨target,iter,ifs,0⟩::rest) sc pos) (some (.Name x pos')) spos.line X.env=pure true) :
 PS X (.Assign [.Name x pos'] (.ListComp elt (⟨target,iter,ifs,0⟩::rest) sc pos) spos) (lJ (m6 wi g tb fr) (fE i)):=by
 intro pins s σ H D I h;rw[exec_Assign_Name_used _ _ _ _ O];refine gV (DS (gV ?_));show Cj _ X.A (do let _ <- comprehension (.ListComp elt (⟨target,iter,ifs,0⟩::rest) sc pos) sc X.env _ (newList []) false (eval iter X.env) (some (assign (.Name x pos') X.env))) _ _ s
 refine gV (DR (FV (use:=some (assign (.Name x pos') X.env)) (Q:=λ_ s'=>SP X pins D .next s') rfl hs (fN (dR I B)) B.kind (i3 B)
  (jg (Nn:=λp _ H2=>D.nx (σ.set i (some (.ref p))) H2) (RR:=λacc C=>compPost (model X.prog X.w) X.A X.xe (some (assign (.Name x pos') X.env)) (λ_ s'=>SP X pins D .next s') acc C) hc hx B ha hi hg F I h ?_)) (λ_ s' hq=>y1 (y1 hq)) λ_ _ e=>e)
 intro p fp s3 H3 s' σ' H' f j f3 J q;obtain⟨m,⟨o,es,ep,ho,hd,hk,hm⟩,_⟩:=J.loc;have I4:Inv X pins σ H' s':=i0 (h':=s'.heap) j f3 J ⟨rfl,λ_ _=>rfl⟩;have hL:(aA X sc N' s3 H3 fp).env.locals=s3.heap.objs.size:=rfl;rw[hL]at ho;have U:H' s3.heap.objs.size=none:=J.free;have neL:s3.heap.objs.size≠X.env.locals:=EV j.lt;have nfs:s3.heap.objs.size∉X.fs:=j.nofs (Cc _);have I5:Inv X (pins++[(s3.heap.objs.size,o)]) σ H' s':=I4.pins_of λpr Y=>by
  rcases Df.mp Y with z|z
  ·exact I4.pin pr (Cq _ z)
  ·have e:pr=(s3.heap.objs.size,o):=by simpa using z
   subst e;exact⟨ho,U,neL,nfs,λv z=>by rw[hd]at z;cases z⟩
 show Cj _ X.A (assign (.Name x pos') X.env (.ref p)) _ _ _;refine thn (L _ s' σ H' (.ref p) (.ref p) D.nx I5 rfl q) λ_ s6 g9=>?_;obtain⟨σ6,H6,I6,q6⟩:=g9;obtain⟨Z,BD,_⟩:=I6.pin (s3.heap.objs.size,o) (Cq _ (Cq _ (by simp)))
 refine⟨m,⟨o,es,ep,Z,hd,hk,hm⟩,λh' BE=>⟨σ6,H6,?_,q6⟩⟩;refine(I6.unpinned).turned (t':=s6.toks) (it:=s3.heap.objs.size) (λb o F e=>(BE.2 b F).trans e) BD neL (.inr j.sz) (λy c e z=>?_) λpr Y z=>?_
 ·obtain⟨v,q⟩:=j.cell y c e;exact absurd q.lt (by rw[z];exact DA _)
 ·exact absurd (Cg (j.pin pr Y).1) (by rw[z];exact DA _)
end
end
end
section
open PySem.W (CodeHd tabObj kla_fn kla_obj)
noncomputable def fzO (a:Addr) (o:Obj):HO:=.frz o (.ext λh=>h.get? a=some o)
def zd (H:Hp) (P:Addr) (pos:Pos) (q:Str):Prop:=∃ ps,H P=some (.tbl ps)/\(ps = #[]∨∃ c' oc vs t,ps = #[F5 pos.line,F5 pos.col,.ref c']/\H c'=some (fzO c' oc)/\oc.data = .fields vs/\vs[1]? = some (.str q t))
def ze (mg:Str->Option h6) (base:Heap):Prop:=∃ bm ob,mg "__builtins__" = some (.ref bm)/\bm≠Gd/\base.get? bm=some ob/\ob.cls = .type "module" /\ ob.dict=some Gd/\ob.data = .plain
open PySem.W (envX)
structure xH (P:Ct) (w:CC) (K:Frag) (mg:Str->Option h6) (base:Heap) (k:Nat) (fs:List Addr) (a:Addr) (sp:Sp) (H:Hp) (h:Heap):Prop where
 fn:∃ o fd,H a=some (fzO a o)/\o.data = .func fd
 run:∀ (A:CK) (outer:List Env) (s1:hQ) (H1:Hp) (u1 u2:h6) (v1 v2:V) (Q:VK),Un fs [] H H1 h s1.heap->Room k A->gI P w K mg base A outer s1 H1->RelV v1 u1->RelV v2 u2->sp [v1,v2] H1 Q E0 ->
  F9 (model P w) A (.call (.ref a) ⟨[u1,u2],[]⟩) (CR CX0 outer P w H1 s1 Q E0) s1
structure xI (P:Ct) (w:CC) (K:Frag) (mg:Str->Option h6) (base:Heap) (k:Nat) (f:Addr) (fd:Ee) (ps:List Str) (sp:List Env->hQ->Sp):Prop where
 len:∀ o s vs H Q E,sp o s vs H Q E->vs.length=ps.length
 run:∀ (A:CK) (outer:List Env) (s:hQ) (H:Hp) (args:Args) (us:List h6) (vs:List V) (Q:VK) (E:XK),Room k A->gI P w K mg base A outer s H->GY s fd args (ps.zip us)->Vals vs us->sp outer s vs H Q E ->
  F9 (model P w) A (.call (.ref f) args) (CR CX0 outer P w H s Q E) s
end
namespace Zp
def At (t:Bool) (h:Heap) (i l:Addr) (k:Nat):Prop:=match t with|true=>h.IsTupleIter i l k|false=>h.IsListIter i l k
def Sq (t:Bool) (h:Heap) (l:Addr) (xs:Array h6):Prop:=match t with|true=>h.IsTuple l xs|false=>h.IsList l xs
variable {h:Heap}{i l:Addr}
theorem At.up {t:Bool}{h':Heap}{k:Nat}(x:At t h i l k)(e:∀ o,h.get? i=some o->h'.get? i=some o):At t h' i l k:=by
 cases t <;> (obtain⟨o,ho,r⟩:=x;exact⟨o,e o ho,r⟩)
variable {xs:Array h6}
theorem Sq.up {t:Bool}{h':Heap}(x:Sq t h l xs)(e:∀ o,h.get? l=some o->h'.get? l=some o):Sq t h' l xs:=by
 cases t <;> (obtain⟨o,ho,r⟩:=x;exact⟨o,e o ho,r⟩)
theorem At.lt {t:Bool}{k:Nat}(x:At t h i l k):∃ o,h.get? i=some o /\ ∀ v,o.data ≠ .cell v:=by
 cases t <;> (obtain⟨o,ho,j,hd⟩:=x;exact⟨o,ho,λv z=>by rw[hd]at z;cases z⟩)
variable {x p r:h6}{z T j a b:Addr}{u:Bool}{ys:Array h6}
section
variable {prog:Ct} {w:CC} {A:CK} {E:h6->hQ->Prop} {s:hQ}
open Builtin.SmallTypes in
theorem qC {k:Nat}{Q:h6->hQ->Prop}(hi:s.heap.IsTupleIter i l k)(O:s.heap.IsTuple l xs)(hx:xs[k]? = some x)(q:∀ h',h'.IsTupleIter i l (k+1)->D8 i s.heap h'->Q x { s with heap:=h' }):Cj (model prog w) A (nextOf (.ref i)) Q E s:=by
 obtain⟨ob,z,B,j⟩:=id hi;obtain⟨oq,J,_,nq,L⟩:=O;unfold nextOf;refine gV (CM (name:=g8 "__next__") hi.typeIs DF (Dl DF hi.typeIs Fn ?_ (Fg _)));refine gV (m:=field (.ref i) 0) (CD z j (x:=.ref l) rfl ?_);refine(if_neg (c:=(DK l==Fq)=true) q7) ▸ ?_;refine gV (m:=field (.ref i) 1) (CD z j (x:=.int k 0) rfl ?_);refine gV (m:=seqItems? (.ref l)) (DG J L ?_);simp only[Ej,hx];refine gV (wpAny_setField z j (by simp) (y1 ⟨x,rfl,y1 (q _ ⟨_,Gy _ z (Obj.isFreed_of_fields (HD j _)),(Obj.cls_mapFields ..).trans B,?_⟩ (Hc ..))⟩))
 rw[HD j];simp[F5]
open Builtin.SmallTypes in
theorem tI {k:Nat}{Q:h6->hQ->Prop}(L:A.handled=none)(hi:s.heap.IsTupleIter i l k)(O:s.heap.IsTuple l xs)(hx:xs[k]? = none)(q:∀ h' e,II i s.heap h'->(∃ o,h'.get? e=some o/\o.cls = .type "StopIteration")->E (.ref e) { s with heap:=h' }):Cj (model prog w) A (nextOf (.ref i)) Q E s:=by
 obtain⟨ob,j,U,z⟩:=id hi;obtain⟨oq,B,_,nq,J⟩:=O;unfold nextOf;refine gV (CM (name:=g8 "__next__") hi.typeIs DF (Dl DF hi.typeIs Fn ?_ (Fg _)));refine gV (m:=field (.ref i) 0) (CD j z (x:=.ref l) rfl ?_);refine(if_neg (c:=(DK l==Fq)=true) q7) ▸ ?_;refine gV (m:=field (.ref i) 1) (CD j z (x:=.int k 0) rfl ?_);refine gV (m:=seqItems? (.ref l)) (DG B J ?_);simp only[Ej,hx];refine gV (E8 (gV (wpAny_setField j z (by simp) ?_)))
 refine gV (m:=newExc (.type "StopIteration") []) ?_;simp only[newExc,newTuple];refine gV (Dq ?_ (by size_fits))
 refine gV (m:=firstArgMember _ _) (FL (a:=Fq) (by first|rfl|(simp only[firstArgMember];rfl)) (Dq ?_ (by size_fits)))
 simp only[raiseNew];refine gV (wpAny_handled ?_)
 first|rw[show A.in1.handled=none from L]|rw[L]
 exact gV (y1 (wpAny_throw (q _ _ (((Hc ..).extBut.push _).push _) ⟨_,Ce _ rfl,rfl⟩)))
open Builtin.SmallTypes in
theorem eB {t:Bool}{k:Nat}{Q:h6->hQ->Prop}(hi:At t s.heap i l k)(j:Sq t s.heap l xs)(hx:xs[k]? = some x)(q:∀ h',At t h' i l (k+1)->D8 i s.heap h'->Q x { s with heap:=h' }):Cj (model prog w) A (nextOf (.ref i)) Q E s:=by
 cases t with
 |true=>exact qC hi j hx q
 |false=>exact wpAny_nextOf_list_item hi j hx q
open Builtin.SmallTypes in
theorem nx_end {t:Bool}{k:Nat}{Q:h6->hQ->Prop}(j:A.handled=none)(hi:At t s.heap i l k)(z:Sq t s.heap l xs)(hx:xs[k]? = none)(q:∀ h' e,II i s.heap h'->(∃ o,h'.get? e=some o/\o.cls = .type "StopIteration")->E (.ref e) { s with heap:=h' }):Cj (model prog w) A (nextOf (.ref i)) Q E s:=by
 cases t with
 |true=>exact tI j hi z hx q
 |false=>exact wpAny_nextOf_list_end j hi z hx q
open Builtin.SmallTypes in
theorem vI {O:Addr}{t:Bool}{k:Nat}{y:h6}{Q:h6->hQ->Prop}(D:GI z T O i j a b)(J:FN s.heap z T O .none)(hT:DY s.heap T (.ref i) (.ref j))(hO:DY s.heap O p r)(hi:At t s.heap i a k)(hj:At u s.heap j b k)(ha:Sq t s.heap a xs)(hb:Sq u s.heap b ys)(hx:xs[k]? = some x)(hy:ys[k]? = some y)(q:∀ h',FN h' z T O (F5 s.heap.objs.size)->DY h' O x y->At t h' i a (k+1)->At u h' j b (k+1)->DY h' s.heap.objs.size x y ->
   (∀ c o,c≠z->c≠O->c≠i->c≠j->s.heap.get? c=some o->h'.get? c=some o)->Q (.ref s.heap.objs.size) { s with heap:=h' }) :
 Cj (model prog w) A (Fo.«zip.__next__» ⟨[.ref z],[]⟩) (λfin s'=>∃ v,fin = .done (.ret v)/\Q v s') E s:=by
 refine gV (m:=field (.ref z) 2) (CD J rfl (x:=.bool false) rfl ?_);refine gV (m:=field (.ref z) 3) (CD J rfl (x:=.ref T) rfl ?_);refine gV (DG hT rfl ?_);refine gV (m:=ownedTupleIsFree (.ref z)) ?_;unfold ownedTupleIsFree;refine gV (CD J rfl (x:=.none) rfl (y1 ?_));simp only[if_true];refine gV (E8 (gV (CD J rfl (x:=.ref O) rfl (gV (CL J (by simp) λg1 z1 s1=>?_)))))
 have Z1:FN g1 z T O .ellipsis:=z1;clear z1;refine gV ?_;simp only[Ex,IS,EK,List.forIn_nil];refine gV (gV (FW (gV (m:=nextOf (.ref i)) ?_)));refine eB (hi.up λo e=>s1.extBut _ o D.i1z e) (ha.up λo e=>s1.extBut _ o D.l1z e) hx λg2 Y s2=>y1 ?_;have O2:DY g2 O p r:=s2.extBut _ _ D.TOi1 (s1.extBut _ _ D.TOz hO);refine gV (DG O2 rfl (gV (Fc O2 λg3 o3 s3=>?_)));have O3:DY g3 O x r:=o3;clear o3;refine gV (GJ (y1 (gV (gV (FW (gV (m:=nextOf (.ref j)) ?_))))));refine eB (hj.up λo e=>s3.extBut _ o D.TOi2.symm (s2.extBut _ o D.i12.symm (s1.extBut _ o D.i2z e))) (hb.up λo e=>s3.extBut _ o D.l2TO (s2.extBut _ o D.l2i1 (s1.extBut _ o D.l2z e))) hy λg4 Z s4=>y1 ?_;have O4:DY g4 O x r:=s4.extBut _ _ D.TOi2 O3;refine gV (DG O4 rfl (gV (Fc O4 λB o5 s5=>?_)));have O5:DY B O x y:=o5;clear o5;refine gV (GJ (y1 (y1 (gV (DG O5 rfl (gV (wpAny_newTuple ?_)))))));have sz:B.objs.size=s.heap.objs.size:=by rw[s5.1,s4.1,s3.1,s2.1,s1.1]
 have k5:∀ c o,c≠z->c≠O->c≠i->c≠j->s.heap.get? c=some o->B.get? c=some o:=λc o F L c3 c4 e =>
  s5.extBut _ _ L (s4.extBut _ _ c4 (s3.extBut _ _ L (s2.extBut _ _ c3 (s1.extBut _ _ F e))))
 have Z5:FN B z T O .ellipsis:=s5.extBut _ _ D.TOz.symm (s4.extBut _ _ D.i2z.symm (s3.extBut _ _ D.TOz.symm (s2.extBut _ _ D.i1z.symm Z1)));have I5:At t B i a (k+1):=Y.up λo e=>s5.extBut _ o D.TOi1.symm (s4.extBut _ o D.i12 (s3.extBut _ o D.TOi1.symm e));have J5:At u B j b (k+1):=Z.up λo e=>s5.extBut _ o D.TOi2.symm e;have zl:z<B.objs.size:=Cg Z5;refine gV (m:=ownedTupleHandOut (.ref z) (.ref B.objs.size)) ?_;unfold ownedTupleHandOut;refine gV (CL (hD _ Z5) (by simp) λg7 z7 s7=>?_)
 have Z7:FN g7 z T O (F5 B.objs.size):=z7;clear z7;refine CL Z7 (by simp) λU z8 s8=>?_
 have Z8:FN U z T O (F5 B.objs.size):=z8;clear z8;have up:∀ c o,c≠z->B.get? c=some o->U.get? c=some o:=λc o F e=>s8.extBut _ _ F (s7.extBut _ _ F (hD _ e));have P8:DY U B.objs.size x y:=s8.extBut _ _ (EV zl) (s7.extBut _ _ (EV zl) (Ce _ rfl));rw[sz]at Z8 P8;refine y1 ⟨_,rfl,?_⟩;show Q (.ref B.objs.size) _;rw[sz];exact q U Z8 (up _ _ D.TOz O5) (I5.up λo e=>up _ o D.i1z e) (J5.up λo e=>up _ o D.i2z e) P8 λc o F L c3 c4 e=>up c o F (k5 c o F L c3 c4 e)
open Builtin.SmallTypes in
theorem xJ {O:Addr}{t:Bool}{k:Nat}{Q:Fin->hQ->Prop}(hn:A.handled=none)(D:GI z T O i j a b)(J:FN s.heap z T O .none)(hT:DY s.heap T (.ref i) (.ref j))(hO:DY s.heap O p r)(hi:At t s.heap i a k)(hj:At u s.heap j b k)(ha:Sq t s.heap a xs)(hb:Sq u s.heap b ys)(L:xs[k]? = none∨ys[k]? = none)(q:∀ h' e,(∀ c o,c≠z->c≠O->c≠i->c≠j->s.heap.get? c=some o->h'.get? c=some o)->(∃ o,h'.get? e=some o/\o.cls = .type "StopIteration")->E (.ref e) { s with heap:=h' }) :
 Cj (model prog w) A (Fo.«zip.__next__» ⟨[.ref z],[]⟩) Q E s:=by
 refine gV (m:=field (.ref z) 2) (CD J rfl (x:=.bool false) rfl ?_);refine gV (m:=field (.ref z) 3) (CD J rfl (x:=.ref T) rfl ?_);refine gV (DG hT rfl ?_);refine gV (m:=ownedTupleIsFree (.ref z)) ?_;unfold ownedTupleIsFree;refine gV (CD J rfl (x:=.none) rfl (y1 ?_));simp only[if_true];refine gV (E8 (gV (CD J rfl (x:=.ref O) rfl (gV (CL J (by simp) λg1 z1 s1=>?_)))))
 have Z1:FN g1 z T O .ellipsis:=z1;clear z1;refine gV ?_;simp only[Ex,IS,EK,List.forIn_nil];refine gV (gV (FW (gV (m:=nextOf (.ref i)) ?_)));have U:At t g1 i a k:=hi.up λo e=>s1.extBut _ o D.i1z e;have Y:Sq t g1 a xs:=ha.up λo e=>s1.extBut _ o D.l1z e
 cases hx:xs[k]? with
 | none =>
   refine nx_end hn U Y hx λg2 e s2 he=>?_;obtain⟨oe,B,F⟩:=he;have Z2:FN g2 z T O .ellipsis:=s2 _ _ D.i1z.symm Z1;have ez:e≠z:=λx=>by subst x;rw[Z2]at B;cases B;simp at F
   exact CL Z2 (by simp) λg3 _ s3=>q g3 e (λc o Z _ c3 _ x=>s3.extBut _ _ Z (s2 _ _ c3 (s1.extBut _ _ Z x))) ⟨oe,s3.extBut _ _ ez B,F⟩
 | some x =>
   have hy:ys[k]? = none:=L.elim (λz=>by rw[hx]at z;cases z) id
   refine eB U Y hx λg2 BD s2=>y1 ?_;have O2:DY g2 O p r:=s2.extBut _ _ D.TOi1 (s1.extBut _ _ D.TOz hO);refine gV (DG O2 rfl (gV (Fc O2 λg3 o3 s3=>?_)));refine gV (GJ (y1 (gV (gV (FW (gV (m:=nextOf (.ref j)) ?_))))));refine nx_end hn (hj.up λo e=>s3.extBut _ o D.TOi2.symm (s2.extBut _ o D.i12.symm (s1.extBut _ o D.i2z e))) (hb.up λo e=>s3.extBut _ o D.l2TO (s2.extBut _ o D.l2i1 (s1.extBut _ o D.l2z e))) hy λg4 e s4 he=>?_;obtain⟨oe,B,F⟩:=he;have Z4:FN g4 z T O .ellipsis:=s4 _ _ D.i2z.symm (s3.extBut _ _ D.TOz.symm (s2.extBut _ _ D.i1z.symm Z1));have ez:e≠z:=λx=>by subst x;rw[Z4]at B;cases B;simp at F
   exact CL Z4 (by simp) λg5 _ s5=>q g5 e (λc o Z c2 c3 c4 x=>s5.extBut _ _ Z (s4 _ _ c4 (s3.extBut _ _ c2 (s2.extBut _ _ c3 (s1.extBut _ _ Z x))))) ⟨oe,s5.extBut _ _ ez B,F⟩
theorem nxt_item {O:Addr}{t:Bool}{k:Nat}{y:h6}{Q:Option h6->hQ->Prop}(D:GI z T O i j a b)(B:FN s.heap z T O .none)(J:DY s.heap T (.ref i) (.ref j))(L:DY s.heap O p r)(hi:At t s.heap i a k)(U:At u s.heap j b k)(Y:Sq t s.heap a xs)(Z:Sq u s.heap b ys)(hx:xs[k]? = some x)(hy:ys[k]? = some y)(q:∀ h',FN h' z T O (F5 s.heap.objs.size)->DY h' O x y->At t h' i a (k+1)->At u h' j b (k+1)->DY h' s.heap.objs.size x y ->
   (∀ c o,c≠z->c≠O->c≠i->c≠j->s.heap.get? c=some o->h'.get? c=some o)->Q (some (.ref s.heap.objs.size)) { s with heap:=h' }) :
 Cj (model prog w) A (Fu (.ref z)) Q E s:=by
 have ty:s.TypeIs (.ref z) "zip":=⟨_,B,rfl⟩;unfold Fu;exact gV (FX (CM (name:=g8 "__next__") ty Fh (Dl Fh ty Iq
  (vI D B J L hi U Y Z hx hy λh' a1 a2 a3 a4 a5 a6=>y1 (q h' a1 a2 a3 a4 a5 a6)) (HY _))))
theorem nxt_end {O:Addr}{t:Bool}{k:Nat}{Q:Option h6->hQ->Prop}(L:A.handled=none)(D:GI z T O i j a b)(J:FN s.heap z T O .none)(U:DY s.heap T (.ref i) (.ref j))(Y:DY s.heap O p r)(hi:At t s.heap i a k)(Z:At u s.heap j b k)(ha:Sq t s.heap a xs)(hb:Sq u s.heap b ys)(B:xs[k]? = none∨ys[k]? = none)(q:∀ h',(∀ c o,c≠z->c≠O->c≠i->c≠j->s.heap.get? c=some o->h'.get? c=some o)->Q none { s with heap:=h' }):Cj (model prog w) A (Fu (.ref z)) Q E s:=by
 have ty:s.TypeIs (.ref z) "zip":=⟨_,J,rfl⟩;unfold Fu;refine gV (FX (CM (name:=g8 "__next__") ty Fh (Dl Fh ty Iq
  (xJ L D J U Y hi Z ha hb B λh' e hk he=>?_) (HY _))))
 obtain⟨o,ho,hc⟩:=he;exact gV (Ir (T:="StopIteration") (b:=true) ⟨o,ho,hc⟩ isSubtype_stop (y1 (q _ hk)))
noncomputable def itO (t:Bool) (l:Addr):Obj:=match t with|true=>{ cls:=.type "tuple_iterator",data:=.fields #[.ref l,.int 0 0] }|false=>{ cls:=.type "list_iterator",data:=.fields #[.ref l,.int 0 0] }
noncomputable def zH1 (h:Heap) (t:Bool) (a:Addr):Heap:=h.push (itO t a)
noncomputable def zH2 (h:Heap) (t u:Bool) (a b:Addr):Heap:=(zH1 h t a).push (itO u b)
noncomputable def zH3 (h:Heap) (t u:Bool) (a b:Addr):Heap:=(zH2 h t u a b).push { cls:=.type "tuple",data:=.seq #[.ref h.objs.size,.ref (zH1 h t a).objs.size] }
noncomputable def zH4 (h:Heap) (t u:Bool) (a b:Addr):Heap:=(zH3 h t u a b).push { cls:=.type "tuple",data:=.seq #[.none,.none] }
noncomputable def zH5 (h:Heap) (t u:Bool) (a b:Addr):Heap:=(zH4 h t u a b).push { cls:=.type "zip",data:=.fields #[.none,.bool false,.bool false,.ref (zH2 h t u a b).objs.size,.ref (zH3 h t u a b).objs.size] }
theorem oy (t u:Bool)(a b:Addr)(xs ys:Array h6) :
 Ja (Fo.«zip.__new__» ⟨[.type "zip",.ref a,.ref b],[]⟩) (λ_ R s=>Sq t s.heap a xs/\Sq u s.heap b ys/\R (.ok (.ret (.ref (zH4 s.heap t u a b).objs.size))) { s with heap:=zH5 s.heap t u a b }) :=
 .of_wp λprog w A R s h=>by
  obtain⟨j,g,d,tk,os⟩:=s;obtain⟨F,J,h⟩:=h;have hs:=sub_zip
  cases t <;> cases u
  ·have z:FO (DQ ⟨j,g,d,tk,os⟩) a xs:=F;have B:FO (DQ ⟨j.push { cls:=.type "list_iterator",data:=.fields #[.ref a,.int 0 0] },g,d,tk,os⟩) b ys:=Iu J _
   wp_walk using Dd z,Dd B
   exact⟨_,rfl,h⟩
  ·have z:FO (DQ ⟨j,g,d,tk,os⟩) a xs:=F;have B:Fp (DQ ⟨j.push { cls:=.type "list_iterator",data:=.fields #[.ref a,.int 0 0] },g,d,tk,os⟩) b ys:=HZ J _
   wp_walk using Dd z,D1 B
   exact⟨_,rfl,h⟩
  ·have z:Fp (DQ ⟨j,g,d,tk,os⟩) a xs:=F;have B:FO (DQ ⟨j.push { cls:=.type "tuple_iterator",data:=.fields #[.ref a,.int 0 0] },g,d,tk,os⟩) b ys:=Iu J _
   wp_walk using D1 z,Dd B
   exact⟨_,rfl,h⟩
  ·have z:Fp (DQ ⟨j,g,d,tk,os⟩) a xs:=F;have B:Fp (DQ ⟨j.push { cls:=.type "tuple_iterator",data:=.fields #[.ref a,.int 0 0] },g,d,tk,os⟩) b ys:=HZ J _
   wp_walk using D1 z,D1 B
   exact⟨_,rfl,h⟩
theorem at_new {t:Bool}(e:h.get? i=some (itO t l)):At t h i l 0:=by
 cases t <;> exact⟨_,e,rfl,rfl⟩
theorem call_zip {t:Bool}{Q:h6->hQ->Prop}(ha:Sq t s.heap a xs)(hb:Sq u s.heap b ys)(q:∀ h',FN h' (s.heap.objs.size+4) (s.heap.objs.size+2) (s.heap.objs.size+3) .none->DY h' (s.heap.objs.size+2) (.ref s.heap.objs.size) (.ref (s.heap.objs.size+1)) ->
   DY h' (s.heap.objs.size+3) .none .none->At t h' s.heap.objs.size a 0->At u h' (s.heap.objs.size+1) b 0->h'.objs.size=s.heap.objs.size+5 ->
   (∀ c o,s.heap.get? c=some o->h'.get? c=some o)->Q (.ref (s.heap.objs.size+4)) { s with heap:=h' }) :
 Cj (model prog w) A (call (.type "zip") [.ref a,.ref b]) Q E s:=by
 refine callType_new F.called_zip (by decide) (F.typeCall_zip_2 _ _) (F.newCall_zip_2 _ _) (λobj=>F.args_object_init_3 obj _ _) F.entry_zip_new (oy t u a b xs ys) ⟨ha,hb,?_⟩
 have B:(zH1 s.heap t a).objs.size=s.heap.objs.size+1:=CY ..;have J:(zH2 s.heap t u a b).objs.size=s.heap.objs.size+2:=by unfold zH2;rw[CY,B]
 have L:(zH3 s.heap t u a b).objs.size=s.heap.objs.size+3:=by unfold zH3;rw[CY,J]
 have O:(zH4 s.heap t u a b).objs.size=s.heap.objs.size+4:=by unfold zH4;rw[CY,L]
 have z5:(zH5 s.heap t u a b).objs.size=s.heap.objs.size+5:=by unfold zH5;rw[CY,O]
 have j:∀ {c o},(zH4 s.heap t u a b).get? c=some o->(zH5 s.heap t u a b).get? c=some o:=λe=>hD _ e;have z:∀ {c o},(zH3 s.heap t u a b).get? c=some o->(zH4 s.heap t u a b).get? c=some o:=λe=>hD _ e;have U:∀ {c o},(zH2 s.heap t u a b).get? c=some o->(zH3 s.heap t u a b).get? c=some o:=λe=>hD _ e;have Z:∀ {c o},(zH1 s.heap t a).get? c=some o->(zH2 s.heap t u a b).get? c=some o:=λe=>hD _ e;have k1:∀ {c o},s.heap.get? c=some o->(zH1 s.heap t a).get? c=some o:=λe=>hD _ e;have f:∀ t l,(itO t l).isFreed=false:=λt l=>by cases t <;> rfl
 have Y:(zH5 s.heap t u a b).get? (zH4 s.heap t u a b).objs.size=some _:=Ce _ rfl;have g4:(zH5 s.heap t u a b).get? (zH3 s.heap t u a b).objs.size=some _:=j (Ce _ rfl);have g3:(zH5 s.heap t u a b).get? (zH2 s.heap t u a b).objs.size=some _:=j (z (Ce _ rfl));have g2:(zH5 s.heap t u a b).get? (zH1 s.heap t a).objs.size=some _:=j (z (U (Ce _ (f u b))));have g1:(zH5 s.heap t u a b).get? s.heap.objs.size=some _:=j (z (U (Z (Ce _ (f t a)))));show _/\_;rw[J,L,O]at Y;rw[B,J]at g3;rw[L]at g4;rw[B]at g2;rw[O];exact⟨⟨_,Y,rfl⟩,q _ Y g3 g4 (at_new g1) (at_new g2) z5 λc o x=>j (z (U (Z (k1 x))))⟩
end
end Zp
variable {p:Pos}{K:Frag}{elts:List Expr}{ta:TA}
section
section
variable {X:Cx} {pins:List (Addr×Obj)} {σ:St} {H:Hp} {s:hQ} {h':Heap}
theorem Inv.turnedL {t':Nat}{fp:List Addr}(I:Inv X pins σ H s)(hf:∀ b∈fp,bK X pins H b)(k:∀ b o,b∉fp->s.heap.get? b=some o->h'.get? b=some o):Inv X pins σ H { s with heap:=h',toks:=t' }:=by
 have nit:∀ b u,H b=some u->b∉fp:=λb u e z=>by rw[(hf b z).1]at e;cases e
 refine I.step (g':=s.gens) (d':=s.drawn) (ch:=fp) (λb B=>?_) (λb o _ _ j e _=>k b o j e) (λb o _ _ j e _=>⟨o.slots,k b o j e⟩) (λ_ _ _ _ n=>n)
  (λb o j e=>⟨o,k b o j e⟩) (λ_ _ e=>e) (λ_ _ _ e=>e) (λb ps e=>⟨#[],by rw[e];simp⟩) (λm hm=>?_) (λb u e=>?_) I.bare
 ·obtain⟨_,f1,_,F,f4,J⟩:=hf b B;exact⟨F,f1,f4,J⟩
 ·obtain⟨o,es,ep,ho,r⟩:=hm;exact⟨o,es,ep,k _ o (λz=>(hf _ z).2.1 rfl) ho,r⟩
 ·refine(I.hok b u e).stay (λc v j q=>k c v ?_ q) (λ_ q=>q) λ_ _ q=>q
  rcases j with z|z
  ·rw[z];exact nit b u e
  ·exact nit c _ z
end
def SqV (K:Frag) (t:Bool) (H:Hp) (a:Addr) (xs:List V):Prop:=match t with|true=>SqT K H a xs|false=>SqL K H a xs
theorem Inv.sqv {t:Bool}{xs:List V}(I:Inv X pins σ H s)(h:SqV X.K t H a xs):∃ its:List h6,Vals xs its/\Zp.Sq t s.heap a its.toArray:=by
 cases t with
 |true=>obtain⟨its,r,p,_⟩:=I.tuple h;exact⟨its,r,p⟩
 |false=>obtain⟨its,r,p,_⟩:=I.list h;exact⟨its,r,p.isList⟩
theorem Inv.sqv_inj {t:Bool}{xs ys:List V}(I:Inv X pins σ H s)(h:SqV X.K t H a xs)(h':SqV X.K t H a ys):xs=ys:=by
 cases t with
 |true=>exact I.tuple_inj h h'
 |false=>exact I.list_inj h h'
noncomputable def Itz (K:Frag) (t u:Bool) (a b:Addr):It :=
 ⟨λi H=>∃ xs ys x y,SqV K t H a xs/\SqV K u H b ys/\xs[i]? = some x/\ys[i]? = some y,
  λi H v H'=>∃ p x y,H p=none/\v = .ref p/\H'=upd H p (.tup [x,y]) /\ ∀ xs ys,SqV K t H a xs->SqV K u H b ys->xs[i]? = some x/\ys[i]? = some y,
  λi H=>∃ xs ys,SqV K t H a xs/\SqV K u H b ys/\(xs.length<=i∨ys.length<=i)⟩
theorem qD {cx}{t u:Bool}{z T O i j:Addr}(D:GI z T O i j a b) :
 dO P w K (.Tuple elts cx pos) (Itz K t u a b) [z,T,O,i,j] z (λk h=>FN h z T O .none/\DY h T (.ref i) (.ref j)/\(∃ p r,DY h O p r)/\Zp.At t h i a k/\Zp.At u h j b k) where
 mem:=by simp
 obj:=λk h ⟨F,J,⟨p,r,L⟩,hi,U⟩ c B=>by
  simp only[Cb,Ck,or_false]at B
  rcases B with rfl|rfl|rfl|rfl|rfl
  ·exact⟨_,F,λv e=>by cases e⟩
  ·exact⟨_,J,λv e=>by cases e⟩
  ·exact⟨_,L,λv e=>by cases e⟩
  ·exact hi.lt
  ·exact U.lt
 keep:=λk h h' g9 kk=>(by obtain⟨F,J,⟨p,r,L⟩,hi,U⟩:=g9;exact⟨kk z (by simp) _ F,kk T (by simp) _ J,⟨p,r,kk O (by simp) _ L⟩,hi.up λo e=>kk i (by simp) o e,U.up λo e=>kk j (by simp) o e⟩)
 item:=by
  intro X hP hw hK B k pins s σ H E I hf st hg;subst hP hw hK;obtain⟨F,J,⟨p,r,L⟩,hi,U⟩:=st;obtain⟨xs,ys,x,y,qx,qy,ex,ey⟩:=hg;obtain⟨is,rx,px⟩:=I.sqv qx;obtain⟨js,ry,py⟩:=I.sqv qy;obtain⟨ux,BD,rux⟩:=rx.get ex;obtain⟨uy,BE,ruy⟩:=ry.get ey;refine Zp.nxt_item D F J L hi U px py (by simpa using BD) (by simpa using BE) λh1 z1 o1 i1 j1 p1 Z=>⟨_,rfl,?_⟩
  refine wpAny_letOwnedTupleGo_zip (s:={ s with heap:=h1 }) z1 λh2 z2 s2=>?_
  have lt:∀ {c o},s.heap.get? c=some o->c≠s.heap.objs.size:=λe=>CG (Cg e);have nz:s.heap.objs.size≠z:=(lt F).symm;have BG:∃ o,s.heap.get? i=some o:=hi.lt.imp λ_ h=>h.1;have BH:∃ o,s.heap.get? j=some o:=U.lt.imp λ_ h=>h.1;have up:∀ c o,c≠z->h1.get? c=some o->h2.get? c=some o:=λc o n e=>s2.extBut _ _ n e;have IL:Inv X pins σ (upd H s.heap.objs.size (.tup [x,y])) { s with heap:=s.heap.push { cls:=.type "tuple",data:=.seq #[ux,uy] },toks:=s.toks } :=
   I.laid (λb o e=>hD _ e) (Cc _) ⟨by rw[s9];simp,[ux,uy],.cons rux (.cons ruy .nil),F4 _ _⟩
  have fr:∀ c∈[z,T,O,i,j],c≠s.heap.objs.size:=λc B=>by
   simp only[Cb,Ck,or_false]at B
   rcases B with rfl|rfl|rfl|rfl|rfl
   ·exact lt F
   ·exact lt J
   ·exact lt L
   ·obtain⟨o,e⟩:=BG;exact lt e
   ·obtain⟨o,e⟩:=BH;exact lt e
  have un:∀ c∈[z,T,O,i,j],upd H s.heap.objs.size (.tup [x,y]) c=none:=λc B=>by
   rw[ak (fr c B)];exact(hf c B).1
  have kk:∀ c o,c∉[z,T,O,i,j]->(s.heap.push { cls:=.type "tuple",data:=.seq #[ux,uy] }).get? c=some o->h2.get? c=some o:=λc o B e=>by
   simp only[Cb,Ck,or_false,not_or]at B
   rcases GK e with⟨rfl,rfl⟩|e
   ·exact up _ _ nz p1
   ·exact up _ _ B.1 (Z c o B.1 B.2.2.1 B.2.2.2.1 B.2.2.2.2 e)
  have I2:Inv X pins σ (upd H s.heap.objs.size (.tup [x,y])) { s with heap:=h2,toks:=s.toks } :=
   (Inv.turnedL (s:={ s with heap:=s.heap.push { cls:=.type "tuple",data:=.seq #[ux,uy] },toks:=s.toks }) (h':=h2) (t':=s.toks) (fp:=[z,T,O,i,j]) IL (λc B=>⟨un c B,(hf c B).2⟩) kk)
  refine⟨.ref s.heap.objs.size,_,I2,rfl,⟨_,x,y,I.hok.fresh (Cc _),rfl,rfl,λxs' ys' q1 q2=>?_⟩,⟨z2,up _ _ D.TIz (Z _ _ D.TIz D.TITO D.TIi1 D.TIi2 J),⟨_,_,up _ _ D.TOz o1⟩,i1.up λo e=>up _ o D.i1z e,j1.up λo e=>up _ o D.i2z e⟩,un⟩;rw[I.sqv_inj q1 qx,I.sqv_inj q2 qy];exact⟨ex,ey⟩
 done:=by
  intro X hP hw hK B k pins s σ H E I hf st hg;subst hP hw hK;obtain⟨F,J,⟨p,r,L⟩,hi,U⟩:=st;obtain⟨xs,ys,qx,qy,Y⟩:=hg;obtain⟨is,rx,px⟩:=I.sqv qx;obtain⟨js,ry,py⟩:=I.sqv qy;have lx:=rx.length;have ly:=ry.length;refine Zp.nxt_end (I.ok.hd B) D F J L hi U px py (Y.imp (λe=>by simp;lia) (λe=>by simp;lia)) λh1 Z=>⟨rfl,I.turnedL (t':=s.toks) hf λc o B e=>?_⟩
  simp only[Cb,Ck,or_false,not_or]at B;exact Z c o B.1 B.2.2.1 B.2.2.2.1 B.2.2.2.2 e
 self:=λA k s Q E st h=>Iv st.1 h
section
variable {X:Cx}
noncomputable def zf (K:Frag) (ta:TA):TI:=λσ H R=>ta σ H λvs H1=>∃ a b t u xs ys,vs=[.ref a,.ref b]/\SqV K t H1 a xs/\SqV K u H1 b ys/\R (Itz K t u a b) H1
theorem vJ {cx}{a b:Expr}(J:Gl X "zip")(hm:X.mg "zip" = none)(L:PA X [a,b] ta)(hs:Cm [a,b] X.env=[(false,eval a X.env),(false,eval b X.env)])(j:Cm [b] X.env=[(false,eval b X.env)]) :
 PI X (.Tuple elts cx pos) (.Call (.Name "zip" p) [a,b] [] pos') (zf X.K ta):=by
 intro pins s σ H R I h;refine Call_ (cO I J hm (u:=.type "zip") (by decide +kernel) (Dx (thn (L pos' pins s σ H _ I h) λus s1 g9=>?_) (by rw[hs,j]) (by rw[j];rfl)));obtain⟨vs,H1,z,O,U⟩:=g9
 obtain⟨a',b',t,u,xs,ys,rfl,qx,qy,q⟩:=U
 cases O with
 | cons r rr =>
   cases rr with
   | cons r' rr =>
     cases rr
     cases r
     cases r'
     obtain⟨is,rx,px⟩:=z.sqv qx;obtain⟨js,ry,py⟩:=z.sqv qy;refine Zp.call_zip px py λh1 B t1 Y Z j1 sz k1=>?_;refine Iv B ?_;have la:a'<s1.heap.objs.size:=by cases t <;> (obtain⟨o,e,_⟩:=px;exact Cg e)
     have lb:b'<s1.heap.objs.size:=by cases u <;> (obtain⟨o,e,_⟩:=py;exact Cg e)
     have D:GI (s1.heap.objs.size+4) (s1.heap.objs.size+2) (s1.heap.objs.size+3) s1.heap.objs.size (s1.heap.objs.size+1) a' b':=by constructor <;> (intro e;subst_vars;first|lia|(simp only[Addr]at *;lia))
     refine⟨_,_,_,_,H1,rfl,z.kept (t':=s1.toks) k1,qD (t:=t) (u:=u) D,⟨B,t1,⟨_,_,Y⟩,Z,j1⟩,λc F=>?_,q⟩;have hle:s1.heap.objs.size<=c:=by
      simp only[Cb,Ck,or_false]at F
      rcases F with rfl|rfl|rfl|rfl|rfl <;> lia
     exact z.fpOk hle (z.hok.fresh hle)
end
end
namespace Zp
end Zp
namespace En
variable {z i a:Addr}{oo:Int}{xs:Array h6}{old:h6}
section
variable {prog:Ct} {w:CC} {A:CK} {E:h6->hQ->Prop} {s:hQ}
open Builtin.SmallTypes Zp in
theorem vK {t:Bool}{k:Nat}{x:h6}{Q:h6->hQ->Prop}(Y:FY s.heap z i ((k:Int)+oo) old)(hi:At t s.heap i a k)(ha:Sq t s.heap a xs)(hx:xs[k]? = some x)(j:z≠i)(q:∀ h',Iw h' z i ((k:Int)+oo+1) x s.heap.objs.size->At t h' i a (k+1)->h'.get? s.heap.objs.size=some { cls:=.type "tuple",data:=.seq #[.int ((k:Int)+oo) s.toks,x] } ->
   (∀ b o,b≠z->b≠i->s.heap.get? b=some o->h'.get? b=some o)->Q (.ref s.heap.objs.size) { s with heap:=h',toks:=s.toks+1 }) :
 Cj (model prog w) A (Fo.«enumerate.__next__» ⟨[.ref z],[]⟩) (λfin s'=>∃ v,fin = .done (.ret v)/\Q v s') E s:=by
 obtain⟨B,g,d,tk,os⟩:=s;refine gV (m:=field (.ref z) 2) (CD Y rfl (x:=.ref i) rfl (gV (eB hi ha hx λg1 i1 s1=>?_)));have Z:D8 i B g1:=s1;clear s1;have Z1:FY g1 z i ((k:Int)+oo) old:=(Z.2 z j).trans Y;refine gV (m:=field (.ref z) 3) (CD (s:=⟨g1,g,d,tk,os⟩) Z1 rfl (x:=F5 ((k:Int)+oo)) rfl ?_);refine gV (m:=field (.ref z) 4) (CD (s:=⟨g1,g,d,tk,os⟩) Z1 rfl (x:=.none) rfl ?_);refine gV (m:=mkInt ((k:Int)+oo)) (wpAny_mkInt ?_);refine gV (m:=setField (.ref z) 3 (F5 ((k:Int)+oo+1))) (CL (s:=⟨g1,g,d,tk+1,os⟩) Z1 (by simp) λg2 z2 s2=>?_)
 have S2:D8 z g1 g2:=s2;have Z2:FY g2 z i ((k:Int)+oo+1) old:=z2;clear s2 z2;refine gV (m:=setField (.ref z) 4 .none) (CL (s:=⟨g2,g,d,tk+1,os⟩) Z2 (by simp) λg3 z3 s3=>?_)
 have S3:D8 z g2 g3:=s3;have Z3:FY g3 z i ((k:Int)+oo+1) old:=z3;clear s3 z3;refine gV (m:=newTuple [.int ((k:Int)+oo) tk,x]) (wpAny_newTuple ?_);have J:FY (g3.push { cls:=.type "tuple",data:=.seq #[.int ((k:Int)+oo) tk,x] }) z i ((k:Int)+oo+1) old:=hD _ Z3;have sz:g3.objs.size=B.objs.size:=by rw[S3.1,S2.1,Z.1]
 have zl:z<B.objs.size:=Cg Y;have T4:(g3.push { cls:=.type "tuple",data:=.seq #[.int ((k:Int)+oo) tk,x] }).get? B.objs.size=some { cls:=.type "tuple",data:=.seq #[.int ((k:Int)+oo) tk,x] }:=by rw[<- sz];exact Ce _ rfl
 have K4:∀ b o,b≠z->b≠i->B.get? b=some o->(g3.push { cls:=.type "tuple",data:=.seq #[.int ((k:Int)+oo) tk,x] }).get? b=some o:=λb o bz bi e =>
  hD _ (S3.extBut b o bz (S2.extBut b o bz (Z.extBut b o bi e)))
 have I4:At t (g3.push { cls:=.type "tuple",data:=.seq #[.int ((k:Int)+oo) tk,x] }) i a (k+1):=i1.up λo e=>hD _ (S3.extBut i o j.symm (S2.extBut i o j.symm e));rw[sz];generalize g3.push { cls:=.type "tuple",data:=.seq #[.int ((k:Int)+oo) tk,x] }=F at J T4 K4 I4;refine gV (m:=ownedTupleIsFree (.ref z)) ?_;unfold ownedTupleIsFree;refine gV (CD (s:=⟨F,g,d,tk+1,os⟩) J rfl (x:=.none) rfl (y1 ?_));simp only[if_true];refine gV (E8 (gV (CD (s:=⟨F,g,d,tk+1,os⟩) J rfl (x:=old) rfl (gV (CL (s:=⟨F,g,d,tk+1,os⟩) J (by simp) λL z5 s5=>?_)))))
 have S5:D8 z F L:=s5;have Z5:FY L z i ((k:Int)+oo+1) x:=z5;clear s5 z5;refine gV (m:=ownedTupleHandOut (.ref z) (.ref B.objs.size)) ?_;unfold ownedTupleHandOut;refine gV (CL (s:=⟨L,g,d,tk+1,os⟩) Z5 (by simp) λO z6 s6=>?_)
 have S6:D8 z L O:=s6;have Z6:Iw O z i ((k:Int)+oo+1) x B.objs.size:=z6;clear s6 z6;refine CL (s:=⟨O,g,d,tk+1,os⟩) Z6 (by simp) λU z7 s7=>?_
 have S7:D8 z O U:=s7;have Z7:Iw U z i ((k:Int)+oo+1) x B.objs.size:=z7;clear s7 z7;have up:∀ b o,b≠z->F.get? b=some o->U.get? b=some o:=λb o bz e=>S7.extBut b o bz (S6.extBut b o bz (S5.extBut b o bz e));exact gV (GJ (y1 ⟨_,rfl,q U Z7 (I4.up λo e=>up i o j.symm e) (up _ _ (EV zl) T4) λb o bz bi e=>up b o bz (K4 b o bz bi e)⟩))
theorem nxt_item {t:Bool}{k:Nat}{x:h6}{Q:Option h6->hQ->Prop}(B:FY s.heap z i ((k:Int)+oo) old)(hi:Zp.At t s.heap i a k)(J:Zp.Sq t s.heap a xs)(hx:xs[k]? = some x)(j:z≠i)(q:∀ h',Iw h' z i ((k:Int)+oo+1) x s.heap.objs.size->Zp.At t h' i a (k+1)->h'.get? s.heap.objs.size=some { cls:=.type "tuple",data:=.seq #[.int ((k:Int)+oo) s.toks,x] } ->
   (∀ b o,b≠z->b≠i->s.heap.get? b=some o->h'.get? b=some o)->Q (some (.ref s.heap.objs.size)) { s with heap:=h',toks:=s.toks+1 }) :
 Cj (model prog w) A (Fu (.ref z)) Q E s:=by
 have ty:s.TypeIs (.ref z) "enumerate":=⟨_,B,rfl⟩;unfold Fu;exact gV (FX (CM (name:=g8 "__next__") ty Ei (Dl Ei ty Gn
  (vK B hi J hx j λh' a1 a2 L O=>y1 (q h' a1 a2 L O)) (G4 _))))
theorem nxt_end {t:Bool}{k:Nat}{Q:Option h6->hQ->Prop}(B:A.handled=none)(j:FY s.heap z i ((k:Int)+oo) old)(hi:Zp.At t s.heap i a k)(J:Zp.Sq t s.heap a xs)(hx:xs[k]? = none)(q:∀ h',II i s.heap h'->Q none { s with heap:=h' }):Cj (model prog w) A (Fu (.ref z)) Q E s:=by
 have ty:s.TypeIs (.ref z) "enumerate":=⟨_,j,rfl⟩;unfold Fu;refine gV (FX (CM (name:=g8 "__next__") ty Ei (Dl Ei ty Gn ?_ (G4 _))));refine gV (m:=field (.ref z) 2) (CD j rfl (x:=.ref i) rfl (gV (Zp.nx_end B hi J hx λh' x he hs=>?_)));obtain⟨o,ho,L⟩:=hs;exact gV (Ir (T:="StopIteration") (b:=true) ⟨o,ho,L⟩ isSubtype_stop (y1 (q _ he)))
open AutoSeq1 (wpAny_loadPart') in
theorem tJ (l:Addr)(items:Array h6)(n:Nat)(dct:Option Addr)(sl:Array (Option h6)) :
 Ja (Fo.«enumerate.__new__» ⟨[.type "enumerate",.ref l],[]⟩) (λ_ R s=>s.heap.get? l=some { cls:=.type "tuple",dict:=dct,data:=.seq items n,slots:=sl } /\
  R (.ok (.ret (.ref (s.heap.push (Zp.itO true l)).objs.size))) { s with heap:=(s.heap.push (Zp.itO true l)).push { cls:=.type "enumerate",data:=.fields #[.none,.bool false,.ref s.heap.objs.size,F5 0,.none,.none] } }) :=
 .of_wp λprog w A R s h=>by
  obtain⟨F,g,d,tk,os⟩:=s;obtain⟨j,h⟩:=h;have z:=sub_enumerate;have B:Fp (DQ ⟨F,g,d,tk,os⟩) l items:=⟨_,j,rfl,n,rfl⟩
  wp_walk using Dh j
  refine wpAny_stack_any λst=>y1 ?_
  split
  ·rename_i c _ _ _ _ _
   cases (c==IZ "enumerate") <;> (wp_walk using Dh j,D1 B;exact⟨_,rfl,h⟩)
  ·wp_walk using Dh j,D1 B
   exact⟨_,rfl,h⟩
theorem call_enum {t:Bool}{l:Addr}{items:Array h6}{Q:h6->hQ->Prop}(B:Zp.Sq t s.heap l items)(q:∀ h',FY h' (s.heap.objs.size+1) s.heap.objs.size 0 .none->Zp.At t h' s.heap.objs.size l 0->(∀ b o,s.heap.get? b=some o->h'.get? b=some o)->Q (.ref (s.heap.objs.size+1)) { s with heap:=h' }) :
 Cj (model prog w) A (call (.type "enumerate") [.ref l]) Q E s:=by
 cases t with
 |false=>exact call_enumerate_list B λh' a b _ k=>q h' a b k
 | true =>
   obtain⟨⟨c,dct,dt,sl⟩,L,O,n,hd⟩:=B;have j:c = .type "tuple":=O;have z:dt = .seq items n:=hd;subst j z;refine callType_new HE (by decide) (F.typeCall_enumerate_1 _) (F.newCall_enumerate_1 _) (λobj=>F.args_object_init_2 obj _) Gz (tJ l items n dct sl) ⟨L,?_⟩
   have J:(s.heap.push (Zp.itO true l)).objs.size=s.heap.objs.size+1:=CY ..;have e:((s.heap.push (Zp.itO true l)).push { cls:=.type "enumerate",data:=.fields #[.none,.bool false,.ref s.heap.objs.size,F5 0,.none,.none] }).get? (s.heap.push (Zp.itO true l)).objs.size=some _:=Ce _ rfl;rw[J]at e;show _/\_;rw[J];exact⟨⟨_,e,rfl⟩,q _ e (Zp.at_new (hD _ (Ce _ rfl))) λb o x=>hD _ (hD _ x)⟩
end
end En
noncomputable def Ite (K:Frag) (t:Bool) (a:Addr) (oo:Int:=0):It :=
 ⟨λi H=>∃ xs x,SqV K t H a xs/\xs[i]? = some x,
  λi H v H'=>∃ p x,H p=none/\v = .ref p/\H'=upd H p (.tup [.int ((i:Nat)+oo),x]) /\ ∀ xs,SqV K t H a xs->xs[i]? = some x,
  λi H=>∃ xs,SqV K t H a xs/\xs.length<=i⟩
theorem i4 {cx}{t:Bool}{z i:Addr}{oo:Int}(F:z≠i) :
 dO P w K (.Tuple elts cx pos) (Ite K t a oo) [z,i] z (λk h=>(∃ old,FY h z i ((k:Int)+oo) old)/\Zp.At t h i a k) where
 mem:=by simp
 obj:=λk h ⟨⟨old,B⟩,hi⟩ c j=>by
  simp only[Cb,Ck,or_false]at j
  rcases j with rfl|rfl
  ·exact⟨_,B,λv e=>by cases e⟩
  ·exact hi.lt
 keep:=λk h h' J kk=>(by obtain⟨⟨old,B⟩,hi⟩:=J;exact⟨⟨old,kk z (by simp) _ B⟩,hi.up λo e=>kk i (by simp) o e⟩)
 item:=by
  intro X L hw O j k pins s σ H E I hf st hg;subst L hw O;obtain⟨⟨old,B⟩,hi⟩:=st;obtain⟨xs,x,qx,ex⟩:=hg;obtain⟨is,rx,px⟩:=I.sqv qx;obtain⟨ux,U,rux⟩:=rx.get ex;refine En.nxt_item B hi px (by simpa using U) F λh1 z1 i1 p1 Y=>⟨_,rfl,?_⟩
  refine wpAny_letOwnedTupleGo_enum (s:={ s with heap:=h1,toks:=s.toks+1 }) z1 λh2 z2 s2=>?_
  have lt:∀ {c o},s.heap.get? c=some o->c≠s.heap.objs.size:=λe=>CG (Cg e);have nz:s.heap.objs.size≠z:=(lt B).symm;have Z:∃ o,s.heap.get? i=some o:=hi.lt.imp λ_ h=>h.1;have up:∀ c o,c≠z->h1.get? c=some o->h2.get? c=some o:=λc o n e=>s2.extBut _ _ n e;have IL:Inv X pins σ (upd H s.heap.objs.size (.tup [.int ((k:Nat)+oo),x])) { s with heap:=s.heap.push { cls:=.type "tuple",data:=.seq #[.int ((k:Int)+oo) s.toks,ux] },toks:=s.toks+1 } :=
   I.laid (λb o e=>hD _ e) (Cc _) ⟨by rw[s9];simp,[.int ((k:Int)+oo) s.toks,ux],.cons ⟨_,rfl⟩ (.cons rux .nil),F4 _ _⟩
  have fr:∀ c∈[z,i],c≠s.heap.objs.size:=λc j=>by
   simp only[Cb,Ck,or_false]at j
   rcases j with rfl|rfl
   ·exact lt B
   ·obtain⟨o,e⟩:=Z;exact lt e
  have un:∀ c∈[z,i],upd H s.heap.objs.size (.tup [.int ((k:Nat)+oo),x]) c=none:=λc j=>by
   rw[ak (fr c j)];exact(hf c j).1
  have kk:∀ c o,c∉[z,i]->(s.heap.push { cls:=.type "tuple",data:=.seq #[.int ((k:Int)+oo) s.toks,ux] }).get? c=some o->h2.get? c=some o:=λc o j e=>by
   simp only[Cb,Ck,or_false,not_or]at j
   rcases GK e with⟨rfl,rfl⟩|e
   ·exact up _ _ nz p1
   ·exact up _ _ j.1 (Y c o j.1 j.2 e)
  have I2:Inv X pins σ (upd H s.heap.objs.size (.tup [.int ((k:Nat)+oo),x])) { s with heap:=h2,toks:=s.toks+1 } :=
   Inv.turnedL (s:={ s with heap:=s.heap.push { cls:=.type "tuple",data:=.seq #[.int ((k:Int)+oo) s.toks,ux] },toks:=s.toks+1 }) (h':=h2) (t':=s.toks+1) (fp:=[z,i]) IL (λc j=>⟨un c j,(hf c j).2⟩) kk
  refine⟨.ref s.heap.objs.size,_,I2,rfl,⟨_,x,I.hok.fresh (Cc _),rfl,rfl,λxs' q1=>?_⟩,⟨⟨ux,by have e9:(((k+1:Nat):Int)+oo)=(k:Int)+oo+1:=(by lia);rw[e9];exact z2⟩,i1.up λo e=>up _ o F.symm e⟩,un⟩
  rw[I.sqv_inj q1 qx];exact ex
 done:=by
  intro X L hw O j k pins s σ H E I hf st hg;subst L hw O;obtain⟨⟨old,B⟩,hi⟩:=st;obtain⟨xs,qx,BD⟩:=hg;obtain⟨is,rx,px⟩:=I.sqv qx;have lx:=rx.length;refine En.nxt_end (I.ok.hd j) B hi px (by simp;lia) λh1 Y=>⟨rfl,I.turnedL (t':=s.toks) hf λc o j e=>?_⟩
  simp only[Cb,Ck,or_false,not_or]at j;exact Y c o j.2 e
 self:=λA k s Q E J h=>(by obtain⟨⟨old,B⟩,_⟩:=J;exact FP B h)
section
variable {X:Cx}
noncomputable def xK (K:Frag) (ta:TA):TI:=λσ H R=>ta σ H λvs H1=>∃ a t xs,vs=[.ref a]/\SqV K t H1 a xs/\R (Ite K t a) H1
theorem tK {cx}{a:Expr}(F:Gl X "enumerate")(hm:X.mg "enumerate" = none)(J:PA X [a] ta)(hs:Cm [a] X.env=[(false,eval a X.env)]) :
 PI X (.Tuple elts cx pos) (.Call (.Name "enumerate" p) [a] [] pos') (xK X.K ta):=by
 intro pins s σ H R I h;refine Call_ (cO I F hm (u:=.type "enumerate") boot_enumerate (Dx (thn (J pos' pins s σ H _ I h) λus s1 g9=>?_) hs rfl));obtain⟨vs,H1,j,L,O⟩:=g9;obtain⟨a',t,xs,rfl,qx,q⟩:=O
 cases L with
 | cons r rr =>
   cases rr
   cases r
   obtain⟨is,rx,px⟩:=j.sqv qx;refine En.call_enum px λh1 z U Y=>?_;refine FP z ?_;refine⟨_,_,_,_,H1,rfl,j.kept (t':=s1.toks) Y,i4 (t:=t) (a:=a') (oo:=0) (by simp),⟨⟨_,z⟩,U⟩,λc B=>?_,q⟩
   have hle:s1.heap.objs.size<=c:=by
    simp only[Cb,Ck,or_false]at B
    rcases B with rfl|rfl <;> lia
   exact j.fpOk hle (j.hok.fresh hle)
end
namespace Rv
end Rv
section
noncomputable abbrev NK:=List (Int ⊕ List Int)
noncomputable def xL (ks:List Int):Int:=reduceHash (FH (ks.map hashInt))
noncomputable def xM:Int ⊕ List Int->Int
 |.inl i=>hashInt i
 |.inr ks=>xL ks
noncomputable def xN (ks:NK):Int:=reduceHash (FH (ks.map xM))
noncomputable def sK (a:Addr) (xs:List (NK×Addr×h6)):Heap->Prop:=λh=>xs.length<=tv/\(a==E6)=false /\
 ∃ o es ep,h.get? a=some o/\o.ExactDict/\o.data = .dict es ep/\es.toList=xs.map (λx=>(⟨xN x.1,.ref x.2.1,x.2.2⟩:DictEntry))/\(xs.map (·.1)).Nodup
noncomputable def Kt1 (H:Hp):Int ⊕ List Int->V->Prop
 |.inl i,v=>v = .int i
 |.inr ks,v=>∃ b,v = .ref b/\H b=some (.tup (ks.map V.int))
def Kt (H:Hp) (k:NK) (b:Addr):Prop:=∃ vs,H b=some (.tup vs)/\D0 (Kt1 H) k vs
theorem Kt.keeps {k:NK}(x:Kt H k b)(j:∀ b ys,H b=some (.tup ys)->H' b=some (.tup ys)):Kt H' k b:=by
 obtain⟨vs,e,p⟩:=x;refine⟨vs,j _ _ e,Jx p λq v z=>?_⟩
 cases q with
 |inl i=>exact z
 |inr ks=>obtain⟨c,e,q⟩:=z;exact⟨c,e,j _ _ q⟩
end
namespace Mi
variable {a p:Addr}{K:Frag}{H H':Hp}{xs vs:List V}{i:Nat}{v:V}{x:Str}{σ:St}{ho:HO}{X:Cx}{e:Expr}
section
inductive D where
 |non|bl (b:Bool)|int (i:Int)|str (x:Str)|tup (ds:List D)|con (ds:List D)|ref (a:Addr)|fn (x:Str)
inductive O where
 |lst (ds:List D)
 |dct (t:Bool) (kvs:List (D×D))
 |fdc (kvs:List (D×D))
 |dcn (kvs:List (NK×D))
 |fdn (kvs:List (NK×D))
 |tab (pos:Pos) (q:Str)
noncomputable abbrev Mem:=Addr->Option O
noncomputable def fz:Option O->Bool
 |some (.lst _)=>false
 |some (.dct _ _)=>false
 |some (.dcn _)=>false
 |some (.tab _ _)=>false
 |_=>true
noncomputable abbrev ao:=List (Option D)
noncomputable def ae (M:Mem) (a:Addr) (o:O):Mem:=λb=>if b=a then some o else M b
theorem ad {M:Mem}{o:O}:ae M a o a=some o:=by unfold ae;rw[if_pos rfl]
theorem aq {M:Mem}{b:Addr}{o:O}(h:b≠a):ae M a o b=M b:=by unfold ae;rw[if_neg h]
def SqF (K:Frag) (H:Hp) (a:Addr) (xs:List V):Prop :=
 (∃ o,H a=some (.frz o (.lst xs))) ∨
  ∃ (o:Obj) (its:Array h6) (n:Nat),K.lookup a=some o/\o.cls = .type "list" /\ o.dict=none/\o.data = .seq its n/\its.size<=tv/\Vals xs its.toList
theorem SqF.sq (h:SqF K H a xs):SqL K H a xs:=by
 rcases h with⟨o,h⟩|h
 ·exact .inl (.inr ⟨o,h⟩)
 ·exact .inr h
noncomputable def fk2:Bool:=true
noncomputable def fk3:Bool:=true
noncomputable def fk:List D->Bool
 |[.int _,.int _,.int _]=>true
 |[.tup _,_]=>true
 |[.int _,_]=>fk2
 |[]=>false
 |_=>fk3
def TupR (K:Frag) (H:Hp) (ds:List D) (a:Addr) (vs:List V):Prop:=H a=some (.tup vs)∨(fk ds=false/\SqT K H a vs)
theorem TupR.sq {ds:List D}(h:TupR K H ds a vs):SqT K H a vs:=h.elim SqT.of (·.2)
mutual
noncomputable def RD (K:Frag) (H:Hp):D->V->Prop
 |.non,v=>v = .non
 |.bl b,v=>v = .bl b
 |.int i,v=>v = .int i
 |.str x,v=>v = .str x
 |.tup ds,v=>∃ a vs,v = .ref a/\TupR K H ds a vs/\RDs K H ds vs
 |.con ds,v=>∃ a vs,v = .ref a/\SqF K H a vs/\RDs K H ds vs
 |.ref a,v=>v = .ref a
 |.fn x,v=>∃ f,v = .ref f/\Dy K CH x=some (some (.ref f))
noncomputable def RDs (K:Frag) (H:Hp):List D->List V->Prop
 |[],vs=>vs=[]
 |d::ds,vs=>∃ v r,vs=v::r/\RD K H d v/\RDs K H ds r
end
structure Stab (H H':Hp):Prop where
 tup:∀ a xs,H a=some (.tup xs)->H' a=some (.tup xs)
 frz:∀ a o u,H a=some (.frz o u)->H' a=some (.frz o u)
theorem Stab.sqT (st:Stab H H')(h:SqT K H a xs):SqT K H' a xs:=by
 rcases h with(h|⟨o,h⟩)|h
 ·exact .inl (.inl (st.tup _ _ h))
 ·exact .inl (.inr ⟨o,st.frz _ _ _ h⟩)
 ·exact .inr h
theorem Stab.sqF (st:Stab H H')(h:SqF K H a xs):SqF K H' a xs:=by
 rcases h with⟨o,h⟩|h
 ·exact .inl ⟨o,st.frz _ _ _ h⟩
 ·exact .inr h
mutual
theorem RD.mono {K:Frag}{H H':Hp}(st:Stab H H'):∀ {d:D} {v:V},RD K H d v->RD K H' d v
 |.non,_,h=>h
 |.bl _,_,h=>h
 |.int _,_,h=>h
 |.str _,_,h=>h
 |.tup ds,v,h=>by
  unfold RD at h ⊢;obtain⟨a,vs,e,q,r⟩:=h;exact⟨a,vs,e,q.imp (st.tup _ _) (λz=>⟨z.1,st.sqT z.2⟩),RDs.mono st r⟩
 |.con ds,v,h=>by
  unfold RD at h ⊢;obtain⟨a,vs,e,q,r⟩:=h;exact⟨a,vs,e,st.sqF q,RDs.mono st r⟩
 |.ref _,_,h=>h
 |.fn _,_,h=>by unfold RD at h ⊢;exact h
theorem RDs.mono {K:Frag}{H H':Hp}(st:Stab H H'):∀ {ds:List D} {vs:List V},RDs K H ds vs->RDs K H' ds vs
 |[],_,h=>h
 | d::ds,vs,h=>by
   unfold RDs at h ⊢;obtain⟨v,r,e,h1,h2⟩:=h;exact⟨v,r,e,RD.mono st h1,RDs.mono st h2⟩
end
section
variable {K:Frag} {H H':Hp}
theorem Jq {i:Int}:RD K H (.int i) v↔v = .int i:=by unfold RD;exact I0
theorem Jt {b:Bool}:RD K H (.bl b) v↔v = .bl b:=by unfold RD;exact I0
theorem Jv:RD K H .non v↔v = .non:=by unfold RD;exact I0
theorem Jr:RD K H (.str x) v↔v = .str x:=by unfold RD;exact I0
theorem Js:RD K H (.ref a) v↔v = .ref a:=by unfold RD;exact I0
theorem JH:RD K H (.fn x) v ↔ ∃ f,v = .ref f/\Dy K CH x=some (some (.ref f)):=by rw[RD]
theorem Jz {ds:List D}:RD K H (.tup ds) v ↔ ∃ a vs,v = .ref a/\TupR K H ds a vs/\RDs K H ds vs:=by rw[RD]
theorem JA {ds:List D}(h:∃ a vs,v = .ref a/\H a=some (.tup vs)/\RDs K H ds vs):RD K H (.tup ds) v:=Jz.mpr (let ⟨a,vs,e,h,r⟩:=h; ⟨a,vs,e,.inl h,r⟩)
theorem Jw {ds:List D}(h:RD K H (.tup ds) v):∃ a vs,v = .ref a/\SqT K H a vs/\RDs K H ds vs:=let ⟨a,vs,e,h,r⟩:=Jz.mp h; ⟨a,vs,e,h.sq,r⟩
theorem JJ {ds:List D}(f:fk ds=true)(h:RD K H (.tup ds) v):∃ a vs,v = .ref a/\H a=some (.tup vs)/\RDs K H ds vs:=let ⟨a,vs,e,h,r⟩:=Jz.mp h; ⟨a,vs,e,h.elim id λz=>(by rw[f]at z;cases z.1),r⟩
theorem Jy {ds:List D}:RD K H (.con ds) v ↔ ∃ a vs,v = .ref a/\SqF K H a vs/\RDs K H ds vs:=by rw[RD]
theorem RDs.nil_iff:RDs K H [] vs↔vs=[]:=by rw[RDs]
theorem Ju {d:D}{ds:List D}:RDs K H (d::ds) vs ↔ ∃ v r,vs=v::r/\RD K H d v/\RDs K H ds r:=by rw[RDs]
theorem RDs.nil:RDs K H [] []:=RDs.nil_iff.mpr rfl
theorem RDs.cons {d:D}{ds:List D}{v:V}{vs:List V}(h:RD K H d v)(r:RDs K H ds vs):RDs K H (d::ds) (v::vs):=Ju.mpr ⟨v,vs,rfl,h,r⟩
theorem RDs.length:∀ {ds:List D} {vs:List V},RDs K H ds vs->vs.length=ds.length
 |[],_,h=>by rw[RDs.nil_iff.mp h];rfl
 | d::ds,_,h=>by
   obtain⟨v,r,rfl,_,h2⟩:=Ju.mp h;simp[RDs.length h2]
theorem RDs.get:∀ {ds:List D} {vs:List V} {i:Nat} {d:D},RDs K H ds vs->ds[i]? = some d -> ∃ v,vs[i]? = some v/\RD K H d v
 |[],_,_,_,_,e=>by simp at e
 | d::ds,_,0,d',h,e=>by
   obtain⟨v,r,rfl,h1,h2⟩:=Ju.mp h;simp at e;subst e;exact⟨v,rfl,h1⟩
 | d::ds,_,i+1,d',h,e=>by
   obtain⟨v,r,rfl,h1,h2⟩:=Ju.mp h;obtain⟨u,j,z⟩:=RDs.get (i:=i) (d:=d') h2 (by simpa using e)
   exact⟨u,by simpa using j,z⟩
theorem RDs.getV {ds:List D}(h:RDs K H ds vs)(e:vs[i]? = some v):∃ d,ds[i]? = some d/\RD K H d v:=by
 have B:=h.length;have hi:i<vs.length:=(Cw.mp e).1;obtain⟨d,hd⟩:∃ d,ds[i]? = some d:=⟨ds[i]'(by lia),Cf (by lia)⟩
 obtain⟨u,j,z⟩:=h.get hd;rw[e]at j;cases j;exact⟨d,hd,z⟩
theorem RDs.append:∀ {ds es:List D} {vs us:List V},RDs K H ds vs->RDs K H es us->RDs K H (ds++es) (vs++us)
 |[],_,_,_,h,q=>by rw[RDs.nil_iff.mp h];exact q
 | d::ds,_,_,_,h,q=>by
   obtain⟨v,r,rfl,h1,h2⟩:=Ju.mp h;exact RDs.cons h1 (RDs.append h2 q)
theorem RDs.take:∀ {ds:List D} {vs:List V} (n:Nat),RDs K H ds vs->RDs K H (ds.take n) (vs.take n)
 |[],_,n,h=>by rw[RDs.nil_iff.mp h];simp;exact RDs.nil
 |_::_,_,0,h=>by simp;exact RDs.nil
 | d::ds,_,n+1,h=>by
   obtain⟨v,r,rfl,h1,h2⟩:=Ju.mp h;exact RDs.cons h1 (RDs.take n h2)
theorem RDs.drop:∀ {ds:List D} {vs:List V} (n:Nat),RDs K H ds vs->RDs K H (ds.drop n) (vs.drop n)
 |[],_,n,h=>by rw[RDs.nil_iff.mp h];simp;exact RDs.nil
 |d::ds,_,0,h=>h
 | d::ds,_,n+1,h=>by
   obtain⟨v,r,rfl,h1,h2⟩:=Ju.mp h;exact RDs.drop n h2
theorem RDs.set:∀ {ds:List D} {vs:List V} (n:Nat) {d:D} {v:V},RD K H d v->RDs K H ds vs->RDs K H (ds.set n d) (vs.set n v)
 |[],_,n,_,_,_,h=>by rw[RDs.nil_iff.mp h];exact RDs.nil
 | d::ds,_,0,_,_,q,h=>by
   obtain⟨v,r,rfl,h1,h2⟩:=Ju.mp h;exact RDs.cons q h2
 | d::ds,_,n+1,_,_,q,h=>by
   obtain⟨v,r,rfl,h1,h2⟩:=Ju.mp h;exact RDs.cons h1 (RDs.set n q h2)
theorem RDs.reverse {ds:List D}(h:RDs K H ds vs):RDs K H ds.reverse vs.reverse:=by
 induction ds generalizing vs with
 |nil=>rw[RDs.nil_iff.mp h];exact RDs.nil
 | cons d ds ih =>
   obtain⟨v,r,rfl,h1,h2⟩:=Ju.mp h;rw[EZ,EZ];exact(ih h2).append (RDs.cons h1 RDs.nil)
theorem RDs.rep {ds:List D}(h:RDs K H ds vs):∀ k:Nat,RDs K H (Cd k ds).flatten (Cd k vs).flatten
 |0=>RDs.nil
 | k+1=>by
   rw[CQ,CQ,Dc,Dc];exact h.append (h.rep k)
theorem RDs.ints:∀ (ns:List Int),RDs K H (ns.map D.int) (ns.map V.int)
 |[]=>RDs.nil
 |n::ns=>RDs.cons (Jq.mpr rfl) (RDs.ints ns)
end
mutual
noncomputable def D.eqb:D->D->Bool
 |.non,.non=>true
 |.bl a,.bl b=>a==b
 |.int a,.int b=>decide (a=b)
 |.str a,.str b=>decide (a=b)
 |.tup a,.tup b=>D.eqbs a b
 |.con a,.con b=>D.eqbs a b
 |.ref a,.ref b=>decide (a=b)
 |.fn a,.fn b=>decide (a=b)
 |_,_=>false
noncomputable def D.eqbs:List D->List D->Bool
 |[],[]=>true
 |a::r,b::s=>D.eqb a b&&D.eqbs r s
 |_,_=>false
end
mutual
theorem JI:∀ (a b:D),D.eqb a b=true->a=b
 |.non,b,h=>by cases b <;> first|rfl|cases h
 |.bl a,b,h=>by cases b <;> first|exact congrArg D.bl (Ik h)|cases h
 |.int a,b,h=>by cases b <;> first|exact congrArg D.int (of_decide_eq_true h)|cases h
 |.str a,b,h=>by cases b <;> first|exact congrArg D.str (of_decide_eq_true h)|cases h
 |.tup a,b,h=>by cases b <;> first|exact congrArg D.tup (JF a _ h)|cases h
 |.con a,b,h=>by cases b <;> first|exact congrArg D.con (JF a _ h)|cases h
 |.ref a,b,h=>by cases b <;> first|exact congrArg D.ref (of_decide_eq_true h)|cases h
 |.fn a,b,h=>by cases b <;> first|exact congrArg D.fn (of_decide_eq_true h)|cases h
theorem JF:∀ (a b:List D),D.eqbs a b=true->a=b
 |[],b,h=>by cases b <;> first|rfl|cases h
 | a::r,b,h=>by
   cases b with
   |nil=>cases h
   | cons b s =>
     have h:=(h8 _ _).mp h;rw[JI a b h.1,JF r s h.2]
end
mutual
theorem JG:∀ (a:D),D.eqb a a=true
 |.non=>rfl
 |.bl a=>beq_self_eq_true a
 |.int _=>decide_eq_true rfl
 |.str _=>decide_eq_true rfl
 |.tup a=>JB a
 |.con a=>JB a
 |.ref _=>decide_eq_true rfl
 |.fn _=>decide_eq_true rfl
theorem JB:∀ (a:List D),D.eqbs a a=true
 |[]=>rfl
 |a::r=>(h8 _ _).mpr ⟨JG a,JB r⟩
end
noncomputable instance:DecidableEq D:=λa b=>if h:D.eqb a b=true then isTrue (JI a b h) else isFalse λe=>h (by rw[e];exact JG b)
noncomputable def RKey:D->Key->Prop
 |.int i,k=>k = .inl i
 |.str x,k=>k = .inr x
 |_,_=>False
noncomputable def RKeys:D->List Key->Prop
 |.tup ds,ks=>D0 RKey ds ks
 |_,_=>False
noncomputable def bU (kvs:List (D×D)) (k:D):Option D:=(kvs.find? λp=>decide (p.1=k)).map (·.2)
noncomputable def jh (kvs:List (D×D)) (k v:D):List (D×D):=if (kvs.any λp=>decide (p.1=k))=true then kvs.map (λp=>if p.1=k then (p.1,v) else p) else kvs++[(k,v)]
noncomputable def dz:D->Bool
 |.int _=>true
 |.str _=>true
 |_=>false
noncomputable def cQ:D->Bool
 |.tup ds=>ds.all dz&&fk ds
 |_=>false
noncomputable def m7 (t:Bool) (k:D):Bool:=if t then cQ k else dz k
theorem ji {k:D}(h:dz k=true):∃ q,RKey k q:=by
 cases k <;> first|(simp[dz]at h;done)|exact⟨_,rfl⟩
theorem kO:∀ {ds:List D},ds.all dz=true -> ∃ ks,D0 RKey ds ks
 |[],_=>⟨[],.nil⟩
 | d::ds,h=>by
   simp only[EG,h8]at h;obtain⟨k,j⟩:=ji h.1;obtain⟨ks,hs⟩:=kO h.2;exact⟨k::ks,.cons j hs⟩
theorem kP {k:D}(h:cQ k=true):∃ q,RKeys k q:=by
 cases k <;> first|(simp[cQ]at h;done)|exact kO (GL.mp h).1
theorem kQ {ds:List D}(h:cQ (.tup ds)=true):fk ds=true:=(GL.mp h).2
noncomputable def RO (K:Frag) (H:Hp) (a:Addr):O->Prop
 |.lst ds=>∃ vs,H a=some (.lst vs)/\RDs K H ds vs
 |.dct false kvs=>∃ ps,H a=some (.dK ps)/\D0 (λ(p:D×D) (q:Key×V)=>RKey p.1 q.1/\RD K H p.2 q.2) kvs ps
 |.dct true kvs=>∃ ps,H a=some (.dT ps)/\D0 (λ(p:D×D) (q:List Key×V)=>RKeys p.1 q.1/\RD K H p.2 q.2) kvs ps
 |.fdc kvs=>∃ o ps,H a=some (.frz o (.dT ps))/\D0 (λ(p:D×D) (q:List Key×V)=>RKeys p.1 q.1/\RD K H p.2 q.2) kvs ps
 |.dcn kvs=>∃ xs,H a=some (.ext (sK a xs))/\D0 (λ(p:NK×D) (q:NK×Addr×h6)=>p.1=q.1/\Kt H q.1 q.2.1 /\ ∃ v,RelV v q.2.2/\RD K H p.2 v) kvs xs
 |.fdn kvs=>∃ o xs,H a=some (.frz o (.ext (sK a xs)))/\D0 (λ(p:NK×D) (q:NK×Addr×h6)=>p.1=q.1/\Kt H q.1 q.2.1 /\ ∃ v,RelV v q.2.2/\RD K H p.2 v) kvs xs
 |.tab pos q=>zd H a pos q
def RM (K:Frag) (M:Mem) (H:Hp):Prop:=∀ a o,M a=some o->RO K H a o
def RS (K:Frag) (H:Hp) (σ:St) (ρ:ao):Prop:=σ.length = ρ.length /\ ∀ (i:Nat) (d:D),ρ[i]? = some (some d) -> ∃ v,σ[i]? = some (some v)/\RD K H d v
structure Ext (M:Mem) (H:Hp) (M':Mem) (H':Hp):Prop where
 kp:∀ a o,fz (M a)=true->H a=some o->H' a=some o
 nw:∀ a o,fz (M a)=true->H a=some o->M' a=M a
section
variable {K:Frag} {M M' M'':Mem} {H H' H'':Hp}
theorem Ext.keep (x:Ext M H M' H')(a:Addr)(o:HO)(n:M a=none)(e:H a=some o):H' a=some o:=x.kp a o (by rw[n];rfl) e
theorem Ext.new (x:Ext M H M' H')(a:Addr)(o:HO)(n:M a=none)(e:H a=some o):M' a=none:=(x.nw a o (by rw[n];rfl) e).trans n
theorem Ext.refl:Ext M H M H:=⟨λ_ _ _ h=>h,λ_ _ _ _=>rfl⟩
theorem Ext.trans (a:Ext M H M' H')(b:Ext M' H' M'' H''):Ext M H M'' H'' :=
 ⟨λc o n h=>b.kp c o (by rw[a.nw c o n h];exact n) (a.kp c o n h),λc o n h=>(b.nw c o (by rw[a.nw c o n h];exact n) (a.kp c o n h)).trans (a.nw c o n h)⟩
theorem RM.mut (r:RM K M H){o:O}(h:M a=some o):∃ ho,H a=some ho/\(∀ xs,ho ≠ .tup xs)/\(fz (some o)=false -> ∀ ob u,ho ≠ .frz ob u):=by
 have q:=r a o h
 cases o with
 | lst ds =>
   obtain⟨vs,e,_⟩:=q;exact⟨_,e,λ_ z=>(by cases z),λ_ _ _ z=>(by cases z)⟩
 | dct t kvs =>
   cases t with
   |false=>obtain⟨ps,e,_⟩:=q;exact⟨_,e,λ_ z=>(by cases z),λ_ _ _ z=>(by cases z)⟩
   |true=>obtain⟨ps,e,_⟩:=q;exact⟨_,e,λ_ z=>(by cases z),λ_ _ _ z=>(by cases z)⟩
 |fdc kvs=>obtain⟨ob,ps,e,_⟩:=q;exact⟨_,e,λ_ z=>(by cases z),λz=>(by cases z)⟩
 |fdn kvs=>obtain⟨ob,ps,e,_⟩:=q;exact⟨_,e,λ_ z=>(by cases z),λz=>(by cases z)⟩
 |dcn kvs=>obtain⟨xs,e,_⟩:=q;exact⟨_,e,λ_ z=>(by cases z),λ_ _ _ z=>(by cases z)⟩
 |tab pos u=>obtain⟨ps,e,_⟩:=q;exact⟨_,e,λ_ z=>(by cases z),λ_ _ _ z=>(by cases z)⟩
theorem RM.fzT (r:RM K M H)(e:H a=some (.tup xs)):M a=none:=by
 cases q:M a with
 |none=>rfl
 | some o =>
   obtain⟨ho,j,z,_⟩:=r.mut q;rw[e]at j;cases j;exact absurd rfl (z xs)
theorem RM.fzF (r:RM K M H){ob:Obj}{u:HO}(e:H a=some (.frz ob u)):fz (M a)=true:=by
 cases q:M a with
 |none=>rfl
 | some o =>
   obtain⟨ho,j,_,B⟩:=r.mut q;rw[e]at j;cases j
   cases z:fz (some o) with
   |true=>rfl
   |false=>exact absurd rfl (B z ob u)
theorem RM.out (r:RM K M H)(h:H a=none):M a=none:=by
 cases e:M a with
 |none=>rfl
 | some o =>
   obtain⟨ho,q,_⟩:=r.mut e;rw[h]at q;cases q
theorem Ext.stab (r:RM K M H)(x:Ext M H M' H'):Stab H H' where
 tup:=λa xs e=>x.keep a _ (r.fzT e) e
 frz:=λa o u e=>x.kp a _ (r.fzF e) e
theorem RS.mono (st:Stab H H'){ρ:ao}(h:RS K H σ ρ):RS K H' σ ρ :=
 ⟨h.1,λi d e=>let ⟨v,q,r⟩:=h.2 i d e; ⟨v,q,r.mono st⟩⟩
theorem RS.set {ρ:ao}(h:RS K H σ ρ)(i:Nat){d:D}(r:RD K H d v):RS K H (σ.set i (some v)) (ρ.set i (some d)):=by
 refine⟨by simp[h.1],λj e q=>?_⟩
 by_cases hij:i=j
 ·subst hij;have hi:i < ρ.length:=by
   have:=(Cw.mp q).1;simpa using this
  rw[Dw hi]at q
  cases q
  exact⟨v,by rw[Dw (by rw[h.1];exact hi)],r⟩
 ·rw[Em hij]at q ⊢;exact h.2 j e q
noncomputable def m8 (fr:List (Option Nat)) (ρ:ao):ao:=fr.map λo=>o.bind λj=>(ρ[j]?).join
theorem RS.inh {ρ:ao}(h:RS K H σ ρ)(fr:List (Option Nat)):RS K H (inh fr σ) (m8 fr ρ):=by
 refine⟨by simp[L2.inh,m8],λi d e=>?_⟩
 unfold m8 at e;unfold L2.inh;rw[CB]at e ⊢
 cases q:fr[i]? with
 |none=>rw[q]at e;cases e
 | some o =>
   rw[q]at e
   cases o with
   |none=>cases e
   | some j =>
     have e':some ((ρ[j]?).join)=some (some d):=e
     cases q' : ρ[j]? with
     |none=>rw[q']at e';cases e'
     | some w =>
       rw[q']at e'
       cases e'
       obtain⟨v,v1,v2⟩:=h.2 j d q';exact⟨v,by simp[v1],v2⟩
theorem RO.mono (st:Stab H H'){o:O}(h:RO K H a o)(e:∀ ho,H a=some ho->H' a=some ho):RO K H' a o:=by
 cases o with
 |lst ds=>obtain⟨vs,q,r⟩:=h;exact⟨vs,e _ q,r.mono st⟩
 | dct t kvs =>
   cases t with
   |false=>obtain⟨ps,q,r⟩:=h;exact⟨ps,e _ q,Jx r λ_ _ z=>⟨z.1,z.2.mono st⟩⟩
   |true=>obtain⟨ps,q,r⟩:=h;exact⟨ps,e _ q,Jx r λ_ _ z=>⟨z.1,z.2.mono st⟩⟩
 |fdc kvs=>obtain⟨ob,ps,q,r⟩:=h;exact⟨ob,ps,e _ q,Jx r λ_ _ z=>⟨z.1,z.2.mono st⟩⟩
 |fdn kvs=>obtain⟨ob,xs,q,r⟩:=h;exact⟨ob,xs,e _ q,Jx r λ_ _ j=>(by obtain⟨B,F,v,J,L⟩:=j;exact⟨B,F.keeps st.tup,v,J,L.mono st⟩)⟩
 |dcn kvs=>obtain⟨xs,q,r⟩:=h;exact⟨xs,e _ q,Jx r λ_ _ j=>(by obtain⟨B,F,v,J,L⟩:=j;exact⟨B,F.keeps st.tup,v,J,L.mono st⟩)⟩
 |tab pos u=>obtain⟨ps,U,Y⟩:=h;exact⟨ps,e _ U,Y.imp_right λj=>(by obtain⟨c',oc,vs,t,B,F,J⟩:=j;exact⟨c',oc,vs,t,B,st.frz _ _ _ F,J⟩)⟩
theorem RM.new (r:RM K M H)(n:H p=none):RM K M (upd H p ho):=λa o e=>by
 have ne:a≠p:=λz=>by subst z;obtain⟨_,q,_⟩:=r.mut e;rw[n]at q;cases q
 refine(r a o e).mono ⟨λb xs q=>?_,λb o u q=>?_⟩ λj q=>by rw[ak ne];exact q
 ·rw[ak (aQ q n)];exact q
 ·rw[ak (aQ q n)];exact q
theorem JC (n:H p=none):Ext M H M (upd H p ho):=⟨λa o _ e=>by rw[ak (aQ e n)];exact e,λ_ _ _ _=>rfl⟩
theorem RM.lay {o:O}(r:RM K M H)(n:H p=none)(h:RO K (upd H p ho) p o):RM K (ae M p o) (upd H p ho):=λa o' e=>by
 by_cases z:a=p
 ·subst z;rw[ad]at e;cases e;exact h
 ·rw[aq z]at e;exact r.new n a o' e
theorem Ext.lay {o:O}(n:H p=none):Ext M H (ae M p o) (upd H p ho) :=
 ⟨λa u _ e=>by rw[ak (aQ e n)];exact e,λa u m e=>by rw[aq (aQ e n)]⟩
theorem RM.put {o o0:O}(r:RM K M H)(m:M p=some o0)(h:RO K (upd H p ho) p o)(w:fz (some o0)=false:=by rfl):RM K (ae M p o) (upd H p ho):=λa o' e=>by
 by_cases z:a=p
 ·subst z;rw[ad]at e;cases e;exact h
 ·rw[aq z]at e;obtain⟨L,j,B,F⟩:=r.mut m;refine(r a o' e).mono ⟨λb xs q=>?_,λb o u q=>?_⟩ λJ q=>by rw[ak z];exact q
  ·rw[ak (λz=>by subst z;rw[j]at q;cases q;exact B xs rfl)];exact q
  ·rw[ak (λz=>by subst z;rw[j]at q;cases q;exact F w o u rfl)];exact q
theorem Ext.put {o o0:O}(m:M p=some o0)(w:fz (some o0)=false:=by rfl):Ext M H (ae M p o) (upd H p ho) :=
 ⟨λa u n e=>by rw[ak (λz=>by subst z;rw[m,w]at n;cases n)];exact e,λa u n e=>aq (λz=>by subst z;rw[m,w]at n;cases n)⟩
theorem RM.stabPut {o0:O}(r:RM K M H)(m:M p=some o0)(w:fz (some o0)=false:=by rfl):Stab H (upd H p ho):=(Ext.put (o:=o0) (ho:=ho) m w).stab r
end
noncomputable abbrev QD:=D->Mem->Prop
noncomputable abbrev TEd:=ao->Mem->QD->Prop
noncomputable abbrev TTd:=ao->Mem->(Bool->Mem->Prop)->Prop
noncomputable abbrev TAd:=ao->Mem->(List D->Mem->Prop)->Prop
structure bv where
 nx:ao->Mem->Prop
 rt:QD
 bk:ao->Mem->Prop:=λ_ _=>False
 ct:ao->Mem->Prop:=λ_ _=>False
noncomputable abbrev TSd:=bv->ao->Mem->Prop
def aa (T:TEd):Prop:=∀ ρ M Q Q',(∀ d M',Q d M'->Q' d M')->T ρ M Q->T ρ M Q'
def ay (T:TTd):Prop:=∀ ρ M Q Q',(∀ d M',Q d M'->Q' d M')->T ρ M Q->T ρ M Q'
def bg (T:TAd):Prop:=∀ ρ M Q Q',(∀ d M',Q d M'->Q' d M')->T ρ M Q->T ρ M Q'
structure LeD (a b:bv):Prop where
 nx:∀ ρ M,a.nx ρ M->b.nx ρ M
 rt:∀ d M,a.rt d M->b.rt d M
 bk:∀ ρ M,a.bk ρ M->b.bk ρ M
 ct:∀ ρ M,a.ct ρ M->b.ct ρ M
def aD (T:TSd):Prop:=∀ a b ρ M,LeD a b->T a ρ M->T b ρ M
noncomputable def KE' (K:Frag) (M:Mem) (H:Hp) (Q:VK):QD:=λd M'=>∀ v H',Ext M H M' H'->RM K M' H'->RD K H' d v->Q v H'
noncomputable def KT' (K:Frag) (M:Mem) (H:Hp) (Q:Bool->Hp->Prop):Bool->Mem->Prop:=λb M'=>∀ H',Ext M H M' H'->RM K M' H'->Q b H'
noncomputable def KA' (K:Frag) (M:Mem) (H:Hp) (Q:List V->Hp->Prop):List D->Mem->Prop:=λds M'=>∀ vs H',Ext M H M' H'->RM K M' H'->RDs K H' ds vs->Q vs H'
noncomputable def lE (K:Frag) (T:TEd):TE:=λσ H Q=>∃ ρ M,RS K H σ ρ /\ RM K M H/\T ρ M (KE' K M H Q)
noncomputable def lT (K:Frag) (T:TTd):TT:=λσ H Q=>∃ ρ M,RS K H σ ρ /\ RM K M H/\T ρ M (KT' K M H Q)
noncomputable def lA (K:Frag) (T:TAd):TA:=λσ H Q=>∃ ρ M,RS K H σ ρ /\ RM K M H/\T ρ M (KA' K M H Q)
structure Link (K:Frag) (M:Mem) (H:Hp) (a:bv) (b:bp):Prop where
 nx:∀ ρ M' σ H',Ext M H M' H'->RS K H' σ ρ -> RM K M' H'->a.nx ρ M'->b.nx σ H'
 rt:∀ d M' v H',Ext M H M' H'->RM K M' H'->RD K H' d v->a.rt d M'->b.rt v H'
 bk:∀ ρ M' σ H',Ext M H M' H'->RS K H' σ ρ -> RM K M' H'->a.bk ρ M'->b.bk σ H'
 ct:∀ ρ M' σ H',Ext M H M' H'->RS K H' σ ρ -> RM K M' H'->a.ct ρ M'->b.ct σ H'
noncomputable def lS (K:Frag) (T:TSd):TS:=λD σ H=>∃ ρ M A,RS K H σ ρ /\ RM K M H/\Link K M H A D/\T A ρ M
theorem Link.ext {M M':Mem}{a:bv}{b:bp}(l:Link K M H a b)(x:Ext M H M' H'):Link K M' H' a b :=
 ⟨λρ M2 σ H2 y=>l.nx ρ M2 σ H2 (x.trans y),λd M2 v H2 y=>l.rt d M2 v H2 (x.trans y),λρ M2 σ H2 y=>l.bk ρ M2 σ H2 (x.trans y),λρ M2 σ H2 y=>l.ct ρ M2 σ H2 (x.trans y)⟩
theorem PE.imp {t t':TE}(h:PE X e t)(i:∀ σ H Q,t' σ H Q->t σ H Q):PE X e t':=λpins s σ H Q I q=>h pins s σ H Q I (i _ _ _ q)
theorem PT.imp {t t':TT}(h:PT X e t)(i:∀ σ H Q,t' σ H Q->t σ H Q):PT X e t':=λpins s σ H Q I q=>h pins s σ H Q I (i _ _ _ q)
theorem PW.imp {t t':TT}(h:PW X e t)(i:∀ σ H Q,t' σ H Q->t σ H Q):PW X e t':=λwh pins s σ H Q I q=>h wh pins s σ H Q I (i _ _ _ q)
theorem PA.imp {e:List Expr}{t t':TA}(h:PA X e t)(i:∀ σ H Q,t' σ H Q->t σ H Q):PA X e t':=λp pins s σ H Q I q=>h p pins s σ H Q I (i _ _ _ q)
theorem PS.imp {e:Stmt}{t t':TS}(h:PS X e t)(i:∀ D σ H,t' D σ H->t D σ H):PS X e t':=λpins s σ H D I q=>h pins s σ H D I (i _ _ _ q)
theorem PSs.imp {e:List Stmt}{t t':TS}(h:PSs X e t)(i:∀ D σ H,t' D σ H->t D σ H):PSs X e t':=λpins s σ H D I q=>h pins s σ H D I (i _ _ _ q)
end
variable {M M':Mem}{ds:List D}{d:D}{H2:Hp}{Q:VK}{ta:TEd}{tr:TAd}{j:Nat}{es:List Expr}
section
theorem KE'.ext {M2:Mem}(x:Ext M H M2 H2)(h:KE' K M H Q d M'):KE' K M2 H2 Q d M':=λv H' y=>h v H' (x.trans y)
theorem KT'.ext {M2:Mem}{Q:Bool->Hp->Prop}{d:Bool}(x:Ext M H M2 H2)(h:KT' K M H Q d M'):KT' K M2 H2 Q d M':=λH' y=>h H' (x.trans y)
theorem KA'.ext {M2:Mem}{Q:List V->Hp->Prop}{d:List D}(x:Ext M H M2 H2)(h:KA' K M H Q d M'):KA' K M2 H2 Q d M':=λv H' y=>h v H' (x.trans y)
noncomputable abbrev R2d:=D->D->Mem->QD->Prop
noncomputable abbrev R1d:=D->Mem->QD->Prop
noncomputable abbrev RAd:=List D->Mem->QD->Prop
def am (r:R2d):Prop:=∀ x y M Q Q',(∀ d M',Q d M'->Q' d M')->r x y M Q->r x y M Q'
def iF (r:R1d):Prop:=∀ x M Q Q',(∀ d M',Q d M'->Q' d M')->r x M Q->r x M Q'
def aJ (r:RAd):Prop:=∀ x M Q Q',(∀ d M',Q d M'->Q' d M')->r x M Q->r x M Q'
noncomputable def l2 (K:Frag) (rd:R2d):R2:=λv u H Q=>∃ x y M,RM K M H/\RD K H x v/\RD K H y u/\rd x y M (KE' K M H Q)
noncomputable def l1 (K:Frag) (rd:R1d):V->Hp->VK->Prop:=λv H Q=>∃ x M,RM K M H/\RD K H x v/\rd x M (KE' K M H Q)
noncomputable def lR (K:Frag) (rd:RAd):List V->Hp->VK->Prop:=λvs H Q=>∃ ds M,RM K M H/\RDs K H ds vs/\rd ds M (KE' K M H Q)
noncomputable def lMt (K:Frag) (rd:D->List D->Mem->QD->Prop):V->List V->Hp->VK->Prop:=λv vs H Q=>∃ x ds M,RM K M H/\RD K H x v/\RDs K H ds vs/\rd x ds M (KE' K M H Q)
noncomputable def gM (i:Nat):TEd:=λρ M Q=>∃ d,ρ[i]? = some (some d)/\Q d M
noncomputable def wC (d:D):TEd:=λ_ M Q=>Q d M
noncomputable def wOp (rd:R2d) (ta tb:TEd):TEd:=λρ M Q=>ta ρ M λx M1=>tb ρ M1 λy M2=>rd x y M2 Q
noncomputable def wUn (rd:R1d) (ta:TEd):TEd:=λρ M Q=>ta ρ M λx M1=>rd x M1 Q
noncomputable def bh:TAd:=λ_ M Q=>Q [] M
noncomputable def aH (ta:TEd) (tr:TAd):TAd:=λρ M Q=>ta ρ M λx M1=>tr ρ M1 λxs M2=>Q (x::xs) M2
noncomputable def wAr (rd:RAd) (t:TAd):TEd:=λρ M Q=>t ρ M λds M1=>rd ds M1 Q
theorem qE:aa (gM i):=λ_ _ _ _ h j=>(by obtain⟨d,e,q⟩:=j;exact⟨d,e,h _ _ q⟩)
theorem dS:aa (wC d):=λ_ _ _ _ h q=>h _ _ q
theorem cG {rd:R2d}{tb:TEd}(j:am rd)(z:aa ta)(B:aa tb):aa (wOp rd ta tb):=λρ M Q Q' h q =>
 z _ _ _ _ (λx L F=>B _ _ _ _ (λy M2 J=>j _ _ _ _ _ h J) F) q
theorem tL {rd:R1d}(j:iF rd)(z:aa ta):aa (wUn rd ta):=λρ M Q Q' h q=>z _ _ _ _ (λx F B=>j _ _ _ _ h B) q
theorem av:bg bh:=λ_ _ _ _ h q=>h _ _ q
theorem ax (j:aa ta)(z:bg tr):bg (aH ta tr):=λρ M Q Q' h q =>
 j _ _ _ _ (λx J B=>z _ _ _ _ (λxs M2 F=>h _ _ F) B) q
theorem eC {rd:RAd}{t:TAd}(j:aJ rd)(z:bg t):aa (wAr rd t):=λρ M Q Q' h q=>z _ _ _ _ (λds F B=>j _ _ _ _ h B) q
section
variable {X:Cx} {a b:Expr} {ta tb:TEd} {pos:Pos}
theorem vL (B:X.N[i]? = some x)(j:Vis X.env.scope x)(hd:(x==("__debug__":Str))=false)(z:(x==("__classdict__":Str))=false):PE X (.Name x pos) (lE X.K (gM i)):=by
 refine PE.imp (uZ B j hd z) λσ H Q h=>?_;obtain⟨ρ,M,rs,rm,d,e,q⟩:=h;obtain⟨v,j,rd⟩:=rs.2 i d e;exact⟨v,j,q v H Ext.refl rm rd⟩
theorem le_int {i:Int}:PE X (.Constant (.int i) j pos) (lE X.K (wC (.int i))) :=
 PE.imp v0 λσ H Q g9=>(by obtain⟨ρ,M,rs,rm,q⟩:=g9;exact q _ H Ext.refl rm (Jq.mpr rfl))
theorem xO {i:Bool}:PE X (.Constant (.bool i) j pos) (lE X.K (wC (.bl i))) :=
 PE.imp xl λσ H Q g9=>(by obtain⟨ρ,M,rs,rm,q⟩:=g9;exact q _ H Ext.refl rm (Jt.mpr rfl))
theorem vM:PE X (.Constant .none j pos) (lE X.K (wC .non)) :=
 PE.imp v5 λσ H Q g9=>(by obtain⟨ρ,M,rs,rm,q⟩:=g9;exact q _ H Ext.refl rm (Jv.mpr rfl))
theorem vN:PE X (.Constant (.str x) j pos) (lE X.K (wC (.str x))) :=
 PE.imp v6 λσ H Q g9=>(by obtain⟨ρ,M,rs,rm,q⟩:=g9;exact q _ H Ext.refl rm (Jr.mpr rfl))
theorem eD {rd:R2d}(O:am rd)(ma:aa ta)(mb:aa tb)(σ:St)(H:Hp)(Q:VK)(h:lE K (wOp rd ta tb) σ H Q):tOp (l2 K rd) (lE K ta) (lE K tb) σ H Q:=by
 obtain⟨ρ,M,rs,rm,q⟩:=h;refine⟨ρ,M,rs,rm,ma _ _ _ _ (λx U Y v H1 J j z=>?_) q⟩;refine⟨ρ,U,rs.mono (J.stab rm),j,mb _ _ _ _ (λy M2 Z u H2 L B F=>?_) Y⟩;exact⟨x,y,M2,B,z.mono (L.stab j),F,O _ _ _ _ _ (λd M' k=>k.ext (J.trans L)) Z⟩
theorem xP {op:EU}{rd:R2d}(ho:OpR X (CW op) (l2 X.K rd))(j:am rd)(ma:aa ta)(mb:aa tb)(z:PE X a (lE X.K ta))(B:PE X b (lE X.K tb)):PE X (.BinOp a op b pos) (lE X.K (wOp rd ta tb)) :=
 PE.imp (xv ho z B) (eD j ma mb)
theorem vO {op:Hj}{rd:R2d}(ho:OpR X (CA op) (l2 X.K rd))(j:am rd)(ma:aa ta)(mb:aa tb)(z:PE X a (lE X.K ta))(B:PE X b (lE X.K tb))(hm:EE op b=false) :
 PE X (.Compare a [op] [b] pos) (lE X.K (wOp rd ta tb)):=PE.imp (tz ho z B hm) (eD j ma mb)
noncomputable def dA (t:TEd):TTd:=λρ M Q=>t ρ M λx M1=>∃ k,x = .bl k/\Q k M1
theorem jj {t:TEd}(h:aa t):ay (dA t):=λρ M Q Q' i q=>h _ _ _ _ (λx B j=>(by obtain⟨k,e,z⟩:=j;exact⟨k,e,i _ _ z⟩)) q
theorem jk {t:TEd}(m:aa t)(σ:St)(H:Hp)(Q:Bool->Hp->Prop)(h:lT K (dA t) σ H Q):lP (lE K t) σ H Q:=by
 obtain⟨ρ,M,rs,rm,q⟩:=h;refine⟨ρ,M,rs,rm,m _ _ _ _ (λx J g9 v H1 F j z=>?_) q⟩;obtain⟨k,e,B⟩:=g9;subst e;exact⟨k,Jt.mp z,B H1 F j⟩
theorem vP {op:Hj}{rd:R2d}(ho:OpR X (CA op) (l2 X.K rd))(j:am rd)(ma:aa ta)(mb:aa tb)(z:PE X a (lE X.K ta))(B:PE X b (lE X.K tb))(hm:EE op b=false) :
 PT X (.Compare a [op] [b] pos) (lT X.K (dA (wOp rd ta tb))) :=
 PT.imp (tD ho z B hm) λσ H Q h=>by
  have h1:=jk (cG j ma mb) σ H Q h;exact eD j ma mb σ H _ h1
theorem xQ {op:UnaryOp}{rd:R1d}(ho:UnR X (unaryOp op) (l1 X.K rd))(B:iF rd)(ma:aa ta)(F:PE X a (lE X.K ta)):PE X (.UnaryOp op a pos) (lE X.K (wUn rd ta)) :=
 PE.imp (xw ho F) λσ H Q g9=>(by obtain⟨ρ,M,rs,rm,q⟩:=g9;exact⟨ρ,M,rs,rm,ma _ _ _ _ (λx J L v H1 O j z=>⟨x,J,j,z,B _ _ _ _ (λd M' k=>k.ext O) L⟩) q⟩)
theorem sL {rd:R2d}(ho:IxR X (l2 X.K rd))(j:am rd)(ma:aa ta)(mb:aa tb)(z:PE X a (lE X.K ta))(B:PE X b (lE X.K tb))(hs:gK b):PE X (.Subscript a b pos) (lE X.K (wOp rd ta tb)) :=
 PE.imp (xE ho z B hs) (eD j ma mb)
theorem bV:PA X [] (lA X.K bh):=PA.imp og λσ H Q g9=>(by obtain⟨ρ,M,rs,rm,q⟩:=g9;exact q _ H Ext.refl rm RDs.nil)
theorem oz (ma:aa ta)(mr:bg tr)(σ:St)(H:Hp)(Q:List V->Hp->Prop)(h:lA K (aH ta tr) σ H Q):sy (lE K ta) (lA K tr) σ H Q:=by
 obtain⟨ρ,M,rs,rm,q⟩:=h;refine⟨ρ,M,rs,rm,ma _ _ _ _ (λx O U v H1 J j z=>?_) q⟩;refine⟨ρ,O,rs.mono (J.stab rm),j,mr _ _ _ _ (λxs M2 Y vs H2 L B F=>?_) U⟩;exact Y (v::vs) H2 (J.trans L) B (RDs.cons (z.mono (L.stab j)) F)
theorem bn (ma:aa ta)(mr:bg tr)(j:PE X e (lE X.K ta))(z:PA X es (lA X.K tr))(hs:Cm (e::es) X.env=(false,eval e X.env)::Cm es X.env) :
 PA X (e::es) (lA X.K (aH ta tr)):=PA.imp (gH j z hs) (oz ma mr)
theorem bd {rd:RAd}{t:TAd}(B:aJ rd)(mt:bg t)(σ:St)(H:Hp)(Q:VK)(h:lE K (wAr rd t) σ H Q):tCB (lR K rd) (lA K t) σ H Q:=by
 obtain⟨ρ,M,rs,rm,q⟩:=h;exact⟨ρ,M,rs,rm,mt _ _ _ _ (λds F J vs H1 L j z=>⟨ds,F,j,z,B _ _ _ _ (λd M' k=>k.ext L) J⟩) q⟩
noncomputable def m9:RAd:=λds M Q=>ds.length<=tv/\Q (.tup ds) M
noncomputable def md:RAd:=λds M Q=>ds.length<=tv /\ ∀ p,M p=none->Q (.ref p) (ae M p (.lst ds))
theorem oA:aJ m9:=λ_ _ _ _ h j=>(by obtain⟨z,q⟩:=j;exact⟨z,h _ _ q⟩)
theorem oB:aJ md:=λ_ _ _ _ h j=>(by obtain⟨z,q⟩:=j;exact⟨z,λp n=>h _ _ (q p n)⟩)
theorem cb (rm:RM K M H)(rd:RDs K H ds vs)(q:KE' K M H Q (.tup ds) M)(n:H p=none):Q (.ref p) (upd H p (.tup vs)):=by
 have x:Ext M H M (upd H p (.tup vs)):=JC n;exact q (.ref p) _ x (rm.new n) (JA ⟨p,vs,rfl,aM,rd.mono (x.stab rm)⟩)
theorem bP (rm:RM K M H)(rd:RDs K H ds vs)(q:∀ p,M p=none->KE' K M H Q (.ref p) (ae M p (.lst ds)))(n:H p=none):Q (.ref p) (upd H p (.lst vs)):=by
 have x:Ext M H (ae M p (.lst ds)) (upd H p (.lst vs)):=Ext.lay n;have x0:Ext M H M (upd H p (.lst vs)):=JC n;exact q p (rm.out n) (.ref p) _ x (rm.lay n ⟨vs,aM,rd.mono (x0.stab rm)⟩) (Js.mpr rfl)
theorem vQ {t:TAd}{k:Nat}(mt:bg t)(h:PA X es (lA X.K t)):PE X (.Tuple es k pos) (lE X.K (wAr m9 t)) :=
 PE.imp (vB h) λσ H Q B=>(by obtain⟨ρ,M,rs,rm,q⟩:=B;exact⟨ρ,M,rs,rm,mt _ _ _ _ (λds O B vs H1 J F j=>(by obtain⟨z,L⟩:=B;exact⟨by rw[j.length];exact z,λp n=>cb F j (L.ext J) n⟩)) q⟩)
theorem vR {t:TAd}(mt:bg t)(h:PA X es (lA X.K t)):PE X (.List es pos) (lE X.K (wAr md t)) :=
 PE.imp (vC h) λσ H Q B=>(by obtain⟨ρ,M,rs,rm,q⟩:=B;exact⟨ρ,M,rs,rm,mt _ _ _ _ (λds O B vs H1 J F j=>(by obtain⟨z,L⟩:=B;exact⟨by rw[j.length];exact z,λp n=>bP F j (λp' n'=>(L p' n').ext J) n⟩)) q⟩)
end
end
end Mi
namespace Mi
end Mi
section
theorem fe:fillsNumberSlot (.type "tuple") "mul" = pure false :=
 PyProof.Rows.fillsNumberSlot_seq (id:="tuple.__mul__") (r:=some (.builtin "tuple.__rmul__")) F.slot_tuple_mul.lookup (by decide +kernel) F.slot_tuple_rmul.lookup (by decide +kernel)
theorem jm:seqRepeat? (.type "tuple")=pure (some (.builtin "tuple.__mul__")):=by
 unfold seqRepeat?;rw[G5 (T:="tuple") (name:="__mul__") (id:="tuple.__mul__") F.slot_tuple_mul.lookup (by decide +kernel),G5 (T:="tuple") (name:="__rmul__") (id:="tuple.__rmul__") F.slot_tuple_rmul.lookup (by decide +kernel)]
 rfl
theorem gN (a:Int)(t:Tok)(l:Addr)(items:Array h6)(n:Nat)(d:Option Addr)(sl:Array (Option h6)) :
 Ja (Fo.«int.__rmul__» ⟨[.int a t,.ref l],[]⟩) (λ_ R s=>s.heap.get? l=some { cls:=.type "tuple",dict:=d,data:=.seq items n,slots:=sl }/\R (.ok (.ret Value.notImplemented)) s) :=
 .of_wp λprog w A R s h=>by obtain⟨j,g,d,tk,os⟩:=s;obtain⟨z,h⟩:=h;wp_walk;exact⟨_,rfl,h⟩
open AutoSeq1 (wpAny_loadPart') in
theorem oC (l:Addr)(items:Array h6)(n:Nat)(dd:Option Addr)(sl:Array (Option h6))(x:Int)(u:Tok)(h1 : -(2 ^ 63)<=x)(h2:x<2 ^ 63)(F:items.size*x.toNat<=tv) :
 Ja (Fo.«tuple.__mul__» ⟨[.ref l,.int x u],[]⟩) (λ_ R s=>s.heap.get? l=some { cls:=.type "tuple",dict:=dd,data:=.seq items n,slots:=sl } /\
  (if items.isEmpty || x==1 then R (.ok (.ret (.ref l))) s else R (.ok (.ret (.ref s.heap.objs.size))) { s with heap:=s.heap.push { cls:=.type "tuple",data:=.seq ((Cd x.toNat items).foldl (· ++ ·) #[]) } })) :=
 .of_wp λprog w A R s h=>by
  obtain⟨Z,g,d,tk,os⟩:=s;obtain⟨z,h⟩:=h;have f1:=AutoSeq1.idx_int;have J:(decide (x < -(2 ^ 63)) || decide (x≥2 ^ 63))=false:=by
   rw[decide_eq_false (by lia),decide_eq_false (by lia)];rfl
  wp_walk using Dh z
  refine wpAny_ite_false (decide_eq_false (by rw[J];decide)) ?_
  dsimp only
  by_cases j:(items.isEmpty || x==1)=true
  ·rw[if_pos j]at h
   wp_walk using Dh z
   exact⟨_,rfl,h⟩
  ·rw[if_neg j]at h
   wp_walk using Dh z
   simp only[Fi,not_or]at j
   by_cases e2:x<=0
   ·have B:(decide (x<=0) || items.isEmpty)=true:=by rw[decide_eq_true e2];rfl
    rw[if_pos B];have L:x.toNat=0:=by lia
    rw[L]at h
    wp_walk
    exact⟨_,rfl,h⟩
   ·have B : ¬ (decide (x<=0) || items.isEmpty)=true:=by simp;exact⟨by lia,by simpa using j.1⟩
    rw[if_neg B];have hx:((items.size:Nat):Int)*x=((items.size*x.toNat:Nat):Int):=by
     rw[Int.natCast_mul,Hd (by lia)]
    have hs:tv=16777216:=s9;have O : ¬ ((items.size:Nat):Int)*x > (2 ^ 63 - 1) / 8:=by rw[hx];lia
    rw[if_neg O];have U : ¬ Fz (((items.size:Nat):Int)*x)=true:=by
     rw[hx];unfold Fz;intro Y;have h7:=of_decide_eq_true Y;lia
    rw[if_neg U]
    wp_walk
    have hsz:((Cd x.toNat items).foldl (· ++ ·) #[]).size<=tv:=by
     have:∀ (k:Nat) (a:Array h6),((Cd k items).foldl (· ++ ·) a).size=a.size+items.size*k:=by
      intro k;induction k with
      |zero=>intro a;simp
      |succ k ih=>intro a;rw[CQ,Fe,ih,Array.size_append,Nat.mul_succ];lia
     rw[this];simpa using F
    refine wpAny_ite_false (decide_eq_false (J9.mpr hsz)) ?_
    wp_walk
    exact⟨_,rfl,h⟩
end
section
section
variable {X:Cx}
noncomputable def sM (K:Frag):R2:=λx y H Q=>∃ l k xs,x = .ref l/\y = .int k/\SqT K H l xs /\ -(2 ^ 63)<=k/\k<2 ^ 63/\xs.length*k.toNat<=tv /\
 ((xs=[]∨k=1)->Q (.ref l) H)/\(¬ (xs=[]∨k=1) -> ∀ p,H p=none->Q (.ref p) (upd H p (.tup (Cd k.toNat xs).flatten)))
theorem tM:OpR X (CW .Mult) (sM X.K):=by
 intro pins s σ H x y v u Q I rx ry h;obtain⟨l,k,xs,rfl,rfl,J,h1,h2,j,L,O⟩:=h
 cases rx
 obtain⟨t,rfl⟩:=ry;obtain⟨its,r,Y,_⟩:=I.tuple J;have Z:=r.length;obtain⟨⟨cls,dd,dat,sl⟩,e,B,n,hd⟩:=Y;dsimp only at B hd;subst B hd;have hlen:its.toArray.size*k.toNat<=tv:=by rw[y2,<- Z];exact j
 have f0:∀ m:Nat,HA (λx1 x2=>x1++x2) #[] (Cd m its.toArray)=(Cd m its).flatten.toArray:=λm=>by
  have:=dQ its m [];rw[Gv]at this;exact this
 refine FG (T:="tuple") (U:="int") (by decide) ⟨_,e,rfl⟩ (λs'=>Gm s' k t) fe IQ Ff jm F.slot_int_index.lookup
  (DW Ff (Gm s k t) Im (HW _ _) (gN k t l its.toArray n dd sl)
    ⟨e,rfl,⟨_,e,rfl⟩,DW F.slot_tuple_mul ⟨_,e,rfl⟩ F.entry_tuple_mul (F.args_tuple_mul_2 _ _) (oC l its.toArray n dd sl k t h1 h2 hlen) ⟨e,?_⟩⟩)
 have hi:(its.toArray.isEmpty || k==1)=true↔(xs=[]∨k=1):=by
  rw[<- r.nil_iff];simp
 split
 ·next c=>exact⟨.ref l,H,I,rfl,L (hi.mp c)⟩
 ·next c =>
  rw[f0];refine⟨.ref s.heap.objs.size,_,I.laid (t':=s.toks) (o:=.tup (Cd k.toNat xs).flatten) (λb ob q=>hD _ q) (Cc _) ?_,rfl,O (λz=>c (hi.mpr z)) _ (I.hok.fresh (Cc _))⟩;exact⟨by rw[kM,Nat.mul_comm];exact j,_,r.rep k.toNat,F4 _ _⟩
end
end
section
section
variable {X:Cx}
theorem tN:OpR X (CW .Add) (λx y H Q=>∃ a b ys,x = .ref a/\y = .ref b/\SqT X.K H a []/\SqT X.K H b ys/\Q (.ref b) H):=by
 intro pins s σ H x y v u Q I rx ry h;obtain⟨a,b,ys,rfl,rfl,Y,Z,q⟩:=h
 cases rx
 cases ry
 obtain⟨its,r1,p1,_⟩:=I.tuple Y;obtain⟨j,r2,p2,_⟩:=I.tuple Z;have e0:its=[]:=r1.nil_iff.mpr rfl;obtain⟨⟨cls,dd,data,sl⟩,ho,O,n,hd⟩:=id p1;obtain⟨⟨U,J,data2,L⟩,z,B,n2,hd2⟩:=id p2;simp only at O hd B hd2;subst O hd B hd2;exact HR ⟨_,ho,rfl⟩ ⟨_,z,rfl⟩ G3 Hk EX ES (EF _ _)
  (tuple_addW0 a b its.toArray j.toArray n n2 dd J sl L (by simp[e0])) ⟨ho,z,⟨.ref b,H,I,rfl,q⟩⟩
end
end
namespace Mi
variable {K:Frag}{M:Mem}{H:Hp}{Q:VK}{v:V}
section
def MulOk (i j:Int):Prop:=(-(2 ^ 64)<i/\i<2 ^ 64)∨(-(2 ^ 64)<j/\j<2 ^ 64)∨(He i<=2 ^ 20/\He j<=2 ^ 20)
theorem MulOk.ok {i j:Int}(h:MulOk i j):IntMulOk i j:=by
 rcases h with h|h|h
 ·exact IntMulOk.of_left (intBits_le_64 h.1 h.2)
 ·exact IntMulOk.of_right (intBits_le_64 h.1 h.2)
 ·exact IntMulOk.of_bits h.1 h.2
noncomputable def dg:R2d
 |.int i,.int j,M,Q=>Q (.int (i+j)) M
 |.tup a,.tup b,M,Q=>(a≠[]∨True)/\a.length+b.length<=tv/\Q (.tup (a++b)) M
 |.ref a,.ref b,M,Q=>∃ xs ys,M a=some (.lst xs)/\M b=some (.lst ys)/\xs.length+ys.length<=tv /\ ∀ p,M p=none->Q (.ref p) (ae M p (.lst (xs++ys)))
 |.str x,.str y,M,Q=>x.length+y.length<=tv/\Q (.str (x++y)) M
 |_,_,_,_=>False
noncomputable def jn:R2d
 |.int i,.int j,M,Q=>Q (.int (i - j)) M
 |_,_,_,_=>False
noncomputable def dU:R2d
 |.int i,.int j,M,Q=>MulOk i j/\Q (.int (i*j)) M
 |.ref a,.int k,M,Q=>∃ xs,M a=some (.lst xs) /\ -(2 ^ 63)<=k/\k<2 ^ 63/\xs.length*k.toNat<=tv /\ ∀ p,M p=none->Q (.ref p) (ae M p (.lst (Cd k.toNat xs).flatten))
 |.tup ds,.int k,M,Q=>-(2 ^ 63)<=k/\k<2 ^ 63/\ds.length*k.toNat<=tv/\Q (.tup (Cd k.toNat ds).flatten) M
 |_,_,_,_=>False
noncomputable def fP:R2d
 |.int i,.int j,M,Q=>0<j/\j<2 ^ 256/\Q (.int (i / j)) M
 |_,_,_,_=>False
noncomputable def jo:R2d
 |.int i,.int j,M,Q=>0<j/\Q (.int (i % j)) M
 |_,_,_,_=>False
noncomputable def jp:R2d
 |.int i,.int j,M,Q=>0<=j/\j<=1000000/\i.natAbs<2 ^ 64/\Q (.int (i ^ j.toNat)) M
 |_,_,_,_=>False
theorem jq:am dg:=by
 intro x y M Q Q' h q
 cases x <;> cases y <;> first
  |exact q.elim
  |exact h _ _ q
  |exact⟨q.1,h _ _ q.2⟩
  |exact⟨q.1,q.2.1,h _ _ q.2.2⟩
  |(obtain⟨xs,ys,j,B,z,q⟩:=q;exact⟨xs,ys,j,B,z,λp n=>h _ _ (q p n)⟩)
theorem qF:am jn:=by
 intro x y M Q Q' h q
 cases x <;> cases y <;> first|exact q.elim|exact h _ _ q
theorem qG:am dU:=by
 intro x y M Q Q' h q
 cases x <;> cases y <;> first
  |exact q.elim
  |exact⟨q.1,h _ _ q.2⟩
  |exact⟨q.1,q.2.1,q.2.2.1,h _ _ q.2.2.2⟩
  |(obtain⟨xs,j,z,B,F,q⟩:=q;exact⟨xs,j,z,B,F,λp n=>h _ _ (q p n)⟩)
theorem oD:am fP:=by
 intro x y M Q Q' h q
 cases x <;> cases y <;> first|exact q.elim|exact⟨q.1,q.2.1,h _ _ q.2.2⟩
theorem qH:am jo:=by
 intro x y M Q Q' h q
 cases x <;> cases y <;> first|exact q.elim|exact⟨q.1,h _ _ q.2⟩
theorem qI:am jp:=by
 intro x y M Q Q' h q
 cases x <;> cases y <;> first|exact q.elim|exact⟨q.1,q.2.1,q.2.2.1,h _ _ q.2.2.2⟩
section
variable {X:Cx}
theorem OpR.of {f:h6->h6->Sem h6}{r r':R2}(h:OpR X f r)(i:∀ v u H Q,r' v u H Q->r v u H Q):OpR X f r':=λpins s σ H x y v u Q I rx ry q=>h pins s σ H x y v u Q I rx ry (i _ _ _ _ q)
theorem IxR.of {r r':R2}(h:IxR X r)(i:∀ v u H Q,r' v u H Q->r v u H Q):IxR X r':=λa b pins s σ H x y v u Q I rx ry q=>h a b pins s σ H x y v u Q I rx ry (i _ _ _ _ q)
theorem CallR.of {f:h6}{r r':List V->Hp->VK->Prop}(h:CallR X f r)(i:∀ vs H Q,r' vs H Q->r vs H Q):CallR X f r':=λpins s σ H xs us Q I rx q=>h pins s σ H xs us Q I rx (i _ _ _ q)
theorem xR {a b:List D}{u:V}(rm:RM K M H)(rx:RD K H (.tup a) v)(ry:RD K H (.tup b) u)(q:dg (.tup a) (.tup b) M (KE' K M H Q)):sC K v u H Q∨∃ a b ys,v = .ref a/\u = .ref b/\SqT K H a []/\SqT K H b ys/\Q (.ref b) H:=by
 obtain⟨a',vs,rfl,z,j⟩:=Jw rx;obtain⟨b',us,rfl,B,F⟩:=Jw ry;obtain⟨_,L,q⟩:=q;have l1:=j.length;have l2:=F.length
 by_cases J:a=[]
 ·subst J;have:vs=[]:=RDs.nil_iff.mp j;subst this;exact .inr ⟨a',b',us,rfl,rfl,z,B,q _ H Ext.refl rm ry⟩
 refine .inl ⟨a',b',vs,us,rfl,rfl,z,B,λe=>J (E4.mp (by rw[<- l1,e];rfl)),by lia,λe=>?_,λ_ p n=>cb rm (j.append F) q n⟩
 have eb:b=[]:=E4.mp (by rw[<- l2,e];rfl)
 subst eb;rw[Dv]at q;exact q _ H Ext.refl rm rx
theorem jr:OpR X (CW .Add) (l2 X.K dg):=by
 refine OpR.of (op_add.or ((op_catT.or tN).or (op_cat.or lU))) λv u H Q h=>?_;obtain⟨x,y,M,rm,rx,ry,q⟩:=h
 cases x <;> cases y <;> first
  |exact q.elim
  |(cases Jq.mp rx;cases Jq.mp ry;exact .inl ⟨_,_,rfl,rfl,q _ H Ext.refl rm (Jq.mpr rfl)⟩)
  |exact .inr (.inl (xR rm rx ry q))
  | (cases Js.mp rx;cases Js.mp ry
     obtain⟨xs,ys,F,J,z,q⟩:=q;obtain⟨vs,h1,j⟩:=rm _ _ F;obtain⟨us,h2,B⟩:=rm _ _ J;have l1:=j.length;have l2:=B.length;refine .inr (.inr (.inl ⟨_,_,vs,us,rfl,rfl,h1,h2,by lia,λp n=>bP rm (j.append B) q n⟩)))
  |(cases Jr.mp rx;cases Jr.mp ry;exact .inr (.inr (.inr ⟨_,_,rfl,rfl,q.1,q.2 _ H Ext.refl rm (Jr.mpr rfl)⟩)))
theorem qJ:OpR X (CW .Sub) (l2 X.K jn):=by
 refine OpR.of vt λv u H Q h=>?_;obtain⟨x,y,M,rm,rx,ry,q⟩:=h
 cases x <;> cases y <;> first
  |exact q.elim
  |(cases Jq.mp rx;cases Jq.mp ry;exact⟨_,_,rfl,rfl,q _ H Ext.refl rm (Jq.mpr rfl)⟩)
theorem op_mul_i:OpR X (CW .Mult) (rI MulOk λi j=>.int (i*j)):=opI λ_ _ _ _ _ _ _ z q=>mul_int q z.ok
theorem xS {a:List D}{k:Int}{u:V}(rm:RM K M H)(rx:RD K H (.tup a) v)(ry:RD K H (.int k) u)(q:dU (.tup a) (.int k) M (KE' K M H Q)):sM K v u H Q:=by
 obtain⟨a',vs,rfl,z,j⟩:=Jw rx
 cases Jq.mp ry
 obtain⟨B,F,J,q⟩:=q;have l1:=j.length;refine⟨a',k,vs,rfl,rfl,z,B,F,by rw[l1];exact J,λe=>?_,λ_ p n=>cb rm (j.rep _) q n⟩
 have ea:(Cd k.toNat a).flatten=a:=by
  rcases e with e|e
  ·have:a=[]:=E4.mp (by rw[<- l1,e];rfl)
   subst this;simp
  ·subst e;simp
 rw[ea]at q;exact q _ H Ext.refl rm rx
theorem qK:OpR X (CW .Mult) (l2 X.K dU):=by
 refine OpR.of (op_mul_i.or (op_rep.or tM)) λv u H Q h=>?_;obtain⟨x,y,M,rm,rx,ry,q⟩:=h
 cases x <;> cases y <;> first
  |exact q.elim
  |(cases Jq.mp rx;cases Jq.mp ry;exact .inl ⟨_,_,rfl,rfl,q.1,q.2 _ H Ext.refl rm (Jq.mpr rfl)⟩)
  | (cases Js.mp rx;cases Jq.mp ry
     obtain⟨xs,z,B,F,J,q⟩:=q;obtain⟨vs,h1,j⟩:=rm _ _ z;have l1:=j.length;exact .inr (.inl ⟨_,_,vs,rfl,rfl,h1,B,F,by rw[l1];exact J,λp n=>bP rm (j.rep _) q n⟩))
  |exact .inr (.inr (xS rm rx ry q))
theorem qL:OpR X (CW .FloorDiv) (rI (λ_ j=>0<j/\j<2 ^ 256) λi j=>.int (i / j)):=L2.opI λi j _ _ _ _ _ z q=>by
 have h1:(0:Int)<j:=z.1;have h2:j<2 ^ 256:=z.2;have B:j.natAbs.log2<256:=(Nat.log2_lt (by lia)).mpr (by lia)
 exact floordiv_int (by lia) (by rw[Int.fdiv_eq_ediv_of_nonneg i (by lia)];exact q) (.inl (PyProof.noPylong_of_log2 (by lia)))
theorem oE:OpR X (CW .FloorDiv) (l2 X.K fP):=by
 refine OpR.of qL λv u H Q h=>?_;obtain⟨x,y,M,rm,rx,ry,q⟩:=h
 cases x <;> cases y <;> first
  |exact q.elim
  |(cases Jq.mp rx;cases Jq.mp ry;exact⟨_,_,rfl,rfl,⟨q.1,q.2.1⟩,q.2.2 _ H Ext.refl rm (Jq.mpr rfl)⟩)
theorem qM:OpR X (CW .Mod) (l2 X.K jo):=by
 refine OpR.of vw λv u H Q h=>?_;obtain⟨x,y,M,rm,rx,ry,q⟩:=h
 cases x <;> cases y <;> first
  |exact q.elim
  |(cases Jq.mp rx;cases Jq.mp ry;exact⟨_,_,rfl,rfl,q.1,q.2 _ H Ext.refl rm (Jq.mpr rfl)⟩)
theorem qN:OpR X (CW .Pow) (l2 X.K jp):=by
 refine OpR.of vx λv u H Q h=>?_;obtain⟨x,y,M,rm,rx,ry,q⟩:=h
 cases x <;> cases y <;> first
  |exact q.elim
  |(cases Jq.mp rx;cases Jq.mp ry;exact⟨_,_,rfl,rfl,⟨q.1,q.2.1,q.2.2.1⟩,q.2.2.2 _ H Ext.refl rm (Jq.mpr rfl)⟩)
noncomputable def jt:R1d
 |.int i,M,Q=>Q (.int (-i)) M
 |_,_,_=>False
theorem ju:iF jt:=by
 intro x M Q Q' h q
 cases x <;> first|exact q.elim|exact h _ _ q
theorem UnR.of {f:h6->Sem h6}{r r':V->Hp->VK->Prop}(h:UnR X f r)(i:∀ v H Q,r' v H Q->r v H Q):UnR X f r':=λpins s σ H x v Q I rx q=>h pins s σ H x v Q I rx (i _ _ _ q)
theorem qO:UnR X (unaryOp .USub) (l1 X.K jt):=by
 refine UnR.of vy λv H Q h=>?_;obtain⟨x,M,rm,rx,q⟩:=h
 cases x <;> first
  |exact q.elim
  |(cases Jq.mp rx;exact⟨_,rfl,q _ H Ext.refl rm (Jq.mpr rfl)⟩)
noncomputable def az {α β:Type} (f : α -> Option β):List α -> Option (List β)
 |[]=>some []
 |x::xs=>(f x).bind λy=>(az f xs).map (y :: ·)
noncomputable def rb:Nat->Mem->D->Option Jb
 |_,_,.non=>some .none
 |_,_,.bl b=>some (.bool b)
 |_,_,.int i=>some (.int i)
 |_,_,.str x=>if Cz x=true then some (.str x) else none
 |n+1,M,.tup ds=>(az (rb n M) ds).map PyData.tuple
 |n+1,M,.con ds=>(az (rb n M) ds).map IJ
 | n+1,M,.ref a=>match M a with
   |some (.lst ds)=>(az (rb n M) ds).map IJ
   |_=>none
 |0,_,.tup _=>none
 |0,_,.con _=>none
 |0,_,.ref _=>none
 |_,_,.fn _=>none
theorem cA {n:Nat}{M:Mem}(ih:∀ d p,rb n M d=some p->p.depth<=n/\p.canLay0=true):∀ {ds:List D} {ps:List Jb},az (rb n M) ds=some ps->IT ps<=n/\I8 ps=true
 |[],ps,h=>by
  simp[az]at h;subst h;exact⟨DB _,rfl⟩
 | d::ds,ps,h=>by
   simp only[az]at h
   cases e1:rb n M d with
   |none=>rw[e1]at h;cases h
   | some p =>
     rw[e1]at h
     cases e2:az (rb n M) ds with
     |none=>simp[e2]at h
     | some qs =>
       simp[e2]at h;subst h;obtain⟨a1,a2⟩:=ih d p e1;obtain⟨b1,b2⟩:=cA ih e2;refine⟨?_,?_⟩
       ·show max p.depth (IT qs)<=n;lia
       ·show (p.canLay0&&I8 qs)=true;rw[a2,b2];rfl
theorem bL {M:Mem}:∀ (n:Nat) (d:D) (p:Jb),rb n M d=some p->p.depth<=n/\p.canLay0=true
 |n,.non,p,h=>by simp[rb]at h;subst h;exact⟨DB _,rfl⟩
 |n,.bl b,p,h=>by simp[rb]at h;subst h;exact⟨DB _,rfl⟩
 |n,.int b,p,h=>by simp[rb]at h;subst h;exact⟨DB _,rfl⟩
 | n,.str x,p,h=>by
   simp[rb]at h;obtain⟨h1,h2⟩:=h;subst h2;exact⟨DB _,h1⟩
 |0,.tup _,p,h=>by simp[rb]at h
 |0,.con _,p,h=>by simp[rb]at h
 |0,.ref _,p,h=>by simp[rb]at h
 |n,.fn _,p,h=>by simp[rb]at h
 | n+1,.tup ds,p,h=>by
   simp only[rb]at h
   cases e:az (rb n M) ds with
   |none=>rw[e]at h;cases h
   | some ps =>
     rw[e]at h;cases h;obtain⟨a,b⟩:=cA (bL n) e;exact⟨G6 a,b⟩
 | n+1,.con ds,p,h=>by
   simp only[rb]at h
   cases e:az (rb n M) ds with
   |none=>rw[e]at h;cases h
   | some ps =>
     rw[e]at h;cases h;obtain⟨a,b⟩:=cA (bL n) e;exact⟨G6 a,b⟩
 | n+1,.ref a,p,h=>by
   simp only[rb]at h
   cases e0:M a with
   |none=>rw[e0]at h;cases h
   | some o =>
     rw[e0]at h
     cases o with
     |dct _ _=>cases h
     |fdc _=>cases h
     |dcn _=>cases h
     |tab _ _=>cases h
     |fdn _=>cases h
     | lst ds =>
       simp only at h
       cases e:az (rb n M) ds with
       |none=>rw[e]at h;cases h
       | some ps =>
         rw[e]at h;cases h;obtain⟨a,b⟩:=cA (bL n) e;exact⟨G6 a,b⟩
theorem cB {K:Frag}{H:Hp}{n:Nat}{M:Mem}{h:Heap}(ih:∀ d p v u,rb n M d=some p->RD K H d v->RelV v u -> ∃ as,Reads h u p as) :
 ∀ {ds:List D} {ps:List Jb} {vs:List V} {us:List h6},az (rb n M) ds=some ps->RDs K H ds vs->Vals vs us -> ∃ as,ReadsAll h us ps as
 |[],ps,vs,us,hm,r,rv=>by
  simp[az]at hm;subst hm;rw[RDs.nil_iff.mp r]at rv
  cases rv
  exact⟨_,.nil⟩
 | d::ds,ps,vs,us,hm,r,rv=>by
   obtain⟨v,vr,rfl,j,z⟩:=Ju.mp r
   cases rv with
   | cons B F =>
     simp only[az]at hm
     cases e1:rb n M d with
     |none=>rw[e1]at hm;cases hm
     | some p =>
       rw[e1]at hm
       cases e2:az (rb n M) ds with
       |none=>simp[e2]at hm
       | some qs =>
         simp[e2]at hm;subst hm;obtain⟨as,ra⟩:=ih d p v _ e1 j B;obtain⟨bs,rbs⟩:=cB ih e2 z F;exact⟨_,.cons ra rbs⟩
theorem bM {pins:List (Addr×Obj)}{σ:St}{H:Hp}{s:hQ}{M:Mem}(I:Inv X pins σ H s)(rm:RM X.K M H):∀ (n:Nat) (d:D) (p:Jb) (v:V) (u:h6),rb n M d=some p->RD X.K H d v->RelV v u -> ∃ as,Reads s.heap u p as
 |n,.non,p,v,u,h,r,q=>by simp[rb]at h;subst h;cases Jv.mp r;cases q;exact⟨_,.none⟩
 |n,.bl b,p,v,u,h,r,q=>by simp[rb]at h;subst h;cases Jt.mp r;cases q;exact⟨_,.bool b⟩
 |n,.int b,p,v,u,h,r,q=>by simp[rb]at h;subst h;cases Jq.mp r;obtain⟨t,rfl⟩:=q;exact⟨_,.int b t⟩
 | n,.str x,p,v,u,h,r,q=>by
   simp[rb]at h;obtain⟨_,h2⟩:=h;subst h2;cases Jr.mp r;obtain⟨t,rfl⟩:=q;exact⟨_,.str x t⟩
 |0,.tup _,p,_,_,h,_,_=>by simp[rb]at h
 |0,.con _,p,_,_,h,_,_=>by simp[rb]at h
 |0,.ref _,p,_,_,h,_,_=>by simp[rb]at h
 |n,.fn _,p,_,_,h,_,_=>by simp[rb]at h
 | n+1,.tup ds,p,v,u,h,r,q=>by
   simp only[rb]at h
   cases e:az (rb n M) ds with
   |none=>rw[e]at h;cases h
   | some ps =>
     rw[e]at h;cases h;obtain⟨a,vs,rfl,j,rs⟩:=Jw r
     cases q
     obtain⟨its,rv,⟨o,ho,z,k,hd⟩,_⟩:=I.tuple j;obtain⟨as,ra⟩:=cB (bM I rm n) e rs rv;exact⟨_,.tuple ho z hd (by simpa using ra)⟩
 | n+1,.con ds,p,v,u,h,r,q=>by
   simp only[rb]at h
   cases e:az (rb n M) ds with
   |none=>rw[e]at h;cases h
   | some ps =>
     rw[e]at h;cases h;obtain⟨a,vs,rfl,j,rs⟩:=Jy.mp r
     cases q
     obtain⟨its,rv,⟨o,k,ho,z,_,hd⟩,_⟩:=I.list j.sq;obtain⟨as,ra⟩:=cB (bM I rm n) e rs rv;exact⟨_,.list ho z hd (by simpa using ra)⟩
 | n+1,.ref a,p,v,u,h,r,q=>by
   simp only[rb]at h
   cases e0:M a with
   |none=>rw[e0]at h;cases h
   | some o =>
     rw[e0]at h
     cases o with
     |dct _ _=>cases h
     |fdc _=>cases h
     |dcn _=>cases h
     |tab _ _=>cases h
     |fdn _=>cases h
     | lst ds =>
       simp only at h
       cases e:az (rb n M) ds with
       |none=>rw[e]at h;cases h
       | some ps =>
         rw[e]at h;cases h
         cases Js.mp r
         cases q
         obtain⟨vs,j,rs⟩:=rm _ _ e0;obtain⟨its,rv,⟨o,k,ho,z,_,hd⟩,_⟩:=I.list (SqL.of j);obtain⟨as,ra⟩:=cB (bM I rm n) e rs rv;exact⟨_,.list ho z hd (by simpa using ra)⟩
noncomputable def wEq:R2d:=λx y M Q=>∃ p q,rb 16 M x=some p/\rb 16 M y=some q/\Q (.bl (DZ p q)) M
noncomputable def wNe:R2d:=λx y M Q=>∃ p q,rb 16 M x=some p/\rb 16 M y=some q/\Q (.bl (!PyData.eqv p q)) M
theorem tO:am wEq:=λ_ _ _ _ _ h j=>(by obtain⟨p,q,a,b,c⟩:=j;exact⟨p,q,a,b,h _ _ c⟩)
theorem tP:am wNe:=λ_ _ _ _ _ h j=>(by obtain⟨p,q,a,b,c⟩:=j;exact⟨p,q,a,b,h _ _ c⟩)
theorem tQ (F:X.A.units+16<GF):OpR X (CA .Eq) (l2 X.K wEq):=by
 intro pins s σ H x y v u Q I rx ry h;obtain⟨d,e,M,rm,rd,re,p,q,j,z,k⟩:=h;obtain⟨as,ra⟩:=bM I rm _ _ _ _ _ j rd rx;obtain⟨bs,rb'⟩:=bM I rm _ _ _ _ _ z re ry;obtain⟨J,p2⟩:=bL _ _ _ j;obtain⟨L,B⟩:=bL _ _ _ z;exact SeqAt.compareEq_reads ra rb' p2 B (by lia) ⟨.bl _,H,I,rfl,k _ H Ext.refl rm (Jt.mpr rfl)⟩
theorem tR (F:X.A.units+16<GF):OpR X (CA .NotEq) (l2 X.K wNe):=by
 intro pins s σ H x y v u Q I rx ry h;obtain⟨d,e,M,rm,rd,re,p,q,j,z,k⟩:=h;obtain⟨as,ra⟩:=bM I rm _ _ _ _ _ j rd rx;obtain⟨bs,rb'⟩:=bM I rm _ _ _ _ _ z re ry;obtain⟨J,p2⟩:=bL _ _ _ j;obtain⟨L,B⟩:=bL _ _ _ z;exact SeqAt.compareNe_reads ra rb' p2 B (by lia) ⟨.bl _,H,I,rfl,k _ H Ext.refl rm (Jt.mpr rfl)⟩
noncomputable def wLt:R2d
 |.int i,.int j,M,Q=>Q (.bl (decide (i<j))) M
 |_,_,_,_=>False
noncomputable def wLe:R2d
 |.int i,.int j,M,Q=>Q (.bl (decide (i<=j))) M
 |_,_,_,_=>False
noncomputable def wGt:R2d
 |.int i,.int j,M,Q=>Q (.bl (decide (j<i))) M
 |_,_,_,_=>False
noncomputable def wGe:R2d
 |.int i,.int j,M,Q=>Q (.bl (decide (j<=i))) M
 |_,_,_,_=>False
theorem tS:am wLt:=by
 intro x y M Q Q' h q
 cases x <;> cases y <;> first|exact q.elim|exact h _ _ q
theorem tT:am wLe:=by
 intro x y M Q Q' h q
 cases x <;> cases y <;> first|exact q.elim|exact h _ _ q
theorem tU:am wGt:=by
 intro x y M Q Q' h q
 cases x <;> cases y <;> first|exact q.elim|exact h _ _ q
theorem tV:am wGe:=by
 intro x y M Q Q' h q
 cases x <;> cases y <;> first|exact q.elim|exact h _ _ q
theorem tW:OpR X (CA .Lt) (l2 X.K wLt):=by
 refine OpR.of xx λv u H Q h=>?_;obtain⟨x,y,M,rm,rx,ry,q⟩:=h
 cases x <;> cases y <;> first
  |exact q.elim
  |(cases Jq.mp rx;cases Jq.mp ry;exact⟨_,_,rfl,rfl,q _ H Ext.refl rm (Jt.mpr rfl)⟩)
theorem tX:OpR X (CA .LtE) (l2 X.K wLe):=by
 refine OpR.of xz λv u H Q h=>?_;obtain⟨x,y,M,rm,rx,ry,q⟩:=h
 cases x <;> cases y <;> first
  |exact q.elim
  |(cases Jq.mp rx;cases Jq.mp ry;exact⟨_,_,rfl,rfl,q _ H Ext.refl rm (Jt.mpr rfl)⟩)
theorem tY:OpR X (CA .Gt) (l2 X.K wGt):=by
 refine OpR.of xA λv u H Q h=>?_;obtain⟨x,y,M,rm,rx,ry,q⟩:=h
 cases x <;> cases y <;> first
  |exact q.elim
  |(cases Jq.mp rx;cases Jq.mp ry;exact⟨_,_,rfl,rfl,q _ H Ext.refl rm (Jt.mpr rfl)⟩)
theorem tZ:OpR X (CA .GtE) (l2 X.K wGe):=by
 refine OpR.of xB λv u H Q h=>?_;obtain⟨x,y,M,rm,rx,ry,q⟩:=h
 cases x <;> cases y <;> first
  |exact q.elim
  |(cases Jq.mp rx;cases Jq.mp ry;exact⟨_,_,rfl,rfl,q _ H Ext.refl rm (Jt.mpr rfl)⟩)
end
end
variable {a:Addr}{ds:List D}{vs:List V}{d x:D}
section
noncomputable def wIx:R2d:=λx y M Q=>match x with
 |.tup ds=>∃ i d,y = .int i/\atI ds i=some d/\Q d M
 |.con ds=>∃ i d,y = .int i/\atI ds i=some d/\Q d M
 |.ref a=>(∃ ds i d,M a=some (.lst ds)/\y = .int i/\atI ds i=some d/\Q d M)∨(∃ t kvs d,M a=some (.dct t kvs)/\m7 t y=true/\bU kvs y=some d/\Q d M)∨∃ kvs d,M a=some (.fdc kvs)/\cQ y=true/\bU kvs y=some d/\Q d M
 |_=>False
theorem kR:am wIx:=by
 intro x y M Q Q' h q
 cases x with
 |tup ds=>obtain⟨i,d,e,j,q⟩:=q;exact⟨i,d,e,j,h _ _ q⟩
 |con ds=>obtain⟨i,d,e,j,q⟩:=q;exact⟨i,d,e,j,h _ _ q⟩
 | ref a =>
   rcases q with⟨ds,i,d,z,j,B,q⟩|⟨t,kvs,d,z,j,B,q⟩|⟨kvs,d,z,j,B,q⟩
   ·exact .inl ⟨ds,i,d,z,j,B,h _ _ q⟩
   ·exact .inr (.inl ⟨t,kvs,d,z,j,B,h _ _ q⟩)
   ·exact .inr (.inr ⟨kvs,d,z,j,B,h _ _ q⟩)
 |_=>exact q.elim
theorem jv {i:Int}(r:RDs K H ds vs)(e:atI ds i=some d):∃ v,atI vs i=some v/\RD K H d v:=by
 unfold atI at e ⊢;rw[r.length]
 cases q:ixN ds.length i with
 |none=>rw[q]at e;cases e
 | some j =>
   rw[q]at e;exact r.get e
theorem gO {k:D}{q:Key}(r:RKey k q)(h:RD K H k v):v=kV q:=by
 cases k <;> first
  |exact r.elim
  |(cases (show q=_ from r);first|exact Jq.mp h|exact Jr.mp h)
theorem ff {K:Frag}{H:Hp}:∀ {ds:List D} {ks:List Key} {vs:List V},D0 RKey ds ks->RDs K H ds vs->vs=ks.map kV
 |_,_,vs,.nil,h=>by rw[RDs.nil_iff.mp h];rfl
 | _,_,vs,.cons r t,h=>by
   obtain⟨v,vr,rfl,h1,h2⟩:=Ju.mp h;rw[gO r h1,ff t h2];rfl
theorem RKey.inj {e:D}{k:Key}(a:RKey d k)(b:RKey e k):d=e:=by
 cases d <;> first
  |exact a.elim
  |(cases e <;> first|exact b.elim|(cases (show k=_ from a);injection (show _=_ from b) with z;rw[z])|(cases (show k=_ from a);cases (show _=_ from b)))
theorem RKeysP.inj:∀ {d e:List D} {k:List Key},D0 RKey d k->D0 RKey e k->d=e
 |_,_,_,.nil,.nil=>rfl
 |_,_,_,.cons r t,.cons r' t'=>by rw[r.inj r',RKeysP.inj t t']
theorem RKeys.inj {e:D}{k:List Key}(a:RKeys d k)(b:RKeys e k):d=e:=by
 cases d <;> first
  |exact a.elim
  |(cases e <;> first|exact b.elim|exact congrArg D.tup (RKeysP.inj a b))
theorem RKey.fun {k k':Key}(a:RKey d k)(b:RKey d k'):k=k':=by
 cases d <;> first
  |exact a.elim
  |(cases (show k=_ from a);cases (show k'=_ from b);rfl)
theorem RKeysP.fun:∀ {d:List D} {k k':List Key},D0 RKey d k->D0 RKey d k'->k=k'
 |_,_,_,.nil,.nil=>rfl
 |_,_,_,.cons r t,.cons r' t'=>by rw[r.fun r',RKeysP.fun t t']
theorem RKeys.fun {k k':List Key}(a:RKeys d k)(b:RKeys d k'):k=k':=by
 cases d <;> first
  |exact a.elim
  |exact RKeysP.fun a b
section
variable {κ:Type} [DecidableEq κ] {K:Frag} {H:Hp} {RK:D -> κ -> Prop} (inj:∀ {d e:D} {k : κ},RK d k->RK e k->d=e) (fn:∀ {d:D} {k k' : κ},RK d k->RK d k'->k=k')
include inj fn
theorem fg {k:D}{q : κ}(j:RK k q):∀ {kvs:List (D×D)} {ps:List (κ × V)},D0 (λp r=>RK p.1 r.1/\RD K H p.2 r.2) kvs ps ->
 (∀ d,bU kvs k=some d -> ∃ v,bu ps q=some v/\RD K H d v)/\(bU kvs k=none->bu ps q=none)
 |_,_,.nil=>⟨λd e=>by simp[bU]at e,λ_=>rfl⟩
 | _,_,.cons (a:=p) (b:=r) (l₂:=ps) B t=>by
   obtain⟨F,J⟩:=fg j t
   by_cases e:p.1=k
   ·have e':r.1=q:=by
     have h1:=B.1;rw[e]at h1;exact fn h1 j
    refine⟨λd he=>?_,λhe=>?_⟩
    ·simp[bU,Dg,e]at he;subst he;exact⟨r.2,dw e',B.2⟩
    ·simp[bU,Dg,e]at he
   ·have e' : ¬ r.1=q:=fun z=>e (by
     have h1:=B.1;rw[z]at h1;exact inj h1 j)
    have eq1:∀ l:List (D×D),bU (p::l) k=bU l k:=λl=>by simp[bU,Dg,e]
    have eq2:bu (r::ps) q=bu ps q:=dy e';refine⟨λd he=>?_,λhe=>?_⟩
    ·rw[eq1]at he;rw[eq2];exact F d he
    ·rw[eq1]at he;rw[eq2];exact J he
end
section
variable {X:Cx}
theorem oF {ps:List (List Key×V)}{kvs:List (D×D)}{k:D}(B:Rd H a (.dT ps))(pr:D0 (λ(p:D×D) (q:List Key×V)=>RKeys p.1 q.1/\RD K H p.2 q.2) kvs ps)(ok:cQ k=true)(rk:RD K H k v) :
 ∃ o,DGet H a v o/\(∀ d,bU kvs k=some d -> ∃ w,o=some w/\RD K H d w)/\(bU kvs k=none->o=none):=by
 obtain⟨q,j⟩:=kP ok;obtain⟨g1,g2⟩:=fg (RK:=RKeys) RKeys.inj RKeys.fun j pr;refine⟨bu ps q,?_,g1,g2⟩
 cases k <;> first
  |exact j.elim
  | (obtain ⟨b,us,rfl,z,ru⟩:=JJ (kQ ok) rk
     rw[ff j ru]at z;exact .inr ⟨ps,q,b,B,rfl,z,rfl⟩)
theorem u3 {t:Bool}{kvs:List (D×D)}{k:D}(rm:RM K M H)(e:M a=some (.dct t kvs))(ok:m7 t k=true)(rk:RD K H k v) :
 ∃ o,DGet H a v o/\(∀ d,bU kvs k=some d -> ∃ w,o=some w/\RD K H d w)/\(bU kvs k=none->o=none):=by
 have ro:=rm a _ e
 cases t with
 | false =>
   obtain⟨ps,j,pr⟩:=ro;obtain⟨q,z⟩:=ji (show dz k=true from ok);obtain⟨g1,g2⟩:=fg (RK:=RKey) RKey.inj RKey.fun z pr;refine⟨bu ps q,?_,g1,g2⟩;rw[gO z rk];exact DGet.k j
 | true =>
   obtain⟨ps,j,pr⟩:=ro;exact oF (.inl j) pr ok rk
theorem u4 (j:X.A.units+1<GF):IxR X (λx y H Q=>∃ a v,x = .ref a/\DGet H a y (some v)/\Q v H):=by
 intro value slice pins s σ H x y v u Q I rx ry h hs;obtain⟨a,w,rfl,g,q⟩:=h
 cases rx
 have hd:IsD H a:=by
  rcases g with⟨kvs,k,e,_⟩|⟨kvs,k,b,e,_⟩
  ·exact .inl ⟨kvs,e⟩
  ·exact .inr ⟨kvs,e⟩
 obtain⟨z,_⟩:=vH I hd;exact J6 z PySem.F.slot_dict_getitem.lookup (ot j I g ry λw' s' I' r'=>⟨w,H,I',r',q⟩) hs
theorem zg (J:X.A.units+1<GF):IxR X (l2 X.K wIx):=by
 refine IxR.of (ix_list.or (ix_tup.or (u4 J))) λv u H Q h=>?_;obtain⟨x,y,M,rm,rx,ry,q⟩:=h
 cases x with
 | tup ds =>
   obtain⟨i,d,rfl,e,q⟩:=q;obtain⟨a,vs,rfl,j,rs⟩:=Jw rx
   cases Jq.mp ry
   obtain⟨w,hw,rw'⟩:=jv rs e;exact .inr (.inl ⟨a,vs,i,w,rfl,rfl,j,hw,q w H Ext.refl rm rw'⟩)
 | con ds =>
   obtain⟨i,d,rfl,e,q⟩:=q;obtain⟨a,vs,rfl,j,rs⟩:=Jy.mp rx
   cases Jq.mp ry
   obtain⟨w,hw,rw'⟩:=jv rs e;exact .inl ⟨a,vs,i,w,rfl,rfl,j.sq,hw,q w H Ext.refl rm rw'⟩
 | ref a =>
   cases Js.mp rx
   rcases q with⟨ds,i,d,z,rfl,B,q⟩|⟨t,kvs,d,z,F,B,q⟩|⟨kvs,d,z,F,B,q⟩
   ·cases Jq.mp ry
    obtain⟨vs,j,rs⟩:=rm _ _ z;obtain⟨w,hw,rw'⟩:=jv rs B;exact .inl ⟨a,vs,i,w,rfl,rfl,SqL.of j,hw,q w H Ext.refl rm rw'⟩
   ·obtain⟨o,g,g1,_⟩:=u3 rm z F ry;obtain⟨w,rfl,rw'⟩:=g1 d B;exact .inr (.inr ⟨a,w,rfl,g,q w H Ext.refl rm rw'⟩)
   ·obtain⟨ob,ps,L,pr⟩:=rm _ _ z;obtain⟨o,g,g1,_⟩:=oF (.inr ⟨ob,L⟩) pr F ry;obtain⟨w,rfl,rw'⟩:=g1 d B;exact .inr (.inr ⟨a,w,rfl,g,q w H Ext.refl rm rw'⟩)
 |_=>exact q.elim
noncomputable def jw (M:Mem):D->Option Nat
 |.tup ds=>some ds.length
 |.con ds=>some ds.length
 |.ref a=>match M a with
  |some (.lst ds)=>some ds.length
  |_=>none
 |_=>none
noncomputable def dB:RAd:=λxs M Q=>∃ x n,xs=[x]/\jw M x=some n/\Q (.int n) M
theorem jx:aJ dB:=λ_ _ _ _ h j=>(by obtain⟨x,n,e,l,q⟩:=j;exact⟨x,n,e,l,h _ _ q⟩)
theorem RDs.one (h:RDs K H [d] vs):∃ v,vs=[v]/\RD K H d v:=by
 obtain⟨v,r,rfl,h1,h2⟩:=Ju.mp h;rw[RDs.nil_iff.mp h2];exact⟨v,rfl,h1⟩
theorem RDs.two {e:D}(h:RDs K H [d,e] vs):∃ v u,vs=[v,u]/\RD K H d v/\RD K H e u:=by
 obtain⟨v,r,rfl,h1,h2⟩:=Ju.mp h;obtain⟨u,rfl,j⟩:=RDs.one h2;exact⟨v,u,rfl,h1,j⟩
theorem mf:CallR X (.builtin "len") (lR X.K dB):=by
 refine CallR.of j7 λvs H Q h=>?_;obtain⟨ds,M,rm,rs,x,n,rfl,l,q⟩:=h;obtain⟨v,rfl,r⟩:=rs.one;refine⟨v,n,rfl,?_,q _ H Ext.refl rm (Jq.mpr rfl)⟩
 cases x with
 | tup ds =>
   cases l
   obtain⟨a,us,rfl,j,ru⟩:=Jw r;exact .inr ⟨us,j,ru.length.symm⟩
 | con ds =>
   cases l
   obtain⟨a,us,rfl,j,ru⟩:=Jy.mp r;exact .inl ⟨us,j.sq,ru.length.symm⟩
 | ref a =>
   cases Js.mp r
   simp only[jw]at l
   cases e:M a with
   |none=>rw[e]at l;cases l
   | some o =>
     rw[e]at l
     cases o with
     |dct _ _=>cases l
     |fdc _=>cases l
     |dcn _=>cases l
     |tab _ _=>cases l
     |fdn _=>cases l
     | lst ds =>
       cases l
       obtain⟨us,j,ru⟩:=rm _ _ e;exact .inl ⟨us,SqL.of j,ru.length.symm⟩
 |_=>cases l
noncomputable def gP:RAd:=λxs M Q=>∃ i,xs=[.int i]/\Q (.int (if i<0 then -i else i)) M
noncomputable def fQ:RAd:=λxs M Q=>∃ i j,xs=[.int i,.int j]/\Q (.int (if j > i then j else i)) M
noncomputable def fR:RAd:=λxs M Q=>∃ i j,xs=[.int i,.int j]/\Q (.int (if j<i then j else i)) M
noncomputable def gQ:RAd:=λxs M Q=>(∃ i,xs=[.int i]/\Q (.int i) M)∨∃ k,xs=[.bl k]/\Q (.int (if k then 1 else 0)) M
theorem jy:aJ gP:=λ_ _ _ _ h j=>(by obtain⟨i,e,q⟩:=j;exact⟨i,e,h _ _ q⟩)
theorem i5:aJ fQ:=λ_ _ _ _ h z=>(by obtain⟨i,j,e,q⟩:=z;exact⟨i,j,e,h _ _ q⟩)
theorem i6:aJ fR:=λ_ _ _ _ h z=>(by obtain⟨i,j,e,q⟩:=z;exact⟨i,j,e,h _ _ q⟩)
theorem jz:aJ gQ:=λ_ _ _ _ h q=>q.elim (λj=>(by obtain⟨i,e,q⟩:=j;exact .inl ⟨i,e,h _ _ q⟩)) λj=>(by obtain⟨i,e,q⟩:=j;exact .inr ⟨i,e,h _ _ q⟩)
theorem mj:CallR X (.builtin "abs") (lR X.K gP):=by
 refine CallR.of qq λvs H Q h=>?_;obtain⟨ds,M,rm,rs,i,rfl,q⟩:=h;obtain⟨v,rfl,r⟩:=rs.one
 cases Jq.mp r
 exact⟨i,rfl,q _ H Ext.refl rm (Jq.mpr rfl)⟩
theorem ku (z:X.calm=true):CallR X (.builtin "max") (lR X.K fQ):=by
 refine CallR.of (nW z) λvs H Q h=>?_;obtain⟨ds,M,rm,rs,i,j,rfl,q⟩:=h;obtain⟨v,u,rfl,B,F⟩:=rs.two
 cases Jq.mp B
 cases Jq.mp F
 exact⟨i,j,rfl,q _ H Ext.refl rm (Jq.mpr rfl)⟩
theorem kx (z:X.calm=true):CallR X (.builtin "min") (lR X.K fR):=by
 refine CallR.of (nX z) λvs H Q h=>?_;obtain⟨ds,M,rm,rs,i,j,rfl,q⟩:=h;obtain⟨v,u,rfl,B,F⟩:=rs.two
 cases Jq.mp B
 cases Jq.mp F
 exact⟨i,j,rfl,q _ H Ext.refl rm (Jq.mpr rfl)⟩
theorem mm:CallR X (.type "int") (lR X.K gQ):=by
 refine CallR.of nY λvs H Q h=>?_;obtain⟨ds,M,rm,rs,⟨i,rfl,q⟩|⟨i,rfl,q⟩⟩:=h
 ·obtain⟨v,rfl,r⟩:=rs.one
  cases Jq.mp r
  exact .inl ⟨i,rfl,q _ H Ext.refl rm (Jq.mpr rfl)⟩
 ·obtain⟨v,rfl,r⟩:=rs.one
  cases Jt.mp r
  exact .inr ⟨i,rfl,q _ H Ext.refl rm (Jq.mpr rfl)⟩
noncomputable def aE (M:Mem):D->Option (List D)
 |.tup ds=>some ds
 |.con ds=>some ds
 |.ref a=>match M a with
  |some (.lst ds)=>some ds
  |_=>none
 |_=>none
theorem oG (rm:RM K M H)(r:RD K H x v)(e:aE M x=some ds):∃ p vs,v = .ref p/\(SqL K H p vs∨SqT K H p vs)/\RDs K H ds vs:=by
 cases x with
 | tup es =>
   cases e
   obtain⟨a,us,rfl,j,ru⟩:=Jw r;exact⟨a,us,rfl,.inr j,ru⟩
 | con es =>
   cases e
   obtain⟨a,us,rfl,j,ru⟩:=Jy.mp r;exact⟨a,us,rfl,.inl j.sq,ru⟩
 | ref a =>
   cases Js.mp r
   simp only[aE]at e
   cases e0:M a with
   |none=>rw[e0]at e;cases e
   | some o =>
     rw[e0]at e
     cases o with
     |dct _ _=>cases e
     |fdc _=>cases e
     |dcn _=>cases e
     |tab _ _=>cases e
     |fdn _=>cases e
     | lst es =>
       cases e
       obtain⟨us,j,ru⟩:=rm _ _ e0;exact⟨a,us,rfl,.inl (SqL.of j),ru⟩
 |_=>cases e
noncomputable def iG:RAd:=λxs M Q=>∃ x ds,xs=[x]/\aE M x=some ds /\ ∀ p,M p=none->Q (.ref p) (ae M p (.lst ds))
noncomputable def fS:RAd:=λxs M Q=>∃ x ds,xs=[x]/\aE M x=some ds/\Q (.tup ds) M
theorem i7:aJ iG:=λ_ _ _ _ h j=>(by obtain⟨x,ds,e,l,q⟩:=j;exact⟨x,ds,e,l,λp n=>h _ _ (q p n)⟩)
theorem fT:aJ fS:=λ_ _ _ _ h j=>(by obtain⟨x,ds,e,l,q⟩:=j;exact⟨x,ds,e,l,h _ _ q⟩)
theorem ky:CallR X (.type "list") (lR X.K iG):=by
 refine CallR.of jb λvs H Q h=>?_;obtain⟨ds,M,rm,rs,x,es,rfl,l,q⟩:=h;obtain⟨v,rfl,r⟩:=rs.one;obtain⟨p,us,rfl,sq,ru⟩:=oG rm r l;exact⟨p,us,rfl,sq,λl' n=>bP rm ru q n⟩
theorem jA:CallR X (.type "tuple") (lR X.K fS):=by
 refine CallR.of iB λvs H Q h=>?_;obtain⟨ds,M,rm,rs,x,es,rfl,l,q⟩:=h;obtain⟨v,rfl,r⟩:=rs.one
 cases x with
 | tup ds' =>
   cases l
   obtain⟨a,us,rfl,j,ru⟩:=Jw r;exact⟨a,us,rfl,.inr ⟨j,q _ H Ext.refl rm r⟩⟩
 | con ds' =>
   cases l
   obtain⟨a,us,rfl,j,ru⟩:=Jy.mp r;exact⟨a,us,rfl,.inl ⟨j.sq,λl' n=>cb rm ru q n⟩⟩
 | ref a =>
   cases Js.mp r
   simp only[aE]at l
   cases e0:M a with
   |none=>rw[e0]at l;cases l
   | some o =>
     rw[e0]at l
     cases o with
     |dct _ _=>cases l
     |fdc _=>cases l
     |dcn _=>cases l
     |tab _ _=>cases l
     |fdn _=>cases l
     | lst es' =>
       cases l
       obtain⟨us,j,ru⟩:=rm _ _ e0;exact⟨a,us,rfl,.inl ⟨SqL.of j,λl' n=>cb rm ru q n⟩⟩
 |_=>cases l
end
end
variable {e:Expr}{tA:TTd}
section
section
variable {X:Cx}
noncomputable def qP (M:Mem):D->Option Bool
 |.non=>some false
 |.bl b=>some b
 |.int i=>some (i != 0)
 |.tup ds=>some (!ds.isEmpty)
 |.con ds=>some (!ds.isEmpty)
 |.ref a=>match M a with
  |some (.lst ds)=>some (!ds.isEmpty)
  |_=>none
 |_=>none
noncomputable def mn (t:TEd):TTd:=λρ M Q=>t ρ M λx M1=>∃ b,qP M1 x=some b/\Q b M1
theorem qQ {t:TEd}(h:aa t):ay (mn t):=λρ M Q Q' i q=>h _ _ _ _ (λx B j=>(by obtain⟨k,e,z⟩:=j;exact⟨k,e,i _ _ z⟩)) q
theorem vS {b:Bool}(rm:RM K M H)(r:RD K H x v)(e:qP M x=some b):qm K v H b:=by
 have emp:∀ {ds:List D} {vs:List V},RDs K H ds vs->(!ds.isEmpty) = !vs.isEmpty:=λ{ds vs} h=>by
  have l:=h.length
  cases ds <;> cases vs <;> first|rfl|(simp at l)
 cases x with
 |non=>cases e;cases Jv.mp r;rfl
 |bl k=>cases e;cases Jt.mp r;rfl
 |int i=>cases e;cases Jq.mp r;rfl
 | tup ds =>
   cases e
   obtain⟨a,vs,rfl,j,rs⟩:=Jw r;exact .inr (.inl ⟨vs,j,emp rs⟩)
 | con ds =>
   cases e
   obtain⟨a,vs,rfl,j,rs⟩:=Jy.mp r;exact .inl ⟨vs,j.sq,emp rs⟩
 | ref a =>
   cases Js.mp r
   simp only[qP]at e
   cases e0:M a with
   |none=>rw[e0]at e;cases e
   | some o =>
     rw[e0]at e
     cases o with
     |dct _ _=>cases e
     |fdc _=>cases e
     |dcn _=>cases e
     |tab _ _=>cases e
     |fdn _=>cases e
     | lst ds =>
       cases e
       obtain⟨vs,j,rs⟩:=rm _ _ e0;exact .inl ⟨vs,SqL.of j,emp rs⟩
 |str _=>cases e
 |fn _=>cases e
variable {a b:Expr} {ta tb:TEd} {pos:Pos}
theorem vT (m:aa ta)(B:PE X a (lE X.K ta))(he:∀ whole,isTrue a X.env whole=(do let v <- whole;FK a.pos;holding [v] (truthy v))):PT X a (lT X.K (mn ta)):=by
 refine PT.imp (qo B he) λσ H Q h=>?_;obtain⟨ρ,M,rs,rm,q⟩:=h;exact⟨ρ,M,rs,rm,m _ _ _ _ (λx O F v H1 J j z=>(by obtain⟨k,e,L⟩:=F;exact⟨k,vS j z e,L H1 J j⟩)) q⟩
noncomputable def iH (t:TTd):TTd:=λρ M Q=>t ρ M λc M1=>Q (!c) M1
theorem oH {t:TTd}(h:ay t):ay (iH t):=λρ M Q Q' i q=>h _ _ _ _ (λc z j=>i _ _ j) q
theorem vU (m:ay tA)(j:PT X a (lT X.K tA)):PT X (.UnaryOp .Not a pos) (lT X.K (iH tA)):=by
 refine PT.imp (v9 j) λσ H Q h=>?_;obtain⟨ρ,M,rs,rm,q⟩:=h;exact⟨ρ,M,rs,rm,m _ _ _ _ (λc B z=>z) q⟩
noncomputable def iI (t u:TTd):TTd:=λρ M Q=>t ρ M λc M1=>if c=true then u ρ M1 Q else Q false M1
noncomputable def mq (t u:TTd):TTd:=λρ M Q=>t ρ M λc M1=>if c=true then Q true M1 else u ρ M1 Q
theorem oI {t u:TTd}(h:ay t)(k:ay u):ay (iI t u):=λρ M Q Q' i q=>h _ _ _ _ (λc z j=>by
 cases c with
 |true=>rw[if_pos rfl]at j ⊢;exact k _ _ _ _ i j
 |false=>rw[if_neg q7]at j ⊢;exact i _ _ j) q
theorem qR {t u:TTd}(h:ay t)(k:ay u):ay (mq t u):=λρ M Q Q' i q=>h _ _ _ _ (λc z j=>by
 cases c with
 |true=>rw[if_pos rfl]at j ⊢;exact i _ _ j
 |false=>rw[if_neg q7]at j ⊢;exact k _ _ _ _ i j) q
theorem u5 (j:PT X a (lT X.K tA)):PW X (.BoolOp .And [a] pos) (lT X.K tA):=t9 j
theorem vV (j:PT X a (lT X.K tA)):PW X (.BoolOp .Or [a] pos) (lT X.K tA):=v7 j
theorem vW {tB:TTd}{rest:List Expr}(mA:ay tA)(mB:ay tB)(F:PT X a (lT X.K tA))(J:PW X (.BoolOp .And (b::rest) pos) (lT X.K tB)):PW X (.BoolOp .And (a::b::rest) pos) (lT X.K (iI tA tB)):=by
 refine PW.imp (v8 F J) λσ H Q h=>?_;obtain⟨ρ,M,rs,rm,q⟩:=h;refine⟨ρ,M,rs,rm,mA _ _ _ _ (λc L z H1 B j=>?_) q⟩
 cases c with
 |true=>rw[if_pos rfl]at z ⊢;exact⟨ρ,L,rs.mono (B.stab rm),j,mB _ _ _ _ (λd M2 k=>k.ext B) z⟩
 |false=>rw[if_neg q7]at z ⊢;exact z H1 B j
theorem xT {tB:TTd}{rest:List Expr}(mA:ay tA)(mB:ay tB)(F:PT X a (lT X.K tA))(J:PW X (.BoolOp .Or (b::rest) pos) (lT X.K tB)):PW X (.BoolOp .Or (a::b::rest) pos) (lT X.K (mq tA tB)):=by
 refine PW.imp (xm F J) λσ H Q h=>?_;obtain⟨ρ,M,rs,rm,q⟩:=h;refine⟨ρ,M,rs,rm,mA _ _ _ _ (λc L z H1 B j=>?_) q⟩
 cases c with
 |true=>rw[if_pos rfl]at z ⊢;exact z H1 B j
 |false=>rw[if_neg q7]at z ⊢;exact⟨ρ,L,rs.mono (B.stab rm),j,mB _ _ _ _ (λd M2 k=>k.ext B) z⟩
noncomputable def iJ (ta tb:TEd):TEd:=λρ M Q=>ta ρ M λx M1=>∃ c,x = .bl c/\if c=true then tb ρ M1 Q else Q (.bl false) M1
noncomputable def mv (ta tb:TEd):TEd:=λρ M Q=>ta ρ M λx M1=>∃ c,x = .bl c/\if c=true then Q (.bl true) M1 else tb ρ M1 Q
noncomputable def iK (ta:TEd):TEd:=λρ M Q=>ta ρ M λx M1=>∃ c,x = .bl c/\Q (.bl (!c)) M1
theorem oJ (h:aa ta)(k:aa tb):aa (iJ ta tb):=λρ M Q Q' i q=>h _ _ _ _ (λx z ⟨c,e,j⟩=>⟨c,e,by
 cases c with
 |true=>rw[if_pos rfl]at j ⊢;exact k _ _ _ _ i j
 |false=>rw[if_neg q7]at j ⊢;exact i _ _ j⟩) q
theorem qS (h:aa ta)(k:aa tb):aa (mv ta tb):=λρ M Q Q' i q=>h _ _ _ _ (λx z ⟨c,e,j⟩=>⟨c,e,by
 cases c with
 |true=>rw[if_pos rfl]at j ⊢;exact i _ _ j
 |false=>rw[if_neg q7]at j ⊢;exact k _ _ _ _ i j⟩) q
theorem oK (h:aa ta):aa (iK ta):=λρ M Q Q' i q=>h _ _ _ _ (λx B j=>(by obtain⟨c,e,z⟩:=j;exact⟨c,e,i _ _ z⟩)) q
theorem oM {op:BoolOp}{t:TEd}(h:PE X a (lE X.K t)):PE X (.BoolOp op [a] pos) (lE X.K t):=va h
theorem vX {rest:List Expr}(ma:aa ta)(mb:aa tb)(J:PE X a (lE X.K ta))(L:PE X (.BoolOp .And (b::rest) pos) (lE X.K tb)):PE X (.BoolOp .And (a::b::rest) pos) (lE X.K (iJ ta tb)):=by
 refine PE.imp (vb J L) λσ H Q h=>?_;obtain⟨ρ,M,rs,rm,q⟩:=h;refine⟨ρ,M,rs,rm,ma _ _ _ _ (λx O g9 v H1 B j F=>?_) q⟩;obtain⟨c,e,z⟩:=g9;subst e;refine⟨c,Jt.mp F,?_⟩
 cases c with
 |true=>rw[if_pos rfl]at z ⊢;exact⟨ρ,O,rs.mono (B.stab rm),j,mb _ _ _ _ (λd M2 k=>k.ext B) z⟩
 |false=>rw[if_neg q7]at z ⊢;exact z _ H1 B j (Jt.mpr rfl)
theorem xU {rest:List Expr}(ma:aa ta)(mb:aa tb)(J:PE X a (lE X.K ta))(L:PE X (.BoolOp .Or (b::rest) pos) (lE X.K tb)):PE X (.BoolOp .Or (a::b::rest) pos) (lE X.K (mv ta tb)):=by
 refine PE.imp (xq J L) λσ H Q h=>?_;obtain⟨ρ,M,rs,rm,q⟩:=h;refine⟨ρ,M,rs,rm,ma _ _ _ _ (λx O g9 v H1 B j F=>?_) q⟩;obtain⟨c,e,z⟩:=g9;subst e;refine⟨c,Jt.mp F,?_⟩
 cases c with
 |true=>rw[if_pos rfl]at z ⊢;exact z _ H1 B j (Jt.mpr rfl)
 |false=>rw[if_neg q7]at z ⊢;exact⟨ρ,O,rs.mono (B.stab rm),j,mb _ _ _ _ (λd M2 k=>k.ext B) z⟩
theorem vY (ma:aa ta)(B:PE X a (lE X.K ta)):PE X (.UnaryOp .Not a pos) (lE X.K (iK ta)):=by
 refine PE.imp (vc B) λσ H Q h=>?_;obtain⟨ρ,M,rs,rm,q⟩:=h;refine⟨ρ,M,rs,rm,ma _ _ _ _ (λx L g9 v H1 J j z=>?_) q⟩;obtain⟨c,e,F⟩:=g9;subst e;exact⟨c,Jt.mp z,F _ H1 J j (Jt.mpr rfl)⟩
noncomputable def wIf (t:TTd) (ta tb:TEd):TEd:=λρ M Q=>t ρ M λc M1=>if c=true then ta ρ M1 Q else tb ρ M1 Q
theorem u6 {t:TTd}(h:ay t)(z:aa ta)(B:aa tb):aa (wIf t ta tb):=λρ M Q Q' i q=>h _ _ _ _ (λc F j=>by
 cases c with
 |true=>rw[if_pos rfl]at j ⊢;exact z _ _ _ _ i j
 |false=>rw[if_neg q7]at j ⊢;exact B _ _ _ _ i j) q
theorem xV {c:Expr}{t:TTd}(mt:ay t)(ma:aa ta)(mb:aa tb)(J:PT X c (lT X.K t))(L:PE X a (lE X.K ta))(O:PE X b (lE X.K tb)):PE X (.IfExp c a b pos) (lE X.K (wIf t ta tb)):=by
 refine PE.imp (qd J L O) λσ H Q h=>?_;obtain⟨ρ,M,rs,rm,q⟩:=h;refine⟨ρ,M,rs,rm,mt _ _ _ _ (λx F z H1 B j=>?_) q⟩
 cases x with
 |true=>rw[if_pos rfl]at z ⊢;exact⟨ρ,F,rs.mono (B.stab rm),j,ma _ _ _ _ (λd M2 k=>k.ext B) z⟩
 |false=>rw[if_neg q7]at z ⊢;exact⟨ρ,F,rs.mono (B.stab rm),j,mb _ _ _ _ (λd M2 k=>k.ext B) z⟩
noncomputable def dh (xs:List D) (lo hi:Option Int):List D:=(xs.drop (HT.sIx xs.length 0 lo)).take (HT.sIx xs.length xs.length hi - HT.sIx xs.length 0 lo)
theorem jB (r:RDs K H ds vs)(lo hi:Option Int):RDs K H (dh ds lo hi) (dP vs lo hi):=by
 unfold dh dP;rw[r.length];exact(r.drop _).take _
noncomputable abbrev TOd:=ao->Mem->(Option Int->Mem->Prop)->Prop
def bW (T:TOd):Prop:=∀ ρ M Q Q',(∀ d M',Q d M'->Q' d M')->T ρ M Q->T ρ M Q'
noncomputable def eE:TOd:=λ_ M Q=>Q none M
noncomputable def eF (t:TEd):TOd:=λρ M Q=>t ρ M λx M1=>∃ i,x = .int i/\Q (some i) M1
theorem kz:bW eE:=λ_ _ _ _ h q=>h _ _ q
theorem dW (h:aa ta):bW (eF ta):=λρ M Q Q' i q=>h _ _ _ _ (λx B j=>(by obtain⟨c,e,z⟩:=j;exact⟨c,e,i _ _ z⟩)) q
noncomputable def lO (K:Frag) (T:TOd):TO:=λσ H Q=>∃ ρ M,RS K H σ ρ /\ RM K M H/\T ρ M (λo M'=>∀ H',Ext M H M' H'->RM K M' H'->Q o H')
theorem u7:PO X none (lO X.K eE):=λpins s σ H Q I h=>by
 obtain⟨ρ,M,rs,rm,q⟩:=h;exact kI pins s σ H Q I (q H Ext.refl rm)
theorem kS (m:aa ta)(h:PE X e (lE X.K ta)):PO X (some e) (lO X.K (eF ta)):=λpins s σ H Q I hq=>by
 obtain⟨ρ,M,rs,rm,q⟩:=hq;refine tH h pins s σ H Q I ⟨ρ,M,rs,rm,m _ _ _ _ (λx J g9 v H1 F j z=>?_) q⟩;obtain⟨i,e,B⟩:=g9;subst e;exact⟨i,Jq.mp z,B H1 F j⟩
noncomputable def dk:D->Option Int->Option Int->Mem->QD->Prop:=λx lo hi M Q=>match x with
 |.tup ds=>Q (.tup (dh ds lo hi)) M
 |.ref a=>∃ ds,M a=some (.lst ds) /\ ∀ p,M p=none->Q (.ref p) (ae M p (.lst (dh ds lo hi)))
 |.con ds=>∀ p,M p=none->Q (.ref p) (ae M p (.lst (dh ds lo hi)))
 |_=>False
noncomputable def wSl (te:TEd) (tl th:TOd):TEd:=λρ M Q=>te ρ M λx M1=>tl ρ M1 λl M2=>th ρ M2 λu M3=>dk x l u M3 Q
theorem mw {lo hi:Option Int}{Q Q':QD}(h:∀ d M',Q d M'->Q' d M')(q:dk x lo hi M Q):dk x lo hi M Q':=by
 cases x with
 |tup ds=>exact h _ _ q
 |ref a=>obtain⟨ds,e,q⟩:=q;exact⟨ds,e,λp n=>h _ _ (q p n)⟩
 |con ds=>exact λp n=>h _ _ (q p n)
 |_=>exact q.elim
theorem u8 {tl th:TOd}(m:aa ta)(ml:bW tl)(mh:bW th):aa (wSl ta tl th):=λρ M Q Q' i q =>
 m _ _ _ _ (λx F j=>ml _ _ _ _ (λl M2 z=>mh _ _ _ _ (λu J B=>mw i B) z) j) q
theorem xW {lo hi:Option Expr}{tl th:TOd}{p2:Pos}(m:aa ta)(ml:bW tl)(mh:bW th)(he:PE X e (lE X.K ta))(hl:PO X lo (lO X.K tl))(hu:PO X hi (lO X.K th)) :
 PE X (.Subscript e (.Slice lo hi none p2) pos) (lE X.K (wSl ta tl th)):=by
 refine PE.imp (j9 (sl_tup.or (sl_list.or qA)) he hl hu) λσ H Q h=>?_;obtain⟨ρ,M,rs,rm,q⟩:=h;refine⟨ρ,M,rs,rm,m _ _ _ _ (λx M1 q1 v H1 U J Y=>?_) q⟩;refine⟨ρ,M1,rs.mono (U.stab rm),J,ml _ _ _ _ (λl M2 q2 H2 Z O=>?_) q1⟩;refine⟨ρ,M2,(rs.mono (U.stab rm)).mono (Z.stab J),O,mh _ _ _ _ (λu M3 z H3 x3 j=>?_) q2⟩;have B:=U.trans (Z.trans x3);have F:=(Y.mono (Z.stab J)).mono (x3.stab O)
 cases x with
 | tup ds =>
   obtain⟨a,vs,rfl,L,r⟩:=Jw F
   by_cases hw:HT.sIx vs.length 0 l=0/\HT.sIx vs.length vs.length u=vs.length
   ·refine .inr (.inr ⟨a,vs,rfl,L,hw,?_⟩);have e:dh ds l u=ds:=by
     unfold dh;rw[<- r.length,hw.1,hw.2,r.length];simp
    simp only[dk]at z;rw[e]at z;exact z.ext B _ H3 Ext.refl j F
   ·simp only[dk]at z;exact .inl ⟨a,vs,rfl,L,hw,λp n=>cb j (jB r l u) (z.ext B) n⟩
 | ref a =>
   cases Js.mp F
   obtain⟨ds,e,z⟩:=z;obtain⟨vs,L,r⟩:=j _ _ e;exact .inr (.inl ⟨a,vs,rfl,SqL.of L,λp n=>bP j (jB r l u) (λp' n'=>(z p' n').ext B) n⟩)
 | con ds =>
   obtain⟨a,vs,rfl,L,r⟩:=Jy.mp F;exact .inr (.inl ⟨a,vs,rfl,L.sq,λp n=>bP j (jB r l u) (λp' n'=>(z p' n').ext B) n⟩)
 |_=>exact z.elim
end
end
variable {ta:TEd}{pos:Pos}{tg:Expr}{H1:Hp}
section
section
variable {X:Cx}
noncomputable def tyN (M:Mem):D->Option String
 |.non=>some "NoneType"
 |.bl _=>some "bool"
 |.int _=>some "int"
 |.str _=>some "str"
 |.tup _=>some "tuple"
 |.ref a=>match M a with
  |some (.lst _)=>some "list"
  |some (.dct _ _)=>some "dict"
  |_=>none
 |.con _=>none
 |.fn _=>none
noncomputable def fh (T t:String):Bool:=t==T || (t == "bool" && T == "int")
theorem xX {t:String}(rm:RM K M H)(r:RD K H x v)(e:tyN M x=some t):bS K H v (.type t):=by
 cases x with
 |non=>cases e;cases Jv.mp r;exact .non
 |bl k=>cases e;cases Jt.mp r;exact .bl k
 |int i=>cases e;cases Jq.mp r;exact .int i
 |str i=>cases e;cases Jr.mp r;exact .str i
 | tup ds =>
   cases e
   obtain⟨a,vs,rfl,j,rs⟩:=Jw r;exact .tup j
 |con ds=>cases e
 |fn _=>cases e
 | ref a =>
   cases Js.mp r
   simp only[tyN]at e
   cases e0:M a with
   |none=>rw[e0]at e;cases e
   | some o =>
     rw[e0]at e
     cases o with
     | lst ds =>
       cases e
       obtain⟨vs,j,rs⟩:=rm _ _ e0;exact .lst j
     | dct t kvs =>
       cases e
       have ro:=rm _ _ e0
       cases t with
       |false=>obtain⟨ps,j,_⟩:=ro;exact .dK j
       |true=>obtain⟨ps,j,_⟩:=ro;exact .dT j
     |fdc kvs=>cases e
     |dcn _=>cases e
     |tab _ _=>cases e
     |fdn _=>cases e
noncomputable def cH:List String:=["NoneType","bool","int","str","tuple","list","dict"]
theorem u9 (K:Frag):∀ T∈["bool","int","str","tuple","list","dict"],∀ t∈cH,PySem.W.kitOne K (.type t) (.type T)=some (fh T t):=by
 intro T j t z;simp only[cH,Cb,Ck,or_false]at j z
 rcases j with rfl|rfl|rfl|rfl|rfl|rfl <;> rcases z with rfl|rfl|rfl|rfl|rfl|rfl|rfl <;> rfl
noncomputable def iL (T:String) (ta:TEd):TEd:=λρ M Q=>ta ρ M λx M1=>∃ t,tyN M1 x=some t/\Q (.bl (fh T t)) M1
theorem oO {T:String}(h:aa ta):aa (iL T ta):=λρ M Q Q' i q=>h _ _ _ _ (λx B j=>(by obtain⟨t,e,z⟩:=j;exact⟨t,e,i _ _ z⟩)) q
theorem ua {t:String}(e:tyN M x=some t):t∈cH:=by
 cases x with
 | ref a =>
   simp only[tyN]at e
   cases e0:M a with
   |none=>rw[e0]at e;cases e
   |some o=>rw[e0]at e;cases o <;> cases e <;> simp[cH]
 |con _=>cases e
 |fn _=>cases e
 |_=>cases e;simp[cH]
theorem oP (T:String)(j:T∈["bool","int","str","tuple","list","dict"]):CallR X (.builtin "isinstance") (λvs H Q=>∃ v t,vs=[v,.ty T]/\bS X.K H v (.type t)/\t∈cH/\Q (.bl (fh T t)) H):=by
 intro pins s σ H xs us Q I r h;obtain⟨v,t,rfl,ty,z,q⟩:=h;obtain⟨u,c,rfl,ru,rc⟩:=lV r
 cases rc
 exact oa I ru ty (u9 X.K T j t z) λtk=>⟨.bl _,H,I.tok tk,rfl,q⟩
theorem ub {T:String}{y:Str}{p p2:Pos}(O:T∈["bool","int","str","tuple","list","dict"])(m:aa ta)(he:PE X e (lE X.K ta))(U:Gl X "isinstance")(hm:X.mg "isinstance" = none)(z:Gl X y)(B:X.mg y=none)(Y:E7 y=some (.type T))(Z:y ≠ "__name__")(F:(y==("__debug__":Str))=false)(hs:Cm [e,.Name y p2] X.env=(false,eval e X.env)::Cm [.Name y p2] X.env)(J:(DH pos (Cm [.Name y p2] X.env)).any (·.1)=false) :
 PE X (.Call (.Name "isinstance" p) [e,.Name y p2] [] pos) (lE X.K (iL T ta)):=by
 have h2:PE X (.Name y p2) (tC (.ty T)):=t8 z B Y rfl Z F;refine PE.imp (bw (oP T O) U hm (by decide +kernel) (gH he (gH h2 og rfl) hs) (by decide) (by decide) hs J) λσ H Q h=>?_
 obtain⟨ρ,M,rs,rm,q⟩:=h;exact⟨ρ,M,rs,rm,m _ _ _ _ (λx M1 g9 v H1 x1 j L=>(by obtain⟨t,e,q1⟩:=g9;exact⟨v,t,rfl,xX j L e,ua e,q1 _ H1 x1 j (Jt.mpr rfl)⟩)) q⟩
noncomputable def wBM (rd:D->List D->Mem->QD->Prop) (to:TEd) (t:TAd):TEd:=λρ M Q=>to ρ M λx M1=>(∃ a xs,x = .ref a/\M1 a=some (.lst xs))/\t ρ M1 λds M2=>rd x ds M2 Q
def dC (rd:D->List D->Mem->QD->Prop):Prop:=∀ x ds M Q Q',(∀ d M',Q d M'->Q' d M')->rd x ds M Q->rd x ds M Q'
theorem uc {rd:D->List D->Mem->QD->Prop}{to:TEd}{t:TAd}(j:dC rd)(mo:aa to)(mt:bg t):aa (wBM rd to t):=λρ M Q Q' i q =>
 mo _ _ _ _ (λx J z=>(by obtain⟨e,B⟩:=z;exact⟨e,mt _ _ _ _ (λds M2 F=>j _ _ _ _ _ i F) B⟩)) q
theorem xY (rm:RM K M H)(r:RD K H x v)(h:∃ a xs,x = .ref a/\M a=some (.lst xs)):tyV K "list" v H:=by
 obtain⟨a,xs,rfl,e⟩:=h
 cases Js.mp r
 obtain⟨vs,j,_⟩:=rm _ _ e;exact .inl ⟨rfl,vs,SqL.of j⟩
theorem kT {rd:D->List D->Mem->QD->Prop}{r:V->List V->Hp->VK->Prop}{to:TEd}{t:TAd}(O:dC rd)(mo:aa to)(mt:bg t)(U:∀ v vs H Q,lMt K rd v vs H Q->r v vs H Q)(σ:St)(H:Hp)(Q:VK)(h:lE K (wBM rd to t) σ H Q):tBM K "list" r (lE K to) (lA K t) σ H Q:=by
 obtain⟨ρ,M,rs,rm,q⟩:=h;refine⟨ρ,M,rs,rm,mo _ _ _ _ (λx Y ⟨e,Z⟩ v H1 J j z=>⟨xY j z e,?_⟩) q⟩;refine⟨ρ,Y,rs.mono (J.stab rm),j,mt _ _ _ _ (λds M2 q2 vs H2 L B F=>?_) Z⟩;exact U v vs H2 Q ⟨x,ds,M2,B,z.mono (L.stab j),F,O _ _ _ _ _ (λd M' k=>k.ext (J.trans L)) q2⟩
noncomputable def eG:D->List D->Mem->QD->Prop:=λx ds M Q=>∃ a xs y,x = .ref a/\ds=[y]/\M a=some (.lst xs)/\xs.length<tv/\Q .non (ae M a (.lst (xs++[y])))
noncomputable def eI:D->List D->Mem->QD->Prop:=λx ds M Q=>∃ a b xs ys,x = .ref a/\ds=[.ref b]/\M a=some (.lst xs)/\M b=some (.lst ys)/\xs.length+ys.length<=tv/\Q .non (ae M a (.lst (xs++ys)))
theorem eT:dC eG:=λ_ _ _ _ _ h j=>(by obtain⟨a,xs,y,B,F,J,z,q⟩:=j;exact⟨a,xs,y,B,F,J,z,h _ _ q⟩)
theorem eU:dC eI:=λ_ _ _ _ _ h j=>(by obtain⟨a,b,xs,y,B,F,J,L,z,q⟩:=j;exact⟨a,b,xs,y,B,F,J,L,z,h _ _ q⟩)
theorem gR {o0:O}(rm:RM K M H)(m:M a=some o0)(rd:RDs K H ds vs)(r:RD K H d v)(q:KE' K M H Q d (ae M a (.lst ds)))(w:fz (some o0)=false:=by rfl) :
 Q v (upd H a (.lst vs)):=by
 have st:Stab H (upd H a (.lst vs)):=rm.stabPut m w;exact q v _ (Ext.put m w) (rm.put m ⟨vs,aM,rd.mono st⟩ w) (r.mono st)
theorem qT (v:V)(vs:List V)(H:Hp)(Q:VK)(h:lMt K eG v vs H Q):kK v vs H Q:=by
 obtain⟨x,ds,M,rm,rx,rs,a,xs,y,rfl,rfl,e,z,q⟩:=h
 cases Js.mp rx
 obtain⟨w,rfl,rw'⟩:=rs.one;obtain⟨us,j,ru⟩:=rm _ _ e;exact⟨a,us,w,rfl,rfl,j,by rw[ru.length];exact z,gR rm e (ru.append (RDs.cons rw' RDs.nil)) (Jv.mpr rfl) q⟩
theorem qU (v:V)(vs:List V)(H:Hp)(Q:VK)(h:lMt K eI v vs H Q):kL v vs H Q:=by
 obtain⟨x,ds,M,rm,rx,rs,a,b,xs,y,rfl,rfl,e,B,z,q⟩:=h
 cases Js.mp rx
 obtain⟨w,rfl,rw'⟩:=rs.one
 cases Js.mp rw'
 obtain⟨us,F,ru⟩:=rm _ _ e;obtain⟨ws,J,j⟩:=rm _ _ B;have l1:=ru.length;have l2:=j.length;exact⟨a,b,us,ws,rfl,rfl,F,J,by lia,gR rm e (ru.append j) (Jv.mpr rfl) q⟩
noncomputable abbrev BT:=D->ao->Option ao
noncomputable abbrev BTs:=List D->ao->Option ao
noncomputable def bX (i:Nat):BT:=λd ρ=>some (ρ.set i (some d))
noncomputable def fj:BTs:=λds ρ=>match ds with|[]=>some ρ|_=>none
noncomputable def bI (b:BT) (bs:BTs):BTs:=λds ρ=>match ds with|d::r=>(b d ρ).bind λρ'=>bs r ρ'|[]=>none
noncomputable def qV (bs:BTs):BT:=λd ρ=>match d with|.tup ds=>bs ds ρ|_=>none
noncomputable def lG (K:Frag) (b:BT):TG:=λv σ H Q=>∃ d ρ ρ',RD K H d v/\RS K H σ ρ /\ b d ρ = some ρ' /\ ∀ σ',RS K H σ' ρ'->Q σ' H
noncomputable def lGs (K:Frag) (b:BTs):TGs:=λvs σ H Q=>∃ ds ρ ρ',RDs K H ds vs/\RS K H σ ρ /\ b ds ρ = some ρ' /\ ∀ σ',RS K H σ' ρ'->Q σ' H
theorem PG.imp {t t':TG}(h:PG X e t)(i:∀ v σ H Q,t' v σ H Q->t v σ H Q):PG X e t':=λpins s σ H v u Q I r q=>h pins s σ H v u Q I r (i _ _ _ _ q)
theorem PGs.imp {e:List Expr}{t t':TGs}(h:PGs X e t)(i:∀ v σ H Q,t' v σ H Q->t v σ H Q):PGs X e t':=λpins s σ H v u Q I r q=>h pins s σ H v u Q I r (i _ _ _ _ q)
theorem ud {i:Nat}{x:Str}(j:X.N.Nodup)(hi:X.N[i]? = some x)(hx:Loc X.env.scope x)(hf:X.fn x=true∨X.env.scope.names.lookup x=some .local):PG X (.Name x pos) (lG X.K (bX i)) :=
 PG.imp (kG j hi hx hf) λv σ H Q ⟨d,ρ,ρ',r,rs,e,q⟩=>by
  cases e
  exact q _ (rs.set i r)
theorem ue:PGs X [] (lGs X.K fj):=PGs.imp tt λvs σ H Q ⟨ds,ρ,ρ',r,rs,e,q⟩=>by
 cases ds with
 |nil=>cases e;exact⟨RDs.nil_iff.mp r,q σ rs⟩
 |cons _ _=>cases e
theorem qW {es:List Expr}{b:BT}{bs:BTs}(h1:PG X e (lG X.K b))(h2:PGs X es (lGs X.K bs))(hs:(Dj (e::es) X.env).map (·.2)=assign e X.env::(Dj es X.env).map (·.2)) :
 PGs X (e::es) (lGs X.K (bI b bs)):=PGs.imp (qg h1 h2 hs) λvs σ H Q ⟨ds,ρ,ρ',r,rs,e,q⟩=>by
 cases ds with
 |nil=>cases e
 | cons d ds =>
   obtain⟨v,vr,rfl,z,B⟩:=Ju.mp r;simp only[bI]at e
   cases j:b d ρ with
   |none=>rw[j]at e;cases e
   | some ρ1 =>
     rw[j]at e;exact⟨v,vr,rfl,d,ρ,ρ1,z,rs,j,λσ' rs'=>⟨ds,ρ1,ρ',B,rs',e,q⟩⟩
theorem vZ {es:List Expr}{k:Nat}{bs:BTs}{n:Nat}(z:X.calm=true)(hlen:∀ ds ρ ρ',bs ds ρ = some ρ'->ds.length=n)(h:PGs X es (lGs X.K bs))(B:(Dj es X.env).length=n)(j:(Dj es X.env).findIdx? (·.1)=none) :
 PG X (.Tuple es k pos) (lG X.K (qV bs)):=PG.imp (vh z h B j) λv σ H Q ⟨d,ρ,ρ',r,rs,e,q⟩=>by
 cases d with
 | tup ds =>
   obtain⟨a,vs,rfl,F,rv⟩:=Jw r;exact⟨a,vs,rfl,F,by rw[rv.length];exact hlen _ _ _ e,ds,ρ,ρ',rv,rs,e,q⟩
 |_=>cases e
noncomputable abbrev TId:=ao->Mem->(List D->(Mem->Prop)->Mem->Prop)->Prop
def bA (T:TId):Prop:=∀ ρ M Q Q',(∀ xs c M',Q xs c M'->Q' xs c M')->T ρ M Q->T ρ M Q'
def Yl (H H':Hp):Prop:=H'=H∨∃ q vs,H q=none/\H'=upd H q (.tup vs)
def dD (K:Frag) (H1:Hp) (xs:List D) (chk:Mem->Prop) (J:It):Prop:=∀ M H,Stab H1 H->RM K M H->chk M -> ∀ i,(xs.length<=i->J.stop i H)/\(i<xs.length->J.go i H /\
 ∀ x H',J.yld i H x H'->Yl H H' /\ ∃ d,xs[i]? = some d/\RD K H' d x)
noncomputable def lI (K:Frag) (T:TId):TI:=λσ H R=>∃ ρ M,RS K H σ ρ /\ RM K M H/\T ρ M (λxs chk M1=>∀ J H1,Ext M H M1 H1->RM K M1 H1->dD K H1 xs chk J->R J H1)
theorem PI.imp {t t':TI}(h:PI X tg e t)(i:∀ σ H Q,t' σ H Q->t σ H Q):PI X tg e t':=λpins s σ H Q I q=>h pins s σ H Q I (i _ _ _ q)
theorem Yl.ext {H':Hp}(rm:RM K M H)(y:Yl H H'):Ext M H M H'/\RM K M H':=by
 rcases y with rfl|⟨q,vs,n,rfl⟩
 ·exact⟨Ext.refl,rm⟩
 ·exact⟨JC n,rm.new n⟩
noncomputable def zh (K:Frag) (tl:TE):TI:=λσ H R=>tl σ H λx H1=>∃ a,x = .ref a/\(((∃ xs,SqL K H1 a xs)/\R (Itl K a) H1)∨((∃ xs,SqT K H1 a xs)/\R (Itt K a) H1))
theorem w5 {l:Expr}{tl:TE}(F:PE X l tl):PI X tg l (zh X.K tl):=by
 intro pins s σ H R I h;refine thn (F pins s σ H _ I h) λv s1 J=>?_;obtain⟨x,H1,j,L,O⟩:=J;obtain⟨a,e,q⟩:=O;subst e
 cases L
 rcases q with⟨⟨xs,z⟩,q⟩|⟨⟨xs,z⟩,q⟩
 ·obtain⟨its,rv,p,U⟩:=j.list z;refine Dd p.isList ?_;refine⟨s1.heap.objs.size,[s1.heap.objs.size],_,_,H1,rfl,j.kept (t':=s1.toks) λb o e=>hD _ e,nR a _,⟨_,Ce _ rfl,rfl,rfl⟩,λb B=>?_,q⟩;have e:b=s1.heap.objs.size:=by simpa using B
  subst e;exact j.fpOk (Cc _) (j.hok.fresh (Cc _))
 ·obtain⟨its,rv,p,U⟩:=j.tuple z;refine D1 (show s1.heap.IsTuple a its.toArray from p) ?_;refine⟨s1.heap.objs.size,[s1.heap.objs.size],_,_,H1,rfl,j.kept (t':=s1.toks) λb o e=>hD _ e,lK a _,⟨_,Ce _ rfl,rfl,rfl⟩,λb B=>?_,q⟩;have e:b=s1.heap.objs.size:=by simpa using B
  subst e;exact j.fpOk (Cc _) (j.hok.fresh (Cc _))
noncomputable def mx (ta:TEd):TId:=λρ M R=>ta ρ M λx M1=>∃ ds,aE M1 x=some ds/\R ds (λM=>aE M x=some ds) M1
theorem qX (h:aa ta):bA (mx ta):=λρ M Q Q' i q=>h _ _ _ _ (λx B j=>(by obtain⟨ds,e,z⟩:=j;exact⟨ds,e,i _ _ _ z⟩)) q
theorem oQ {chk:Mem->Prop}(h:∀ M H,Stab H1 H->RM K M H->chk M -> ∃ vs,SqL K H a vs/\RDs K H ds vs):dD K H1 ds chk (Itl K a):=λM H st rm c i=>by
 obtain⟨vs,sq,r⟩:=h M H st rm c;have l:=r.length;refine⟨λhi=>⟨vs,sq,by lia⟩,λhi=>⟨⟨vs,vs[i]'(by lia),sq,Cf (by lia)⟩,λx H' y=>?_⟩⟩
 obtain⟨e,y⟩:=y;subst e;exact⟨.inl rfl,r.getV (y vs sq)⟩
theorem w6 {chk:Mem->Prop}(h:∀ M H,Stab H1 H->RM K M H->chk M -> ∃ vs,SqT K H a vs/\RDs K H ds vs):dD K H1 ds chk (Itt K a):=λM H st rm c i=>by
 obtain⟨vs,sq,r⟩:=h M H st rm c;have l:=r.length;refine⟨λhi=>⟨vs,sq,by lia⟩,λhi=>⟨⟨vs,vs[i]'(by lia),sq,Cf (by lia)⟩,λx H' y=>?_⟩⟩
 obtain⟨e,y⟩:=y;subst e;exact⟨.inl rfl,r.getV (y vs sq)⟩
theorem w8 {l:Expr}(m:aa ta)(J:PE X l (lE X.K ta)):PI X tg l (lI X.K (mx ta)):=by
 refine PI.imp (w5 J) λσ H R h=>?_;obtain⟨ρ,M,rs,rm,q⟩:=h;refine⟨ρ,M,rs,rm,m _ _ _ _ (λx O g9 v H1 F j rd1=>?_) q⟩;obtain⟨ds,e,B⟩:=g9
 cases x with
 | tup es =>
   cases e
   obtain⟨a,vs,rfl,z,rv⟩:=Jw rd1;exact⟨a,rfl,.inr ⟨⟨vs,z⟩,B _ H1 F j (w6 λM' H' st _ _=>⟨vs,st.sqT z,rv.mono st⟩)⟩⟩
 | con es =>
   cases e
   obtain⟨a,vs,rfl,z,rv⟩:=Jy.mp rd1;exact⟨a,rfl,.inl ⟨⟨vs,z.sq⟩,B _ H1 F j (oQ λM' H' st _ _=>⟨vs,(st.sqF z).sq,rv.mono st⟩)⟩⟩
 | ref a =>
   cases Js.mp rd1
   have get:∀ {M':Mem} {es:List D},aE M' (.ref a)=some es->M' a=some (.lst es):=λ{M' es} e=>by
    simp only[aE]at e
    cases e0:M' a with
    |none=>rw[e0]at e;cases e
    | some o =>
      rw[e0]at e
      cases o with
      |dct _ _=>cases e
      |fdc _=>cases e
      |dcn _=>cases e
      |tab _ _=>cases e
      |fdn _=>cases e
      |lst es'=>cases e;rfl
   obtain⟨vs,z,rv⟩:=j _ _ (get e);exact⟨a,rfl,.inl ⟨⟨vs,SqL.of z⟩,B _ H1 F j (oQ λM' H' st rm' c=>by
    obtain⟨us,L,ru⟩:=rm' _ _ (get c);exact⟨us,SqL.of L,ru⟩)⟩⟩
 |_=>cases e
noncomputable def bY (lo:Int) (n:Nat):List D:=(D6 n).map λi=>.int (lo+(i:Nat))
theorem w9 {lo:Int}{n:Nat}:dD K H1 (bY lo n) (λ_=>True) (Itr lo n):=λM H st rm c i=>by
 have l:(bY lo n).length=n:=by simp[bY]
 refine⟨λhi=>by show n<=i;lia,λhi=>⟨by show i<n;lia,λx H' y=>?_⟩⟩
 obtain⟨e,y⟩:=y;subst e y;refine⟨.inl rfl,.int (lo+i),?_,Jq.mpr rfl⟩;simp only[bY,CB,List.getElem?_range (show i<n by lia),Eg]
noncomputable def iM (ta:TAd):TId:=λρ M R=>ta ρ M λds M1=>∃ j:Int,ds=[.int j] /\ -(2 ^ 62)<=j/\j<2 ^ 62/\R (bY 0 j.toNat) (λ_=>True) M1
theorem oR {ta:TAd}(h:bg ta):bA (iM ta):=λρ M Q Q' i q=>h _ _ _ _ (λx F z=>(by obtain⟨j,e,a,b,B⟩:=z;exact⟨j,e,a,b,i _ _ _ B⟩)) q
theorem uf {a:Expr}{ta:TAd}{p:Pos}(m:bg ta)(B:Gl X "range")(hm:X.mg "range" = none)(F:PA X [a] (lA X.K ta))(hs:Cm [a] X.env=[(false,eval a X.env)]):PI X tg (.Call (.Name "range" p) [a] [] pos) (lI X.K (iM ta)):=by
 refine PI.imp (nS B hm F hs) λσ H R h=>?_;obtain⟨ρ,M,rs,rm,q⟩:=h;refine⟨ρ,M,rs,rm,m _ _ _ _ (λds Y g9 vs H1 U z rd1=>?_) q⟩;obtain⟨j,e,J,L,O⟩:=g9;subst e;obtain⟨v,rfl,r⟩:=rd1.one
 cases Jq.mp r
 exact⟨j,rfl,J,L,O _ H1 U z w9⟩
end
end
end Mi
namespace Mi
end Mi
namespace Mi
variable {K:Frag}{M:Mem}{H H1:Hp}{x:D}{ta:TEd}{xs:List D}{pos pos':Pos}
section
section
variable {X:Cx}
noncomputable def isT:D->Bool|.tup _=>true|_=>false
theorem cR {ds:List D}{v:V}(rm:RM K M H)(r:RD K H x v)(e:aE M x=some ds):∃ p vs,v = .ref p/\SqV K (isT x) H p vs/\RDs K H ds vs:=by
 cases x with
 | tup es =>
   cases e
   obtain⟨a,vs,rfl,j,rv⟩:=Jw r;exact⟨a,vs,rfl,j,rv⟩
 | con es =>
   cases e
   obtain⟨a,vs,rfl,j,rv⟩:=Jy.mp r;exact⟨a,vs,rfl,j.sq,rv⟩
 | ref a =>
   cases Js.mp r
   simp only[aE]at e
   cases e0:M a with
   |none=>rw[e0]at e;cases e
   | some o =>
     rw[e0]at e
     cases o with
     |dct _ _=>cases e
     |fdc _=>cases e
     |dcn _=>cases e
     |tab _ _=>cases e
     |fdn _=>cases e
     | lst es =>
       cases e
       obtain⟨vs,j,rv⟩:=rm _ _ e0;exact⟨a,vs,rfl,SqL.of j,rv⟩
 |_=>cases e
noncomputable def fU (x y:D):D:=.tup [x,y]
noncomputable def gS (ta tb:TEd):TId:=λρ M R=>aH ta (aH tb bh) ρ M λds M1=>∃ x y xs ys,ds=[x,y]/\aE M1 x=some xs/\aE M1 y=some ys/\R (Gp fU xs ys) (λM=>aE M x=some xs/\aE M y=some ys) M1
theorem qY {tb:TEd}(j:aa ta)(z:aa tb):bA (gS ta tb):=λρ M Q Q' i q=>ax j (ax z av) _ _ _ _ (λds O B=>(by obtain⟨x,y,xs,ys,e,F,J,L⟩:=B;exact⟨x,y,xs,ys,e,F,J,i _ _ _ L⟩)) q
theorem fo {p:Addr}{o:HO}(n:H p=none):Stab H (upd H p o):=⟨λa xs e=>by rw[ak (λz=>by rw[z,n]at e;cases e)];exact e,λa o u e=>by rw[ak (λz=>by rw[z,n]at e;cases e)];exact e⟩
theorem wa {y:D}{ys:List D}{a b:Addr}(rx:RD K H1 x (.ref a))(ry:RD K H1 y (.ref b)):dD K H1 (Gp fU xs ys) (λM=>aE M x=some xs/\aE M y=some ys) (Itz K (isT x) (isT y) a b):=λM H st rm c i=>by
 obtain⟨p1,vs,U,j,L⟩:=cR rm (rx.mono st) c.1;obtain⟨p2,us,Y,z,O⟩:=cR rm (ry.mono st) c.2
 cases U
 cases Y
 have l1:=L.length;have l2:=O.length;have lz:(Gp fU xs ys).length=min xs.length ys.length:=List.length_zipWith;refine⟨λhi=>⟨vs,us,j,z,by lia⟩,λhi=>⟨⟨vs,us,vs[i]'(by lia),us[i]'(by lia),j,z,Cf (by lia),Cf (by lia)⟩,λv H' Z=>?_⟩⟩
 obtain⟨p,v1,v2,n,rfl,rfl,g⟩:=Z;obtain⟨g1,g2⟩:=g vs us j z;obtain⟨d1,B,F⟩:=L.getV g1;obtain⟨d2,hd2,J⟩:=O.getV g2;have sb:=fo (o:=.tup [v1,v2]) n;refine⟨.inr ⟨p,[v1,v2],n,rfl⟩,.tup [d1,d2],?_,JA ⟨p,[v1,v2],rfl,aM,RDs.cons (F.mono sb) (RDs.cons (J.mono sb) RDs.nil)⟩⟩;rw[List.getElem?_zipWith,B,hd2];rfl
theorem wb {elts:List Expr}{cx}{p:Pos}{a b:Expr}{tb:TEd}(ma:aa ta)(mb:aa tb)(J:Gl X "zip")(hm:X.mg "zip" = none)(L:PA X [a,b] (lA X.K (aH ta (aH tb bh))))(hs:Cm [a,b] X.env=[(false,eval a X.env),(false,eval b X.env)])(z:Cm [b] X.env=[(false,eval b X.env)]) :
 PI X (.Tuple elts cx pos) (.Call (.Name "zip" p) [a,b] [] pos') (lI X.K (gS ta tb)):=by
 refine PI.imp (vJ J hm L hs z) λσ H R h=>?_;obtain⟨ρ,M,rs,rm,q⟩:=h;refine⟨ρ,M,rs,rm,ax ma (ax mb av) _ _ _ _ (λds M1 g9 vs H1 Z j rd1=>?_) q⟩;obtain⟨x,y,xs,ys,e,O,U,Y⟩:=g9;subst e;obtain⟨v,u,rfl,B,F⟩:=rd1.two;obtain⟨p1,vs,rfl,s1,_⟩:=cR j B O;obtain⟨p2,us,rfl,s2,_⟩:=cR j F U;exact⟨p1,p2,isT x,isT y,vs,us,rfl,s1,s2,Y _ H1 Z j (wa B F)⟩
end
end
section
section
variable {X:Cx}
noncomputable def dE (xs:List D):List D:=xs.mapIdx λi x=>.tup [.int (i:Nat),x]
noncomputable def iN (ta:TEd):TId:=λρ M R=>ta ρ M λx M1=>∃ xs,aE M1 x=some xs/\R (dE xs) (λM=>aE M x=some xs) M1
theorem oS (h:aa ta):bA (iN ta):=λρ M Q Q' i q=>h _ _ _ _ (λx B j=>(by obtain⟨ds,e,z⟩:=j;exact⟨ds,e,i _ _ _ z⟩)) q
theorem wc {a:Addr}(rx:RD K H1 x (.ref a)):dD K H1 (dE xs) (λM=>aE M x=some xs) (Ite K (isT x) a):=λM H st rm c i=>by
 obtain⟨O,vs,J,j,F⟩:=cR rm (rx.mono st) c
 cases J
 have l1:=F.length;have lz:(dE xs).length=xs.length:=by simp[dE]
 refine⟨λhi=>⟨vs,j,by lia⟩,λhi=>⟨⟨vs,vs[i]'(by lia),j,Cf (by lia)⟩,λv H' L=>?_⟩⟩
 obtain⟨p,v1,n,rfl,rfl,g⟩:=L;obtain⟨d1,z,B⟩:=F.getV (g vs j);have sb:=fo (o:=.tup [.int (i:Nat),v1]) n;refine⟨.inr ⟨p,[.int (i:Nat),v1],n,rfl⟩,.tup [.int (i:Nat),d1],?_,JA ⟨p,[.int (i:Nat),v1],rfl,aM,RDs.cons (Jq.mpr rfl) (RDs.cons (B.mono sb) RDs.nil)⟩⟩;simp[dE,Er,z]
theorem ug {elts:List Expr}{cx}{p:Pos}{a:Expr}(ma:aa ta)(B:Gl X "enumerate")(hm:X.mg "enumerate" = none)(F:PA X [a] (lA X.K (aH ta bh)))(hs:Cm [a] X.env=[(false,eval a X.env)]) :
 PI X (.Tuple elts cx pos) (.Call (.Name "enumerate" p) [a] [] pos') (lI X.K (iN ta)):=by
 refine PI.imp (tK B hm F hs) λσ H R h=>?_;obtain⟨ρ,M,rs,rm,q⟩:=h;refine⟨ρ,M,rs,rm,ma _ _ _ _ (λx Y g9 vs H1 O j rd1=>?_) q⟩;obtain⟨xs,J,L⟩:=g9;obtain⟨v,rfl,z⟩:=rd1.one;obtain⟨U,us,rfl,s1,_⟩:=cR j z J;exact⟨U,isT x,us,rfl,s1,L _ H1 O j (wc z)⟩
end
end
variable {b:BT}{vs:List V}{te:TEd}{src:TId}
section
noncomputable abbrev NC:=ao->Mem->List D->Prop
noncomputable abbrev TCd:=ao->Mem->List D->NC->Prop
def bB (T:TCd):Prop:=∀ ρ M acc N N',(∀ ρ' M' acc',N ρ' M' acc'->N' ρ' M' acc')->T ρ M acc N->T ρ M acc N'
structure ExtP (p:Addr) (M:Mem) (H:Hp) (M':Mem) (H':Hp):Prop where
 kp:∀ a o,a≠p->fz (M a)=true->H a=some o->H' a=some o
 nw:∀ a o,fz (M a)=true->H a=some o->M' a=M a
section
variable {K:Frag} {M M' M'':Mem} {H H' H'':Hp} {p:Addr}
theorem ExtP.new (x:ExtP p M H M' H')(a:Addr)(o:HO)(n:M a=none)(e:H a=some o):M' a=none:=(x.nw a o (by rw[n];rfl) e).trans n
theorem Ext.toP (x:Ext M H M' H'):ExtP p M H M' H':=⟨λa o _=>x.kp a o,x.nw⟩
theorem ExtP.refl:ExtP p M H M H:=⟨λ_ _ _ _ h=>h,λ_ _ _ _=>rfl⟩
theorem ExtP.trans (a:ExtP p M H M' H')(B:H p=some (.lst vs))(j:∃ vs',H' p=some (.lst vs'))(b:ExtP p M' H' M'' H''):ExtP p M H M'' H'' :=
 ⟨fun c o ne n h=>b.kp c o ne (by rw [a.nw c o n h];exact n) (a.kp c o ne n h),fun c o n h=>by
   have n':fz (M' c)=true:=by rw[a.nw c o n h];exact n
   refine Eq.trans ?_ (a.nw c o n h)
   by_cases z:c=p
   ·subst z;obtain⟨vs',e⟩:=j;exact b.nw c _ n' e
   ·exact b.nw c o n' (a.kp c o z n h)⟩
theorem ExtP.stab (r:RM K M H)(j:H p=some (.lst vs))(x:ExtP p M H M' H'):Stab H H' where
 tup:=λa xs e=>x.kp a _ (λz=>by subst z;rw[j]at e;cases e) (by rw[r.fzT e];rfl) e
 frz:=λa o u e=>x.kp a _ (λz=>by subst z;rw[j]at e;cases e) (r.fzF e) e
theorem jC {ho:HO}(j:H p=some (.lst vs)):Stab H (upd H p ho) :=
 ⟨λa xs e=>by rw[ak (λz=>by subst z;rw[j]at e;cases e)];exact e,λa o u e=>by rw[ak (λz=>by subst z;rw[j]at e;cases e)];exact e⟩
theorem RM.side {ho:HO}(r:RM K M H)(n:M p=none)(j:H p=some (.lst vs)):RM K M (upd H p ho):=λa o e=>by
 have ne:a≠p:=λz=>by subst z;rw[n]at e;cases e
 exact(r a o e).mono (jC j) λB q=>by rw[ak ne];exact q
end
def eJ (K:Frag) (H:Hp) (p:Addr) (acc:List D):Prop:=∃ vs,H p=some (.lst vs)/\RDs K H acc vs
noncomputable def KC (K:Frag) (p:Addr) (M:Mem) (H:Hp) (N:St->Hp->Prop):NC:=λρ' M' acc'=>∀ σ' H',ExtP p M H M' H'->RS K H' σ' ρ'->RM K M' H'->eJ K H' p acc'->N σ' H'
noncomputable def lC (K:Frag) (p:Addr) (T:TCd):TC:=λσ H N=>∃ ρ M acc,RS K H σ ρ /\ RM K M H/\M p=none/\eJ K H p acc/\T ρ M acc (KC K p M H N)
theorem KC.ext {p:Addr}{M2 M':Mem}{H2:Hp}{N:St->Hp->Prop}{ρ:ao}{acc:List D}(z:H p=some (.lst vs))(j:∃ vs',H2 p=some (.lst vs'))(x:ExtP p M H M2 H2)(h:KC K p M H N ρ M' acc):KC K p M2 H2 N ρ M' acc :=
 λσ' H' y=>h σ' H' (x.trans z j y)
noncomputable def cZ (te:TEd):TCd:=λρ M acc N=>te ρ M λx M1=>acc.length<tv/\N ρ M1 (acc++[x])
noncomputable def ba:List TTd->TCd->TCd
 |[],tb=>tb
 |t::r,tb=>λρ M acc N=>t ρ M λb M1=>if b=true then ba r tb ρ M1 acc N else N ρ M1 acc
noncomputable def bC (b:BT) (tb:TCd) (chk:Mem->Prop) (N:NC):List D->NC
 |[]=>λρ M acc=>chk M/\N ρ M acc
 |x::xs=>λρ M acc=>chk M /\ ∃ ρ',b x ρ = some ρ'/\tb ρ' M acc (bC b tb chk N xs)
noncomputable def cI (src:TId) (b:BT) (tb:TCd):TCd:=λρ M acc N=>src ρ M λxs chk M1=>bC b tb chk N xs ρ M1 acc
noncomputable def eK (fr:List (Option Nat)) (src:TId) (b:BT) (tb:TCd):TEd:=λρ M Q=>src ρ M λxs chk M1=>bC b tb chk (λ_ M' acc=>∀ p,M' p=none->Q (.ref p) (ae M' p (.lst acc))) xs (m8 fr ρ) M1 []
theorem bo (h:aa te):bB (cZ te):=λρ M acc N N' i q=>h _ _ _ _ (λx F j=>(by obtain⟨z,B⟩:=j;exact⟨z,i _ _ _ B⟩)) q
theorem aI {tb:TCd}(z:bB tb):∀ {ts:List TTd},(∀ t∈ts,ay t)->bB (ba ts tb)
 |[],_=>z
 | t::r,h=>fun ρ M acc N N' i q=>h t CN _ _ _ _ (fun b F j=>by
   cases b with
   |true=>rw[if_pos rfl]at j ⊢;exact aI z (λt' B=>h t' (Ci _ B)) _ _ _ _ _ i j
   |false=>rw[if_neg q7]at j ⊢;exact i _ _ _ j) q
theorem dX {b:BT}{tb:TCd}(z:bB tb){chk:Mem->Prop}{N N':NC}(i:∀ ρ' M' acc',N ρ' M' acc'->N' ρ' M' acc'):∀ (xs:List D) (ρ:ao) (M:Mem) (acc:List D),bC b tb chk N xs ρ M acc->bC b tb chk N' xs ρ M acc
 |[],ρ,M,acc,h=>⟨h.1,i _ _ _ h.2⟩
 |x::xs,ρ,M,acc,⟨c,ρ',e,q⟩=>⟨c,ρ',e,z _ _ _ _ _ (λρ2 M2 j B=>dX z i xs ρ2 M2 j B) q⟩
theorem eV {tb:TCd}(hs:bA src)(j:bB tb):bB (cI src b tb):=λρ M acc N N' i q=>hs _ _ _ _ (λxs c B z=>dX j i xs _ _ _ z) q
theorem i8 {fr:List (Option Nat)}{tb:TCd}(hs:bA src)(j:bB tb):aa (eK fr src b tb):=λρ M Q Q' i q =>
 hs _ _ _ _ (λxs c F z=>dX j (λ_ M' acc B p n=>i _ _ (B p n)) xs _ _ _ z) q
section
variable {K:Frag} {p:Addr}
theorem dY (m:aa te)(σ:St)(H:Hp)(N:St->Hp->Prop)(h:lC K p (cZ te) σ H N):sJ p (lE K te) σ H N:=by
 obtain⟨ρ,M,acc,rs,rm,n,⟨vs,O,ra⟩,q⟩:=h;refine⟨ρ,M,rs,rm,m _ _ _ _ (λx Z g9 v H1 F J L=>?_) q⟩;obtain⟨z,U⟩:=g9;have j:=F.keep p _ n O;have Y:=F.new p _ n O;have st:=F.stab rm;have B:Stab H1 (upd H1 p (.lst (vs++[v]))):=jC j;refine⟨vs,j,by rw[ra.length];exact z,U σ _ ⟨λa o ne m' e=>?_,F.nw⟩ ((rs.mono st).mono B) (J.side Y j) ⟨vs++[v],aM,((ra.mono st).mono B).append (RDs.cons (L.mono B) RDs.nil)⟩⟩
 rw[ak ne];exact F.kp a o m' e
theorem fV {tb:TCd}(mb:bB tb):∀ {ts:List TTd},(∀ t∈ts,ay t) -> ∀ (σ:St) (H:Hp) (N:St->Hp->Prop),lC K p (ba ts tb) σ H N->fK (ts.map (lT K)) (lC K p tb) σ H N
 |[],_,σ,H,N,h=>h
 | t::r,hm,σ,H,N,h=>by
   obtain⟨ρ,M,acc,rs,rm,n,⟨vs,J,ra⟩,q⟩:=h;refine⟨ρ,M,rs,rm,hm t CN _ _ _ _ (λb O F H1 z B=>?_) q⟩;have j:=z.keep p _ n J;have U:=z.new p _ n J;have st:=z.stab rm
   cases b with
   | false =>
     rw[if_neg q7]at F;dsimp only;rw[if_neg q7];exact F σ H1 z.toP (rs.mono st) B ⟨vs,j,ra.mono st⟩
   | true =>
     rw[if_pos rfl]at F;dsimp only;rw[if_pos rfl];exact fV mb (λt' L=>hm t' (Ci _ L)) σ H1 N ⟨ρ,O,acc,rs.mono st,B,U,⟨vs,j,ra.mono st⟩,
      aI mb (λt' L=>hm t' (Ci _ L)) _ _ _ _ _ (λρ' M' acc' k=>k.ext J ⟨vs,j⟩ z.toP) F⟩
theorem i9 {tb:TCd}(mb:bB tb){chk:Mem->Prop}{J:It}{B:Mem}{Nd:NC}{N:St->Hp->Prop}{σ:St}{ρ:ao}{acc:List D}(it:dD K H1 xs chk J)(rs:RS K H1 σ ρ)(rm:RM K B H1)(n:B p=none)(ac:eJ K H1 p acc)(q:bC b tb chk Nd xs ρ B acc)(hN:∀ ρ' M' acc' σ' H',ExtP p B H1 M' H'->RS K H' σ' ρ'->RM K M' H'->eJ K H' p acc'->Nd ρ' M' acc'->N σ' H') :
 eA J (lG K b) (lC K p tb) N σ H1:=by
 obtain⟨BE,F,_⟩:=id ac;refine⟨λi m σ H=>m=xs.length - i/\i<=xs.length /\ ∃ ρ M acc,RS K H σ ρ /\ RM K M H/\M p=none/\eJ K H p acc/\ExtP p B H1 M H/\bC b tb chk Nd (xs.drop i) ρ M acc,⟨xs.length,by simp,DB _,ρ,B,acc,rs,rm,n,ac,ExtP.refl,q⟩,?_⟩
 rintro i m σ H ⟨rfl,hi,ρ,M,acc,rs,j,n,ac,x,q⟩;have st:=x.stab rm F;obtain⟨vs,hp,ra⟩:=id ac
 by_cases z:i<xs.length
 ·rw[EB z]at q;obtain⟨c,ρ',hb,q⟩:=q;obtain⟨go,yl⟩:=(it M H st j c i).2 z;refine .inr ⟨go,λσ' H'=>∃ m',m'<xs.length - i/\(m'=xs.length - (i+1)/\i+1<=xs.length /\ ∃ ρ M acc,RS K H' σ' ρ /\ RM K M H'/\M p=none/\eJ K H' p acc/\ExtP p B H1 M H'/\bC b tb chk Nd (xs.drop (i+1)) ρ M acc),λσ' H' h=>h,λx' H' y=>?_⟩;obtain⟨yy,d,hd,rd⟩:=yl x' H' y;rw[Cf z]at hd
  cases hd
  obtain⟨xy,rmy⟩:=yy.ext j;have sty:=xy.stab j;have L:=xy.keep p _ n hp;refine⟨_,ρ,ρ',rd,rs.mono sty,hb,λσ2 U=>?_⟩;refine⟨ρ',M,acc,U,rmy,n,⟨vs,L,ra.mono sty⟩,mb _ _ _ _ _ (λρ3 M3 O q3 σ3 H3 x3 Y Z BD=>?_) q⟩;have n3:M3 p=none:=x3.new p _ n L;exact⟨xs.length - (i+1),by lia,rfl,z,ρ3,M3,O,Y,Z,n3,BD,(x.trans F ⟨vs,hp⟩ xy.toP).trans F ⟨vs,L⟩ x3,q3⟩
 ·have e:i=xs.length:=by lia
  subst e;rw[Iy]at q;exact .inl ⟨(it M H st j q.1 _).1 (Cc _),hN ρ M acc σ H x rs j ac q.2⟩
theorem eW {tb:TCd}(ms:bA src)(mb:bB tb)(σ:St)(H:Hp)(N:St->Hp->Prop)(h:lC K p (cI src b tb) σ H N):(lI K src) σ H λJ H1=>eA J (lG K b) (lC K p tb) N σ H1:=by
 obtain⟨ρ,M,acc,rs,rm,n,⟨vs,B,ra⟩,q⟩:=h;refine⟨ρ,M,rs,rm,ms _ _ _ _ (λxs chk U L J H1 z F it=>?_) q⟩;have j:=z.keep p _ n B;have O:=z.new p _ n B;have st:=z.stab rm;exact i9 mb it (rs.mono st) F O ⟨vs,j,ra.mono st⟩ L λρ' M' acc' σ' H' x2 rs' rm' ac' k=>k σ' H' (z.toP.trans B ⟨vs,j⟩ x2) rs' rm' ac'
theorem da {fr:List (Option Nat)}{tb:TCd}(ms:bA src)(mb:bB tb)(σ:St)(H:Hp)(Q:VK)(h:lE K (eK fr src b tb) σ H Q):m6 (lI K src) (lG K b) (λp=>lC K p tb) fr σ H Q:=by
 obtain⟨ρ,M,rs,rm,q⟩:=h;refine⟨ρ,M,rs,rm,ms _ _ _ _ (λxs chk L Y J H1 F j it p n=>?_) q⟩;have st:=F.stab rm;have xn:Ext L H1 L (upd H1 p (.lst [])):=JC n;have stn:=xn.stab j;have U:L p=none:=j.out n;refine i9 (p:=p) mb (xs:=xs) (chk:=chk) (λM' H' st'=>it M' H' ⟨λa xs e=>st'.tup _ _ (stn.tup _ _ e),λa o u e=>st'.frz _ _ _ (stn.frz _ _ _ e)⟩) (((rs.mono st).mono stn).inh fr) (j.new n) U ⟨[],aM,RDs.nil⟩ Y λρ' M' acc' σ' H' O rs' rm' ac' k=>?_;obtain⟨vs,Z,ra⟩:=ac';have n':M' p=none:=O.new p _ U aM;refine k p n' (.ref p) H' ⟨λa o m e=>?_,λa o m e=>?_⟩ (λa o e=>?_) (Js.mpr rfl)
 ·have B:=F.kp a o m e;have ne:a≠p:=λz=>by subst z;rw[n]at B;cases B
  exact O.kp a o ne (by rw[F.nw a o m e];exact m) (by rw[ak ne];exact B)
 ·have B:=F.kp a o m e;have ne:a≠p:=λz=>by subst z;rw[n]at B;cases B
  rw[aq ne];exact(O.nw a o (by rw[F.nw a o m e];exact m) (by rw[ak ne];exact B)).trans (F.nw a o m e)
 ·by_cases z:a=p
  ·subst z;rw[ad]at e;cases e;exact⟨vs,Z,ra⟩
  ·rw[aq z]at e;exact rm' a o e
end
end
variable {u:TSd}{c:TTd}{i:Nat}
section
noncomputable def fW:TSd:=λD ρ M=>D.nx ρ M
noncomputable def qZ (t u:TSd):TSd:=λD ρ M=>t { D with nx:=u D } ρ M
noncomputable def fX:TSd:=λD ρ M=>D.bk ρ M
noncomputable def iO:TSd:=λD ρ M=>D.ct ρ M
noncomputable def iP (te:TEd):TSd:=λD ρ M=>te ρ M λ_ M1=>D.nx ρ M1
noncomputable def my (te:TEd):TSd:=λD ρ M=>te ρ M D.rt
noncomputable def sIf (c:TTd) (t u:TSd):TSd:=λD ρ M=>c ρ M λb M1=>if b=true then t D ρ M1 else u D ρ M1
noncomputable def gT (te:TEd) (b:BT):TSd:=λD ρ M=>te ρ M λx M1=>∃ ρ',b x ρ = some ρ'/\D.nx ρ' M1
noncomputable def mz (ta:TAd) (bs:BTs):TSd:=λD ρ M=>ta ρ M λxs M1=>∃ ρ',bs xs ρ = some ρ'/\D.nx ρ' M1
noncomputable def bq (b:BT) (tb:TSd) (chk:Mem->Prop) (D:bv):List Mi.D->ao->Mem->Prop
 |[]=>λρ M=>chk M/\D.nx ρ M
 |x::xs=>λρ M=>chk M /\ ∃ ρ',b x ρ = some ρ'/\tb { D with nx:=bq b tb chk D xs,ct:=bq b tb chk D xs,bk:=D.nx } ρ' M
noncomputable def mC (src:TId) (b:BT) (tb:TSd):TSd:=λD ρ M=>src ρ M λxs chk M1=>bq b tb chk D xs ρ M1
noncomputable def aR (c:TTd) (tb:TSd) (D:bv):Nat->ao->Mem->Prop
 |0=>λ_ _=>False
 |n+1=>λρ M=>c ρ M λb M1=>if b=true then tb { D with nx:=aR c tb D n,ct:=aR c tb D n,bk:=D.nx } ρ M1 else D.nx ρ M1
noncomputable def fY (c:TTd) (tb:TSd):TSd:=λD ρ M=>∃ n,aR c tb D n ρ M
theorem LeD.refl (a:bv):LeD a a:=⟨λ_ _ h=>h,λ_ _ h=>h,λ_ _ h=>h,λ_ _ h=>h⟩
theorem ic:aD fW:=λ_ _ _ _ h q=>h.nx _ _ q
theorem mD:aD fX:=λ_ _ _ _ h q=>h.bk _ _ q
theorem oT:aD iO:=λ_ _ _ _ h q=>h.ct _ _ q
theorem oU {t:TSd}(j:aD t)(z:aD u):aD (qZ t u):=λa b ρ M h q=>j { a with nx:=u a } { b with nx:=u b } _ _ ⟨λρ' M' q'=>z _ _ _ _ h q',h.rt,h.bk,h.ct⟩ q
theorem oV (h:aa te):aD (iP te):=λa b ρ M i q=>h _ _ _ _ (λ_ z j=>i.nx _ _ j) q
theorem r6 (h:aa te):aD (my te):=λa b ρ M i q=>h _ _ _ _ (λd z j=>i.rt _ _ j) q
theorem r8 {t:TSd}(z:ay c)(B:aD t)(F:aD u):aD (sIf c t u):=λa b ρ M i q=>z _ _ _ _ (λk J j=>by
 cases k with
 |true=>rw[if_pos rfl]at j ⊢;exact B _ _ _ _ i j
 |false=>rw[if_neg q7]at j ⊢;exact F _ _ _ _ i j) q
theorem r9 {bt:BT}(h:aa te):aD (gT te bt):=λa b ρ M i q=>h _ _ _ _ (λd B j=>(by obtain⟨ρ',e,z⟩:=j;exact⟨ρ',e,i.nx _ _ z⟩)) q
theorem rf {ta:TAd}{bs:BTs}(h:bg ta):aD (mz ta bs):=λa b ρ M i q=>h _ _ _ _ (λd B j=>(by obtain⟨ρ',e,z⟩:=j;exact⟨ρ',e,i.nx _ _ z⟩)) q
theorem dZ {bt:BT}{tb:TSd}(j:aD tb){chk:Mem->Prop}{a b:bv}(i:LeD a b):∀ (xs:List D) (ρ:ao) (M:Mem),bq bt tb chk a xs ρ M->bq bt tb chk b xs ρ M
 |[],ρ,M,h=>⟨h.1,i.nx _ _ h.2⟩
 |x::xs,ρ,M,⟨c,ρ',e,q⟩=>⟨c,ρ',e,j { a with nx:=bq bt tb chk a xs,ct:=bq bt tb chk a xs,bk:=a.nx } { b with nx:=bq bt tb chk b xs,ct:=bq bt tb chk b xs,bk:=b.nx } _ _ ⟨λρ2 M2 z=>dZ j i xs ρ2 M2 z,i.rt,i.nx,λρ2 M2 z=>dZ j i xs ρ2 M2 z⟩ q⟩
theorem rg {bt:BT}{tb:TSd}(hs:bA src)(j:aD tb):aD (mC src bt tb):=λa b ρ M i q=>hs _ _ _ _ (λxs c B z=>dZ j i xs _ _ z) q
theorem di {c:TTd}{tb:TSd}(z:ay c)(B:aD tb){a b:bv}(i:LeD a b):∀ (n:Nat) (ρ:ao) (M:Mem),aR c tb a n ρ M->aR c tb b n ρ M
 |0,ρ,M,h=>h
 | n+1,ρ,M,h=>z _ _ _ _ (fun k J j=>by
   cases k with
   |true=>rw[if_pos rfl]at j ⊢;exact B { a with nx:=aR c tb a n,ct:=aR c tb a n,bk:=a.nx } { b with nx:=aR c tb b n,ct:=aR c tb b n,bk:=b.nx } _ _ ⟨λρ2 M2 F=>di z B i n ρ2 M2 F,i.rt,i.nx,λρ2 M2 F=>di z B i n ρ2 M2 F⟩ j
   |false=>rw[if_neg q7]at j ⊢;exact i.nx _ _ j) h
theorem mF {tb:TSd}(j:ay c)(z:aD tb):aD (fY c tb):=λa b ρ M i g9=>(by obtain⟨n,q⟩:=g9;exact⟨n,di j z i n _ _ q⟩)
section
variable {K:Frag}
theorem ie (D:bp)(σ:St)(H:Hp)(h:lS K fW D σ H):lF D σ H:=by
 obtain⟨ρ,M,A,rs,rm,l,q⟩:=h;exact l.nx ρ M σ H Ext.refl rs rm q
theorem mG (D:bp)(σ:St)(H:Hp)(h:lS K fX D σ H):nO D σ H:=by
 obtain⟨ρ,M,A,rs,rm,l,q⟩:=h;exact l.bk ρ M σ H Ext.refl rs rm q
theorem oW (D:bp)(σ:St)(H:Hp)(h:lS K iO D σ H):sv D σ H:=by
 obtain⟨ρ,M,A,rs,rm,l,q⟩:=h;exact l.ct ρ M σ H Ext.refl rs rm q
theorem rh {t:TSd}(mt:aD t)(mu:aD u)(D:bp)(σ:St)(H:Hp)(h:lS K (qZ t u) D σ H):vd (lS K t) (lS K u) D σ H:=by
 obtain⟨ρ,M,A,rs,rm,l,q⟩:=h;exact⟨ρ,M,{ A with nx:=u A },rs,rm,⟨λρ' M' σ' H' x rs' rm' q'=>⟨ρ',M',A,rs',rm',l.ext x,q'⟩,l.rt,l.bk,l.ct⟩,q⟩
theorem oX (m:aa te)(D:bp)(σ:St)(H:Hp)(h:lS K (iP te) D σ H):sx (lE K te) D σ H:=by
 obtain⟨ρ,M,A,rs,rm,l,q⟩:=h;exact⟨ρ,M,rs,rm,m _ _ _ _ (λd B F v H1 z j J=>l.nx ρ B σ H1 z (rs.mono (z.stab rm)) j F) q⟩
theorem rj (m:aa te)(D:bp)(σ:St)(H:Hp)(h:lS K (my te) D σ H):ve (lE K te) D σ H:=by
 obtain⟨ρ,M,A,rs,rm,l,q⟩:=h;exact⟨ρ,M,rs,rm,m _ _ _ _ (λd B F v H1 J j z=>l.rt d B v H1 J j z F) q⟩
theorem uh {t:TSd}(mc:ay c)(D:bp)(σ:St)(H:Hp)(h:lS K (sIf c t u) D σ H):vg (lT K c) (lS K t) (lS K u) D σ H:=by
 obtain⟨ρ,M,A,rs,rm,l,q⟩:=h;refine⟨ρ,M,rs,rm,mc _ _ _ _ (λk F z H1 B j=>?_) q⟩
 cases k with
 |true=>rw[if_pos rfl]at z ⊢;exact⟨ρ,F,A,rs.mono (B.stab rm),j,l.ext B,z⟩
 |false=>rw[if_neg q7]at z ⊢;exact⟨ρ,F,A,rs.mono (B.stab rm),j,l.ext B,z⟩
theorem rl (m:aa te)(D:bp)(σ:St)(H:Hp)(h:lS K (gT te b) D σ H):lJ (lE K te) (lG K b) D σ H:=by
 obtain⟨ρ,M,A,rs,rm,l,q⟩:=h;refine⟨ρ,M,rs,rm,m _ _ _ _ (λd F g9 v H1 B j z=>?_) q⟩;obtain⟨ρ',e,J⟩:=g9;exact⟨d,ρ,ρ',z,rs.mono (B.stab rm),e,λσ' rs'=>l.nx ρ' F σ' H1 B rs' j J⟩
theorem ig (m:aa te)(D:bp)(σ:St)(H:Hp)(h:lS K (gT te (bX i)) D σ H):lJ (lE K te) (fE i) D σ H:=by
 obtain⟨ρ,M,A,rs,rm,l,q⟩:=h;refine⟨ρ,M,rs,rm,m _ _ _ _ (λd z g9 v H1 j rm1 rd1=>?_) q⟩;obtain⟨ρ',e,B⟩:=g9
 cases e
 exact l.nx _ z _ H1 j ((rs.mono (j.stab rm)).set i rd1) rm1 B
theorem rn {tb:TSd}(ms:bA src)(mb:aD tb)(D:bp)(σ:St)(H:Hp)(h:lS K (mC src b tb) D σ H):vp (lI K src) (lG K b) (lS K tb) D σ H:=by
 obtain⟨ρ,M,A,rs,rm,l,q⟩:=h;refine⟨ρ,M,rs,rm,ms _ _ _ _ (λxs chk M1 q1 J H1 x1 L it=>?_) q⟩;refine⟨λi m σ H'=>m=xs.length - i/\i<=xs.length /\ ∃ ρ M2,RS K H' σ ρ /\ RM K M2 H'/\Ext M1 H1 M2 H'/\bq b tb chk A (xs.drop i) ρ M2,⟨xs.length,by simp,DB _,ρ,M1,rs.mono (x1.stab rm),L,Ext.refl,q1⟩,?_⟩
 rintro i m σ2 H2 ⟨rfl,hi,ρ2,M2,O,j,x2,U⟩;have Y:=x2.stab L
 by_cases B:i<xs.length
 ·rw[EB B]at U;obtain⟨c,ρ',hb,q3⟩:=U;obtain⟨go,yl⟩:=(it M2 H2 Y j c i).2 B;refine .inr ⟨go,λσ' H'=>∃ m',m'<xs.length - i/\(m'=xs.length - (i+1)/\i+1<=xs.length /\ ∃ ρ M,RS K H' σ' ρ /\ RM K M H'/\Ext M1 H1 M H'/\bq b tb chk A (xs.drop (i+1)) ρ M),λσ' H' h=>h,λx' H' y=>?_⟩;obtain⟨yy,d,hd,rd⟩:=yl x' H' y;rw[Cf B]at hd
  cases hd
  obtain⟨xy,rmy⟩:=yy.ext j;have Z:=x1.trans (x2.trans xy);refine⟨_,ρ2,ρ',rd,O.mono (xy.stab j),hb,λσ3 BD=>?_⟩;have nx:∀ ρ5 F σ5 z,Ext M2 H' F z->RS K z σ5 ρ5->RM K F z->bq b tb chk A (xs.drop (i+1)) ρ5 F -> ∃ m',m'<xs.length - i/\(m'=xs.length - (i+1)/\i+1<=xs.length /\ ∃ ρ M,RS K z σ5 ρ /\ RM K M z/\Ext M1 H1 M z/\bq b tb chk A (xs.drop (i+1)) ρ M) :=
   λρ5 F σ5 z x5 BE BG q5=>⟨xs.length - (i+1),by lia,rfl,B,ρ5,F,BE,BG,(x2.trans xy).trans x5,q5⟩
  refine⟨ρ',M2,{ A with nx:=bq b tb chk A (xs.drop (i+1)),ct:=bq b tb chk A (xs.drop (i+1)),bk:=A.nx },BD,rmy,⟨nx,λd F v z x5=>l.rt d F v z (Z.trans x5),λρ5 F σ5 z x5=>l.nx ρ5 F σ5 z (Z.trans x5),nx⟩,q3⟩
 ·have e:i=xs.length:=by lia
  subst e;rw[Iy]at U;exact .inl ⟨(it M2 H2 Y j U.1 _).1 (Cc _),l.nx ρ2 M2 σ2 H2 (x1.trans x2) O j U.2⟩
theorem mH {tb:TSd}(mc:ay c)(mb:aD tb)(D:bp)(σ:St)(H:Hp)(h:lS K (fY c tb) D σ H):nQ (lT K c) (lS K tb) D σ H:=by
 obtain⟨ρ,M,A,rs,rm,l,n,q⟩:=h;refine⟨λm σ' H'=>∃ ρ' M',RS K H' σ' ρ'/\RM K M' H'/\Ext M H M' H'/\aR c tb A m ρ' M',⟨n,ρ,M,rs,rm,Ext.refl,q⟩,?_⟩;rintro m σ1 H1 ⟨ρ1,M1,L,O,x1,q1⟩
 cases m with
 |zero=>exact q1.elim
 | succ m =>
   refine⟨ρ1,M1,L,O,mc _ _ _ _ (λk M2 q2 H2 x2 U=>?_) q1⟩;have j:=x1.trans x2;have Y:=L.mono (x2.stab O)
   cases k with
   |false=>rw[if_neg q7]at q2;dsimp only;rw[if_neg q7];exact l.nx ρ1 M2 σ1 H2 j Y U q2
   | true =>
     rw[if_pos rfl]at q2;dsimp only;rw[if_pos rfl];refine⟨λσ' H'=>∃ ρ' M',RS K H' σ' ρ'/\RM K M' H'/\Ext M H M' H'/\aR c tb A m ρ' M',λσ' H' h=>⟨m,Nat.lt_succ_self m,h⟩,ρ1,M2,{ A with nx:=aR c tb A m,ct:=aR c tb A m,bk:=A.nx },Y,U,⟨?_,λd z v Z B=>l.rt d z v Z (j.trans B),λρ5 z σ5 Z B=>l.nx ρ5 z σ5 Z (j.trans B),?_⟩,q2⟩
     ·exact λρ5 z σ5 Z B F J q5=>⟨ρ5,z,F,J,j.trans B,q5⟩
     ·exact λρ5 z σ5 Z B F J q5=>⟨ρ5,z,F,J,j.trans B,q5⟩
end
noncomputable def fZ:D->D->D->Mem->(Mem->Prop)->Prop:=λo i v M Q=>∃ a,o = .ref a /\
 ((∃ xs k j,i = .int k/\M a=some (.lst xs)/\ixN xs.length k=some j/\Q (ae M a (.lst (xs.set j v)))) ∨
  ∃ t kvs,M a=some (.dct t kvs)/\m7 t i=true/\kvs.length<tv/\Q (ae M a (.dct t (jh kvs i v))))
noncomputable def mJ (te to ti:TEd):TSd:=λD ρ M=>te ρ M λv M1=>to ρ M1 λo M2=>ti ρ M2 λi M3=>fZ o i v M3 λM4=>D.nx ρ M4
theorem oY {o i v:D}{Q Q':Mem->Prop}(h:∀ M',Q M'->Q' M')(q:fZ o i v M Q):fZ o i v M Q':=by
 obtain⟨a,e,⟨xs,k,j,z,B,F,q⟩|⟨t,kvs,z,B,F,q⟩⟩:=q
 ·exact⟨a,e,.inl ⟨xs,k,j,z,B,F,h _ q⟩⟩
 ·exact⟨a,e,.inr ⟨t,kvs,z,B,F,h _ q⟩⟩
theorem rp {to ti:TEd}(he:aa te)(ho:aa to)(hi:aa ti):aD (mJ te to ti):=λa b ρ M i q =>
 he _ _ _ _ (λv F j=>ho _ _ _ _ (λo M2 z=>hi _ _ _ _ (λk J B=>oY (λM' q'=>i.nx _ _ q') B) z) j) q
section
variable {X:Cx} {K:Frag}
theorem rq (j:X.A.units+1<GF):PSet X (λo i v H Q=>∃ a H',o = .ref a/\DPut H a i v H'/\Q H'):=by
 intro pins s σ H o i v ov iv u Q I ro ri rv h;obtain⟨a,H',rfl,g,q⟩:=h
 cases ro
 exact ou j I g ri rv λs' I'=>⟨H',I',q⟩
theorem PSet.or {t t':lH}(h:PSet X t)(h':PSet X t'):PSet X (λo i v H Q=>t o i v H Q∨t' o i v H Q):=by
 intro pins s σ H o i v ov iv u Q I ro ri rv q
 rcases q with q|q
 ·exact h pins s σ H o i v ov iv u Q I ro ri rv q
 ·exact h' pins s σ H o i v ov iv u Q I ro ri rv q
section
variable {κ:Type} [DecidableEq κ] {H:Hp} {RK:D -> κ -> Prop} (inj:∀ {d e:D} {k : κ},RK d k->RK e k->d=e) (fn:∀ {d:D} {k k' : κ},RK d k->RK d k'->k=k')
include inj fn
theorem kU {k:D}{q : κ}(j:RK k q):∀ {kvs:List (D×D)} {ps:List (κ × V)},D0 (λp r=>RK p.1 r.1/\RD K H p.2 r.2) kvs ps ->
 (kvs.any λp=>decide (p.1=k))=(ps.any λp=>decide (p.1=q))
 |_,_,.nil=>rfl
 | _,_,.cons (a:=p) (b:=r) hr t=>by
   rw[DX,DX,kU j t];congr 1
   by_cases e:p.1=k
   ·have e':r.1=q:=by have h1:=hr.1;rw[e]at h1;exact fn h1 j
    rw[decide_eq_true e,decide_eq_true e']
   ·have e' : ¬ r.1=q:=λz=>e (by have h1:=hr.1;rw[z]at h1;exact inj h1 j)
    rw[decide_eq_false e,decide_eq_false e']
theorem kW {k:D}{q : κ}(B:RK k q){d:D}{v:V}(F:RD K H d v):∀ {kvs:List (D×D)} {ps:List (κ × V)},D0 (λp r=>RK p.1 r.1/\RD K H p.2 r.2) kvs ps ->
 D0 (λp r=>RK p.1 r.1/\RD K H p.2 r.2) (kvs.map λp=>if p.1=k then (p.1,d) else p) (ps.map λp=>if p.1=q then (p.1,v) else p)
 |_,_,.nil=>.nil
 | _,_,.cons (a:=p) (b:=r) j t=>by
   refine .cons ?_ (kW B F t)
   by_cases e:p.1=k
   ·have e':r.1=q:=by have h1:=j.1;rw[e]at h1;exact fn h1 B
    dsimp only;rw[if_pos e,if_pos e'];exact⟨j.1,F⟩
   ·have e' : ¬ r.1=q:=λz=>e (by have h1:=j.1;rw[z]at h1;exact inj h1 B)
    dsimp only;rw[if_neg e,if_neg e'];exact j
theorem jD {k:D}{q : κ}(j:RK k q){d:D}{v:V}(z:RD K H d v){kvs:List (D×D)}{ps:List (κ × V)}(r:D0 (λp r=>RK p.1 r.1/\RD K H p.2 r.2) kvs ps) :
 D0 (λp r=>RK p.1 r.1/\RD K H p.2 r.2) (jh kvs k d) (bF ps q v):=by
 unfold jh bF;rw[kU (K:=K) (H:=H) (RK:=RK) inj fn j r]
 by_cases e:(ps.any λp=>decide (p.1=q))=true
 ·rw[if_pos e,if_pos e];exact kW (RK:=RK) inj fn j z r
 ·rw[if_neg e,if_neg e];exact r.snoc ⟨j,z⟩
end
theorem rz {o i v:D}{ov iv vv:V}{Qd:Mem->Prop}{Q:Hp->Prop}(rm:RM K M H)(ro:RD K H o ov)(ri:RD K H i iv)(rv:RD K H v vv)(h:fZ o i v M Qd)(U:∀ M' H',Ext M H M' H'->RM K M' H'->Qd M'->Q H') :
 sD ov iv vv H Q∨∃ a H',ov = .ref a/\DPut H a iv vv H'/\Q H':=by
 obtain⟨a,rfl,⟨xs,k,j,rfl,B,O,q⟩|⟨t,kvs,F,B,O,q⟩⟩:=h
 ·cases Js.mp ro
  cases Jq.mp ri
  obtain⟨vs,ha,rs⟩:=rm _ _ B;have st:Stab H (upd H a (.lst (vs.set j vv))):=rm.stabPut B;exact .inl ⟨a,vs,k,j,rfl,rfl,ha,by rw[rs.length];exact O,U _ _ (Ext.put B) (rm.put (o:=.lst (xs.set j v)) B ⟨_,aM,(rs.set j rv).mono st⟩) q⟩
 ·cases Js.mp ro
  have ro':=rm _ _ F
  cases t with
  | false =>
    obtain⟨ps,Y,pr⟩:=ro';obtain⟨kq,L⟩:=ji (show dz i=true from B);have st:Stab H (upd H a (.dK (bF ps kq vv))):=rm.stabPut F;have J:=jD (RK:=RKey) RKey.inj RKey.fun L rv pr;rw[gO L ri];refine .inr ⟨a,_,rfl,DPut.k Y (by rw[<- EC pr];exact O),U _ _ (Ext.put F) (rm.put (o:=.dct false (jh kvs i v)) F ⟨_,aM,Jx J λ_ _ z=>⟨z.1,z.2.mono st⟩⟩) q⟩
  | true =>
    obtain⟨ps,Y,pr⟩:=ro';obtain⟨kq,L⟩:=kP (show cQ i=true from B);have st:Stab H (upd H a (.dT (bF ps kq vv))):=rm.stabPut F;have J:=jD (RK:=RKeys) RKeys.inj RKeys.fun L rv pr
    cases i <;> first
     |exact L.elim
     | (obtain ⟨b,us,rfl,Z,ru⟩:=JJ (kQ B) ri
        rw[ff L ru]at Z;exact .inr ⟨a,_,rfl,DPut.t Y Z (by rw[<- EC pr];exact O),U _ _ (Ext.put F) (rm.put (o:=.dct true (jh kvs _ v)) F ⟨_,aM,Jx J λ_ _ z=>⟨z.1,z.2.mono st⟩⟩) q⟩)
theorem wd {o i e:Expr}{to ti:TEd}{tpos:Pos}(hu:X.A.units+1 < GF)(me:aa te)(mo:aa to)(mi:aa ti)(he:PE X e (lE X.K te))(ho:PE X o (lE X.K to))(hi:PE X i (lE X.K ti))(hs:ED [.Subscript o i tpos] e pos.line X.env=pure false)(hw:DT [.Subscript o i tpos] e X.env=pure none)(ha:∀ v,assign (.Subscript o i tpos) X.env v=(do
   let ov <- holding [v] (eval o X.env)
   let iv <- holding [v,ov] (eval i X.env)
   FK tpos
   holding [v,ov,iv] (setItem ov iv v)
   release [v,ov,iv] [])):PS X (.Assign [.Subscript o i tpos] e pos) (lS X.K (mJ te to ti)):=by
 refine PS.imp (nP he (vj ho hi (PSet.or qw (rq hu)) ha) hs hw rfl) λD σ H h=>?_;obtain⟨ρ,M,A,rs,rm,l,q⟩:=h;refine⟨ρ,M,rs,rm,me _ _ _ _ (λv M1 q1 vv H1 F j J=>?_) q⟩;refine⟨ρ,M1,rs.mono (F.stab rm),j,mo _ _ _ _ (λov M2 q2 vo H2 L z O=>?_) q1⟩;refine⟨ρ,M2,(rs.mono (F.stab rm)).mono (L.stab j),z,mi _ _ _ _ (λiv M3 q3 vi H3 U Y Z=>?_) q2⟩;have B:=F.trans (L.trans U);exact rz Y (O.mono (U.stab z)) Z ((J.mono (L.stab j)).mono (U.stab z)) q3 λM' H' x4 BD q4=>l.nx ρ M' σ H' (B.trans x4) (rs.mono ((B.trans x4).stab rm)) BD q4
noncomputable def ga:R2d
 |.int i,.int j,M,Q=>Q (.int (i+j)) M
 |_,_,_,_=>False
noncomputable def gb:R2d
 |.int i,.int j,M,Q=>Q (.int (i - j)) M
 |_,_,_,_=>False
noncomputable def gc:R2d
 |.int i,.int j,M,Q=>MulOk i j/\Q (.int (i*j)) M
 |_,_,_,_=>False
theorem ii:am ga:=by
 intro x y M Q Q' h q
 cases x <;> cases y <;> first|exact q.elim|exact h _ _ q
theorem ij:am gb:=by
 intro x y M Q Q' h q
 cases x <;> cases y <;> first|exact q.elim|exact h _ _ q
theorem ik:am gc:=by
 intro x y M Q Q' h q
 cases x <;> cases y <;> first|exact q.elim|exact⟨q.1,h _ _ q.2⟩
theorem oZ:OpR X (DM .Add) (l2 X.K ga):=by
 refine OpR.of tu λv u H Q h=>?_;obtain⟨x,y,M,rm,rx,ry,q⟩:=h
 cases x <;> cases y <;> first
  |exact q.elim
  |(cases Jq.mp rx;cases Jq.mp ry;exact⟨_,_,rfl,rfl,q _ H Ext.refl rm (Jq.mpr rfl)⟩)
theorem p6:OpR X (DM .Sub) (l2 X.K gb):=by
 refine OpR.of tw λv u H Q h=>?_;obtain⟨x,y,M,rm,rx,ry,q⟩:=h
 cases x <;> cases y <;> first
  |exact q.elim
  |(cases Jq.mp rx;cases Jq.mp ry;exact⟨_,_,rfl,rfl,q _ H Ext.refl rm (Jq.mpr rfl)⟩)
theorem p7:OpR X (DM .Mult) (rI MulOk λi j=>.int (i*j)):=opI λ_ _ _ _ _ _ _ z q=>imul_int q z.ok
theorem p8:OpR X (DM .Mult) (l2 X.K gc):=by
 refine OpR.of p7 λv u H Q h=>?_;obtain⟨x,y,M,rm,rx,ry,q⟩:=h
 cases x <;> cases y <;> first
  |exact q.elim
  |(cases Jq.mp rx;cases Jq.mp ry;exact⟨_,_,rfl,rfl,q.1,q.2 _ H Ext.refl rm (Jq.mpr rfl)⟩)
noncomputable def mK (i:Nat) (rd:R2d) (te:TEd):TSd:=λD ρ M=>∃ x,ρ[i]? = some (some x)/\te ρ M λy M1=>rd x y M1 λz M2=>D.nx (ρ.set i (some z)) M2
theorem rA {rd:R2d}(j:am rd)(he:aa te):aD (mK i rd te):=λa b ρ M l g9=>(by obtain⟨x,e,q⟩:=g9;exact⟨x,e,he _ _ _ _ (λy J B=>j _ _ _ _ _ (λz M2 F=>l.nx _ _ F) B) q⟩)
theorem gd {x:Str}{e:Expr}{op:EU}{rd:R2d}(Y:X.N.Nodup)(hi:X.N[i]? = some x)(hx:Loc X.env.scope x)(he:PE X e (lE X.K te))(ho:OpR X (DM op) (l2 X.K rd))(Z:am rd)(me:aa te)(hf:X.fn x=true∨X.env.scope.names.lookup x=some .local):PS X (.AugAssign (.Name x pos') op e pos) (lS X.K (mK i rd te)):=by
 refine PS.imp (vn Y hi hx he (ti:=l2 X.K rd) ho hf) λD σ H h=>?_;obtain⟨ρ,M,A,rs,rm,l,d,e,q⟩:=h;obtain⟨v,hv,j⟩:=rs.2 i d e;refine⟨v,hv,ρ,M,rs,rm,me _ _ _ _ (λy M1 q1 u H1 B F J=>?_) q⟩;refine⟨d,y,M1,F,j.mono (B.stab rm),J,Z _ _ _ _ _ (λz M2 q2 w H2 U L O=>?_) q1⟩;exact l.nx _ M2 _ H2 (B.trans U) ((rs.mono ((B.trans U).stab rm)).set i O) L q2
end
end
end Mi
namespace Mi
variable {K:Frag}
theorem p9 {ta:TAd}{i j:Nat}(m:bg ta)(D:bp)(σ:St)(H:Hp)(h:lS K (mz ta (bI (bX i) (bI (bX j) fj))) D σ H):vk i j (lA K ta) D σ H:=by
 obtain⟨ρ,M,A,rs,rm,l,q⟩:=h;refine⟨ρ,M,rs,rm,m _ _ _ _ (λds J g9 vs H1 F B z=>?_) q⟩;obtain⟨ρ',e,L⟩:=g9
 match ds,e,z with
 |[d1,d2],e,z =>
  obtain⟨v,u,rfl,O,U⟩:=z.two;simp only[bI,bX,fj,Ey,I9]at e;subst e;exact⟨v,u,rfl,l.nx _ J _ H1 F (((rs.mono (F.stab rm)).set i O).set j U) B L⟩
end Mi
namespace Mi
end Mi
namespace Mi
variable {A:CK}{s:hQ}{v:V}{b:Bool}{H:Hp}{u:h6}{r r':R2d}{ta tb tc:TEd}
section
section
variable {X:Cx}
noncomputable def isD:D->D->Option Bool
 |x,.non=>some (match x with|.non=>true|_=>false)
 |x,.bl b=>some (match x with|.bl c=>c==b|_=>false)
 |_,_=>none
noncomputable def wIs:R2d:=λx y M Q=>∃ k,isD x y=some k/\Q (.bl k) M
noncomputable def mL:R2d:=λx y M Q=>∃ k,isD x y=some k/\Q (.bl (!k)) M
theorem uj:am wIs:=λ_ _ _ _ _ h j=>(by obtain⟨k,e,q⟩:=j;exact⟨k,e,h _ _ q⟩)
theorem rB:am mL:=λ_ _ _ _ _ h j=>(by obtain⟨k,e,q⟩:=j;exact⟨k,e,h _ _ q⟩)
theorem uk {M:HM}{E Q:h6->hQ->Prop}{v:h6}(j:∀ id,v ≠ .builtin id)(h:Q (.bool (v == .bool b)) s):Cj M A (CA .Is v (.bool b)) Q E s:=by
 cases v <;> first|exact y1 h|exact absurd rfl (j _)
theorem rC {M:HM}{E Q:h6->hQ->Prop}{v:h6}(j:∀ id,v ≠ .builtin id)(h:Q (.bool (!(v == .bool b))) s):Cj M A (CA .IsNot v (.bool b)) Q E s:=by
 cases v <;> first|exact y1 h|exact absurd rfl (j _)
theorem pc {K:Frag}{x y:D}{w:V}{t:h6}{k:Bool}(e:isD x y=some k)(rx:RD K H x v)(ry:RD K H y w)(ru:RelV v u)(rt:RelV w t):(t = .none/\(u == .none)=k)∨∃ b,t = .bool b/\(u == .bool b)=k /\ ∀ id,u ≠ .builtin id:=by
 cases y with
 | non =>
   cases Jv.mp ry
   cases rt
   refine .inl ⟨rfl,?_⟩
   cases x with
   |non=>cases Jv.mp rx;cases ru;cases e;rfl
   |bl c=>cases Jt.mp rx;cases ru;cases e;rfl
   |int i=>cases Jq.mp rx;obtain⟨tk,rfl⟩:=ru;cases e;rfl
   |str z=>cases Jr.mp rx;obtain⟨tk,rfl⟩:=ru;cases e;rfl
   |tup ds=>obtain⟨a,vs,rfl,_⟩:=Jw rx;cases ru;cases e;rfl
   |con ds=>obtain⟨a,vs,rfl,_⟩:=Jy.mp rx;cases ru;cases e;rfl
   |ref a=>cases Js.mp rx;cases ru;cases e;rfl
   |fn z=>obtain⟨a,rfl,_⟩:=JH.mp rx;cases ru;cases e;rfl
 | bl b =>
   cases Jt.mp ry
   cases rt
   refine .inr ⟨b,rfl,?_⟩
   cases x with
   |non=>cases Jv.mp rx;cases ru;cases e;exact⟨rfl,λ_ z=>by cases z⟩
   |bl c=>cases Jt.mp rx;cases ru;cases e;exact⟨by cases b <;> cases c <;> rfl,λ_ z=>by cases z⟩
   |int i=>cases Jq.mp rx;obtain⟨tk,rfl⟩:=ru;cases e;exact⟨rfl,λ_ z=>by cases z⟩
   |str z=>cases Jr.mp rx;obtain⟨tk,rfl⟩:=ru;cases e;exact⟨rfl,λ_ z=>by cases z⟩
   |tup ds=>obtain⟨a,vs,rfl,_⟩:=Jw rx;cases ru;cases e;exact⟨rfl,λ_ z=>by cases z⟩
   |con ds=>obtain⟨a,vs,rfl,_⟩:=Jy.mp rx;cases ru;cases e;exact⟨rfl,λ_ z=>by cases z⟩
   |ref a=>cases Js.mp rx;cases ru;cases e;exact⟨rfl,λ_ z=>by cases z⟩
   |fn z=>obtain⟨a,rfl,_⟩:=JH.mp rx;cases ru;cases e;exact⟨rfl,λ_ z=>by cases z⟩
 |_=>cases e
theorem ul:OpR X (CA .Is) (l2 X.K wIs):=by
 intro pins s σ H v w u t Q I ru rt h;obtain⟨x,y,M,rm,rx,ry,k,e,q⟩:=h;have fin:EP X pins σ Q (.bool k) s:=⟨.bl k,H,I,rfl,q _ H Ext.refl rm (Jt.mpr rfl)⟩
 rcases pc e rx ry ru rt with⟨rfl,j⟩|⟨b,rfl,j,nb⟩
 ·exact is_none_gen (by rw[j];exact fin)
 ·exact uk nb (by rw[j];exact fin)
theorem rD:OpR X (CA .IsNot) (l2 X.K mL):=by
 intro pins s σ H v w u t Q I ru rt h;obtain⟨x,y,M,rm,rx,ry,k,e,q⟩:=h;have fin:EP X pins σ Q (.bool (!k)) s:=⟨.bl (!k),H,I,rfl,q _ H Ext.refl rm (Jt.mpr rfl)⟩
 rcases pc e rx ry ru rt with⟨rfl,j⟩|⟨b,rfl,j,nb⟩
 ·exact isnot_none_gen (by rw[j];exact fin)
 ·exact rC nb (by rw[j];exact fin)
noncomputable def cm (r r':R2d) (ta tb tc:TEd):TEd:=λρ M Q=>ta ρ M λx M1=>tb ρ M1 λy M2=>r x y M2 λz M3=>∃ k,z = .bl k/\(if k=true then tc ρ M3 λw M4=>r' y w M4 Q else Q (.bl false) M3)
theorem dF (F:am r)(B:am r')(J:aa ta)(L:aa tb)(O:aa tc):aa (cm r r' ta tb tc):=λρ M Q Q' i q =>
 J _ _ _ _ (λx M1 U=>L _ _ _ _ (λy M2 Y=>F _ _ _ _ _ (λz M3 ⟨k,e,j⟩=>⟨k,e,by
  cases k with
  |true=>rw[if_pos rfl]at j ⊢;exact O _ _ _ _ (λw M4 Z=>B _ _ _ _ _ i Z) j
  |false=>rw[if_neg q7]at j ⊢;exact i _ _ j⟩) Y) U) q
theorem gf (hr:am r)(Z:am r')(ma:aa ta)(mb:aa tb)(mc:aa tc)(σ:St)(H:Hp)(Q:VK)(h:lE X.K (cm r r' ta tb tc) σ H Q):j5 (l2 X.K r) (l2 X.K r') (lE X.K ta) (lE X.K tb) (lE X.K tc) σ H Q:=by
 obtain⟨ρ,M,rs,rm,q⟩:=h;refine⟨ρ,M,rs,rm,ma _ _ _ _ (λx M1 q1 v H1 L j BD=>?_) q⟩;refine⟨ρ,M1,rs.mono (L.stab rm),j,mb _ _ _ _ (λy M2 q2 w H2 O B J=>?_) q1⟩;refine⟨x,y,M2,B,BD.mono (O.stab j),J,hr _ _ _ _ _ (λz M3 g9 v3 H3 Y F BE=>?_) q2⟩;obtain⟨k,e,U⟩:=g9;subst e;refine⟨k,Jt.mp BE,?_⟩
 cases k with
 | true =>
   rw[if_pos rfl]at U ⊢;refine⟨ρ,M3,(((rs.mono (L.stab rm)).mono (O.stab j)).mono (Y.stab B)),F,mc _ _ _ _ (λw4 M4 q4 v4 H4 x4 BG BH=>?_) U⟩;exact⟨y,w4,M4,BG,(J.mono (Y.stab B)).mono (x4.stab F),BH,Z _ _ _ _ _ (λd M5 k5=>k5.ext (((L.trans O).trans Y).trans x4)) q4⟩
 | false =>
   rw[if_neg q7]at U ⊢;exact U (.bl false) H3 ((L.trans O).trans Y) F (Jt.mpr rfl)
noncomputable def gU:D->Option Bool
 |.bl b=>some b
 |.int i=>some (i != 0)
 |_=>none
noncomputable def mM:RAd:=λxs M Q=>∃ x ds ts,xs=[x]/\aE M x=some ds/\az gU ds=some ts/\Q (.bl (ts.all id)) M
noncomputable def mN:RAd:=λxs M Q=>∃ x ds ts,xs=[x]/\aE M x=some ds/\az gU ds=some ts/\Q (.bl (ts.any id)) M
theorem jE:aJ mM:=λ_ _ _ _ h j=>(by obtain⟨x,ds,ts,e,z,B,q⟩:=j;exact⟨x,ds,ts,e,z,B,h _ _ q⟩)
theorem jF:aJ mN:=λ_ _ _ _ h j=>(by obtain⟨x,ds,ts,e,z,B,q⟩:=j;exact⟨x,ds,ts,e,z,B,h _ _ q⟩)
theorem jG {α β:Type}{f : α -> Option β}:∀ {xs:List α} {ys:List β},az f xs=some ys->ys.length=xs.length /\ ∀ (i:Nat) x,xs[i]? = some x -> ∃ y,ys[i]? = some y/\f x=some y
 |[],ys,h=>by cases h;exact⟨rfl,λi x e=>by simp at e⟩
 | x::xs,ys,h=>by
   simp only[az]at h
   cases j:f x with
   |none=>rw[j]at h;cases h
   | some y =>
     rw[j]at h;simp only[Ey]at h
     cases e2:az f xs with
     |none=>rw[e2]at h;cases h
     | some r =>
       rw[e2]at h;cases h;obtain⟨l,g⟩:=jG e2;refine⟨by simp[l],λi z e=>?_⟩
       cases i with
       |zero=>simp at e;subst e;exact⟨y,rfl,j⟩
       |succ i=>simp at e;simpa using g i z e
theorem um {P:Ct}{w:CC}{E:h6->hQ->Prop}{K:Frag}{d:D}{Q:Bool->hQ->Prop}(e:gU d=some b)(rd:RD K H d v)(ru:RelV v u)(q:Q b s):Cj (model P w) A (truthy u) Q E s:=by
 cases d with
 |bl c=>cases Jt.mp rd;cases ru;cases e;exact CV q
 |int i=>cases Jq.mp rd;obtain⟨t,rfl⟩:=ru;cases e;exact PyProof.Rows.truthy_int q
 |_=>cases e
theorem range_all {ts:List Bool}:(D6 ts.length).all (λi=>ts.getD i false)=ts.all id/\(D6 ts.length).any (λi=>ts.getD i false)=ts.any id:=by
 have e:(D6 ts.length).map (λi=>ts.getD i false)=ts:=by
  apply List.ext_getElem
  ·simp
  ·intro i h1 h2;simp[FA,Cf h2]
 constructor
 ·conv=>rhs;rw[<- e]
  rw[Ia];rfl
 ·conv=>rhs;rw[<- e]
  rw[List.any_map];rfl
theorem jH (O:X.calm=true){pins:List (Addr×Obj)}{σ:St}{M:Mem}{x:D}{ds:List D}{ts:List Bool}{Q:h6->hQ->Prop}{g:List Bool->Bool}(I:Inv X pins σ H s)(rm:RM X.K M H)(rd:RD X.K H x v)(ru:RelV v u)(Z:aE M x=some ds)(e2:az gU ds=some ts)(fin:∀ h' tk,Inv X pins σ H { s with heap:=h',toks:=tk }->Q (.bool (g ts)) { s with heap:=h',toks:=tk })(gg:Nat->(Nat->Bool)->Bool)(U:gg ts.length (λi=>ts.getD i false)=g ts) :
 Cj (model X.prog X.w) X.A.in1 (Hv u) (λit s₂=>∃ I fp wr n P St tr,it = .ref I/\Walks X.prog X.w X.A.in1 I fp wr n P St/\St 0 s₂.heap/\TruthOf X.prog X.w X.A.in1 P tr /\
  ∀ h' tk,(∀ b o,b∉wr->s₂.heap.get? b=some o->h'.get? b=some o)->Q (.bool (gg n tr)) { s₂ with heap:=h',toks:=tk }) X.xe s:=by
 obtain⟨p,vs,rfl,sq,Y⟩:=oG rm rd Z
 cases ru
 obtain⟨lt,get⟩:=jG e2;have lv:=Y.length;have tr:∀ (its:List h6),Vals vs its->TruthOf X.prog X.w X.A.in1 (λi w=>its.toArray[i]? = some w) (λi=>ts.getD i false):=by
  intro its rv i w s' Q' E' hP F;have z:its[i]? = some w:=by simpa using hP
  have li:=rv.length;have hi:i<its.length:=(Cw.mp z).1;obtain⟨d,hd⟩:∃ d,ds[i]? = some d:=⟨ds[i]'(by lia),Cf (by lia)⟩
  obtain⟨v',J,rd'⟩:=Y.get hd;obtain⟨u',B,ru'⟩:=rv.get J;rw[z]at B;cases B;obtain⟨b,hb,eb⟩:=get i d hd;have:ts.getD i false=b:=by rw[FA,hb];rfl
  have F:Q' (ts.getD i false) s':=F;rw[this]at F;exact um eb rd' ru' F
 rcases sq with sq|sq
 ·obtain⟨its,rv,pl,hz⟩:=I.list sq;have li:=rv.length;have j:p<s.heap.objs.size:=by obtain⟨o,n,e,_⟩:=pl;exact Cg e
  refine Dd pl.isList ⟨s.heap.objs.size,_,_,_,_,_,_,rfl,Walks.list (by rw[HF];exact I.ok.hd O) s.heap.objs.size p (CG j) its.toArray,⟨⟨_,Ce _ rfl,rfl,rfl⟩,pl.isList.at λo e=>hD _ e⟩,tr its rv,λh' tk k=>?_⟩
  have L:its.toArray.size=ts.length:=by rw[y2];lia
  rw[L,U];exact fin h' tk (I.kept (t':=tk) λb o e=>k b o (by simp;exact CG (Cg e)) (hD _ e))
 ·obtain⟨its,rv,pl,hz⟩:=I.tuple sq;have li:=rv.length;have j:p<s.heap.objs.size:=by obtain⟨o,e,_⟩:=pl;exact Cg e
  have pt:s.heap.IsTuple p its.toArray:=pl;refine D1 pt ⟨s.heap.objs.size,_,_,_,_,_,_,rfl,Walks.tuple (by rw[HF];exact I.ok.hd O) s.heap.objs.size p (CG j) its.toArray,⟨⟨_,Ce _ rfl,rfl,rfl⟩,pt.push _⟩,tr its rv,λh' tk k=>?_⟩
  have L:its.toArray.size=ts.length:=by rw[y2];lia
  rw[L,U];exact fin h' tk (I.kept (t':=tk) λb o e=>k b o (by simp;exact CG (Cg e)) (hD _ e))
theorem mP (j:X.calm=true):CallR X (.builtin "all") (lR X.K mM):=by
 intro pins s σ H xs us Q I rv h;obtain⟨ds,M,rm,rs,x,es,ts,rfl,z,B,q⟩:=h;obtain⟨v,rfl,r⟩:=rs.one;obtain⟨u,rfl,ru⟩:=cg rv;exact call_all_walk (jH j I rm r ru z B (g:=λts=>ts.all id) (λh' tk I'=>⟨.bl _,H,I',rfl,q _ H Ext.refl rm (Jt.mpr rfl)⟩) (λn tr=>(D6 n).all tr) range_all.1)
theorem mQ (j:X.calm=true):CallR X (.builtin "any") (lR X.K mN):=by
 intro pins s σ H xs us Q I rv h;obtain⟨ds,M,rm,rs,x,es,ts,rfl,z,B,q⟩:=h;obtain⟨v,rfl,r⟩:=rs.one;obtain⟨u,rfl,ru⟩:=cg rv;exact call_any_walk (jH j I rm r ru z B (g:=λts=>ts.any id) (λh' tk I'=>⟨.bl _,H,I',rfl,q _ H Ext.refl rm (Jt.mpr rfl)⟩) (λn tr=>(D6 n).any tr) range_all.2)
theorem rE {op op':Hj}{a b c:Expr}{pos:Pos}(ho:OpR X (CA op) (l2 X.K r))(j:OpR X (CA op') (l2 X.K r'))(B:am r)(z:am r')(ma:aa ta)(mb:aa tb)(mc:aa tc)(F:PE X a (lE X.K ta))(J:PE X b (lE X.K tb))(L:PE X c (lE X.K tc))(hm:G2 [op,op'] [b,c]=false) :
 PE X (.Compare a [op,op'] [b,c] pos) (lE X.K (cm r r' ta tb tc)):=PE.imp (qk ho j F J L hm) (gf B z ma mb mc)
theorem rF {op op':Hj}{a b c:Expr}{pos:Pos}(ho:OpR X (CA op) (l2 X.K r))(z:OpR X (CA op') (l2 X.K r'))(B:am r)(j:am r')(ma:aa ta)(mb:aa tb)(mc:aa tc)(F:PE X a (lE X.K ta))(J:PE X b (lE X.K tb))(L:PE X c (lE X.K tc))(hm:G2 [op,op'] [b,c]=false) :
 PT X (.Compare a [op,op'] [b,c] pos) (lT X.K (dA (cm r r' ta tb tc))):=PT.imp (ql ho z F J L hm) λσ H Q h=>gf B j ma mb mc σ H _ (jk (dF B j ma mb mc) σ H Q h)
end
end
end Mi
namespace Srt
noncomputable def bey (lt:De->De->Bool) (left:Bool) (key x:De):Bool:=if left=true then lt x key else !(lt key x)
structure Same (st st':HG):Prop where
 arr:arrOf st'=arrOf st
 kind:Eh st'=Eh st
 pend:H9 st'=H9 st
 fail:Ib st'=Ib st
section
variable {prog:Ct} {w:CC} {A:CK} {E:h6->hQ->Prop} {s:hQ} {kd:Jc} {P:De->Prop} {lt:De->De->Bool}
structure Gal (lt:De->De->Bool) (left:Bool) (key:De) (xs:List De) (lo hi:Nat):Prop where
 le:lo<=hi
 len:hi<=xs.length
 up:∀ i x,i<lo->xs[i]? = some x->bey lt left key x=true
 dn:∀ i x,hi<=i->xs[i]? = some x->bey lt left key x=false
theorem Gal.out {left:Bool}{key:De}{xs:List De}{k:Nat}(g:Gal lt left key xs k k):∃ X Y,xs=X++Y/\X.length=k/\(∀ x∈X,bey lt left key x=true)/\(∀ x∈Y,bey lt left key x=false):=by
 refine⟨xs.take k,xs.drop k,(GA k xs).symm,by rw[DC];exact Nat.min_eq_left g.len,λx hx=>?_,λx hx=>?_⟩
 ·obtain⟨i,hi,e⟩:=GN.mp hx;rw[DC]at hi;exact g.up i x (by lia) (by rw[List.getElem_take]at e;rw[<- e];exact Cf _)
 ·obtain⟨i,hi,e⟩:=GN.mp hx;rw[Ew]at hi;refine g.dn (k+i) x (by lia) ?_
  rw[List.getElem_drop]at e;rw[<- e];exact Cf _
noncomputable abbrev Ord (lt:De->De->Bool) (l:List De):Prop:=l.Pairwise λx y=>lt y x=false
structure ML (lt:De->De->Bool) (la lb out:List De) (ia ib:Nat):Prop where
 pa:Ord lt (out++la.drop ia)
 pb:Ord lt (out++lb.drop ib)
 pm:(out++(la.drop ia++lb.drop ib)).Perm (la++lb)
theorem ML.size {la lb out:List De}{ia ib:Nat}(m:ML lt la lb out ia ib)(j:ia<=la.length)(z:ib<=lb.length):out.length=ia+ib:=by
 have:=m.pm.length_eq;simp only[Cv,Ew]at this;lia
theorem Same.refl {st:HG}:Same st st:=⟨rfl,rfl,rfl,rfl⟩
theorem Same.trans {a b c:HG}(h:Same a b)(g:Same b c):Same a c:=⟨g.arr.trans h.arr,g.kind.trans h.kind,g.pend.trans h.pend,g.fail.trans h.fail⟩
structure MH (lt:De->De->Bool) (la lb out:List De) (na nb:Nat):Prop where
 pa:Ord lt (la.take na++out.reverse)
 pb:Ord lt (lb.take nb++out.reverse)
 pm:(la.take na++lb.take nb++out.reverse).Perm (la++lb)
theorem MH.size {la lb out:List De}{na nb:Nat}(m:MH lt la lb out na nb)(j:na<=la.length)(z:nb<=lb.length):out.length+na+nb=la.length+lb.length:=by
 have:=m.pm.length_eq;simp only[Cv,DC,Hf]at this;lia
end
end Srt
namespace Srt
section
variable {prog:Ct} {w:CC} {A:CK} {E:h6->hQ->Prop} {s:hQ} {kd:Jc} {P:De->Prop} {lt:De->De->Bool}
structure Kp (st st':HG):Prop where
 kind:Eh st'=Eh st
 pend:H9 st'=H9 st
 fail:Ib st'=Ib st
theorem Kp.refl {st:HG}:Kp st st:=⟨rfl,rfl,rfl⟩
theorem Kp.trans {a b c:HG}(h:Kp a b)(g:Kp b c):Kp a c:=⟨g.kind.trans h.kind,g.pend.trans h.pend,g.fail.trans h.fail⟩
end
end Srt
namespace Srt
section
variable {prog:Ct} {w:CC} {A:CK} {E:h6->hQ->Prop} {s:hQ} {kd:Jc} {P:De->Prop} {lt:De->De->Bool}
noncomputable def Pd:Nat->List (List De)->List (Nat×Nat×Nat)->Prop
 |_,[],ps=>ps=[]
 |s,r::rs,ps=>∃ p t,ps=(s,r.length,p)::t/\Pd (s+r.length) rs t
theorem Pd.split:∀ {l t:List (List De)} {s:Nat} {ps:List (Nat×Nat×Nat)},Pd s (l++t) ps -> ∃ pl pt,ps=pl++pt/\pl.length=l.length/\Pd s l pl/\Pd (s+l.flatten.length) t pt
 |[],t,s,ps,h=>⟨[],ps,rfl,rfl,rfl,by simpa using h⟩
 | r::l,t,s,ps,h=>by
   obtain⟨p,q,e,h⟩:=h;obtain⟨pl,pt,j,z,h1,h2⟩:=Pd.split h;refine⟨(s,r.length,p)::pl,pt,by rw[e,j];rfl,by simp[z],⟨p,pl,rfl,h1⟩,?_⟩
   rw[Dc,Cv,<- Nat.add_assoc];exact h2
theorem Pd.length:∀ {l:List (List De)} {s:Nat} {ps:List (Nat×Nat×Nat)},Pd s l ps->ps.length=l.length
 |[],_,_,h=>by rw[show _=[] from h];rfl
 | r::l,s,ps,h=>by
   obtain⟨p,q,e,h⟩:=h;rw[e];simp[h.length]
structure Rn (lt:De->De->Bool) (kd:Jc) (a₀:List De) (st:HG) (rs:List (List De)) (R:List De):Prop where
 arr:(arrOf st).toList=rs.flatten++R
 perm:(rs.flatten++R).Perm a₀
 ord:∀ r∈rs,r≠[]/\Ord lt r
 pend:Pd 0 rs (H9 st).toList
 kind:Eh st=kd
 fail:Ib st=none
theorem Rn.size {a₀:List De}{st:HG}{rs:List (List De)}{R:List De}(h:Rn lt kd a₀ st rs R):rs.flatten.length+R.length=a₀.length:=by
 have:=h.perm.length_eq;rw[Cv]at this;exact this
end
end Srt
namespace Srt
end Srt
namespace Srt
end Srt
namespace Srt
end Srt
namespace Srt
end Srt
namespace Srt
end Srt
namespace It
end It
namespace It
end It
namespace It
end It
section
section
variable {P:Ct} {w:CC} {H:Hp} {h:Heap} {a:Addr} {o:HO}
theorem ObjOk.there (x:ObjOk P w H h a o):∃ ob,h.get? a=some ob:=by
 cases o with
 |lst xs=>obtain⟨_,_,_,_,e⟩:=x;exact⟨_,e⟩
 |tup xs=>obtain⟨_,_,_,_,e,_⟩:=x;exact⟨_,e⟩
 |dK kvs=>obtain⟨_,_,_,_,o,_,_,e,_⟩:=x;exact⟨_,e⟩
 |dT kvs=>obtain⟨_,_,_,_,o,_,_,e,_⟩:=x;exact⟨_,e⟩
 |set S n=>obtain⟨o,_,_,_,e,_⟩:=x;exact⟨_,e⟩
 |ins C dx fs=>obtain⟨_,_,_,e,_⟩:=x;exact⟨_,e⟩
 |own y=>obtain⟨_,e⟩:=x;exact⟨_,e⟩
 |xd fs=>obtain⟨_,⟨_,_,_,e,_⟩,_⟩:=x;exact⟨_,e⟩
 |rng lo hi=>obtain⟨_,_,_,e⟩:=x;exact⟨_,e⟩
 |frz ob u=>obtain⟨e,_⟩:=x;exact⟨_,e⟩
 |tbl ps=>exact⟨_,show h.get? a=some _ from x⟩
 |met f y=>exact⟨_,show h.get? a=some _ from x⟩
 |ext φ=>obtain⟨_,⟨_,e⟩,_⟩:=x;exact⟨_,e⟩
end
namespace Mi
open L2.Srt
inductive Sh where
 |int
 |tup (l:List Sh)
mutual
noncomputable def hs:Sh->D->Bool
 |.int,.int _=>true
 |.tup l,.tup ds=>hss l ds
 |_,_=>false
noncomputable def hss:List Sh->List D->Bool
 |[],[]=>true
 |s::l,d::ds=>hs s d&&hss l ds
 |_,_=>false
end
end Mi
end
namespace Mi
open L2.Srt
end Mi
namespace Mi
end Mi
namespace Mi
end Mi
namespace Mi
end Mi
namespace Mi
end Mi
namespace Mi
section
section
variable {K:Frag} {p:Addr}
theorem Paired.len {α β:Type}{R : α -> β -> Prop}:∀ {a:List α} {b:List β},D0 R a b->a.length=b.length
 |_,_,.nil=>rfl
 |_,_,.cons _ t=>by rw[Cp,Cp,Paired.len t]
end
end
end Mi
namespace Dk
end Dk
namespace Mi
open L2.Srt
end Mi
namespace Mi
end Mi
namespace Mi
end Mi
namespace Mi
end Mi
namespace Mi
section
variable {X:Cx}
def dI (M:Mem) (a:Addr) (kvs:List (D×D)):Prop:=(M a=some (.dct true kvs)∨M a=some (.fdc kvs)) /\ ∀ kv∈kvs,∃ i,kv.2 = .int i
theorem dI.at {K:Frag}{M:Mem}{H:Hp}{a:Addr}{kvs:List (D×D)}(rm:RM K M H)(h:dI M a kvs):∃ ps,Rd H a (.dT ps)/\D0 (λ(p:D×D) (q:List Key×V)=>RKeys p.1 q.1/\RD K H p.2 q.2) kvs ps:=by
 rcases h.1 with e|e
 ·obtain⟨ps,j,pr⟩:=rm a _ e;exact⟨ps,.inl j,pr⟩
 ·obtain⟨o,ps,j,pr⟩:=rm a _ e;exact⟨ps,.inr ⟨o,j⟩,pr⟩
end
section
section
variable {lt:Nat->Nat->Bool} {prog:Ct} {w:CC} {A:CK} {R:Result->hQ->Prop} {I:Addr} {fp wr:List Addr} {n:Nat} {P:Nat->h6->Prop} {St:Nat->Heap->Prop} {h0:Heap} {S:Addr}
def Kpt (wr:List Addr) (S:Addr) (h h':Heap):Prop:=∀ b o,b∉wr->b≠S->h.get? b=some o->h'.get? b=some o
theorem Kpt.trans {wr:List Addr}{S:Addr}{a b c:Heap}(h:Kpt wr S a b)(g:Kpt wr S b c):Kpt wr S a c:=λx o h1 h2 e=>g x o h1 h2 (h x o h1 h2 e)
end
end
end Mi
namespace Mi
end Mi
namespace Mi
section
section
variable {X:Cx}
theorem RDs.eraseIdx {K:Frag}{H:Hp}:∀ {ds:List D} {vs:List V} (i:Nat),RDs K H ds vs->RDs K H (ds.eraseIdx i) (vs.eraseIdx i):=by
 intro ds vs i r;rw[E1,E1];exact(r.take i).append (r.drop (i+1))
end
end
end Mi
namespace Mi
end Mi
namespace Mi
open L2.Srt
end Mi
namespace Srt
open AutoSeq1 (wpAny_loadPart')
open MeetsSeq MeetsSeq2 MeetsSeq3
end Srt
namespace Srt
end Srt
namespace Mi
open L2.Srt
end Mi
namespace ST
noncomputable abbrev Tb:=SetTable
noncomputable abbrev Pb:=SetTable.Probe
noncomputable def rG (t:Tb):Nat->Pb->Pb
 |0,p=>p
 |n+1,p=>rG t n (t.advance p)
end ST
namespace ST
noncomputable abbrev Srt (l:List Nat):Prop:=l.Pairwise (· < ·)
noncomputable abbrev En:=Nat×Int×h6
end ST
namespace ST
structure Own (t:Tb) (hs:List Int) (ow:Array (Option Nat)) (n:Nat):Prop where
 size:ow.size=t.mask+1
 lt:∀ (j i:Nat),ow[j]? = some (some i)->i<n
 one:∀ i,i<n -> ∃ j:Nat,ow[j]? = some (some i)
 uniq:∀ j j' i:Nat,ow[j]? = some (some i)->ow[j']? = some (some i)->j=j'
 reach:∀ (j i:Nat),ow[j]? = some (some i) -> ∃ h m,hs[i]? = some h/\(rG t m (t.probeStart h)).j=j /\ ∀ k,k<m -> ∃ i',ow[(rG t k (t.probeStart h)).j]? = some (some i')
theorem sN:∀ {l:List Nat} {n:Nat},l.Nodup->(∀ x∈l,x<n)->l.length<=n
 | l,0,_,h=>by
   cases l with
   |nil=>exact Cc _
   |cons a l=>exact absurd (h a CN) (IU _)
 | l,n+1,j,h=>by
   have ih:=sN (l:=l.erase n) (n:=n) (j.erase n) λx hx=>by
    have h1:=h x (List.mem_of_mem_erase hx);have h2:x≠n:=λz=>by subst z;exact j.not_mem_erase hx
    lia
   have:=List.length_erase_le (a:=n) (l:=l)
   by_cases hm:n∈l
   ·rw[List.length_erase_of_mem hm]at ih;lia
   ·rw[List.erase_of_not_mem hm]at ih;lia
theorem JK {t:Tb}{hs:List Int}{ow:Array (Option Nat)}{n:Nat}(h:Own t hs ow n)(O:n<=t.mask):∃ s,s<=t.mask/\ow[s]? = some none:=by
 refine Classical.byContradiction λz=>?_;have j:∀ s,s<=t.mask -> ∃ i,ow[s]? = some (some i):=λs hs=>by
  have B:s<ow.size:=by rw[h.size];lia
  cases e:ow[s] with
  |none=>exact absurd ⟨s,hs,by simp[B,e]⟩ z
  |some i=>exact⟨i,by simp[B,e]⟩
 have L:=sN (l:=(D6 (t.mask+1)).map λs=>(ow.getD s none).getD 0) (n:=n) ?_ ?_
 ·simp at L;lia
 ·rw[List.nodup_iff_pairwise_ne,List.pairwise_map];refine List.pairwise_lt_range.imp_of_mem λ{a b} ha hb hab e=>?_;obtain⟨i,hi⟩:=j a (by have:=El.mp ha;lia)
  obtain⟨i',F⟩:=j b (by have:=El.mp hb;lia)
  have ea:ow.getD a none=some i:=by rw[Ek,hi];rfl
  have eb:ow.getD b none=some i':=by rw[Ek,F];rfl
  rw[ea,eb]at e;have e:i=i':=e;subst e;have:=h.uniq _ _ _ hi F;lia
 ·intro x hx;obtain⟨s,J,rfl⟩:=CO.mp hx;obtain⟨i,hi⟩:=j s (by have:=El.mp J;lia)
  have ea:ow.getD s none=some i:=by rw[Ek,hi];rfl
  rw[ea];exact h.lt _ _ hi
end ST
namespace ST
theorem Own.nil {t:Tb}{hs:List Int}:Own t hs (IV (t.mask+1) none) 0:=by
 have e:∀ (j i:Nat),(IV (t.mask+1) (none:Option Nat))[j]? = some (some i)->False:=λj i e=>by
  rw[Array.getElem?_replicate]at e
  split at e <;> simp at e
 exact⟨Array.size_replicate,λj i h=>(e j i h).elim,λi h=>absurd h (IU _),λj j' i h=>(e j i h).elim,λj i h=>(e j i h).elim⟩
end ST
namespace ST
end ST
namespace ST
end ST
namespace ST
end ST
namespace ST
end ST
namespace ST
end ST
namespace ST
end ST
namespace ST
end ST
namespace ST
theorem kX {α:Type}{next:Nat->Nat}:∀ (n k:Nat) (left:List α) (out:Array α),left.length=n->(pickOrder.go next n k left out).toList.Perm (out.toList++left)
 |0,k,left,out,h=>by
  rw[E4.mp h,Dv];exact List.Perm.refl _
 | n+1,k,left,out,h=>by
   have j:next k % left.length<left.length:=Nat.mod_lt _ (by lia)
   have e:left[next k % left.length]? = some (left[next k % left.length]):=Cf j;show (match left[next k % left.length]? with|some x=>_|none=>_:Array α).toList.Perm _
   rw[e];dsimp only;refine(kX n (k+1) _ _ (by rw[List.length_eraseIdx_of_lt j];lia)).trans ?_
   rw[Array.toList_push,DP];refine List.Perm.append_left _ ?_;show (left[next k % left.length]::left.eraseIdx _).Perm left;rw[E1];refine List.perm_middle.symm.trans ?_;rw[<- EB j,GA]
theorem pick_perm {α:Type}{next:Nat->Nat}{xs:Array α}:(pickOrder next xs).toList.Perm xs.toList:=by
 have:=kX (next:=next) xs.size 0 xs.toList #[] (by simp)
 rw[Gv]at this;exact this
section
variable {prog:Ct} {w:CC} {A:CK} {E:h6->hQ->Prop} {s:hQ}
structure Wk (w:CC) (S:Addr) (es:Array (Int×h6)) (ep:Nat) (t:Tb) (U:List h6):Prop where
 fits:t.fits es.size=true
 plain:t.plain=true
 led:t.led = !w.params.followText "set-order"
 srt:Srt t.place.toList
 text:w.params.followText "set-order" = true->U=(pickOrder (w.params.setOrder S ep) es).toList.map (·.2)
 tab:w.params.followText "set-order" = false->U=es.toList.map (·.2)
theorem Wk.len {S:Addr}{es:Array (Int×h6)}{ep:Nat}{t:Tb}{U:List h6}(h:Wk w S es ep t U):U.length=es.size/\U.Perm (es.toList.map (·.2)):=by
 have j:U.Perm (es.toList.map (·.2)):=by
  cases e:w.params.followText "set-order" with
  |true=>rw[h.text e];exact pick_perm.map _
  |false=>rw[h.tab e]
 exact⟨by rw[j.length_eq];simp,j⟩
end
end ST
namespace ST
end ST
namespace ST
end ST
namespace Mi
open L2.Srt
end Mi
section
theorem KT.drop (r:KT H kvs xs)(k:List Key):KT H (iE kvs k) (xs.filter λx=>decide (x.1≠k)):=by
 unfold iE
 induction r with
 |nil=>exact .nil
 |@cons p q ps qs h t ih =>
  obtain⟨h1,h2,j⟩:=h
  by_cases e:p.1=k
  ·rw[Dt (by simp[e]),Dt (by simp[h1.symm.trans e])];exact ih
  ·rw[Du (by simp[e]),Du (by simpa using λz=>e (h1.trans z))];exact .cons ⟨h1,h2,j⟩ ih
namespace Mi
end Mi
end
namespace Mi
end Mi
namespace Mi
end Mi
namespace It
end It
namespace Mi
end Mi
variable {e:Expr}
section
section
variable {X:Cx}
def PF (X:Cx) (es:List Expr) (t:Str->TE):Prop :=
 ∀ (acc:Str) (pins:List (Addr×Obj)) (s:hQ) (σ:St) (H:Hp) (Q:VK),Inv X pins σ H s->t acc σ H Q ->
  Joins (model X.prog X.w) X.A X.xe (evalEach es X.env) acc (λout s1=>out.length<=tv/\EP X pins σ Q (.str out s1.toks) { s1 with toks:=s1.toks+1 }) s
noncomputable def xZ (acc:Str):TE:=λ_ H Q=>acc.length<=tv/\Q (.str acc) H
noncomputable def y3 (te:TE) (tr:Str->TE) (acc:Str):TE:=λσ H Q=>te σ H λx H1=>∃ y,x = .str y/\(acc++y).length<=tv/\tr (acc++y) σ H1 Q
theorem we:PF X [] xZ:=λacc pins s σ H Q I g9=>(by obtain⟨j,q⟩:=g9;exact⟨j,.str acc,H,I.tok _,⟨_,rfl⟩,q⟩)
theorem uo {es:List Expr}{tr:Str->TE}(he:PE X e te)(j:PF X es tr):PF X (e::es) (y3 te tr):=by
 intro acc pins s σ H Q I h;refine thn (he pins s σ H _ I h) λv s1 z=>?_;obtain⟨x,H1,B,F,y,hx,J,q⟩:=z;subst hx;obtain⟨t,rfl⟩:=F;exact⟨y,t,rfl,J,j _ pins s1 σ H1 Q B q⟩
theorem uq {j z:Expr}{es:List Expr}{t:Str->TE}(h:PF X (j::z::es) t):PE X (.JoinedStr (j::z::es) pos) (t E2) :=
 λpins s σ H Q I q=>wpAny_JoinedStr (h _ pins s σ H Q I q)
noncomputable def zi (te:TE):TE:=λσ H Q=>te σ H λx H1=>(∃ y:Str,x = .str y/\y.length<=tv/\Q (.str y) H1)∨∃ i:Int,x = .int i/\i.natAbs.log2<1920/\Q (.str (D9 i)) H1
theorem wf (h:PE X e te):PE X (.FormattedValue e (-1) none pos) (zi te):=by
 intro pins s σ H Q I q;refine wpAny_FormattedValue_plain (thn (h pins s σ H _ I q) λv s1 J=>?_);obtain⟨x,H1,z,F,j⟩:=J
 rcases j with⟨y,rfl,B,j⟩|⟨i,rfl,B,j⟩
 ·obtain⟨t,rfl⟩:=F;exact wpAny_formatField_str ⟨.str y,H1,z,⟨_,rfl⟩,j⟩ ⟨.str y,H1,z.tok _,⟨_,rfl⟩,j⟩ B
 ·obtain⟨t,rfl⟩:=F;exact wpAny_formatField_int B ⟨.str _,H1,z.tok _,⟨_,rfl⟩,j⟩
noncomputable def sP:V->List V->Hp->VK->Prop:=λx vs H Q=>∃ (x0:Str) (b:Addr) (ys:List Str),x = .str x0/\vs=[.ref b]/\H b=some (.lst (ys.map .str))/\(ys.map (·.length)).sum+ys.length*x0.length<=16777216/\Q (.str (Jd x0 ys)) H
theorem il:∀ {ys:List Str} {us:List h6},Vals (ys.map V.str) us->StrsAre us ys
 |[],_,.nil=>.nil
 |y::ys,_,.cons ⟨t,e⟩ r=>by subst e;exact .cons y t (il r)
theorem ur:MtM X "str.join" sP:=by
 intro pins s σ H x vs v us Q I rx rv h;obtain⟨x0,b,ys,rfl,rfl,j,z,q⟩:=h;obtain⟨t,rfl⟩:=rx;obtain⟨u,rfl,ru⟩:=rv.one
 cases ru
 obtain⟨its,r,B,F⟩:=I.list (SqL.of j);exact join_list B.isList (il r) z λt' k=>⟨.str _,H,I.tok _,⟨_,rfl⟩,q⟩
noncomputable def y4 (K:Frag) (te:TE) (ts:TO):TE:=λσ H Q=>te σ H λx H1=>ts σ H1 λst H3=>∃ a xs,x = .ref a/\SqL K H3 a xs/\st=some (-1) /\ ∀ q,H3 q=none->Q (.ref q) (upd H3 q (.lst xs.reverse))
theorem ut {st:Expr}{ts:TO}{p2:Pos}(he:PE X e te)(hs:PO X (some st) ts):PE X (.Subscript e (.Slice none none (some st) p2) pos) (y4 X.K te ts):=by
 intro pins s σ H Q I h;refine J4 (thn (he pins s σ H _ I h) λv s1 j=>?_);obtain⟨x,H1,J,L,O⟩:=j;refine wpAny_Slice ?_;rw[Hl];refine y1 ?_;refine y1 (thn (hs pins s1 σ H1 _ J O) λvs s3 j=>?_);obtain⟨u,U,Y,ps,Z⟩:=j;have B:Inv X pins σ U { s3 with heap:=s3.heap.push { cls:=.type "slice",data:=.fields #[.none,.none,vs] } }:=Y.kept (t':=s3.toks) λb ob q=>hD _ q
 obtain⟨a,xs,rfl,sq,rfl,q⟩:=Z
 cases L
 obtain⟨its,r,F,hz⟩:=B.list sq;have hlen:=r.length;show Cj (model X.prog X.w) X.A (Hm e (.Slice none none (some st) p2) (.ref a) (.ref s3.heap.objs.size)) (EP X pins σ Q) X.xe { s3 with heap:=s3.heap.push { cls:=.type "slice",data:=.fields #[.none,.none,vs] } }
 refine J6 (ops:=[.ref a,.ref s3.heap.objs.size]) F.isList.typeIs slot_list_getitem.lookup ?_ (by with_unfolding_all rfl)
 refine FT F.isList (Hz ..) .none .none ps (by intro z;have:=Dz.inj z;lia) ?_ (by rw[y2] <;> lia)
 rw[PySem.W.krv_pick];refine⟨.ref _,_,B.laid (t':=s3.toks) (o:=.lst xs.reverse) (λb ob q=>hD _ q) (Cc _) ?_,rfl,q _ (B.hok.fresh (Cc _))⟩;refine⟨by rw[Hf];exact hz,_,0,?_,Ce _ rfl⟩
 exact r.reverse
noncomputable def y6:R2:=λx y H Q=>∃ l b xs zs,x = .ref l/\y = .ref b/\H l=some (.lst xs)/\H b=some (.lst zs)/\xs.length+zs.length<=tv/\Q (.ref l) (upd H l (.lst (xs++zs)))
theorem y7 {M:HM}{E:h6->hQ->Prop}{a b:h6}{Q:h6->hQ->Prop}(B:s.TypeIs a "list")(O:s.TypeIs b "list")(U:Cj M A (call (.builtin "list.__iadd__") [a,b]) Q E s):Cj M A (DM .Add a b) Q E s:=by
 unfold DM;refine D4 ?_;have J:Hy (.type "list") (dunderI "add")=pure (some (.builtin "list.__iadd__")):=PySem.F.slot_list_iadd.lookup;have L:isSeqSlot (some (.builtin "list.__iadd__"))=true:=by decide +kernel
 have j:Iz (.type "list") "add" (Operator.Add == .Add)=pure false:=by
  unfold Iz;show (Hy (.type "list") (dunderI "add") >>= λfi=>pure (fi.isSome && !isSeqSlot fi))=pure false;rw[J,pure_bind,L];rfl
 have z:seqSlot? (.type "list") (dunderI "add")=pure (some (.builtin "list.__iadd__")):=PySem.seqSlot_of J L;refine gV (Gh B (gV (FL j ?_)));show Cj M A (if false=true then _ else _) Q E s
 rw[if_neg q7];refine gV (PySem.wpAny_binaryOp1_none (nm:="add") B O PySem.noFill_list_add ?_);refine gV (FL z ?_);exact gV (E8 U)
theorem uu:OpR X (DM .Add) y6:=by
 intro pins s σ H x y v u Q I rx ry h;obtain⟨l,b,xs,zs,rfl,rfl,J,O,hz,q⟩:=h
 cases rx
 cases ry
 obtain⟨z,its,n,r,hl,e⟩:=I.lstM J;obtain⟨z2,j,U,Y,Z,L⟩:=I.lstM O;have hsz:its.toArray.size+j.toArray.size<=tv:=by rw[y2,y2];lia
 have B : ¬ (!its.toArray.isEmpty&&Dn (its.toArray.size+j.toArray.size))=true:=by
  rw[fb hsz,Bool.and_false];exact q7
 refine y7 ⟨_,e,rfl⟩ ⟨_,L,rfl⟩ (DW PySem.F.slot_list_iadd ⟨_,e,rfl⟩ PySem.F.entry_list_iadd (PySem.F.args_list_iadd_2 _ _)
  (AutoSeq1.list___iadd___list_list_0 l its.toArray n b j.toArray U B (by rw[y2];lia) (by lia)) ⟨e,L,?_⟩)
 refine⟨.ref l,_,I.lset (its':=its++j) J e (by simp) (r.append Y) ?_,rfl,q⟩
 rw[Cv];lia
noncomputable def zj (ta tb:TE) (K:Frag):TE:=λσ H Q=>ta σ H λx H1=>∃ a xs,x = .ref a/\SqL K H1 a xs/\if xs.isEmpty=true then tb σ H1 Q else Q (.ref a) H1
theorem wg {a b:Expr}{ta tb:TE}(J:PE X a ta)(L:PE X b tb):PE X (.BoolOp .Or [a,b] pos) (zj ta tb X.K):=by
 intro pins s σ H Q I h;refine BoolOp_or (thn (J pins s σ H _ I h) λv s1 z=>?_);obtain⟨x,H1,O,B,j⟩:=z;obtain⟨c,xs,rfl,sq,j⟩:=j;refine thn (nV pins s1 σ H1 (.ref c) v (λk H'=>H'=H1/\k = !xs.isEmpty) O B ⟨_,.inl ⟨xs,sq,rfl⟩,rfl,rfl⟩) λk s2 z=>?_;obtain⟨H2,F,e,ek⟩:=z;subst e ek
 cases hx:xs.isEmpty with
 | true =>
   rw[hx,if_pos rfl]at j;exact BoolOp_one (L pins s2 σ H2 Q F j)
 | false =>
   rw[hx,if_neg q7]at j;exact⟨.ref c,H2,F,B,j⟩
end
namespace Mi
variable {te ta:TEd}{e:Expr}{pos:Pos}
section
variable {X:Cx}
noncomputable def iQ (acc:Str):TEd:=λ_ M Q=>acc.length<=tv/\Q (.str acc) M
noncomputable def iR (te:TEd) (tr:Str->TEd) (acc:Str):TEd:=λρ M Q=>te ρ M λx M1=>∃ y,x = .str y/\(acc++y).length<=tv/\tr (acc++y) ρ M1 Q
theorem pd {acc:Str}:aa (iQ acc):=λ_ _ _ _ h j=>(by obtain⟨z,q⟩:=j;exact⟨z,h _ _ q⟩)
theorem pf {tr:Str->TEd}{acc:Str}(m:aa te)(mr:∀ a,aa (tr a)):aa (iR te tr acc):=λρ M Q Q' i q =>
 m _ _ _ _ (λx F j=>(by obtain⟨y,e,z,B⟩:=j;exact⟨y,e,z,mr _ _ _ _ _ i B⟩)) q
def PFd (X:Cx) (es:List Expr) (t:Str->TEd):Prop:=PF X es λacc=>lE X.K (t acc)
theorem wj:PFd X [] iQ:=λacc pins s σ H Q I g9=>(by obtain⟨ρ,M,rs,rm,z,q⟩:=g9;exact we acc pins s σ H Q I ⟨z,q _ H Ext.refl rm (Jr.mpr rfl)⟩)
theorem uv {es:List Expr}{tr:Str->TEd}(m:aa te)(mr:∀ a,aa (tr a))(he:PE X e (lE X.K te))(J:PFd X es tr):PFd X (e::es) (iR te tr):=by
 intro acc pins s σ H Q I ⟨ρ,M,rs,rm,q⟩;refine uo he J acc pins s σ H Q I ⟨ρ,M,rs,rm,m _ _ _ _ (λx L g9 v H1 F j B=>?_) q⟩;obtain⟨y,e,z,O⟩:=g9;subst e;refine⟨y,Jr.mp B,z,ρ,L,rs.mono (F.stab rm),j,mr _ _ _ _ _ (λd M2 k=>k.ext F) O⟩
theorem uw {j z:Expr}{es:List Expr}{t:Str->TEd}(h:PFd X (j::z::es) t):PE X (.JoinedStr (j::z::es) pos) (lE X.K (t E2)):=uq h
noncomputable def fmD:R1d
 |.str y,M,Q=>y.length<=tv/\Q (.str y) M
 |.int i,M,Q=>i.natAbs.log2<1920/\Q (.str (D9 i)) M
 |_,_,_=>False
theorem rH:iF fmD:=by
 intro x M Q Q' h q
 cases x with
 |str y=>exact⟨q.1,h _ _ q.2⟩
 |int i=>exact⟨q.1,h _ _ q.2⟩
 |_=>exact q.elim
noncomputable def mR (te:TEd):TEd:=λρ M Q=>te ρ M λx M1=>fmD x M1 Q
theorem rJ (m:aa te):aa (mR te):=λρ M Q Q' i q =>
 m _ _ _ _ (λx z j=>rH _ _ _ _ i j) q
theorem wk (m:aa te)(he:PE X e (lE X.K te)):PE X (.FormattedValue e (-1) none pos) (lE X.K (mR te)):=by
 refine PE.imp (wf he) λσ H Q h=>?_;obtain⟨ρ,M,rs,rm,q⟩:=h;refine⟨ρ,M,rs,rm,m _ _ _ _ (λx J j v H1 F z B=>?_) q⟩
 cases x with
 |str y=>exact .inl ⟨y,Jr.mp B,j.1,j.2 _ H1 F z (Jr.mpr rfl)⟩
 |int i=>exact .inr ⟨i,Jq.mp B,j.1,j.2 _ H1 F z (Jr.mpr rfl)⟩
 |_=>exact j.elim
noncomputable def iS:RAd:=λxs M Q=>∃ i:Int,xs=[.int i]/\i.natAbs.log2<1920/\Q (.str (D9 i)) M
theorem im:aJ iS:=λ_ _ _ _ h j=>(by obtain⟨i,e,z,q⟩:=j;exact⟨i,e,z,h _ _ q⟩)
theorem mU:CallR X (.type "str") (lR X.K iS):=by
 refine CallR.of j6 λvs H Q h=>?_;obtain⟨ds,M,rm,rs,i,rfl,z,q⟩:=h;obtain⟨v,rfl,r⟩:=rs.one
 cases Jq.mp r
 exact⟨i,rfl,z,q _ H Ext.refl rm (Jr.mpr rfl)⟩
noncomputable def iT (to te:TEd):TEd:=λρ M Q=>to ρ M λx M1=>(∃ x0,x = .str x0)/\te ρ M1 λy M2=>∃ (x0:Str) (b:Addr) (ys:List Str),x = .str x0/\y = .ref b/\M2 b=some (.lst (ys.map .str))/\(ys.map (·.length)).sum+ys.length*x0.length<=16777216/\Q (.str (Jd x0 ys)) M2
theorem ph {to:TEd}(mo:aa to)(me:aa te):aa (iT to te):=λρ M Q Q' i q =>
 mo _ _ _ _ (λx U j=>(by obtain⟨e,B⟩:=j;exact⟨e,me _ _ _ _ (λy M2 j=>(by obtain⟨x0,b,ys,F,J,L,z,O⟩:=j;exact⟨x0,b,ys,F,J,L,z,i _ _ O⟩)) B⟩)) q
theorem RDs.strs {K:Frag}{H:Hp}:∀ {ys:List Str} {vs:List V},RDs K H (ys.map .str) vs->vs=ys.map .str
 |[],_,h=>h
 |y::ys,_,⟨v,r,e,h1,h2⟩=>by subst e;rw[RDs.strs h2,Jr.mp h1];rfl
theorem pi {K:Frag}{to:TEd}(mo:aa to)(me:aa te)(σ:St)(H:Hp)(Q:VK)(h:lE K (iT to te) σ H Q):tBM K "str" sP (lE K to) (lA K (aH te bh)) σ H Q:=by
 obtain⟨ρ,M,rs,rm,q⟩:=h;refine⟨ρ,M,rs,rm,mo _ _ _ _ (λx U g9 v H1 L B rd1=>?_) q⟩;obtain⟨⟨x0,e⟩,Y⟩:=g9;subst e
 cases Jr.mp rd1
 refine⟨rfl,ρ,U,rs.mono (L.stab rm),B,me _ _ _ _ (λy M2 F vs H2 Z j J=>?_) Y⟩;obtain⟨BD,b,ys,e1,e2,e3,z,F⟩:=F
 cases e1
 subst e2;obtain⟨v,rfl,r⟩:=J.one
 cases Js.mp r
 obtain⟨us,O,ru⟩:=j _ _ e3;rw[RDs.strs ru]at O;exact⟨x0,b,ys,rfl,rfl,O,z,F _ H2 (L.trans Z) j (Jr.mpr rfl)⟩
noncomputable def iU (te:TEd) (ts:TOd):TEd:=λρ M Q=>te ρ M λx M1=>ts ρ M1 λu M3=>∃ a ds,x = .ref a/\M3 a=some (.lst ds)/\u=some (-1) /\ ∀ q,M3 q=none->Q (.ref q) (ae M3 q (.lst ds.reverse))
theorem pj {ts:TOd}(m:aa te)(mh:bW ts):aa (iU te ts):=λρ M Q Q' i q =>
 m _ _ _ _ (λx O j=>mh _ _ _ _ (λu U z=>(by obtain⟨a,ds,B,F,J,L⟩:=z;exact⟨a,ds,B,F,J,λp n=>i _ _ (L p n)⟩)) j) q
theorem uz {hi:Expr}{th:TOd}{p2:Pos}(m:aa ta)(mh:bW th)(he:PE X e (lE X.K ta))(U:PO X (some hi) (lO X.K th)) :
 PE X (.Subscript e (.Slice none none (some hi) p2) pos) (lE X.K (iU ta th)):=by
 refine PE.imp (ut he U) λσ H Q h=>?_;obtain⟨ρ,M,rs,rm,q⟩:=h;refine⟨ρ,M,rs,rm,m _ _ _ _ (λx Y Z v H1 L j B=>?_) q⟩;refine⟨ρ,Y,rs.mono (L.stab rm),j,mh _ _ _ _ (λu M3 F H3 O z=>?_) Z⟩;have J:=B.mono (O.stab j);obtain⟨a,ds,rfl,e,rfl,F⟩:=F
 cases Js.mp J
 obtain⟨vs,ha,r⟩:=z _ _ e;exact⟨a,vs,rfl,SqL.of ha,rfl,λp' n=>bP z r.reverse (λp' n'=>(F p' n').ext (L.trans O)) n⟩
noncomputable def iV:R2d:=λx y M Q=>∃ a b xs ys,x = .ref a/\y = .ref b/\M a=some (.lst xs)/\M b=some (.lst ys)/\xs.length+ys.length<=tv/\Q (.ref a) (ae M a (.lst (xs++ys)))
theorem io:am iV:=λ_ _ _ _ _ h j=>(by obtain⟨a,b,xs,y,B,F,J,L,z,q⟩:=j;exact⟨a,b,xs,y,B,F,J,L,z,h _ _ q⟩)
theorem pv:OpR X (DM .Add) (l2 X.K iV):=by
 refine OpR.of uu λv u H Q h=>?_;obtain⟨x,y,M,rm,rx,ry,a,b,xs,ys,rfl,rfl,j,B,z,q⟩:=h
 cases Js.mp rx
 cases Js.mp ry
 obtain⟨us,F,ru⟩:=rm _ _ j;obtain⟨ws,J,rw'⟩:=rm _ _ B;exact⟨a,b,us,ws,rfl,rfl,F,J,by rw[ru.length,rw'.length];exact z,gR rm j (ru.append rw') (Js.mpr rfl) q⟩
noncomputable def mV (ta tb:TEd):TEd:=λρ M Q=>ta ρ M λx M1=>∃ a xs,x = .ref a/\M1 a=some (.lst xs)/\if xs.isEmpty=true then tb ρ M1 Q else Q (.ref a) M1
theorem rK {tb:TEd}(h:aa ta)(k:aa tb):aa (mV ta tb):=λρ M Q Q' i q=>h _ _ _ _ (λx B ⟨a,xs,e,z,j⟩=>⟨a,xs,e,z,by
 cases hx:xs.isEmpty with
 |true=>rw[hx,if_pos rfl]at j;rw[if_pos rfl];exact k _ _ _ _ i j
 |false=>rw[hx,if_neg q7]at j;rw[if_neg q7];exact i _ _ j⟩) q
theorem wl {a b:Expr}{tb:TEd}(ma:aa ta)(mb:aa tb)(J:PE X a (lE X.K ta))(L:PE X b (lE X.K tb)):PE X (.BoolOp .Or [a,b] pos) (lE X.K (mV ta tb)):=by
 refine PE.imp (wg J L) λσ H Q h=>?_;obtain⟨ρ,M,rs,rm,q⟩:=h;refine⟨ρ,M,rs,rm,ma _ _ _ _ (λx O g9 v H1 B j rd1=>?_) q⟩;obtain⟨c,xs,e,U,z⟩:=g9;subst e
 cases Js.mp rd1
 obtain⟨us,Y,ru⟩:=j _ _ U;refine⟨c,us,rfl,SqL.of Y,?_⟩;have F:=ru.length
 cases hx:xs.isEmpty with
 | true =>
   have:us.isEmpty=true:=by rw[IA]at hx ⊢;subst hx;exact List.eq_nil_of_length_eq_zero F
   rw[hx,if_pos rfl]at z;rw[this,if_pos rfl];exact⟨ρ,O,rs.mono (B.stab rm),j,mb _ _ _ _ (λd M2 k=>k.ext B) z⟩
 | false =>
   have:us.isEmpty=false:=by
    cases us with
    | nil=>cases xs with
      |nil=>cases hx
      |cons _ _=>cases F
    |cons _ _=>rfl
   rw[hx,if_neg q7]at z;rw[this,if_neg q7];exact z _ H1 B j (Js.mpr rfl)
end
end Mi
end
section
section
variable {X:Cx}
noncomputable def pw:V->List V->Hp->VK->Prop:=λx vs H Q=>∃ x0 y0:Str,x = .str x0/\vs=[.str y0]/\(y0.length==0)=false/\x0.length+2<=tv /\ ∀ q,H q=none->Q (.ref q) (upd H q (.lst ((D3 x0 y0).map .str)))
theorem ip:∀ {l:List (Str×Tok)},Vals ((l.map (·.1)).map V.str) (strValues l)
 |[]=>.nil
 |(a,t)::l=>.cons ⟨t,rfl⟩ (ip (l:=l))
theorem rL:MtM X "str.split" pw:=by
 intro pins s σ H x vs v us Q I rx rv h;obtain⟨x0,j,rfl,rfl,J,L,q⟩:=h;obtain⟨t,rfl⟩:=rx;obtain⟨u,rfl,ru⟩:=rv.one;obtain⟨B,rfl⟩:=ru;have hle:(D3 x0 j).length<=tv:=D7 (split_le x0 j) L;have key:∀ (l:List (Str×Tok)) (k:Nat),l.map (·.1)=D3 x0 j->EP X pins σ Q (.ref s.heap.objs.size) { s with heap:=s.heap.push { cls:=.type "list",data:=.seq (strValues l).toArray },toks:=k }:=λl k e=>by
  have ev:Vals ((D3 x0 j).map V.str) (strValues l):=by rw[<- e];exact ip
  refine⟨.ref s.heap.objs.size,_,I.laid (t':=k) (o:=.lst ((D3 x0 j).map .str)) (λb ob q=>hD _ q) (Cc _) ?_,rfl,q _ (I.hok.fresh (Cc _))⟩;exact⟨by rw[Ca];exact hle,_,0,ev,Ce _ rfl⟩
 have hs:x0.length<=tv:=by lia
 cases h1:(decide (x0.length<j.length) || decide (Hg x0<Hg j))
 ·cases hf:(D2 x0 j 0 x0.length (x0.length+1)).isEmpty
  ·have z:FZ x0 (D2 x0 j 0 x0.length (x0.length+1)) j.length=D3 x0 j:=by
    unfold D3;rw[if_neg (by rw[h1];nofun),if_neg (by rw[hf];nofun)]
   refine DW G7 (F6 _ _ _) FQ (FC _ _) (meets_str_split_sep x0 j t B h1 J hf hs (by rw[z];exact hle)) ?_
   show wants (EP X pins σ Q) X.xe _ { s with toks:=_,heap:=s.heap.push { cls:=.type "list",data:=.seq (strsFrom s.toks (FZ x0 (D2 x0 j 0 x0.length (x0.length+1)) j.length)).toArray } }
   rw[strsFrom_eq];exact key (numbered s.toks _) _ ((numbered_texts _ _).trans z)
  ·have z : [x0]=D3 x0 j:=by unfold D3;rw[if_neg (by rw[h1];nofun),if_pos hf]
   exact DW G7 (F6 _ _ _) FQ (FC _ _) (meets_str_split_not_found x0 j t B h1 J hf) (key [(x0,t)] _ z)
 ·have z : [x0]=D3 x0 j:=by unfold D3;rw[if_pos h1]
  exact DW G7 (F6 _ _ _) FQ (FC _ _) (meets_str_split_cannot_occur x0 j t B h1) (key [(x0,t)] _ z)
noncomputable def bJ (x y:Str):List Str:=[(D5 x y).1,(D5 x y).2.1,(D5 x y).2.2]
noncomputable def sQ:V->List V->Hp->VK->Prop:=λx vs H Q=>∃ x0 y0:Str,x = .str x0/\vs=[.str y0]/\(y0.length==0)=false/\x0.length<=tv /\ ∀ q,H q=none->Q (.ref q) (upd H q (.tup ((bJ x0 y0).map .str)))
theorem uA:MtM X "str.partition" sQ:=by
 intro pins s σ H x vs v us Q I rx rv h;obtain⟨x0,j,rfl,rfl,z,B,q⟩:=h;obtain⟨t,rfl⟩:=rx;obtain⟨u,rfl,ru⟩:=rv.one;obtain⟨J,rfl⟩:=ru;refine DW F.slot_str_partition (F6 _ _ _) F.entry_str_partition (F.args_str_partition_2 _ _) (meets_str_partition x0 j t J z B) ?_;have key:∀ (a b c:Tok) (k:Nat),EP X pins σ Q (.ref s.heap.objs.size) { s with heap:=s.heap.push { cls:=.type "tuple",data:=.seq [.str (D5 x0 j).1 a,.str (D5 x0 j).2.1 b,.str (D5 x0 j).2.2 c].toArray },toks:=k }:=λa b c k=>by
  refine⟨.ref s.heap.objs.size,_,I.laid (t':=k) (o:=.tup ((bJ x0 j).map .str)) (λb ob q=>hD _ q) (Cc _) ?_,rfl,q _ (I.hok.fresh (Cc _))⟩;refine⟨by rw[s9];simp[bJ],[.str (D5 x0 j).1 a,.str (D5 x0 j).2.1 b,.str (D5 x0 j).2.2 c],.cons ⟨_,rfl⟩ (.cons ⟨_,rfl⟩ (.cons ⟨_,rfl⟩ .nil)),F4 _ _⟩
 unfold D5 at key
 revert key
 cases D2 x0 j 0 x0.length 1 with
 |nil=>intro key;exact key _ _ _ _
 |cons i r=>intro key;exact key _ _ _ _
noncomputable def kY:V->List V->Hp->VK->Prop:=λx vs H Q=>∃ x0 y0:Str,x = .str x0/\vs=[.str y0]/\Q (.bl (Es x0 y0)) H
theorem pz:MtM X "str.startswith" kY:=by
 intro pins s σ H x vs v us Q I rx rv h;obtain⟨x0,j,rfl,rfl,q⟩:=h;obtain⟨t,rfl⟩:=rx;obtain⟨u,rfl,ru⟩:=rv.one;obtain⟨z,rfl⟩:=ru;exact SC.startswith ⟨.bl _,H,I,rfl,q⟩
theorem pA:CallR X (.type "int") (λxs H Q=>∃ (x:Str) (n:Int),xs=[.str x]/\GO x=some n/\x.length<=640/\Q (.int n) H):=by
 intro pins s σ H xs us Q I r h;obtain⟨x,n,rfl,e,j,q⟩:=h;obtain⟨u,rfl,rx⟩:=cg r;obtain⟨t,rfl⟩:=rx;exact PySem.W.KIN.call_text e j ⟨.int _,H,I.tok _,⟨_,rfl⟩,q⟩
noncomputable def zk:V->Option Int->Option Int->Hp->VK->Prop:=λx lo hi H Q=>∃ (x0:Str) (i:Int),x = .str x0/\lo=some i/\hi=none/\x0.length<=tv/\Q (.str (IB x0 (some i) none)) H
theorem wm:SlR X zk:=by
 intro pins s σ H x v vl vu lo hi sl Q I rx hs pl pu h;obtain⟨x0,i,rfl,rfl,rfl,j,q⟩:=h;obtain⟨t,rfl⟩:=rx
 cases pl with
 | int _ ui =>
   cases pu
   refine⟨"str",_,F.slot_str_getitem.lookup,F6 _ _ _,wpAny_getItem_str_slice (l:=some (i,ui)) (u:=none) (st:=none) hs rfl (post_val_or_str ⟨D7 (Txt.slice_le x0 _ _) j,λt' k=>?_⟩)⟩;exact⟨.str _,H,I.tok _,⟨_,rfl⟩,q⟩
noncomputable def Its (x:Str):It:=⟨λi _=>i<x.cps.size,λi H v H'=>H'=H /\ ∃ c,x.cps[i]? = some c/\v = .str ⟨#[c]⟩,λi _=>x.cps.size<=i⟩
theorem gh {tg:Expr}{St:Nat->Heap->Prop}{n:String}(W:∀ A':CK,A'.handled=none->Walks P w A' it [it] [it] x.cps.size (SignAt x) St)(hs:∀ i h,St i h -> ∃ o vs,h.get? it=some o/\o.cls = .type n/\o.data = .fields vs)(he:∀ (A':CK),A'.handled=none -> ∀ (i:Nat) (s:hQ) (Q:Option h6->hQ->Prop) (E:h6->hQ->Prop),x.cps.size<=i->St i s.heap->(∀ h',(∀ b o,b≠it->s.heap.get? b=some o->h'.get? b=some o)->Q none { s with heap:=h' })->Cj (model P w) A' (Fu (.ref it)) Q E s)(j:∀ (A:CK) (i:Nat) (s:hQ) (Q:h6->hQ->Prop) (E:h6->hQ->Prop),St i s.heap->Q (.ref it) s->Cj (model P w) A (Hv (.ref it)) Q E s)(Z : ["enumerate","zip","dict_itemiterator","dict_reverseitemiterator","odict_iterator","itertools.zip_longest","itertools.pairwise"].contains n=false):dO P w K tg (Its x) [it] it St where
 mem:=by simp
 obj:=λi h st b B=>by
  have e:b=it:=by simpa using B
  subst e;obtain⟨o,vs,e,c,d⟩:=hs i h st;exact⟨o,e,λv z=>by rw[d]at z;cases z⟩
 keep:=λi h h' st k=>(W { units:=0,handled:=none } rfl).frame i h h' st k
 item:=by
  intro X F hw J L i pins s σ H E I hf st hg;subst F hw J;obtain⟨f0,f1,f2,O,f4,U⟩:=hf it (by simp)
  refine(W X.A (I.ok.hd L)).item i s _ E hg st λv h' tk hv st' sb=>?_;obtain⟨c,u,Y,rfl⟩:=hv;have I1:Inv X pins σ H { s with heap:=h',toks:=tk }:=I.turned (t':=tk) (λb o B e=>sb b o (by simpa using B) e) f0 f1 O f4 U
  obtain⟨o,vs,e,c',d⟩:=hs _ _ st';exact⟨_,rfl,iD (s:={ s with heap:=h',toks:=tk }) e c' d Z ⟨.str _,H,I1,⟨_,rfl⟩,⟨rfl,c,Y,rfl⟩,st',λb B=>(hf b B).1⟩⟩
 done:=by
  intro X F hw J L i pins s σ H E I hf st hg;subst F hw J;obtain⟨f0,f1,f2,O,f4,U⟩:=hf it (by simp)
  exact he X.A (I.ok.hd L) i s _ E hg st λh' sb=>⟨rfl,I.turned (t':=s.toks) (λb o B e=>sb b o B e) f0 f1 O f4 U⟩
 self:=j
theorem eX {n:String}{t:Tok}(i:Nat)(h:Heap)(st:h.IsStrIter it n x t i):∃ o vs,h.get? it=some o/\o.cls = .type n/\o.data = .fields vs:=by
 obtain⟨o,a,b,c⟩:=st;exact⟨o,_,a,b,c⟩
noncomputable def wn (ta:TE):TI:=λσ H R=>ta σ H λx H1=>∃ x0,x = .str x0/\R (Its x0) H1
theorem rM {tg l:Expr}{ta:TE}(J:PE X l ta):PI X tg l (wn ta):=by
 intro pins s σ H R I h;refine thn (J pins s σ H _ I h) λv s1 L=>?_;obtain⟨x,H1,B,O,U⟩:=L;obtain⟨x0,rfl,q⟩:=U;obtain⟨t,rfl⟩:=O;have fp:∀ b∈[s1.heap.objs.size],bK X pins H1 b:=λb z=>by
  have e:b=s1.heap.objs.size:=by simpa using z
  subst e;exact B.fpOk (Cc _) (B.hok.fresh (Cc _))
 cases ha:x0.cps.all (· < 128)
 ·refine wpAny_pyIter_wide ha ?_;refine⟨s1.heap.objs.size,[s1.heap.objs.size],_,_,H1,rfl,B.kept (t':=s1.toks) λb o e=>hD _ e,gh (n:="str_iterator") (λA' j=>Walks.strWide j _ x0 t) eX (λA' j i s Q E hi st F=>wpAny_pyNext_wide_end j st (by simpa using hi) λh' he=>F h' λb o z e=>he b o z e) (λ_ _ _ _ _ st h=>wpAny_pyIter_striter_wide st h) (by decide),⟨_,Ce _ rfl,rfl,rfl⟩,fp,q⟩
 ·refine wpAny_pyIter_ascii ha ?_;refine⟨s1.heap.objs.size,[s1.heap.objs.size],_,_,H1,rfl,B.kept (t':=s1.toks) λb o e=>hD _ e,gh (n:="str_ascii_iterator") (λA' j=>Walks.strAscii j _ x0 t) eX (λA' j i s Q E hi st F=>wpAny_pyNext_ascii_end j st (by simpa using hi) λh' he=>F h' λb o z e=>he b o z e) (λ_ _ _ _ _ st h=>wpAny_pyIter_striter_ascii st h) (by decide),⟨_,Ce _ rfl,rfl,rfl⟩,fp,q⟩
end
end
namespace En
open Sem (wp)
variable {T:String}
section
variable {prog:Ct} {w:CC} {A:CK} {E:h6->hQ->Prop} {s:hQ}
theorem kA {newId initId:String}{Bn Bi:Fo}{args:List h6}{kw:List (Str×h6)}{S:PySem.Spec}{Q Q₁:h6->hQ->Prop}(ft:TypeCalled T newId initId)(Z:checkTypeCall T ⟨args,kw⟩=pure ())(B:checkBuiltinCall newId ⟨.type T::args,kw⟩=pure ())(entryN:entryFor table newId=some Bn)(entryI:entryFor table initId=some Bi)(g:Ja (Bn ⟨.type T::args,kw⟩) S)(h:S A.in1 (wants Q₁ E) s)(j:∀ obj s₁,Q₁ obj s₁ -> s₁.TypeIs obj T/\argsOk initId ⟨obj::args,kw⟩ /\ ∃ Si,Ja (Bi ⟨obj::args,kw⟩) Si/\Si A.in1 (wants (λr s₂=>r = .none/\Q obj s₂) E) s₁) :
 Cj (model prog w) A (call (.type T) args kw) Q E s:=by
 obtain⟨c,tl,U⟩:=ft.mro;have J:=ft.made;have Y:=ft.sub;refine wpAny_call (codeAny_of_tree ?_);show Cj _ _ (callAny (.type T) _) _ _ _;refine y1 ⟨Code.quiet_builtin _ (by decide +kernel),codeAny_builtin F.entry_type_call ?_⟩
 rw[Around.under_plain (weight_type_call_type T args kw) (units_type_call_type T args kw)];have h1:=ft.notType;have h2:=ft.canCreate
 repeat (any_goals (first|assumption|wp_step))
 refine Eu (GP ft.plain entryN (FL B (g prog w A.in1 _ s h))) λr s₁ L=>?_
 cases r with
 |error e=>exact L
 | ok fl =>
   cases fl with
   | ret obj =>
     obtain⟨hT,hok,Si,gi,O⟩:=j _ _ L;have BD:=ft.init.lookup;have BE:=ft.init.bind obj
     repeat (any_goals (first|assumption|wp_step))
     refine Eu (GP ft.init.plain entryI (ft.init.check _ _ _ _ _ _ _ _ hT hok (gi prog w A.in1 _ s₁ O))) λr₂ s₂ z=>?_
     cases r₂ with
     |error e=>exact z
     | ok fl₂ =>
       cases fl₂ with
       | ret r =>
         obtain⟨rfl,hq⟩:=z
         repeat (any_goals (first|assumption|wp_step))
       |_=>exact z.elim
   |_=>exact L.elim
theorem uB {newId:String}{self:h6}{rest:List h6}{k:Str×h6}(B:Hy (.type T) "__init__" = pure (some (.builtin "object.__init__")))(hm:Bind.madeBy (.type T)=pure (some newId))(z:(some newId != some "object.__new__")=true) :
 Ja (Fo.«object.__init__» ⟨self::rest,[k]⟩) (λ_ R s=>s.TypeIs self T/\R (.ok (.ret .none)) s):=by
 refine Meets.of_wp λprog w A R s hs=>?_;obtain⟨F,j⟩:=hs
 cases rest with
 | nil =>
   repeat (any_goals (first|assumption|wp_step))
   exact⟨_,rfl,j⟩
 | cons a rest =>
   repeat (any_goals (first|assumption|wp_step))
   exact⟨_,rfl,j⟩
open AutoSeq1 (wpAny_loadPart') in
theorem pB (l:Addr)(items:Array h6)(n:Nat)(dct:Option Addr)(sl:Array (Option h6))(t:Tok) :
 Ja (Fo.«enumerate.__new__» ⟨[.type "enumerate",.ref l],[("start",.int 1 t)]⟩) (λ_ R s=>s.heap.get? l=some { cls:=.type "list",dict:=dct,data:=.seq items n,slots:=sl } /\
  R (.ok (.ret (.ref (s.heap.push (Zp.itO false l)).objs.size))) { s with heap:=(s.heap.push (Zp.itO false l)).push { cls:=.type "enumerate",data:=.fields #[.none,.bool false,.ref s.heap.objs.size,F5 1,.none,.none] } }) :=
 .of_wp λprog w A R s h=>by
  obtain⟨F,g,d,tk,os⟩:=s;obtain⟨j,h⟩:=h;have z:=sub_enumerate;have B:FO (DQ ⟨F,g,d,tk,os⟩) l items:=⟨_,j,rfl,n,rfl⟩
  wp_walk using Dh j
  refine wpAny_stack_any λst=>y1 ?_
  split
  ·rename_i c _ _ _ _ _
   cases (c==IZ "enumerate") <;> (wp_walk using Dh j,Dd B;exact⟨_,rfl,h⟩)
  ·wp_walk using Dh j,Dd B
   exact⟨_,rfl,h⟩
end
section
variable {M:HM} {A:CK} {E:h6->hQ->Prop} {s:hQ} {env:Env}
theorem jI {f:h6}{x:Sem h6}{rest:List (Bool×Sem h6)}{keywords:List (Option Str×Sem h6)}{b:Bool}{Q:Args->hQ->Prop}(j:keywords.all (·.1.isSome)=true)(h:Cj M A (spliced ((false,x)::rest)) (λvs s₁=>Cj M A (evalAll (keywords.map (·.2))) (λkvs s₂=>Q ⟨vs,(keywords.filterMap (·.1)).zip kvs⟩ s₂) E s₁) E s) :
 Cj M A (evalArgs f b ((false,x)::rest) keywords) Q E s:=by
 unfold evalArgs
 cases b <;>
 (show Cj M A (spliced ((false,x)::rest) >>= _) Q E s
  refine gV (DR h (λvs s' h'=>?_) λ_ _ x=>x);refine D4 ?_;rw[if_pos j];refine gV (DR h' (λkvs s₂ z=>?_) λ_ _ x=>x);exact gV (y1 (y1 z)))
theorem callWith_type_kw {pos:Pos}{e:Expr}{rest:List Expr}{kws:List EJ}{Q:h6->hQ->Prop}(h:Cj M A (spliced (DH pos (Cm (e::rest) env))) (fun vs s₁=>Cj M A (evalAll ((EY pos (DO kws env)).map (·.2)))
   (λkvs s₂=>Cj M A (call (.type T) vs (((EY pos (DO kws env)).filterMap (·.1)).zip kvs)) Q E s₂) E s₁) E s)(he:DH pos (Cm (e::rest) env)=(false,eval e env)::DH pos (Cm rest env))(j:(DH pos (Cm (e::rest) env)).any (·.1)=false)(z:(EY pos (DO kws env)).all (·.1.isSome)=true)(B:(EY pos (DO kws env)).any (·.1.isNone)=false) :
 Cj M A (callWith pos (.type T) [] (DH pos (Cm (e::rest) env)) (EY pos (DO kws env))) Q E s:=by
 unfold callWith;rw[he]at h j ⊢;refine gV (D4 (DR (jI (Q:=λa s₁=>Cj M A (call (.type T) a.pos a.kw) Q E s₁) z h) (λa s₁ h₁=>gV (DS ?_)) λ_ _ x=>x));simp only[j,B,Bool.or_false];refine gV (y1 ?_);exact gV (DR h₁ (λr s₂ F=>gV (D4 (wpAny_point (y1 F)))) λ_ _ x=>x)
end
section
variable {prog:Ct} {w:CC} {A:CK} {E:h6->hQ->Prop} {s:hQ}
theorem call_enumS {l:Addr}{items:Array h6}{t:Tok}{Q:h6->hQ->Prop}(L:Zp.Sq false s.heap l items)(q:∀ h',FY h' (s.heap.objs.size+1) s.heap.objs.size 1 .none->Zp.At false h' s.heap.objs.size l 0->(∀ b o,s.heap.get? b=some o->h'.get? b=some o)->Q (.ref (s.heap.objs.size+1)) { s with heap:=h' }) :
 Cj (model prog w) A (call (.type "enumerate") [.ref l] [("start",.int 1 t)]) Q E s:=by
 obtain⟨⟨c,dct,dt,sl⟩,O,U,n,hd⟩:=L;have j:c = .type "list":=U;have z:dt = .seq items n:=hd;subst j z;refine kA HE (by kernel_rfl) (by kernel_rfl) Gz F.entry_object_init (pB l items n dct sl t) (Q₁:=λobj s₁=>s₁.TypeIs obj "enumerate" /\ Q obj s₁) ⟨O,?_⟩ λobj s₁ B=>⟨B.1,by unfold argsOk;kernel_rfl,_,uB F.called_enumerate.init.lookup F.called_enumerate.made (by decide),B.1,rfl,B.2⟩
 have J:(s.heap.push (Zp.itO false l)).objs.size=s.heap.objs.size+1:=CY ..;have e:((s.heap.push (Zp.itO false l)).push { cls:=.type "enumerate",data:=.fields #[.none,.bool false,.ref s.heap.objs.size,F5 1,.none,.none] }).get? (s.heap.push (Zp.itO false l)).objs.size=some _:=Ce _ rfl;rw[J]at e;show _/\_;rw[J];exact⟨⟨_,e,rfl⟩,q _ e (Zp.at_new (hD _ (Ce _ rfl))) λb o x=>hD _ (hD _ x)⟩
end
end En
section
variable {X:Cx}
noncomputable def wo (K:Frag) (ta:TA):TI:=λσ H R=>ta σ H λvs H1=>∃ a xs,vs=[.ref a]/\SqV K false H1 a xs/\R (Ite K false a 1) H1
theorem rN {cx}{kp np:Pos}{j:Nat}{a:Expr}(J:Gl X "enumerate")(hm:X.mg "enumerate" = none)(L:PA X [a] ta)(hs:Cm [a] X.env=[(false,eval a X.env)]) :
 PI X (.Tuple elts cx pos) (.Call (.Name "enumerate" p) [a] [⟨some "start",.Constant (.int 1) j np,kp⟩] pos') (wo X.K ta):=by
 intro pins s σ H R I h;refine E9 (cO I J hm (u:=.type "enumerate") boot_enumerate ?_ (by decide) (by decide))
 refine En.callWith_type_kw (thn (L pos' pins s σ H _ I h) λus s1 g9=>?_) (by rw[hs];rfl) (by rw[hs];rfl) rfl rfl;obtain⟨vs,H1,z,O,U⟩:=g9
 obtain⟨a',xs,rfl,qx,q⟩:=U
 cases O with
 | cons r rr =>
   cases rr
   cases r
   obtain⟨is,rx,px⟩:=z.sqv qx;refine kws_cons (Hu (kws_nil ?_));refine En.call_enumS px λh1 B Y Z=>?_;refine FP B ?_;refine⟨_,_,_,_,H1,rfl,z.kept (t':=_) Z,i4 (t:=false) (a:=a') (oo:=1) (by simp),⟨⟨_,B⟩,Y⟩,λc F=>?_,q⟩
   have hle:s1.heap.objs.size<=c:=by
    simp only[Cb,Ck,or_false]at F
    rcases F with rfl|rfl <;> lia
   exact z.fpOk hle (z.hok.fresh hle)
end
namespace Mi
variable {K:Frag}{ta:TEd}
section
section
variable {X:Cx}
inductive SM where|split|part|starts
noncomputable def jJ:SM->D->List D->Mem->QD->Prop
 |.split=>λx ds M Q=>∃ x0 y0:Str,x = .str x0/\ds=[.str y0]/\(y0.length==0)=false/\x0.length+2<=tv /\ ∀ q,M q=none->Q (.ref q) (ae M q (.lst ((D3 x0 y0).map .str)))
 |.part=>λx ds M Q=>∃ x0 y0:Str,x = .str x0/\ds=[.str y0]/\(y0.length==0)=false/\x0.length<=tv/\Q (.tup ((bJ x0 y0).map .str)) M
 |.starts=>λx ds M Q=>∃ x0 y0:Str,x = .str x0/\ds=[.str y0]/\Q (.bl (Es x0 y0)) M
noncomputable def wq:SM->V->List V->Hp->VK->Prop
 |.split=>pw|.part=>sQ|.starts=>kY
theorem iq:∀ o,dC (jJ o)
 |.split=>λ_ _ _ _ _ h j=>(by obtain⟨x0,z,B,F,J,L,q⟩:=j;exact⟨x0,z,B,F,J,L,λp n=>h _ _ (q p n)⟩)
 |.part=>λ_ _ _ _ _ h j=>(by obtain⟨x0,z,B,F,J,L,q⟩:=j;exact⟨x0,z,B,F,J,L,h _ _ q⟩)
 |.starts=>λ_ _ _ _ _ h j=>(by obtain⟨x0,z,B,F,q⟩:=j;exact⟨x0,z,B,F,h _ _ q⟩)
noncomputable def wSM (rd:D->List D->Mem->QD->Prop) (to te:TEd):TEd:=λρ M Q=>to ρ M λx M1=>(∃ x0,x = .str x0)/\te ρ M1 λy M2=>rd x [y] M2 Q
theorem uC {rd:D->List D->Mem->QD->Prop}{to te:TEd}(j:dC rd)(mo:aa to)(me:aa te):aa (wSM rd to te):=λρ M Q Q' i q =>
 mo _ _ _ _ (λx J z=>(by obtain⟨e,B⟩:=z;exact⟨e,me _ _ _ _ (λy M2 F=>j _ _ _ _ _ i F) B⟩)) q
theorem JD {K:Frag}{H:Hp}:∀ (ys:List Str),RDs K H (ys.map .str) (ys.map .str)
 |[]=>RDs.nil
 |y::ys=>RDs.cons (Jr.mpr rfl) (JD ys)
theorem zm (o:SM)(x y:D)(v u:V)(M:Mem)(H:Hp)(Q:VK)(rm:RM K M H)(rx:RD K H x v)(ry:RD K H y u)(h:jJ o x [y] M (KE' K M H Q)):wq o v [u] H Q:=by
 cases o with
 | split =>
   obtain⟨x0,j,rfl,e,z,B,q⟩:=h
   cases e
   cases Jr.mp rx
   cases Jr.mp ry
   exact⟨x0,j,rfl,rfl,z,B,λp n=>bP rm (JD _) q n⟩
 | part =>
   obtain⟨x0,j,rfl,e,z,B,q⟩:=h
   cases e
   cases Jr.mp rx
   cases Jr.mp ry
   exact⟨x0,j,rfl,rfl,z,B,λp n=>cb rm (JD _) q n⟩
 | starts =>
   obtain⟨x0,j,rfl,e,q⟩:=h
   cases e
   cases Jr.mp rx
   cases Jr.mp ry
   exact⟨x0,j,rfl,rfl,q _ H Ext.refl rm (Jt.mpr rfl)⟩
theorem gW (o:SM){to te:TEd}(mo:aa to)(me:aa te)(σ:St)(H:Hp)(Q:VK)(h:lE K (wSM (jJ o) to te) σ H Q):tBM K "str" (wq o) (lE K to) (lA K (aH te bh)) σ H Q:=by
 obtain⟨ρ,M,rs,rm,q⟩:=h;refine⟨ρ,M,rs,rm,mo _ _ _ _ (λx J g9 v H1 F j rd1=>?_) q⟩;obtain⟨⟨x0,e⟩,L⟩:=g9;subst e
 cases Jr.mp rd1
 refine⟨rfl,ρ,J,rs.mono (F.stab rm),j,me _ _ _ _ (λy M2 O vs H2 U z B=>?_) L⟩;obtain⟨v,rfl,r⟩:=B.one;exact zm o _ _ _ _ _ _ _ z (Jr.mpr rfl) r (iq o _ _ _ _ _ (λd M' k=>k.ext (F.trans U)) O)
noncomputable def mW:R2d:=λx y M Q=>∃ (x0:Str) (i:Int) (c:Nat),x = .str x0/\y = .int i/\x0.length<=tv/\atI x0.cps.toList i=some c/\Q (.str ⟨#[c]⟩) M
theorem jK:am mW:=λ_ _ _ _ _ h j=>(by obtain⟨x0,i,c,z,B,F,J,q⟩:=j;exact⟨x0,i,c,z,B,F,J,h _ _ q⟩)
theorem y8:IxR X (l2 X.K mW):=by
 refine IxR.of vE λv u H Q h=>?_;obtain⟨x,y,M,rm,rx,ry,x0,i,c,rfl,rfl,j,e,q⟩:=h
 cases Jr.mp rx
 cases Jq.mp ry
 exact⟨x0,i,c,rfl,rfl,j,e,q _ H Ext.refl rm (Jr.mpr rfl)⟩
noncomputable def mX (te:TEd) (tl:TOd):TEd:=λρ M Q=>te ρ M λx M1=>tl ρ M1 λl M2=>∃ (x0:Str) (i:Int),x = .str x0/\l=some i/\x0.length<=tv/\Q (.str (IB x0 (some i) none)) M2
theorem rO {tl:TOd}(m:aa ta)(ml:bW tl):aa (mX ta tl):=λρ M Q Q' i q =>
 m _ _ _ _ (λx U z=>ml _ _ _ _ (λl M2 B=>(by obtain⟨x0,j,F,J,L,O⟩:=B;exact⟨x0,j,F,J,L,i _ _ O⟩)) z) q
theorem wt {e:Expr}{lo:Option Expr}{tl:TOd}{p2 pos:Pos}(m:aa ta)(ml:bW tl)(he:PE X e (lE X.K ta))(L:PO X lo (lO X.K tl)) :
 PE X (.Subscript e (.Slice lo none none p2) pos) (lE X.K (mX ta tl)):=by
 refine PE.imp (j9 wm he L kI) λσ H Q h=>?_;obtain⟨ρ,M,rs,rm,q⟩:=h;refine⟨ρ,M,rs,rm,m _ _ _ _ (λx O U v H1 J j z=>?_) q⟩;refine⟨ρ,O,rs.mono (J.stab rm),j,ml _ _ _ _ (λl M2 B H2 Y F=>?_) U⟩;obtain⟨x0,i,rfl,rfl,Z,B⟩:=B
 cases Jr.mp z
 exact⟨x0,i,rfl,rfl,rfl,Z,B _ H2 (J.trans Y) F (Jr.mpr rfl)⟩
noncomputable def iW:RAd:=λxs M Q=>∃ (x:Str) (n:Int),xs=[.str x]/\GO x=some n/\x.length<=640/\Q (.int n) M
theorem ir:aJ iW:=λ_ _ _ _ h j=>(by obtain⟨x,n,e,z,B,q⟩:=j;exact⟨x,n,e,z,B,h _ _ q⟩)
theorem kB:CallR X (.type "int") (lR X.K iW):=by
 refine CallR.of pA λvs H Q h=>?_;obtain⟨ds,M,rm,rs,x,n,rfl,e,j,q⟩:=h;obtain⟨v,rfl,r⟩:=rs.one
 cases Jr.mp r
 exact⟨x,n,rfl,e,j,q _ H Ext.refl rm (Jq.mpr rfl)⟩
noncomputable def iX:RAd:=λxs M Q=>∃ (x:Str),xs=[.str x]/\x.length<=tv/\Q (.int (x.length:Nat)) M
theorem iu:aJ iX:=λ_ _ _ _ h j=>(by obtain⟨x,e,z,q⟩:=j;exact⟨x,e,z,h _ _ q⟩)
theorem kC:CallR X (.builtin "len") (lR X.K iX):=by
 refine CallR.of j7 λvs H Q h=>?_;obtain⟨ds,M,rm,rs,x,rfl,j,q⟩:=h;obtain⟨v,rfl,r⟩:=rs.one
 cases Jr.mp r
 exact⟨.str x,_,rfl,⟨j,rfl⟩,q _ H Ext.refl rm (Jq.mpr rfl)⟩
noncomputable def gj:R2d:=λx y M Q=>∃ x0 y0:Str,x = .str y0/\y = .str x0/\Q (.bl (Txt.contains x0 y0)) M
theorem mY:am gj:=λ_ _ _ _ _ h j=>(by obtain⟨x0,z,B,F,q⟩:=j;exact⟨x0,z,B,F,h _ _ q⟩)
theorem mZ:OpR X (CA .In) (l2 X.K gj):=by
 refine OpR.of nU λv u H Q h=>?_;obtain⟨x,y,M,rm,rx,ry,x0,j,rfl,rfl,q⟩:=h
 cases Jr.mp rx
 cases Jr.mp ry
 exact⟨j,x0,rfl,rfl,q _ H Ext.refl rm (Jt.mpr rfl)⟩
noncomputable def pC:D->Bool
 |.non=>true
 |.tup _=>true
 |_=>false
noncomputable def n6:D->Bool
 |.non=>true
 |_=>false
noncomputable def gk:R2d:=λx y M Q=>∃ (a:Addr) (ds:List D),x = .non/\y = .ref a/\M a=some (.lst ds)/\ds.all pC=true/\Q (.bl (ds.any n6)) M
theorem n8:am gk:=λ_ _ _ _ _ h j=>(by obtain⟨a,ds,z,B,F,J,q⟩:=j;exact⟨a,ds,z,B,F,J,h _ _ q⟩)
theorem kZ {K:Frag}{H:Hp}:∀ {ds:List D} {vs:List V} {us:List h6},RDs K H ds vs->Vals vs us->ds.all pC=true->us.any (λu=>u == .none)=ds.any n6
 |[],_,_,h,q,_=>by rw[RDs.nil_iff.mp h]at q;cases q;rfl
 | d::ds,_,_,h,q,a=>by
   obtain⟨v,r,rfl,h1,h2⟩:=Ju.mp h;rw[EG,h8]at a
   cases q with
   | cons j z =>
     rw[DX,DX,kZ h2 z a.2];congr 1
     cases d with
     |non=>cases Jv.mp h1;cases j;rfl
     |tup es=>obtain⟨b,us,rfl,_⟩:=Jw h1;cases j;rfl
     |_=>cases a.1
theorem y9 {A:CK}{s:hQ}:SeqAt.EqAt A s .none .none true:=by
 intro prog w E Q h;unfold eqBool;refine D4 ?_;refine wpAny_ite_true rfl ?_;exact gV (E8 (y1 h))
theorem n9 (F:X.A.units+1<GF):OpR X (CA .In) (l2 X.K gk):=by
 intro pins s σ H v w u t Q I ru rt h;obtain⟨x,y,M,rm,rx,ry,a,ds,rfl,rfl,e,ok,q⟩:=h
 cases Jv.mp rx
 cases Js.mp ry
 cases ru
 cases rt
 obtain⟨vs,J,rs⟩:=rm _ _ e;obtain⟨its,r,pl,U⟩:=I.list (SqL.of J);refine SeqAt.in_listAt (λu=>u == .none) pl.isList (λw hw=>?_) ⟨.bl _,H,I,rfl,?_⟩
 ·have z:w∈its:=by simpa using hw
  obtain⟨i,hi,rfl⟩:=List.getElem_of_mem z;have Y:=r.length;have B:vs[i]? = some (vs[i]'(by lia)):=Cf (by lia)
  obtain⟨u,j,rv⟩:=r.get B;rw[Cf hi]at j;cases j;generalize vs[i]'(by lia)=v at B rv
  obtain⟨d,hd,rd⟩:=rs.getV B;have hok:=Dm.mp ok d (CI hd)
  cases d with
  |non=>cases Jv.mp rd;rw[show its[i] = .none from rv];exact y9
  | tup es =>
    obtain⟨b,us,rfl,L,_⟩:=Jw rd;rw[show its[i] = .ref b from rv];obtain⟨is,Z,p2,_⟩:=I.tuple L;exact SeqAt.EqAt.tuple_none p2 F
  |_=>cases hok
 ·have O:=kZ rs r ok;rw[show its.toArray.any (λu=>u == .none)=its.any (λu=>u == .none) by simp,O]
  exact q _ H Ext.refl rm (Jt.mpr rfl)
noncomputable def ef (x:Str):List D:=x.cps.toList.map λc=>.str ⟨#[c]⟩
noncomputable def gm (ta:TEd):TId:=λρ M R=>ta ρ M λx M1=>∃ x0,x = .str x0/\R (ef x0) (λ_=>True) M1
theorem nc (h:aa ta):bA (gm ta):=λρ M Q Q' i q=>h _ _ _ _ (λx B j=>(by obtain⟨x0,e,z⟩:=j;exact⟨x0,e,i _ _ _ z⟩)) q
theorem wu {H1:Hp}{x:Str}:dD K H1 (ef x) (λ_=>True) (Its x):=λM H st rm c i=>by
 have l:(ef x).length=x.cps.size:=by simp[ef]
 refine⟨λhi=>by show _<=_;lia,λhi=>⟨by show _<_;lia,λv H' j=>?_⟩⟩
 obtain⟨rfl,c,z,rfl⟩:=j;exact⟨.inl rfl,.str ⟨#[c]⟩,by simp[ef,z],Jr.mpr rfl⟩
theorem rP {tg l:Expr}(m:aa ta)(B:PE X l (lE X.K ta)):PI X tg l (lI X.K (gm ta)):=by
 refine PI.imp (rM B) λσ H R h=>?_;obtain⟨ρ,M,rs,rm,q⟩:=h;refine⟨ρ,M,rs,rm,m _ _ _ _ (λx L g9 v H1 J j z=>?_) q⟩;obtain⟨x0,e,F⟩:=g9;subst e;exact⟨x0,Jr.mp z,F _ H1 J j wu⟩
noncomputable def cS (xs:List D):List D:=xs.mapIdx λi x=>.tup [.int ((i:Nat)+1),x]
noncomputable def gn (ta:TEd):TId:=λρ M R=>ta ρ M λx M1=>∃ a xs,x = .ref a/\M1 a=some (.lst xs)/\R (cS xs) (λM=>aE M (.ref a)=some xs) M1
theorem ng (h:aa ta):bA (gn ta):=λρ M Q Q' i q=>h _ _ _ _ (λx F j=>(by obtain⟨a,ds,e,z,B⟩:=j;exact⟨a,ds,e,z,i _ _ _ B⟩)) q
theorem uD {H1:Hp}{xs:List D}{a:Addr}:dD K H1 (cS xs) (λM=>aE M (.ref a)=some xs) (Ite K false a 1):=λM H st rm c i=>by
 obtain⟨O,vs,J,j,F⟩:=cR rm (Js.mpr rfl) c
 cases J
 have l1:=F.length;have lz:(cS xs).length=xs.length:=by simp[cS]
 refine⟨λhi=>⟨vs,j,by lia⟩,λhi=>⟨⟨vs,vs[i]'(by lia),j,Cf (by lia)⟩,λv H' L=>?_⟩⟩
 obtain⟨p,v1,n,rfl,rfl,g⟩:=L;obtain⟨d1,z,B⟩:=F.getV (g vs j);have sb:=fo (o:=.tup [.int ((i:Nat)+1),v1]) n;refine⟨.inr ⟨p,[.int ((i:Nat)+1),v1],n,rfl⟩,.tup [.int ((i:Nat)+1),d1],?_,JA ⟨p,[.int ((i:Nat)+1),v1],rfl,aM,RDs.cons (Jq.mpr rfl) (RDs.cons (B.mono sb) RDs.nil)⟩⟩;simp[cS,Er,z]
theorem rQ {elts:List Expr}{cx}{pos p pos' kp np:Pos}{j:Nat}{a:Expr}(ma:aa ta)(B:Gl X "enumerate")(hm:X.mg "enumerate" = none)(F:PA X [a] (lA X.K (aH ta bh)))(hs:Cm [a] X.env=[(false,eval a X.env)]) :
 PI X (.Tuple elts cx pos) (.Call (.Name "enumerate" p) [a] [⟨some "start",.Constant (.int 1) j np,kp⟩] pos') (lI X.K (gn ta)):=by
 refine PI.imp (rN B hm F hs) λσ H R h=>?_;obtain⟨ρ,M,rs,rm,q⟩:=h;refine⟨ρ,M,rs,rm,ma _ _ _ _ (λx Z g9 vs H1 O z rd1=>?_) q⟩;obtain⟨a,xs,e,J,L⟩:=g9;subst e;obtain⟨v,rfl,U⟩:=rd1.one
 cases Js.mp U
 obtain⟨us,Y,ru⟩:=z _ _ J;exact⟨a,us,rfl,SqL.of Y,L _ H1 O z uD⟩
end
end
end Mi
namespace Mi
open L2.Srt
end Mi
namespace Mi
end Mi
namespace Mi
end Mi
namespace Mi
variable {K:Frag}
section
mutual
noncomputable def GV (K:Frag):D->h6->Prop
 |.int i,v=>∃ t,v = .int i t
 |.str x,v=>∃ t,v = .str x t
 |.tup ds,v=>∃ a o its n,v = .ref a/\K.lookup a=some o/\o.cls = .type "tuple" /\ o.data = .seq its n/\its.size<=tv/\fk ds=false/\GVs K ds its.toList
 |_,_=>False
noncomputable def GVs (K:Frag):List D->List h6->Prop
 |[],us=>us=[]
 |d::ds,us=>∃ u r,us=u::r/\GV K d u/\GVs K ds r
end
theorem GV.ints {i:Int}{t}:GV K (.int i) (.int i t):=by unfold GV;exact⟨t,rfl⟩
theorem GV.strs {i:Str}{t}:GV K (.str i) (.str i t):=by unfold GV;exact⟨t,rfl⟩
theorem GV.tups {ds:List D}{a:Addr}{od sl}{its:Array h6}{n:Nat}(h:K.lookup a=some ⟨.type "tuple",od,.seq its n,sl⟩)(j:its.size<=1000)(f:fk ds=false)(r:GVs K ds its.toList):GV K (.tup ds) (.ref a):=by
 unfold GV;exact⟨a,_,its,n,rfl,h,rfl,rfl,by rw[s9];lia,f,r⟩
theorem GVs.nil:GVs K [] []:=by unfold GVs;rfl
theorem GVs.cons {K:Frag}{d:D}{ds:List D}{u:h6}{us:List h6}(h:GV K d u)(r:GVs K ds us):GVs K (d::ds) (u::us):=by unfold GVs;exact⟨u,us,rfl,h,r⟩
mutual
theorem sR {K:Frag}:∀ {d:D} {u:h6},GV K d u -> ∃ v,RelV v u /\ ∀ H,RD K H d v
 |.int i,u,h=>by unfold GV at h;obtain⟨t,rfl⟩:=h;exact⟨.int i,⟨t,rfl⟩,λH=>Jq.mpr rfl⟩
 |.str i,u,h=>by unfold GV at h;obtain⟨t,rfl⟩:=h;exact⟨.str i,⟨t,rfl⟩,λH=>Jr.mpr rfl⟩
 |.tup ds,u,h=>by
  unfold GV at h;obtain⟨a,o,its,n,rfl,h1,h2,j,z,B,F⟩:=h;obtain⟨vs,g1,g2⟩:=gvs_rd F;exact⟨.ref a,rfl,λH=>Jz.mpr ⟨a,vs,rfl,.inr ⟨B,.inr ⟨o,its,n,h1,h2,j,z,g1⟩⟩,g2 H⟩⟩
 |.non,u,h=>by unfold GV at h;exact h.elim
 |.bl _,u,h=>by unfold GV at h;exact h.elim
 |.con _,u,h=>by unfold GV at h;exact h.elim
 |.ref _,u,h=>by unfold GV at h;exact h.elim
 |.fn _,u,h=>by unfold GV at h;exact h.elim
theorem gvs_rd {K:Frag}:∀ {ds:List D} {us:List h6},GVs K ds us -> ∃ vs,Vals vs us /\ ∀ H,RDs K H ds vs
 |[],us,h=>by unfold GVs at h;subst h;exact⟨[],.nil,λH=>RDs.nil⟩
 | d::ds,us,h=>by
   unfold GVs at h;obtain⟨u,r,rfl,h1,h2⟩:=h;obtain⟨v,g1,g2⟩:=sR h1;obtain⟨vs,g3,j⟩:=gvs_rd h2;exact⟨v::vs,.cons g1 g3,λH=>RDs.cons (g2 H) (j H)⟩
end
end
end Mi
namespace Mi
end Mi
namespace Mi
section
inductive BOp where|add|sub|mul|fdiv|mod|pow|ext
inductive COp where|eq|ne|lt|le|gt|ge|is|isn|inStr|inNon
inductive BF where|len|abs|max2|min2|int|list|tuple|all|any|str|intS|lenS
inductive MF where|append|extend
set_option genCtorIdx false
set_option genInjectivity false
mutual
inductive MG where
 |name (i:Nat)
 |tup (gs:MGs)
inductive MGs where
 |nil
 |cons (g:MG) (r:MGs)
end
mutual
inductive ME where
 |var (i:Nat)
 |int (i:Int)
 |bl (b:Bool)
 |non
 |str (x:Str)
 |bin (op:BOp) (a b:ME)
 |neg (a:ME)
 |cmp (op:COp) (a b:ME)
 |and (es:MEs)
 |or (es:MEs)
 |not (a:ME)
 |ite (c:MT) (a b:ME)
 |tup (es:MEs)
 |lst (es:MEs)
 |ix (a b:ME)
 |sl (a:ME) (lo hi:MO)
 |call (f:Nat) (es:MEs)
 |blt (f:BF) (es:MEs)
 |isin (a:ME) (T:String)
 |chain (op op':COp) (a b c:ME)
 |glob (x:Str) (d:D)
 |meth (m:MF) (o a:ME)
 |comp (fr:List (Option Nat)) (N:List Str) (c:MC)
 |fstr (es:MEs)
 |fmt (a:ME)
 |join (o a:ME)
 |smeth (m:SM) (o a:ME)
 |ixS (a b:ME)
 |slS (a:ME) (lo:MO)
 |revS (a st:ME)
 |orL (a b:ME)
inductive MEs where
 |nil
 |cons (e:ME) (r:MEs)
inductive MO where
 |none
 |some (e:ME)
inductive MT where
 |tru (e:ME)
 |cmp (op:COp) (a b:ME)
 |chain (op op':COp) (a b c:ME)
 |and (ts:MTs)
 |or (ts:MTs)
 |not (t:MT)
inductive MTs where
 |nil
 |cons (t:MT) (r:MTs)
inductive MI where
 |seq (e:ME)
 |rng1 (a:ME)
 |zip (a b:ME)
 |enum (a:ME)
 |enum1 (a:ME)
 |chars (a:ME)
inductive MC where
 |last (src:MI) (g:MG) (ifs:MTs) (elt:ME)
 |more (src:MI) (g:MG) (ifs:MTs) (rest:MC)
end
mutual
inductive MS where
 |asg (g:MG) (e:ME)
 |par (i j:Nat) (a b:ME)
 |put (o i e:ME)
 |aug (i:Nat) (op:BOp) (e:ME)
 |drop (e:ME)
 |ret (e:ME)
 |ite (c:MT) (a b:MSs)
 |for (g:MG) (src:MI) (b:MSs)
 |while (c:MT) (b:MSs)
 |bot
 |pass|brk|cnt
inductive MSs where
 |nil
 |cons (s:MS) (r:MSs)
end
set_option genCtorIdx true
set_option genInjectivity true
noncomputable def opB:BOp->R2d
 |.add=>dg|.sub=>jn|.mul=>dU|.fdiv=>fP|.mod=>jo|.pow=>jp|.ext=>dg
noncomputable def opC:COp->R2d
 |.eq=>wEq|.ne=>wNe|.lt=>wLt|.le=>wLe|.gt=>wGt|.ge=>wGe|.is=>wIs|.isn=>mL| .inStr=>gj|.inNon=>gk
noncomputable def opF:BF->RAd
 |.len=>dB| .intS=>iW|.lenS=>iX|.abs=>gP|.max2=>fQ|.min2=>fR|.int=>gQ|.list=>iG|.tuple=>fS| .all=>mM|.any=>mN| .str=>iS
noncomputable def opM:MF->D->List D->Mem->QD->Prop
 |.append=>eG|.extend=>eI
noncomputable def opI:BOp->R2d
 |.add=>ga|.sub=>gb|.mul=>gc|.ext=>iV|_=>λ_ _ _ _=>False
theorem jL:∀ o,am (opB o)
 |.add=>jq|.sub=>qF|.mul=>qG|.fdiv=>oD|.mod=>qH|.pow=>qI|.ext=>jq
theorem aY:∀ o,am (opC o)
 |.eq=>tO|.ne=>tP|.lt=>tS|.le=>tT|.gt=>tU|.ge=>tV|.is=>uj|.isn=>rB| .inStr=>mY|.inNon=>n8
theorem rR:∀ o,aJ (opF o)
 |.len=>jx| .intS=>ir|.lenS=>iu|.abs=>jy|.max2=>i5|.min2=>i6|.int=>jz|.list=>i7|.tuple=>fT| .all=>jE|.any=>jF| .str=>im
theorem rS:∀ o,dC (opM o)
 |.append=>eT|.extend=>eU
theorem rT:∀ o,am (opI o)
 |.add=>ii|.sub=>ij|.mul=>ik|.ext=>io
 |.fdiv=>λ_ _ _ _ _ _ q=>q.elim|.mod=>λ_ _ _ _ _ _ q=>q.elim|.pow=>λ_ _ _ _ _ _ q=>q.elim
noncomputable abbrev Phi:=Nat->RAd
mutual
noncomputable def bG:MG->BT
 |.name i=>bX i
 |.tup gs=>qV (bGs gs)
noncomputable def bGs:MGs->BTs
 |.nil=>fj
 |.cons g r=>bI (bG g) (bGs r)
end
mutual
noncomputable def wE (Φ:Phi):ME->TEd
 |.var i=>gM i
 |.int i=>wC (.int i)
 |.bl b=>wC (.bl b)
 |.non=>wC .non
 |.str x=>wC (.str x)
 |.bin op a b=>wOp (opB op) (wE Φ a) (wE Φ b)
 |.neg a=>wUn jt (wE Φ a)
 |.cmp op a b=>wOp (opC op) (wE Φ a) (wE Φ b)
 |.and es=>wAnds Φ es
 |.or es=>wOrs Φ es
 |.not a=>iK (wE Φ a)
 |.ite c a b=>wIf (wT Φ c) (wE Φ a) (wE Φ b)
 |.tup es=>wAr m9 (wA Φ es)
 |.lst es=>wAr md (wA Φ es)
 |.ix a b=>wOp wIx (wE Φ a) (wE Φ b)
 |.sl a lo hi=>wSl (wE Φ a) (wO Φ lo) (wO Φ hi)
 |.call f es=>wAr (Φ f) (wA Φ es)
 |.blt f es=>wAr (opF f) (wA Φ es)
 |.isin a T=>iL T (wE Φ a)
 |.chain op op' a b c=>cm (opC op) (opC op') (wE Φ a) (wE Φ b) (wE Φ c)
 |.glob _ d=>wC d
 |.meth m o a=>wBM (opM m) (wE Φ o) (aH (wE Φ a) bh)
 |.comp fr _ c=>wCmp Φ fr c
 |.fstr es=>wFs Φ es E2
 |.fmt a=>mR (wE Φ a)
 |.join o a=>iT (wE Φ o) (wE Φ a)
 |.smeth m o a=>wSM (jJ m) (wE Φ o) (wE Φ a)
 |.ixS a b=>wOp mW (wE Φ a) (wE Φ b)
 |.slS a lo=>mX (wE Φ a) (wO Φ lo)
 |.revS a st=>iU (wE Φ a) (eF (wE Φ st))
 |.orL a b=>mV (wE Φ a) (wE Φ b)
noncomputable def wA (Φ:Phi):MEs->TAd
 |.nil=>bh
 |.cons e r=>aH (wE Φ e) (wA Φ r)
noncomputable def wFs (Φ:Phi):MEs->Str->TEd
 |.nil=>iQ
 |.cons e r=>iR (wE Φ e) (wFs Φ r)
noncomputable def wAnds (Φ:Phi):MEs->TEd
 |.nil=>λ_ _ _=>False
 |.cons e .nil=>wE Φ e
 |.cons e (.cons f r)=>iJ (wE Φ e) (wAnds Φ (.cons f r))
noncomputable def wOrs (Φ:Phi):MEs->TEd
 |.nil=>λ_ _ _=>False
 |.cons e .nil=>wE Φ e
 |.cons e (.cons f r)=>mv (wE Φ e) (wOrs Φ (.cons f r))
noncomputable def wO (Φ:Phi):MO->TOd
 |.none=>eE
 |.some e=>eF (wE Φ e)
noncomputable def wT (Φ:Phi):MT->TTd
 |.tru e=>mn (wE Φ e)
 |.cmp op a b=>dA (wOp (opC op) (wE Φ a) (wE Φ b))
 |.chain op op' a b c=>dA (cm (opC op) (opC op') (wE Φ a) (wE Φ b) (wE Φ c))
 |.and ts=>wAndTs Φ ts
 |.or ts=>wOrTs Φ ts
 |.not t=>iH (wT Φ t)
noncomputable def wAndTs (Φ:Phi):MTs->TTd
 |.nil=>λ_ _ _=>False
 |.cons e .nil=>wT Φ e
 |.cons e (.cons f r)=>iI (wT Φ e) (wAndTs Φ (.cons f r))
noncomputable def wOrTs (Φ:Phi):MTs->TTd
 |.nil=>λ_ _ _=>False
 |.cons e .nil=>wT Φ e
 |.cons e (.cons f r)=>mq (wT Φ e) (wOrTs Φ (.cons f r))
noncomputable def wTl (Φ:Phi):MTs->List TTd
 |.nil=>[]
 |.cons t r=>wT Φ t::wTl Φ r
noncomputable def wI (Φ:Phi):MI->TId
 |.seq e=>mx (wE Φ e)
 |.rng1 a=>iM (aH (wE Φ a) bh)
 |.zip a b=>gS (wE Φ a) (wE Φ b)
 |.enum a=>iN (wE Φ a)
 |.enum1 a=>gn (wE Φ a)
 |.chars a=>gm (wE Φ a)
noncomputable def wCl (Φ:Phi):MC->TCd
 |.last src g ifs elt=>cI (wI Φ src) (bG g) (ba (wTl Φ ifs) (cZ (wE Φ elt)))
 |.more src g ifs rest=>cI (wI Φ src) (bG g) (ba (wTl Φ ifs) (wCl Φ rest))
noncomputable def wCmp (Φ:Phi) (fr:List (Option Nat)):MC->TEd
 |.last src g ifs elt=>eK fr (wI Φ src) (bG g) (ba (wTl Φ ifs) (cZ (wE Φ elt)))
 |.more src g ifs rest=>eK fr (wI Φ src) (bG g) (ba (wTl Φ ifs) (wCl Φ rest))
end
mutual
noncomputable def wS (Φ:Phi):MS->TSd
 |.asg g e=>gT (wE Φ e) (bG g)
 |.par i j a b=>mz (aH (wE Φ a) (aH (wE Φ b) bh)) (bI (bX i) (bI (bX j) fj))
 |.put o i e=>mJ (wE Φ e) (wE Φ o) (wE Φ i)
 |.aug i op e=>mK i (opI op) (wE Φ e)
 |.drop e=>iP (wE Φ e)
 |.ret e=>my (wE Φ e)
 |.ite c a b=>sIf (wT Φ c) (wSs Φ a) (wSs Φ b)
 |.for g src b=>mC (wI Φ src) (bG g) (wSs Φ b)
 |.while c b=>fY (wT Φ c) (wSs Φ b)
 |.bot=>λ_ _ _=>False
 |.pass=>fW
 |.brk=>fX
 |.cnt=>iO
noncomputable def wSs (Φ:Phi):MSs->TSd
 |.nil=>fW
 |.cons s r=>qZ (wS Φ s) (wSs Φ r)
end
section
variable {Φ:Phi} (hΦ:∀ f,aJ (Φ f))
include hΦ
mutual
theorem mE:∀ m,aa (wE Φ m)
 |.var _=>qE
 |.int _=>dS
 |.bl _=>dS
 |.non=>dS
 |.str _=>dS
 |.bin op a b=>cG (jL op) (mE a) (mE b)
 |.neg a=>tL ju (mE a)
 |.cmp op a b=>cG (aY op) (mE a) (mE b)
 |.and es=>mAnds es
 |.or es=>mOrs es
 |.not a=>oK (mE a)
 |.ite c a b=>u6 (mT c) (mE a) (mE b)
 |.tup es=>eC oA (mA es)
 |.lst es=>eC oB (mA es)
 |.ix a b=>cG kR (mE a) (mE b)
 |.sl a lo hi=>u8 (mE a) (mO lo) (mO hi)
 |.call f es=>eC (hΦ f) (mA es)
 |.blt f es=>eC (rR f) (mA es)
 |.isin a T=>oO (mE a)
 |.chain op op' a b c=>dF (aY op) (aY op') (mE a) (mE b) (mE c)
 |.glob _ _=>dS
 |.meth m o a=>uc (rS m) (mE o) (ax (mE a) av)
 |.comp fr _ c=>mCmp fr c
 |.fstr es=>mFs es _
 |.fmt a=>rJ (mE a)
 |.join o a=>ph (mE o) (mE a)
 |.smeth m o a=>uC (iq m) (mE o) (mE a)
 |.ixS a b=>cG jK (mE a) (mE b)
 |.slS a lo=>rO (mE a) (mO lo)
 |.revS a st=>pj (mE a) (dW (mE st))
 |.orL a b=>rK (mE a) (mE b)
theorem mA:∀ m,bg (wA Φ m)
 |.nil=>av
 |.cons e r=>ax (mE e) (mA r)
theorem mFs:∀ m acc,aa (wFs Φ m acc)
 |.nil,_=>pd
 |.cons e r,_=>pf (mE e) (mFs r)
theorem mAnds:∀ m,aa (wAnds Φ m)
 |.nil=>λ_ _ _ _ _ q=>q.elim
 |.cons e .nil=>mE e
 |.cons e (.cons f r)=>oJ (mE e) (mAnds (.cons f r))
theorem mOrs:∀ m,aa (wOrs Φ m)
 |.nil=>λ_ _ _ _ _ q=>q.elim
 |.cons e .nil=>mE e
 |.cons e (.cons f r)=>qS (mE e) (mOrs (.cons f r))
theorem mO:∀ m,bW (wO Φ m)
 |.none=>kz
 |.some e=>dW (mE e)
theorem mT:∀ m,ay (wT Φ m)
 |.tru e=>qQ (mE e)
 |.cmp op a b=>jj (cG (aY op) (mE a) (mE b))
 |.chain op op' a b c=>jj (dF (aY op) (aY op') (mE a) (mE b) (mE c))
 |.and ts=>mAndTs ts
 |.or ts=>mOrTs ts
 |.not t=>oH (mT t)
theorem mAndTs:∀ m,ay (wAndTs Φ m)
 |.nil=>λ_ _ _ _ _ q=>q.elim
 |.cons e .nil=>mT e
 |.cons e (.cons f r)=>oI (mT e) (mAndTs (.cons f r))
theorem mOrTs:∀ m,ay (wOrTs Φ m)
 |.nil=>λ_ _ _ _ _ q=>q.elim
 |.cons e .nil=>mT e
 |.cons e (.cons f r)=>qR (mT e) (mOrTs (.cons f r))
theorem mTl:∀ m,∀ t∈wTl Φ m,ay t
 |.nil=>by rw[wTl];intro t j;simp at j
 |.cons t r=>by
  rw[wTl];intro t' j
  rcases Cb.mp j with e|e
  ·rw[e];exact mT t
  ·exact mTl r t' e
theorem mI:∀ m,bA (wI Φ m)
 |.seq e=>qX (mE e)
 |.rng1 a=>oR (ax (mE a) av)
 |.zip a b=>qY (mE a) (mE b)
 |.enum a=>oS (mE a)
 |.enum1 a=>ng (mE a)
 |.chars a=>nc (mE a)
theorem mCl:∀ m,bB (wCl Φ m)
 |.last src g ifs elt=>eV (mI src) (aI (bo (mE elt)) (mTl ifs))
 |.more src g ifs rest=>eV (mI src) (aI (mCl rest) (mTl ifs))
theorem mCmp (fr:List (Option Nat)):∀ m,aa (wCmp Φ fr m)
 |.last src g ifs elt=>i8 (mI src) (aI (bo (mE elt)) (mTl ifs))
 |.more src g ifs rest=>i8 (mI src) (aI (mCl rest) (mTl ifs))
end
mutual
theorem mS:∀ m,aD (wS Φ m)
 |.asg g e=>r9 (mE hΦ e)
 |.par i j a b=>rf (ax (mE hΦ a) (ax (mE hΦ b) av))
 |.put o i e=>rp (mE hΦ e) (mE hΦ o) (mE hΦ i)
 |.aug i op e=>rA (rT op) (mE hΦ e)
 |.drop e=>oV (mE hΦ e)
 |.ret e=>r6 (mE hΦ e)
 |.ite c a b=>r8 (mT hΦ c) (mSs a) (mSs b)
 |.for g src b=>rg (mI hΦ src) (mSs b)
 |.while c b=>mF (mT hΦ c) (mSs b)
 |.bot=>λ_ _ _ _ _ q=>q
 |.pass=>ic
 |.brk=>mD
 |.cnt=>oT
theorem mSs:∀ m,aD (wSs Φ m)
 |.nil=>ic
 |.cons s r=>oU (mS s) (mSs r)
end
end
end
variable {e:Expr}{es:List Expr}{env:Env}{l:Nat}
section
structure Ctx where
 Γ:List Str
 N:List Str
 sc:Scope
 fn:List Str
 cs:List (Str×D)
 lm:Nat
 nm:Str
noncomputable def glB (sc:Scope) (x:Str):Bool:=sc.names.lookup x==some .globalImplicit
noncomputable def rV (sc:Scope) (x:Str):Bool:=sc.names.lookup x==some .local || sc.names.lookup x==some .cell || sc.names.lookup x==some .free
noncomputable def nh (sc:Scope) (x:Str):Bool:=sc.names.lookup x==some .local || sc.names.lookup x==some .cell
noncomputable def aS:Expr->Bool
 |.Starred ..=>false
 |_=>true
noncomputable def pD:Expr->Bool
 |.Name ..|.Call ..|.Subscript ..|.Constant ..|.BinOp ..|.Attribute ..=>true
 |_=>false
noncomputable def eL:Expr->Bool
 |.Slice ..=>false
 |_=>true
noncomputable def gp:Expr->Bool
 |.ListComp ..|.SetComp ..|.DictComp ..=>false
 |_=>true
noncomputable def iY:Expr->Bool
 |.Set ..=>false
 |_=>true
noncomputable def eM:Expr->Bool
 |.Call _ (_::_) _ _=>true
 |.Call ..=>false
 |_=>true
noncomputable def opO:BOp->EU
 |.add=>.Add|.sub=>.Sub|.mul=>.Mult|.fdiv=>.FloorDiv|.mod=>.Mod|.pow=>.Pow|.ext=>.Add
noncomputable def fq:COp->Hj
 |.eq=>.Eq|.ne=>.NotEq|.lt=>.Lt|.le=>.LtE|.gt=>.Gt|.ge=>.GtE|.is=>.Is|.isn=>.IsNot| .inStr=>.In|.inNon=>.In
noncomputable def jM:BF->Str
 |.len=>"len"| .intS=>"int"|.lenS=>"len"|.abs=>"abs"|.max2=>"max"|.min2=>"min"|.int=>"int"|.list=>"list"|.tuple=>"tuple"| .all=>"all"|.any=>"any"| .str=>"str"
noncomputable def wv:MF->Str
 |.append=>"append"|.extend=>"extend"
noncomputable def ww:SM->Str
 |.split=>"split"|.part=>"partition"|.starts=>"startswith"
noncomputable def bltNames:List Str:=["len","abs","max","min","int","list","tuple","sum","isinstance","range","bool","str","dict","zip","enumerate","reversed","sorted","all","any","set"]
noncomputable def fu (sc osc:Scope):Scope :=
 { sc with names:=sc.names.map λ(n,k)=>if (k == .free&&osc.kind == .function&&osc.names.lookup n==some .cell) then (n,.cell) else (n,k) }
theorem kD (sc:Scope)(env:Env):relabel sc env=fu sc env.scope:=rfl
noncomputable def rW (sc osc:Scope) (oN N':List Str) (fr:List (Option Nat)):Bool :=
 decide (sc.kind = .function)&&decide ((sc.names.map (·.1)).Nodup)&&decide (N'.Nodup)
  && sc.names.all (λx=>!(x.2 == .free) || osc.names.lookup x.1==some .cell || osc.names.lookup x.1==some .free)
  && decide (fr.length=N'.length)
  && (D6 N'.length).all λi=>match fr[i]?,N'[i]? with
   |some (some j),some x=>decide (oN[j]? = some x)&&sc.names.any (λy=>decide (y=(x,Cu)))
   |_,_=>true
theorem pk {p:Prop}[d:Decidable p]{t:p->Bool}(h:dite p t (λ_=>false)=true):∃ c,t c=true:=by
 cases d with
 |isTrue c=>exact⟨c,h⟩
 |isFalse c=>cases h
noncomputable def cj (e:Expr) (f:Str->Pos->Bool):Bool:=if h:e.ctorIdx=23 then @Jl.elim (λ_=>Bool) e h f else false
@[elab_as_elim]
theorem cC {P:Expr->Prop}(e:Expr){f:Str->Pos->Bool}(h:cj e f=true)(k:∀ a b,f a b=true->P (.Name a b)):P e :=
 (pk h).elim λc=>@Jl.elim (λe=>∀ c,@Jl.elim (λ_=>Bool) e c f=true->P e) e c (λa b _ h=>k a b h) c
noncomputable def bQ (e:Expr) (f:Const->Nat->Pos->Bool):Bool:=if h:e.ctorIdx=19 then @Ho.elim (λ_=>Bool) e h f else false
@[elab_as_elim]
theorem cn {P:Expr->Prop}(e:Expr){f:Const->Nat->Pos->Bool}(h:bQ e f=true)(k:∀ a b c,f a b c=true->P (.Constant a b c)):P e :=
 (pk h).elim λc=>@Ho.elim (λe=>∀ c,@Ho.elim (λ_=>Bool) e c f=true->P e) e c (λa b c _ h=>k a b c h) c
noncomputable def pE (e:Expr) (f:Expr->EU->Expr->Pos->Bool):Bool:=if h:e.ctorIdx=2 then @Je.elim (λ_=>Bool) e h f else false
@[elab_as_elim]
theorem wx {P:Expr->Prop}(e:Expr){f:Expr->EU->Expr->Pos->Bool}(h:pE e f=true)(k:∀ a b c d,f a b c d=true->P (.BinOp a b c d)):P e :=
 (pk h).elim λc=>@Je.elim (λe=>∀ c,@Je.elim (λ_=>Bool) e c f=true->P e) e c (λa b c d _ h=>k a b c d h) c
noncomputable def dG (e:Expr) (f:UnaryOp->Expr->Pos->Bool):Bool:=if h:e.ctorIdx=3 then @Ic.elim (λ_=>Bool) e h f else false
@[elab_as_elim]
theorem fv {P:Expr->Prop}(e:Expr){f:UnaryOp->Expr->Pos->Bool}(h:dG e f=true)(k:∀ a b c,f a b c=true->P (.UnaryOp a b c)):P e :=
 (pk h).elim λc=>@Ic.elim (λe=>∀ c,@Ic.elim (λ_=>Bool) e c f=true->P e) e c (λa b c _ h=>k a b c h) c
noncomputable def cT (e:Expr) (f:Expr->List Hj->List Expr->Pos->Bool):Bool:=if h:e.ctorIdx=15 then @Ie.elim (λ_=>Bool) e h f else false
@[elab_as_elim]
theorem dH {P:Expr->Prop}(e:Expr){f:Expr->List Hj->List Expr->Pos->Bool}(h:cT e f=true)(k:∀ a b c d,f a b c d=true->P (.Compare a b c d)):P e :=
 (pk h).elim λc=>@Ie.elim (λe=>∀ c,@Ie.elim (λ_=>Bool) e c f=true->P e) e c (λa b c d _ h=>k a b c d h) c
noncomputable def cJ (e:Expr) (f:BoolOp->List Expr->Pos->Bool):Bool:=if h:e.ctorIdx=0 then @IK.elim (λ_=>Bool) e h f else false
@[elab_as_elim]
theorem dl {P:Expr->Prop}(e:Expr){f:BoolOp->List Expr->Pos->Bool}(h:cJ e f=true)(k:∀ a b c,f a b c=true->P (.BoolOp a b c)):P e :=
 (pk h).elim λc=>@IK.elim (λe=>∀ c,@IK.elim (λ_=>Bool) e c f=true->P e) e c (λa b c _ h=>k a b c h) c
noncomputable def pF (e:Expr) (f:Expr->Expr->Expr->Pos->Bool):Bool:=if h:e.ctorIdx=5 then @Jf.elim (λ_=>Bool) e h f else false
@[elab_as_elim]
theorem wy {P:Expr->Prop}(e:Expr){f:Expr->Expr->Expr->Pos->Bool}(h:pF e f=true)(k:∀ a b c d,f a b c d=true->P (.IfExp a b c d)):P e :=
 (pk h).elim λc=>@Jf.elim (λe=>∀ c,@Jf.elim (λ_=>Bool) e c f=true->P e) e c (λa b c d _ h=>k a b c d h) c
noncomputable def cq (e:Expr) (f:List Expr->Nat->Pos->Bool):Bool:=if h:e.ctorIdx=25 then @Jg.elim (λ_=>Bool) e h f else false
@[elab_as_elim]
theorem cU {P:Expr->Prop}(e:Expr){f:List Expr->Nat->Pos->Bool}(h:cq e f=true)(k:∀ a b c,f a b c=true->P (.Tuple a b c)):P e :=
 (pk h).elim λc=>@Jg.elim (λe=>∀ c,@Jg.elim (λ_=>Bool) e c f=true->P e) e c (λa b c _ h=>k a b c h) c
noncomputable def sU (e:Expr) (f:List Expr->Pos->Bool):Bool:=if h:e.ctorIdx=24 then @Jm.elim (λ_=>Bool) e h f else false
@[elab_as_elim]
theorem ya {P:Expr->Prop}(e:Expr){f:List Expr->Pos->Bool}(h:sU e f=true)(k:∀ a b,f a b=true->P (.List a b)):P e :=
 (pk h).elim λc=>@Jm.elim (λe=>∀ c,@Jm.elim (λ_=>Bool) e c f=true->P e) e c (λa b _ h=>k a b h) c
noncomputable def bZ (e:Expr) (f:Expr->Expr->Pos->Bool):Bool:=if h:e.ctorIdx=21 then @GQ.elim (λ_=>Bool) e h f else false
@[elab_as_elim]
theorem cD {P:Expr->Prop}(e:Expr){f:Expr->Expr->Pos->Bool}(h:bZ e f=true)(k:∀ a b c,f a b c=true->P (.Subscript a b c)):P e :=
 (pk h).elim λc=>@GQ.elim (λe=>∀ c,@GQ.elim (λ_=>Bool) e c f=true->P e) e c (λa b c _ h=>k a b c h) c
noncomputable def iZ (e:Expr) (f:Expr->List Expr->List EJ->Pos->Bool):Bool:=if h:e.ctorIdx=16 then @Jn.elim (λ_=>Bool) e h f else false
@[elab_as_elim]
theorem ni {P:Expr->Prop}(e:Expr){f:Expr->List Expr->List EJ->Pos->Bool}(h:iZ e f=true)(k:∀ a b c d,f a b c d=true->P (.Call a b c d)):P e :=
 (pk h).elim λc=>@Jn.elim (λe=>∀ c,@Jn.elim (λ_=>Bool) e c f=true->P e) e c (λa b c d _ h=>k a b c d h) c
noncomputable def gq (e:Expr) (f:Expr->Str->Pos->Bool):Bool:=if h:e.ctorIdx=20 then @GR.elim (λ_=>Bool) e h f else false
@[elab_as_elim]
theorem nj {P:Expr->Prop}(e:Expr){f:Expr->Str->Pos->Bool}(h:gq e f=true)(k:∀ a b c,f a b c=true->P (.Attribute a b c)):P e :=
 (pk h).elim λc=>@GR.elim (λe=>∀ c,@GR.elim (λ_=>Bool) e c f=true->P e) e c (λa b c _ h=>k a b c h) c
noncomputable def pG (e:Expr) (f:Option Expr->Option Expr->Option Expr->Pos->Bool):Bool:=if h:e.ctorIdx=26 then @Jh.elim (λ_=>Bool) e h f else false
@[elab_as_elim]
theorem wz {P:Expr->Prop}(e:Expr){f:Option Expr->Option Expr->Option Expr->Pos->Bool}(h:pG e f=true)(k:∀ a b c d,f a b c d=true->P (.Slice a b c d)):P e :=
 (pk h).elim λc=>@Jh.elim (λe=>∀ c,@Jh.elim (λ_=>Bool) e c f=true->P e) e c (λa b c d _ h=>k a b c d h) c
noncomputable def iw (e:Expr) (f:Expr->List CF->Scope->Pos->Bool):Bool:=if h:e.ctorIdx=8 then @Hq.elim (λ_=>Bool) e h f else false
@[elab_as_elim]
theorem pH {P:Expr->Prop}(e:Expr){f:Expr->List CF->Scope->Pos->Bool}(h:iw e f=true)(k:∀ a b c d,f a b c d=true->P (.ListComp a b c d)):P e :=
 (pk h).elim λc=>@Hq.elim (λe=>∀ c,@Hq.elim (λ_=>Bool) e c f=true->P e) e c (λa b c d _ h=>k a b c d h) c
noncomputable def gr (e:Expr) (f:List Expr->Pos->Bool):Bool:=if h:e.ctorIdx=18 then @GS.elim (λ_=>Bool) e h f else false
@[elab_as_elim]
theorem nk {P:Expr->Prop}(e:Expr){f:List Expr->Pos->Bool}(h:gr e f=true)(k:∀ a b,f a b=true->P (.JoinedStr a b)):P e :=
 (pk h).elim λc=>@GS.elim (λe=>∀ c,@GS.elim (λ_=>Bool) e c f=true->P e) e c (λa b _ h=>k a b h) c
noncomputable def db (e:Expr) (f:Expr->Int->Option Expr->Pos->Bool):Bool:=if h:e.ctorIdx=17 then @Fm.elim (λ_=>Bool) e h f else false
@[elab_as_elim]
theorem gu {P:Expr->Prop}(e:Expr){f:Expr->Int->Option Expr->Pos->Bool}(h:db e f=true)(k:∀ a b c d,f a b c d=true->P (.FormattedValue a b c d)):P e :=
 (pk h).elim λc=>@Fm.elim (λe=>∀ c,@Fm.elim (λ_=>Bool) e c f=true->P e) e c (λa b c d _ h=>k a b c d h) c
noncomputable def dJ (e:Stmt) (f:List Expr->Expr->Pos->Bool):Bool:=if h:e.ctorIdx=5 then @IM.elim (λ_=>Bool) e h f else false
@[elab_as_elim]
theorem fw {P:Stmt->Prop}(e:Stmt){f:List Expr->Expr->Pos->Bool}(h:dJ e f=true)(k:∀ a b c,f a b c=true->P (.Assign a b c)):P e :=
 (pk h).elim λc=>@IM.elim (λe=>∀ c,@IM.elim (λ_=>Bool) e c f=true->P e) e c (λa b c _ h=>k a b c h) c
noncomputable def eY (e:Stmt) (f:Expr->EU->Expr->Pos->Bool):Bool:=if h:e.ctorIdx=7 then @GU.elim (λ_=>Bool) e h f else false
@[elab_as_elim]
theorem kE {P:Stmt->Prop}(e:Stmt){f:Expr->EU->Expr->Pos->Bool}(h:eY e f=true)(k:∀ a b c d,f a b c d=true->P (.AugAssign a b c d)):P e :=
 (pk h).elim λc=>@GU.elim (λe=>∀ c,@GU.elim (λ_=>Bool) e c f=true->P e) e c (λa b c d _ h=>k a b c d h) c
noncomputable def pI (e:Stmt) (f:Expr->Pos->Bool):Bool:=if h:e.ctorIdx=24 then @Jo.elim (λ_=>Bool) e h f else false
@[elab_as_elim]
theorem wB {P:Stmt->Prop}(e:Stmt){f:Expr->Pos->Bool}(h:pI e f=true)(k:∀ a b,f a b=true->P (.Expr a b)):P e :=
 (pk h).elim λc=>@Jo.elim (λe=>∀ c,@Jo.elim (λ_=>Bool) e c f=true->P e) e c (λa b _ h=>k a b h) c
noncomputable def jN (e:Stmt) (f:Option Expr->Pos->Bool):Bool:=if h:e.ctorIdx=3 then @IP.elim (λ_=>Bool) e h f else false
@[elab_as_elim]
theorem rX {P:Stmt->Prop}(e:Stmt){f:Option Expr->Pos->Bool}(h:jN e f=true)(k:∀ a b,f a b=true->P (.Return a b)):P e :=
 (pk h).elim λc=>@IP.elim (λe=>∀ c,@IP.elim (λ_=>Bool) e c f=true->P e) e c (λa b _ h=>k a b h) c
noncomputable def wD (e:Stmt) (f:Expr->List Stmt->List Stmt->Pos->Bool):Bool:=if h:e.ctorIdx=12 then @Stmt.If.elim (λ_=>Bool) e h f else false
@[elab_as_elim]
theorem zn {P:Stmt->Prop}(e:Stmt){f:Expr->List Stmt->List Stmt->Pos->Bool}(h:wD e f=true)(k:∀ a b c d,f a b c d=true->P (.If a b c d)):P e :=
 (pk h).elim λc=>@Stmt.If.elim (λe=>∀ c,@Stmt.If.elim (λ_=>Bool) e c f=true->P e) e c (λa b c d _ h=>k a b c d h) c
noncomputable def sV (e:Stmt) (f:Expr->Expr->List Stmt->List Stmt->Pos->Bool):Bool:=if h:e.ctorIdx=9 then @Stmt.For.elim (λ_=>Bool) e h f else false
@[elab_as_elim]
theorem yb {P:Stmt->Prop}(e:Stmt){f:Expr->Expr->List Stmt->List Stmt->Pos->Bool}(h:sV e f=true)(k:∀ a b c d e,f a b c d e=true->P (.For a b c d e)):P e :=
 (pk h).elim λc=>@Stmt.For.elim (λe=>∀ c,@Stmt.For.elim (λ_=>Bool) e c f=true->P e) e c (λa b c d e _ h=>k a b c d e h) c
noncomputable def ld (e:Stmt) (f:Expr->List Stmt->List Stmt->Pos->Bool):Bool:=if h:e.ctorIdx=11 then @Ji.elim (λ_=>Bool) e h f else false
@[elab_as_elim]
theorem uE {P:Stmt->Prop}(e:Stmt){f:Expr->List Stmt->List Stmt->Pos->Bool}(h:ld e f=true)(k:∀ a b c d,f a b c d=true->P (.While a b c d)):P e :=
 (pk h).elim λc=>@Ji.elim (λe=>∀ c,@Ji.elim (λ_=>Bool) e c f=true->P e) e c (λa b c d _ h=>k a b c d h) c
noncomputable def pJ (e:Stmt) (f:Pos->Bool):Bool:=if h:e.ctorIdx=25 then @Jp.elim (λ_=>Bool) e h f else false
@[elab_as_elim]
theorem wF {P:Stmt->Prop}(e:Stmt){f:Pos->Bool}(h:pJ e f=true)(k:∀ a,f a=true->P (.Pass a)):P e :=
 (pk h).elim λc=>@Jp.elim (λe=>∀ c,@Jp.elim (λ_=>Bool) e c f=true->P e) e c (λa _ h=>k a h) c
noncomputable def lf (e:Stmt) (f:Pos->Bool):Bool:=if h:e.ctorIdx=26 then @Jj.elim (λ_=>Bool) e h f else false
@[elab_as_elim]
theorem uF {P:Stmt->Prop}(e:Stmt){f:Pos->Bool}(h:lf e f=true)(k:∀ a,f a=true->P (.Break a)):P e :=
 (pk h).elim λc=>@Jj.elim (λe=>∀ c,@Jj.elim (λ_=>Bool) e c f=true->P e) e c (λa _ h=>k a h) c
noncomputable def gv (e:Stmt) (f:Pos->Bool):Bool:=if h:e.ctorIdx=27 then @Hr.elim (λ_=>Bool) e h f else false
@[elab_as_elim]
theorem nl {P:Stmt->Prop}(e:Stmt){f:Pos->Bool}(h:gv e f=true)(k:∀ a,f a=true->P (.Continue a)):P e :=
 (pk h).elim λc=>@Hr.elim (λe=>∀ c,@Hr.elim (λ_=>Bool) e c f=true->P e) e c (λa _ h=>k a h) c
noncomputable def lv0 {α:Type} (xs:List α) (b:Bool):Bool:=xs.isEmpty&&b
noncomputable def lvc {α:Type} (xs:List α) (f : α -> List α -> Bool):Bool:=match xs with
 |y::r=>f y r
 |[]=>false
noncomputable def lv1 {α:Type} (xs:List α) (f : α -> Bool):Bool:=lvc xs λy r=>lv0 r (f y)
noncomputable def lv2 {α:Type} (xs:List α) (f : α -> α -> Bool):Bool:=lvc xs λy r=>lv1 r (f y)
noncomputable def os {α:Type} (o:Option α) (f : α -> Bool):Bool:=match o with
 |some x=>f x
 |none=>false
noncomputable def on {α:Type} (o:Option α) (b:Bool):Bool:=o.isNone&&b
@[elab_as_elim]
theorem jO {α:Type}{P:List α -> Prop}(xs:List α){b:Bool}(h:lv0 xs b=true)(k:b=true->P []):P xs:=by
 cases xs with
 |nil=>exact k h
 |cons _ _=>cases h
@[elab_as_elim]
theorem wG {α:Type}{P:List α -> Prop}(xs:List α){f : α -> List α -> Bool}(h:lvc xs f=true)(k:∀ y r,f y r=true->P (y::r)):P xs:=by
 cases xs with
 |nil=>cases h
 |cons y r=>exact k y r h
@[elab_as_elim]
theorem bN {α:Type}{P:List α -> Prop}(xs:List α){f : α -> Bool}(h:lv1 xs f=true)(k:∀ y,f y=true->P [y]):P xs :=
 wG xs h λy r h=>jO r h λh=>k y h
@[elab_as_elim]
theorem dL {α:Type}{P:List α -> Prop}(xs:List α){f : α -> α -> Bool}(h:lv2 xs f=true)(k:∀ y z,f y z=true->P [y,z]):P xs :=
 wG xs h λy r h=>bN r h λz h=>k y z h
@[elab_as_elim]
theorem jos {α:Type}{P:Option α -> Prop}(o:Option α){f : α -> Bool}(h:os o f=true)(k:∀ x,f x=true->P (some x)):P o:=by
 cases o with
 |none=>cases h
 |some x=>exact k x h
@[elab_as_elim]
theorem jon {α:Type}{P:Option α -> Prop}(o:Option α){b:Bool}(h:on o b=true)(k:b=true->P none):P o:=by
 cases o with
 |none=>exact k h
 |some x=>cases h
theorem bj {a b:Bool}(h:(a&&b)=true):a=true/\b=true:=by rwa[h8]at h
noncomputable def cV (e:Expr) (g:Str->List Expr->Bool):Bool:=iZ e λf xs ks _=>lv0 ks (cj f λx _=>g x xs)
@[elab_as_elim]
theorem dm {P:Expr->Prop}(e:Expr){g:Str->List Expr->Bool}(h:cV e g=true)(k:∀ x xs p pos,g x xs=true->P (.Call (.Name x p) xs [] pos)):P e :=
 ni e h λf xs ks pos h=>jO ks h λh=>cC f h λx p h=>k x xs p pos h
noncomputable def j0 (e:Expr) (g:Expr->Str->List Expr->Pos->Pos->Bool):Bool:=iZ e λf xs ks p=>lv0 ks (gq f λo n q=>g o n xs q p)
@[elab_as_elim]
theorem nn {P:Expr->Prop}(e:Expr){g:Expr->Str->List Expr->Pos->Pos->Bool}(h:j0 e g=true)(k:∀ o n xs q p,g o n xs q p=true->P (.Call (.Attribute o n q) xs [] p)):P e :=
 ni e h λf xs ks pos h=>jO ks h λh=>nj f h λo n q h=>k o n xs q pos h
noncomputable def iSl (e:Expr) (g:Expr->Option Expr->Option Expr->Option Expr->Bool):Bool:=bZ e λx y _=>pG y λl u s _=>g x l u s
@[elab_as_elim]
theorem jSl {P:Expr->Prop}(e:Expr){g:Expr->Option Expr->Option Expr->Option Expr->Bool}(h:iSl e g=true)(k:∀ x l u s p pos,g x l u s=true->P (.Subscript x (.Slice l u s p) pos)):P e :=
 cD e h λx y pos h=>wz y h λl u s p h=>k x l u s p pos h
mutual
noncomputable def okG:MG->Ctx->Expr->Bool
 |.name i,C,e=>cj e λx _=>decide (C.N[i]? = some x)&&nh C.sc x&&(C.sc.names.lookup x==some .local || C.fn.contains x)
 |.tup gs,C,e=>cq e λes _ _=>okGs gs C es
noncomputable def okGs:MGs->Ctx->List Expr->Bool
 |.nil,_,es=>es.isEmpty
 |.cons g r,C,es=>match es with
  |e::es=>aS e&&okG g C e&&okGs r C es
  |[]=>false
end
mutual
noncomputable def okE:ME->Ctx->Expr->Bool
 |.var i,C,e=>cj e λx _=>decide (C.N[i]? = some x)&&rV C.sc x && !(x==("__debug__":Str)) && !(x==("__classdict__":Str))
 |.int i,_,e=>bQ e λc _ _=>decide (c = .int i)
 |.bl i,_,e=>bQ e λc _ _=>decide (c = .bool i)
 |.non,_,e=>bQ e λc _ _=>decide (c = .none)
 |.str i,_,e=>bQ e λc _ _=>decide (c = .str i)
 |.bin op a b,C,e=>pE e λl o r _=>decide (o=opO op)&&okE a C l&&okE b C r
 |.neg a,C,e=>dG e λo x _=>decide (o = .USub)&&okE a C x
 |.cmp op a b,C,e=>cT e λl os rs _=>lv1 os λo=>lv1 rs λr=>decide (o=fq op)&&okE a C l&&okE b C r && !(EE o r)
 |.and es,C,e=>cJ e λo xs _=>decide (o = .And) && !xs.isEmpty&&okEs es C xs
 |.or es,C,e=>cJ e λo xs _=>decide (o = .Or) && !xs.isEmpty&&okEs es C xs
 |.not a,C,e=>dG e λo x _=>decide (o = .Not)&&okE a C x
 |.ite c a b,C,e=>pF e λt x y _=>okT c C t&&okE a C x&&okE b C y
 |.tup es,C,e=>cq e λxs _ _=>okEs es C xs
 |.lst es,C,e=>sU e λxs _=>okEs es C xs
 |.ix a b,C,e=>bZ e λx y _=>eL y&&okE a C x&&okE b C y
 |.sl a lo hi,C,e=>iSl e λx l u s=>on s (okE a C x&&okO lo C l&&okO hi C u)
 |.call f es,C,e=>cV e λx xs=>decide (C.Γ[f]? = some x)&&glB C.sc x && !(x==("__debug__":Str))&&okEs es C xs
 |.blt f es,C,e=>cV e λx xs=>decide (x=jM f)&&glB C.sc x && !xs.isEmpty&&okEs es C xs
 |.isin a T,C,e=>cV e λx xs=>lv2 xs λy w=>cj w λz _=>decide (x = "isinstance")&&glB C.sc x&&glB C.sc z&&decide (z=g8 T)&&decide (T∈["bool","int","str","tuple","list","dict"])&&aS y&&okE a C y
 |.chain op op' a b c,C,e=>cT e λl os rs _=>lv2 os λo o'=>lv2 rs λr q=>decide (o=fq op)&&decide (o'=fq op')&&okE a C l&&okE b C r&&okE c C q && !(G2 [o,o'] [r,q])
 |.glob x k,C,e=>cj e λy _=>decide (y=x)&&glB C.sc y&&decide ((x,k)∈C.cs) && !(x==("__debug__":Str))
 |.meth m o a,C,e=>j0 e λx n xs ap cp=>lv1 xs λy=>decide (n=wv m)&&eM x&&(ap.endLine==cp.line)&&aS y&&okE o C x&&okE a C y
 |.comp fr N' c,C,e=>iw e λelt gens sc _=>rW sc C.sc C.N N' fr&&okC c C ⟨C.Γ,N',fu sc C.sc,(sc.names.filter (·.2 == .cell)).map (·.1),C.cs,0,C.nm⟩ gens elt
 |.fstr es,C,e=>gr e λxs _=>decide (2<=xs.length)&&okEs es C xs
 |.fmt a,C,e=>db e λx c s _=>on s (decide (c = -1)&&okE a C x)
 |.join o a,C,e=>j0 e λx n xs ap cp=>lv1 xs λy=>decide (n = "join")&&eM x&&(ap.endLine==cp.line)&&aS y&&okE o C x&&okE a C y
 |.smeth m o a,C,e=>j0 e λx n xs ap cp=>lv1 xs λy=>decide (n=ww m)&&eM x&&(ap.endLine==cp.line)&&aS y&&okE o C x&&okE a C y
 |.ixS a b,C,e=>bZ e λx y _=>eL y&&okE a C x&&okE b C y
 |.slS a lo,C,e=>iSl e λx l u s=>on s (on u (okE a C x&&okO lo C l))
 |.revS a st,C,e=>iSl e λx l u s=>on l (on u (os s λs=>okE a C x&&okE st C s))
 |.orL a b,C,e=>cJ e λo xs _=>lv2 xs λx y=>decide (o = .Or)&&okE a C x&&okE b C y
noncomputable def okEs:MEs->Ctx->List Expr->Bool
 |.nil,_,es=>es.isEmpty
 |.cons m r,C,es=>match es with
  |e::es=>aS e&&okE m C e&&okEs r C es
  |[]=>false
noncomputable def okO:MO->Ctx->Option Expr->Bool
 |.none,_,e=>e.isNone
 |.some m,C,e=>match e with
  |some e=>okE m C e
  |none=>false
noncomputable def okT:MT->Ctx->Expr->Bool
 |.tru m,C,e=>pD e&&okE m C e
 |.cmp op a b,C,e=>cT e λl os rs _=>lv1 os λo=>lv1 rs λr=>decide (o=fq op)&&okE a C l&&okE b C r && !(EE o r)
 |.chain op op' a b c,C,e=>cT e λl os rs _=>lv2 os λo o'=>lv2 rs λr q=>decide (o=fq op)&&decide (o'=fq op')&&okE a C l&&okE b C r&&okE c C q && !(G2 [o,o'] [r,q])
 |.and ts,C,e=>cJ e λo xs _=>decide (o = .And) && !xs.isEmpty&&okTs ts C xs
 |.or ts,C,e=>cJ e λo xs _=>decide (o = .Or) && !xs.isEmpty&&okTs ts C xs
 |.not t,C,e=>dG e λo x _=>decide (o = .Not)&&okT t C x
noncomputable def okTs:MTs->Ctx->List Expr->Bool
 |.nil,_,es=>es.isEmpty
 |.cons m r,C,es=>match es with
  |e::es=>okT m C e&&okTs r C es
  |[]=>false
noncomputable def okI:MI->Ctx->Expr->Expr->Bool
 |.seq m,C,_,e=>iY e&&okE m C e
 |.rng1 a,C,_,e=>cV e λx xs=>lv1 xs λy=>decide (x = "range")&&glB C.sc x&&aS y&&okE a C y
 |.enum a,C,t,e=>cV e λx xs=>lv1 xs λy=>cq t λ_ _ _=>decide (x = "enumerate")&&glB C.sc x&&aS y&&okE a C y
 |.enum1 a,C,t,e=>iZ e λf xs ks _=>cj f λx _=>lv1 xs λy=>lv1 ks λq=>bQ q.value λc _ _=>cq t λ_ _ _=>decide (x = "enumerate")&&glB C.sc x&&aS y&&decide (q.arg=some "start")&&decide (c = .int 1)&&okE a C y
 |.chars m,C,_,e=>iY e&&okE m C e
 |.zip a b,C,t,e=>cV e λx xs=>lv2 xs λy z=>cq t λ_ _ _=>decide (x = "zip")&&glB C.sc x&&aS y&&aS z&&okE a C y&&okE b C z
noncomputable def okC:MC->Ctx->Ctx->List CF->Expr->Bool
 |.last src g ifs m,Cs,C,gens,elt=>match gens with
  |[⟨t,it,fs,a⟩]=>decide (a=0)&&okI src Cs t it&&okG g C t&&okTs ifs C fs&&okE m C elt
  |_=>false
 |.more src g ifs rest,Cs,C,gens,elt=>match gens with
  |⟨t,it,fs,a⟩::g2::gs=>decide (a=0)&&okI src Cs t it&&okG g C t&&okTs ifs C fs&&okC rest C C (g2::gs) elt
  |_=>false
end
noncomputable def aU (sc:Scope) (ts:List Expr):List Str:=ts.filterMap fun
 |.Name id pos=>if sc.names.lookup id==some .local&&pos.line==(ts.head?.map (·.pos.line)).getD 0 then some id else none
 |_=>none
noncomputable def no (sc:Scope) (ts vs:List Expr):Bool:=!(ts.length==2 || ts.length==3) || vs.length != ts.length || (aU sc ts).length != ts.length || (aU sc ts).eraseDups.length != (aU sc ts).length || vs.all (Hs 8)
noncomputable def nr (C:Ctx) (i:Nat) (x:Str):Bool:=decide (C.N[i]? = some x)&&decide (C.sc.names.lookup x=some .local)
noncomputable def nt (sc:Scope) (ts vs:List Expr) (ns:List Str):Bool:=!(!(ts.length==2 || ts.length==3) || vs.length != ts.length) && !(vs.any λ| .Starred ..=>true|_=>false)&&decide (aU sc ts=ns) && !((aU sc ts).length != ts.length || (aU sc ts).eraseDups.length != (aU sc ts).length) && !(vs.all (Hs 8)) && !(vs.all (constantsAlone 8))
noncomputable def sW (sc:Scope) (tg e:Expr):Bool:=match tg,e with
 |.Tuple ts _ _,.Tuple vs _ _=>no sc ts vs
 |.Tuple ..,_=>true
 |.Name ..,_=>true
 |_,_=>false
noncomputable def wH (sc:Scope) (x:Str) (px:Pos) (e:Expr):Bool:=match e with
 |.DictComp _ _ _ s _=>!(sc.names.lookup x==some .local&&px.line==e.pos.line && !(s.names.any λ(n,k)=>n==x&&(k == .local || k == .cell)))
 |_=>true
noncomputable def nv (sc:Scope) (x:Str) (px:Pos) (e:Expr):Bool:=match e with
 |.ListComp _ _ s _=>sc.names.lookup x==some .local&&px.line==e.pos.line && !(s.names.any λ(n,k)=>n==x&&(k == .local || k == .cell))
 |_=>false
mutual
noncomputable def okS:MS->Ctx->Stmt->Bool
 |.asg g m,C,s=>dJ s λts e _=>lv1 ts λtg=>okG g C tg&&okE m C e&&sW C.sc tg e&&(match tg with|.Name x px=>wH C.sc x px e|_=>gp e)
 |.par i j a b,C,s=>dJ s λts e _=>lv1 ts λtg=>cq tg λts _ _=>cq e λes _ _=>lv2 ts λt u=>lv2 es λe f=>cj t λx px=>cj u λy py=>nr C i x&&nr C j y&&decide (i≠j)&&aS e&&aS f&&okE a C e&&okE b C f&&nt C.sc [.Name x px,.Name y py] [e,f] [x,y]
 |.put o i m,C,s=>dJ s λts e _=>lv1 ts λtg=>bZ tg λx y _=>eL y&&gp e&&okE o C x&&okE i C y&&okE m C e
 |.aug i op m,C,s=>eY s λt o e _=>cj t λx _=>decide (o=opO op)&&(match op with|.add|.sub|.mul|.ext=>true|_=>false)&&decide (C.N[i]? = some x)&&nh C.sc x&&(C.sc.names.lookup x==some .local || C.fn.contains x)&&okE m C e
 |.drop m,C,s=>pI s λe _=>gp e&&okE m C e
 |.ret m,C,s=>jN s λo _=>os o λe=>okE m C e
 |.ite c a b,C,s=>wD s λt x y _=>okT c C t&&okSs a C x&&okSs b C y
 |.for g src b,C,s=>sV s λtg it body els _=>lv0 els (iY it&&okG g C tg&&okI src C tg it&&okSs b C body)
 |.while c b,C,s=>ld s λt body els _=>lv0 els (okT c C t&&okSs b C body)
 |.bot,_,_=>true
 |.pass,_,s=>pJ s λ_=>true
 |.brk,_,s=>lf s λ_=>true
 |.cnt,_,s=>gv s λ_=>true
noncomputable def okSs:MSs->Ctx->List Stmt->Bool
 |.nil,_,ss=>ss.isEmpty
 |.cons m r,C,ss=>match ss with
  |s::ss=>okS m C s&&okSs r C ss
  |[]=>false
end
theorem ah (h:aS e=true):Cm (e::es) env=(false,eval e env)::Cm es env:=by
 cases e <;> first|rfl|(cases h;done)
theorem iy (h:aS e=true):Dj (e::es) env=(false,assign e env)::Dj es env:=by
 cases e <;> first|rfl|(cases h;done)
theorem ny (h:pD e=true):∀ whole,isTrue e env whole=(do let v <- whole;FK e.pos;holding [v] (truthy v)):=by
 intro w
 cases e <;> first|rfl|(cases h;done)
theorem jP (h:eL e=true):gK e:=by
 intro o i
 cases e <;> first|rfl|(cases h;done)
theorem jQ (h:iY e=true):∀ x,Dr e env x=pure x:=by
 intro x
 cases e <;> first|rfl|(cases h;done)
theorem ce {n:Str}(h:eM e=true):Hn e n env (eval e env)=eval e env:=by
 cases e <;> first
  |rfl
  | (rename_i f xs _ _;cases xs with
     |nil=>cases h
     |cons _ _=>cases f <;> rfl)
theorem gX {t:Option Expr}(h:gp e=true):EO e t l env=pure false:=by
 cases e <;> first|rfl|(cases h;done)
end
variable {f:Nat}{x:Str}{p pos:Pos}{sc:Scope}{fr:List (Option Nat)}
section
noncomputable def lSp (K:Frag) (r:RAd):Sp:=λvs H Q _=>lR K r vs H Q
noncomputable def yc (Φ:Phi) (j:Nat) (gs:List D) (js:List Nat):RAd:=λargs M Q=>args.length=2 /\ Φ (4000+j) (js.map λi=>(gs++args).getD i .non) M Q
noncomputable def spC (P:Ct) (w:CC) (K:Frag) (mg:Str->Option h6) (base:Heap) (k:Nat) (Φ:Phi) (i:Nat):List Env->hQ->Sp:=λouter s vs H Q _ =>
 ∃ (ds:List D) (a:Addr) (j:Nat) (gs:List D) (js:List Nat) (M:Mem),RM K M H/\RDs K H (ds++[.ref a]) vs/\xH P w K mg base (k - 1) (frs outer) a (lSp K (yc Φ j gs js)) H s.heap /\ Φ (1000+i) (ds++[.ref a,.int j,.tup gs,.tup (js.map λi:Nat=>.int i)]) M (KE' K M H Q)
def wJ (X:Cx) (a:Addr) (r:RAd):Prop:=∀ (pins:List (Addr×Obj)) (s:hQ) (σ:St) (H:Hp) (vs:List V) (us:List h6) (Q:VK),Inv X pins σ H s->Vals vs us->lR X.K r vs H Q ->
 PySem.W.FnAt a s.heap/\Cj (model X.prog X.w) X.A (call (.ref a) us) (EP X pins σ Q) X.xe s
structure wK (C:Ctx) (Φ:Phi) (k:Nat) (X:Cx) (P:Addr):Prop where
 cd:∃ c,X.env.code = .ref c/\PySem.W.CodeHd X.base c P
 bm:ze X.mg X.base
 qu:X.env.qual=C.nm++(".<locals>.":Str)
 spc:∀ (i:Nat) (x:Str),C.Γ[i]? = some x -> ∃ f fd ps,X.mg x=some (.ref f)/\DE X.K (.ref f)=true/\Binds X.K fd ps []/\xI X.prog X.w X.K X.mg X.base k f fd ps (spC X.prog X.w X.K X.mg X.base k Φ i)
 low:∀ (j:Nat) (x:Str),C.Γ[j]? = some x -> ∃ f fd ps,X.mg x=some (.ref f)/\DE X.K (.ref f)=true/\Binds X.K fd ps []/\cr X.prog X.w X.K X.mg X.base CX0 (k - 2) f fd ps (lSp X.K (Φ (4000+j)))
 big:(∃ k0,k=k0+2)∨∀ (j:Nat) (x:Str),C.Γ[j]? = some x -> ∀ ds M Q,¬ Φ (4000+j) ds M Q
structure Good (C:Ctx) (Φ:Phi) (k:Nat) (X:Cx):Prop where
 hx:∀ e s,X.xe e s->False
 calm:X.calm=true
 N:X.N=C.N
 sc:X.env.scope=C.sc
 nd:X.N.Nodup
 fn:∀ x∈C.fn,X.fn x=true
 room:Room k X.A
 mgB:∀ x∈bltNames,X.mg x=none
 fns:∀ (i:Nat) (x:Str),C.Γ[i]? = some x -> ∃ f fd ps,X.mg x=some (.ref f)/\Dy X.K CH x=some (some (.ref f))/\DE X.K (.ref f)=true/\Binds X.K fd ps []/\cr X.prog X.w X.K X.mg X.base CX0 k f fd ps (lSp X.K (Φ i))
 mono:∀ f,aJ (Φ f)
 cs:∀ x d,(x,d)∈C.cs -> ∃ u,X.mg x=some u/\GV X.K d u
 clo:C.lm=1 -> ∀ a,wJ X a (Φ (5000+a))
 lam:∀ P,C.lm=P+2->wK C Φ k X P
section
variable {C:Ctx} {Φ:Phi} {k:Nat} {X:Cx}
theorem Good.units (G:Good C Φ k X):X.A.units+64<GF:=G.room.units
theorem Good.gl (G:Good C Φ k X)(h:glB C.sc x=true):Gl X x:=by
 show X.env.scope.names.lookup x=_;rw[G.sc];simpa[glB]using h
theorem Good.vis (G:Good C Φ k X)(h:rV C.sc x=true):Vis X.env.scope x:=by
 unfold Vis;rw[G.sc];simp[rV]at h
 rcases h with(h|h)|h
 ·exact .inl h
 ·exact .inr (.inl h)
 ·exact .inr (.inr h)
theorem Good.loc (G:Good C Φ k X)(h:nh C.sc x=true):Loc X.env.scope x:=by
 unfold Loc;rw[G.sc];simpa[nh]using h
theorem Good.own (G:Good C Φ k X)(h:(C.sc.names.lookup x==some .local || C.fn.contains x)=true):X.fn x=true∨X.env.scope.names.lookup x=some .local:=by
 rw[G.sc];simp at h
 rcases h with h|h
 ·exact .inr h
 ·exact .inl (G.fn x h)
theorem wL (G:Good C Φ k X):∀ o:BOp,OpR X (CW (opO o)) (l2 X.K (opB o))
 |.add=>jr|.sub=>qJ|.mul=>qK|.fdiv=>oE|.mod=>qM|.pow=>qN|.ext=>jr
theorem cK (G:Good C Φ k X):∀ o:COp,OpR X (CA (fq o)) (l2 X.K (opC o))
 |.eq=>tQ (by have:=G.units;lia)|.ne=>tR (by have:=G.units;lia)|.lt=>tW|.le=>tX|.gt=>tY|.ge=>tZ|.is=>ul|.isn=>rD| .inStr=>mZ|.inNon=>n9 (by have:=G.units;lia)
theorem wM (G:Good C Φ k X){f:BF}{t:TAd}(mt:bg t)(z:Gl X (jM f))(B:PA X (e::es) (lA X.K t))(he:Cm (e::es) X.env=(false,eval e X.env)::Cm es X.env)(j:(DH pos (Cm es X.env)).any (·.1)=false):PE X (.Call (.Name (jM f) p) (e::es) [] pos) (lE X.K (wAr (opF f) t)):=by
 cases f with
 |len=>exact PE.imp (bw mf z (G.mgB _ (by decide)) PySem.boot_len B (by decide) (by decide) he j) (bd jx mt)
 |abs=>exact PE.imp (bw mj z (G.mgB _ (by decide)) (by decide +kernel) B (by decide) (by decide) he j) (bd jy mt)
 |max2=>exact PE.imp (bw (ku G.calm) z (G.mgB _ (by decide)) (by decide +kernel) B (by decide) (by decide) he j) (bd i5 mt)
 |min2=>exact PE.imp (bw (kx G.calm) z (G.mgB _ (by decide)) (by decide +kernel) B (by decide) (by decide) he j) (bd i6 mt)
 |int=>exact PE.imp (ck mm z (G.mgB _ (by decide)) (by decide +kernel) B (by decide) (by decide) he j) (bd jz mt)
 |intS=>exact PE.imp (ck kB z (G.mgB _ (by decide)) (by decide +kernel) B (by decide) (by decide) he j) (bd ir mt)
 |lenS=>exact PE.imp (bw kC z (G.mgB _ (by decide)) PySem.boot_len B (by decide) (by decide) he j) (bd iu mt)
 |str=>exact PE.imp (ck mU z (G.mgB _ (by decide)) (by decide +kernel) B (by decide) (by decide) he j) (bd im mt)
 |list=>exact PE.imp (ck ky z (G.mgB _ (by decide)) (by decide +kernel) B (by decide) (by decide) he j) (bd i7 mt)
 |tuple=>exact PE.imp (ck jA z (G.mgB _ (by decide)) (by decide +kernel) B (by decide) (by decide) he j) (bd fT mt)
 |all=>exact PE.imp (bw (mP G.calm) z (G.mgB _ (by decide)) (by decide +kernel) B (by decide) (by decide) he j) (bd jE mt)
 |any=>exact PE.imp (bw (mQ G.calm) z (G.mgB _ (by decide)) (by decide +kernel) B (by decide) (by decide) he j) (bd jF mt)
theorem uG (G:Good C Φ k X){t:TAd}(mt:bg t)(hf:C.Γ[f]? = some x)(B:Gl X x)(j:(x==("__debug__":Str))=false)(J:PA X (e::es) (lA X.K t))(he:Cm (e::es) X.env=(false,eval e X.env)::Cm es X.env)(z:(DH pos (Cm es X.env)).any (·.1)=false):PE X (.Call (.Name x p) (e::es) [] pos) (lE X.K (wAr (Φ f) t)):=by
 obtain⟨a,fd,ps,hm,_,L,O,F⟩:=G.fns f x hf;refine PE.imp (tF F G.room B hm L O .nil sF J j he z) λσ H Q h=>?_;have h2:=bd (G.mono f) mt σ H Q h;have:(λvs H1=>lSp X.K (Φ f) (vs++[]) H1 Q E0)=λvs H1=>lR X.K (Φ f) vs H1 Q:=by
  funext vs H1;rw[Dv];rfl
 show (lA X.K t) σ H _;rw[this];exact h2
theorem rY (G:Good C Φ k X)(hf:C.Γ[f]? = some x)(z:Gl X x)(j:(x==("__debug__":Str))=false):PE X (.Call (.Name x p) [] [] pos) (lE X.K (wAr (Φ f) bh)):=by
 obtain⟨a,fd,ps,hm,_,B,J,F⟩:=G.fns f x hf;refine PE.imp (qr F G.room z hm B J .nil sF j) λσ H Q h=>?_;obtain⟨ρ,M,rs,rm,q⟩:=h;exact⟨[],M,rm,RDs.nil,q⟩
theorem fx {env:Env}{pos:Pos}:∀ {es:List Expr},es.all aS=true->(DH pos (Cm es env)).any (·.1)=false
 |[],_=>rfl
 | e::es,h=>by
   simp only[EG,h8]at h;rw[ah h.1];show (false || (DH pos (Cm es env)).any (·.1))=false
   rw[fx h.2];rfl
theorem eg:∀ {ms:MEs} {es:List Expr},okEs ms C es=true->es.all aS=true
 |.nil,[],_=>rfl
 |.nil,_::_,h=>by simp[okEs]at h
 |.cons m r,[],h=>by simp[okEs]at h
 |.cons m r,e::es,h=>by
  simp only[okEs,h8]at h;simp only[EG,h8];exact⟨h.1.1,eg h.2⟩
theorem lg:∀ {gs:MGs} {es:List Expr},okGs gs C es=true -> ∀ ds ρ ρ',bGs gs ds ρ = some ρ'->ds.length=es.length
 |.nil,es,h,ds,ρ,ρ',e=>by
  simp[okGs]at h;subst h;rw[bGs]at e
  cases ds with
  |nil=>rfl
  |cons _ _=>cases e
 |.cons g r,[],h,_,_,_,_=>by simp[okGs]at h
 |.cons g r,x::es,h,ds,ρ,ρ',e=>by
  simp only[okGs,h8]at h;rw[bGs]at e
  cases ds with
  |nil=>cases e
  | cons d ds =>
    simp only[bI]at e
    cases e1:bG g d ρ with
    |none=>rw[e1]at e;cases e
    | some ρ1 =>
      rw[e1]at e;simp[lg h.2 ds ρ1 ρ' e]
theorem jR {env:Env}:∀ {gs:MGs} {es:List Expr},okGs gs C es=true->(Dj es env).length=es.length/\(Dj es env).findIdx? (·.1)=none
 |.nil,es,h=>by simp[okGs]at h;subst h;exact⟨rfl,rfl⟩
 |.cons g r,[],h=>by simp[okGs]at h
 |.cons g r,x::es,h=>by
  simp only[okGs,h8]at h;obtain⟨a,b⟩:=jR (env:=env) h.2;rw[iy h.1.1];refine⟨by simp[a],?_⟩
  rw[List.findIdx?_cons];simp[b]
mutual
theorem sG (G:Good C Φ k X):∀ (m:MG) (e:Expr),okG m C e=true->PG X e (lG X.K (bG m))
 |.name i,e,h=>by
  refine cC e h λx _ h=>?_;simp only[h8]at h;exact ud G.nd (by rw[G.N];exact of_decide_eq_true h.1.1) (G.loc h.1.2) (G.own h.2)
 |.tup gs,e,h=>by
  refine cU e h λes _ _ h=>?_;rw[bG];obtain⟨a,b⟩:=jR (env:=X.env) h;exact vZ G.calm (lg h) (sGs G gs _ h) a b
theorem sGs (G:Good C Φ k X):∀ (m:MGs) (es:List Expr),okGs m C es=true->PGs X es (lGs X.K (bGs m))
 |.nil,es,h=>by
  simp[okGs]at h;subst h;exact ue
 |.cons g r,[],h=>by simp[okGs]at h
 |.cons g r,e::es,h=>by
  simp only[okGs,h8]at h;exact qW (sG G g e h.1.2) (sGs G r es h.2) (by rw[iy h.1.1];rfl)
end
theorem PB.imp {F:Sem Fin->Sem Fin}{t t':TC}(h:PB X F t)(i:∀ σ H N,t' σ H N->t σ H N):PB X F t':=λpins s σ H N k Q E I q hk=>h pins s σ H N k Q E I (i _ _ _ q) hk
theorem gw {osc:Scope}{oN N':List Str}(h:rW sc osc oN N' fr=true):aW sc osc oN N' fr:=by
 simp only[rW,h8,decide_eq_true_eq]at h;obtain⟨⟨⟨⟨⟨h1,h2⟩,J⟩,L⟩,O⟩,U⟩:=h;refine⟨h1,h2,J,λx hx e=>?_,O,λi j x hi hf=>?_⟩
 ·have B:=Dm.mp L x hx;rw[e]at B;simpa using B
 ·have F:i<N'.length:=(Cw.mp hi).1;have z:=Dm.mp U i (El.mpr F);rw[hf,hi]at z;simp only[h8,decide_eq_true_eq,List.any_eq_true]at z;obtain⟨a,y,Y,e⟩:=z;exact⟨a,by rw[<- e];exact Y⟩
theorem Good.blk (G:Good C Φ k X){N':List Str}(B:aW sc C.sc C.N N' fr)(s:hQ)(H:Hp)(fp:List Addr) :
 Good ⟨C.Γ,N',fu sc C.sc,(sc.names.filter (·.2 == .cell)).map (·.1),C.cs,0,C.nm⟩ Φ k (aA X sc N' s H fp):=by
 refine⟨λ_ _ h=>h,G.calm,rfl,?_,B.ndN,λx hx=>?_,G.room,G.mgB,G.fns,G.mono,G.cs,λz=>(by cases z),λ_ z=>(by cases z)⟩
 ·show relabel sc X.env=_;rw[kD,G.sc]
 ·obtain⟨y,F,e⟩:=CO.mp hx;obtain⟨h1,h2⟩:=DL.mp F;obtain⟨n,kd⟩:=y;have j:kd = .cell:=by simpa using h2
  subst j;have e':n=x:=e;subst e';show (sc.names.lookup n==some .cell)=true;rw[aN B.nd h1];rfl
end
end
variable {C:Ctx}{tb:TCd}
section
section
variable {Φ:Phi} {k:Nat}
theorem cL {X:Cx}(G:Good C Φ k X){F:Sem Fin->Sem Fin}{p:Addr}{ifs:List Expr}{ts:List TTd}(mb:bB tb)(mt:∀ t∈ts,ay t)(j:PB X F (lC X.K p tb))(z:D0 (λc t=>PT X c t) ifs (ts.map (lT X.K))) :
 PB X (λk=>be ifs X.env >>= λok=>if ok=true then F k else k) (lC X.K p (ba ts tb)) :=
 PB.imp (qB G.hx j z) (fV mb mt)
theorem eh {m:MC}{Cs:Ctx}{g2:CF}{gs:List CF}{elt:Expr}(h:okC m Cs C (g2::gs) elt=true):g2.is_async=0:=by
 obtain⟨t,i,f,a⟩:=g2
 cases m with
 | last src g ifs m =>
   cases gs with
   |nil=>simp only[okC,h8,decide_eq_true_eq]at h;exact h.1.1.1.1
   |cons _ _=>simp[okC]at h
 | more src g ifs rest =>
   cases gs with
   |nil=>simp[okC]at h
   |cons _ _=>simp only[okC,h8,decide_eq_true_eq]at h;exact h.1.1.1.1
theorem rZ {X:Cx}(G:Good C Φ k X):∀ T∈["bool","int","str","tuple","list","dict"],X.mg (g8 T)=none/\E7 (g8 T)=some (.type T)/\g8 T ≠ "__name__" /\ (g8 T==("__debug__":Str))=false:=by
 intro T j;simp only[Cb,Ck,or_false]at j
 rcases j with rfl|rfl|rfl|rfl|rfl|rfl
 all_goals exact⟨G.mgB _ (by decide),by decide +kernel,by decide,by decide⟩
mutual
theorem sE:∀ (m:ME) {C:Ctx} {X:Cx} (G:Good C Φ k X) (e:Expr),okE m C e=true->PE X e (lE X.K (wE Φ m))
 |.var i,C,X,G,e,h=>by
  refine cC e h λx _ h=>?_;simp only[h8,CJ,decide_eq_true_eq]at h;exact vL (by rw[G.N];exact h.1.1.1) (G.vis h.1.1.2) h.1.2 h.2
 |.int i,C,X,G,e,h=>by
  refine cn e h λc _ _ h=>?_;rw[of_decide_eq_true h];exact le_int
 |.bl i,C,X,G,e,h=>by
  refine cn e h λc _ _ h=>?_;rw[of_decide_eq_true h];exact xO
 |.non,C,X,G,e,h=>by
  refine cn e h λc _ _ h=>?_;rw[of_decide_eq_true h];exact vM
 |.str i,C,X,G,e,h=>by
  refine cn e h λc _ _ h=>?_;rw[of_decide_eq_true h];exact vN
 |.bin op a b,C,X,G,e,h=>by
  refine wx e h λl o r _ h=>?_;simp only[h8,decide_eq_true_eq]at h;rw[h.1.1];exact xP (wL G op) (jL op) (mE G.mono a) (mE G.mono b) (sE a G _ h.1.2) (sE b G _ h.2)
 |.neg a,C,X,G,e,h=>by
  refine fv e h λo x _ h=>?_;replace h:=bj h;obtain⟨ho,h⟩:=h
  cases of_decide_eq_true ho
  exact xQ qO ju (mE G.mono a) (sE a G _ h)
 |.cmp op a b,C,X,G,e,h=>by
  refine dH e h λl os rs pos h=>?_;refine bN os h λo h=>?_;refine bN rs h λr h=>?_;simp only[h8,decide_eq_true_eq]at h;obtain⟨⟨⟨ho,O⟩,hb⟩,hm⟩:=h;rw[CJ]at hm;subst ho;exact vO (cK G op) (aY op) (mE G.mono a) (mE G.mono b) (sE a G _ O) (sE b G _ hb) hm
 |.and es,C,X,G,e,h=>by
  refine dl e h λo xs _ h=>?_;replace h:=bj h;obtain⟨ho,h⟩:=h;obtain⟨ho,J⟩:=bj ho
  cases of_decide_eq_true ho
  exact sAnds es G _ _ h (by intro z;rw[z]at J;cases J)
 |.or es,C,X,G,e,h=>by
  refine dl e h λo xs _ h=>?_;replace h:=bj h;obtain⟨ho,h⟩:=h;obtain⟨ho,J⟩:=bj ho
  cases of_decide_eq_true ho
  exact sOrs es G _ _ h (by intro z;rw[z]at J;cases J)
 |.not a,C,X,G,e,h=>by
  refine fv e h λo x _ h=>?_;replace h:=bj h;obtain⟨ho,h⟩:=h
  cases of_decide_eq_true ho
  exact vY (mE G.mono a) (sE a G _ h)
 |.ite c a b,C,X,G,e,h=>by
  refine wy e h λt x y _ h=>?_;simp only[h8]at h;exact xV (mT G.mono c) (mE G.mono a) (mE G.mono b) (sT c G _ h.1.1) (sE a G _ h.1.2) (sE b G _ h.2)
 |.tup es,C,X,G,e,h=>by
  refine cU e h λxs _ _ h=>?_;exact vQ (mA G.mono es) (sA es G _ h)
 |.lst es,C,X,G,e,h=>by
  refine ya e h λxs _ h=>?_;exact vR (mA G.mono es) (sA es G _ h)
 |.ix a b,C,X,G,e,h=>by
  refine cD e h λx y _ h=>?_;simp only[h8]at h;exact sL (zg (by have:=G.units;lia)) kR (mE G.mono a) (mE G.mono b) (sE a G _ h.1.2) (sE b G _ h.2) (jP h.1.1)
 |.sl a lo hi,C,X,G,e,h=>by
  refine jSl e h λx l u s p pos h=>?_;refine jon s h fun  h=>?_;simp only[h8]at h;exact xW (mE G.mono a) (mO G.mono lo) (mO G.mono hi) (sE a G _ h.1.1) (sO lo G _ h.1.2) (sO hi G _ h.2)
 |.call f es,C,X,G,e,h=>by
  refine dm e h λx xs p pos h=>?_;simp only[h8,decide_eq_true_eq,CJ]at h;have hA:=sA es G _ h.2;have L:=eg h.2
  cases xs with
  | nil =>
    cases es with
    |nil=>exact rY G h.1.1.1 (G.gl h.1.1.2) h.1.2
    |cons _ _=>simp[okEs]at h
  | cons y ys =>
    simp only[EG,h8]at L;exact uG G (mA G.mono es) h.1.1.1 (G.gl h.1.1.2) h.1.2 hA (ah L.1) (fx L.2)
 |.blt f es,C,X,G,e,h=>by
  refine dm e h λx xs p pos h=>?_;simp only[h8,decide_eq_true_eq,CJ]at h;have hA:=sA es G _ h.2;have L:=eg h.2;obtain⟨⟨⟨rfl,U⟩,J⟩,_⟩:=h
  cases xs with
  |nil=>simp at J
  | cons y ys =>
    simp only[EG,h8]at L;exact wM G (mA G.mono es) (G.gl U) hA (ah L.1) (fx L.2)
 |.chain op op' a b c,C,X,G,e,h=>by
  refine dH e h λl os rs pos h=>?_;refine dL os h λo o' h=>?_;refine dL rs h λr q h=>?_;simp only[h8,decide_eq_true_eq,CJ]at h;obtain⟨⟨⟨⟨⟨rfl,rfl⟩,O⟩,hb⟩,hc⟩,hm⟩:=h;exact rE (cK G op) (cK G op') (aY op) (aY op') (mE G.mono a) (mE G.mono b) (mE G.mono c) (sE a G _ O) (sE b G _ hb) (sE c G _ hc) hm
 |.glob x k',C,X,G,e,h=>by
  refine cC e h λx _ h=>?_;simp only[h8,decide_eq_true_eq,CJ]at h;obtain⟨⟨⟨rfl,U⟩,hc⟩,hd⟩:=h;obtain⟨u,Z,hv⟩:=G.cs _ _ hc;obtain⟨v,rv,rd⟩:=sR hv;exact PE.imp (t7 (v:=v) (G.gl U) Z rv hd) λσ H Q g9=>(by obtain⟨ρ,M,rs,rm,q⟩:=g9;exact q _ H Ext.refl rm (rd H))
 |.isin a T,C,X,G,e,h=>by
  refine dm e h λx xs p pos h=>?_;refine dL xs h λy w h=>?_;refine cC w h λz p2 h=>?_;simp only[h8,decide_eq_true_eq]at h;obtain⟨⟨⟨⟨⟨⟨rfl,U⟩,BD⟩,hz⟩,hT⟩,hs⟩,O⟩:=h;obtain⟨n1,n2,n3,n4⟩:=rZ G T hT;subst hz;exact ub hT (mE G.mono a) (sE a G _ O) (G.gl U) (G.mgB _ (by decide)) (G.gl BD) n1 n2 n3 n4 (ah hs) rfl
 |.meth m o a,C,X,G,e,h=>by
  refine nn e h λx n xs ap cp h=>?_;refine bN xs h λy h=>?_;simp only[h8,decide_eq_true_eq]at h;obtain⟨⟨⟨⟨⟨hn,j⟩,Y⟩,hs⟩,ho⟩,O⟩:=h;subst hn;have pa:PA X [y] (lA X.K (aH (wE Φ a) bh)):=bn (mE G.mono a) av (sE a G _ O) bV (ah hs);have few:((DH cp (Cm [y] X.env)).all (λx=>!x.1)&&(EY cp (DO [] X.env)).all (λx=>x.1.isSome)&&decide (([y]:List Expr).length+([]:List EJ).length+(if ([]:List EJ).isEmpty then 0 else 1)<30))=true:=by
   rw[ah hs];rfl
  cases m with
  |append=>exact PE.imp (et G8 PySem.F.slot_list_append PySem.F.type_list_append hU (sE o G _ ho) pa (ce j) few Y (ah hs) rfl) (kT eT (mE G.mono o) (ax (mE G.mono a) av) qT)
  |extend=>exact PE.imp (et G8 PySem.F.slot_list_extend PySem.F.type_list_extend oj (sE o G _ ho) pa (ce j) few Y (ah hs) rfl) (kT eU (mE G.mono o) (ax (mE G.mono a) av) qU)
 |.fstr es,C,X,G,e,h=>by
  refine nk e h λxs pos h=>?_;simp only[h8,decide_eq_true_eq]at h;have hf:=sFs es G xs h.2
  match xs,h.1,hf with
  |_::_::_,_,hf=>exact uw hf
 |.fmt a,C,X,G,e,h=>by
  refine gu e h λx c s _ h=>?_;refine jon s h fun  h=>?_;simp only[h8,decide_eq_true_eq]at h;obtain⟨rfl,O⟩:=h;exact wk (mE G.mono a) (sE a G _ O)
 |.join o a,C,X,G,e,h=>by
  refine nn e h λx n xs ap cp h=>?_;refine bN xs h λy h=>?_;simp only[h8,decide_eq_true_eq]at h;obtain⟨⟨⟨⟨⟨hn,j⟩,Y⟩,hs⟩,ho⟩,O⟩:=h;subst hn;have pa:PA X [y] (lA X.K (aH (wE Φ a) bh)):=bn (mE G.mono a) av (sE a G _ O) bV (ah hs);have few:((DH cp (Cm [y] X.env)).all (λx=>!x.1)&&(EY cp (DO [] X.env)).all (λx=>x.1.isSome)&&decide (([y]:List Expr).length+([]:List EJ).length+(if ([]:List EJ).isEmpty then 0 else 1)<30))=true:=by
   rw[ah hs];rfl
  exact PE.imp (et Ec PySem.F.slot_str_join PySem.F.type_str_join ur (sE o G _ ho) pa (ce j) few Y (ah hs) rfl) (pi (mE G.mono o) (mE G.mono a))
 |.smeth m o a,C,X,G,e,h=>by
  refine nn e h λx n xs ap cp h=>?_;refine bN xs h λy h=>?_;simp only[h8,decide_eq_true_eq]at h;obtain⟨⟨⟨⟨⟨hn,j⟩,Y⟩,hs⟩,ho⟩,O⟩:=h;subst hn;have pa:PA X [y] (lA X.K (aH (wE Φ a) bh)):=bn (mE G.mono a) av (sE a G _ O) bV (ah hs);have few:((DH cp (Cm [y] X.env)).all (λx=>!x.1)&&(EY cp (DO [] X.env)).all (λx=>x.1.isSome)&&decide (([y]:List Expr).length+([]:List EJ).length+(if ([]:List EJ).isEmpty then 0 else 1)<30))=true:=by
   rw[ah hs];rfl
  cases m with
  |split=>exact PE.imp (et Ec PySem.F.slot_str_split PySem.F.type_str_split rL (sE o G _ ho) pa (ce j) few Y (ah hs) rfl) (gW .split (mE G.mono o) (mE G.mono a))
  |part=>exact PE.imp (et Ec PySem.F.slot_str_partition PySem.F.type_str_partition uA (sE o G _ ho) pa (ce j) few Y (ah hs) rfl) (gW .part (mE G.mono o) (mE G.mono a))
  |starts=>exact PE.imp (et Ec PySem.F.slot_str_startswith PySem.F.type_str_startswith pz (sE o G _ ho) pa (ce j) few Y (ah hs) rfl) (gW .starts (mE G.mono o) (mE G.mono a))
 |.ixS a b,C,X,G,e,h=>by
  refine cD e h λx y _ h=>?_;simp only[h8]at h;exact sL y8 jK (mE G.mono a) (mE G.mono b) (sE a G _ h.1.2) (sE b G _ h.2) (jP h.1.1)
 |.slS a lo,C,X,G,e,h=>by
  refine jSl e h λx l u s p pos h=>?_;refine jon s h λh=>?_;refine jon u h λh=>?_;simp only[h8]at h;exact wt (mE G.mono a) (mO G.mono lo) (sE a G _ h.1) (sO lo G _ h.2)
 |.revS a st,C,X,G,e,h=>by
  refine jSl e h λx l u s p pos h=>?_;refine jon l h fun  h=>?_;refine jon u h fun  h=>?_;refine jos s h λs h=>?_;simp only[h8]at h;exact uz (mE G.mono a) (dW (mE G.mono st)) (sE a G _ h.1) (kS (mE G.mono st) (sE st G _ h.2))
 |.orL a b,C,X,G,e,h=>by
  refine dl e h λo xs _ h=>?_;refine dL xs h λx y h=>?_;obtain⟨ho,hy⟩:=bj h;obtain⟨ho,hx⟩:=bj ho
  cases of_decide_eq_true ho
  exact wl (mE G.mono a) (mE G.mono b) (sE a G _ hx) (sE b G _ hy)
 |.comp fr N' c,C,X,G,e,h=>by
  refine pH e h λelt gens sc pos h=>?_;simp only[h8]at h;have B:aW sc X.env.scope X.N N' fr:=by rw[G.sc,G.N];exact gw h.1
  have B':aW sc C.sc C.N N' fr:=gw h.1
  cases c with
  | last src g ifs m =>
    have h2:=h.2;simp only[okC]at h2
    split at h2
    ·rename_i t it fs a;simp only[h8,decide_eq_true_eq]at h2;obtain⟨⟨⟨⟨rfl,hi⟩,U⟩,Z⟩,he⟩:=h2;refine PE.imp (eS G.calm G.hx B (λg' z=>by simp at z) (sI src G _ t hi).1 (λs H fp=>sG (G.blk B' s H fp) g t U) (tb:=λp=>lC X.K p (ba (wTl Φ ifs) (cZ (wE Φ m)))) (λs H fp p=>?_) (sI src G _ t hi).2) (da (mI G.mono src) (aI (bo (mE G.mono m)) (mTl G.mono ifs)))
     have G':=G.blk B' s H fp;exact cL (p:=p) G' (bo (mE G.mono m)) (mTl G.mono ifs) (PB.imp (gL G'.hx (sE m G' elt he) rfl) (dY (mE G.mono m))) (sTl ifs G' fs Z)
    ·cases h2
  | more src g ifs rest =>
    have h2:=h.2;simp only[okC]at h2
    split at h2
    ·rename_i t it fs a g2 gs;simp only [h8,decide_eq_true_eq] at h2;obtain ⟨⟨⟨⟨rfl,hi⟩,U⟩,Z⟩,he⟩:=h2;have BE:∀ g',(g2::gs)[0]? = some g'->g'.is_async=0:=fun g' z=>by
      have z':g2=g':=by simpa using z
      subst z';exact eh he
     refine PE.imp (eS G.calm G.hx B BE (sI src G _ t hi).1 (λs H fp=>sG (G.blk B' s H fp) g t U) (tb:=λp=>lC X.K p (ba (wTl Φ ifs) (wCl Φ rest))) (λs H fp p=>?_) (sI src G _ t hi).2) (da (mI G.mono src) (aI (mCl G.mono rest) (mTl G.mono ifs)));have G':=G.blk B' s H fp;exact cL (p:=p) G' (mCl G.mono rest) (mTl G.mono ifs) (sCl rest G' elt (⟨t,it,fs,0⟩::g2::gs) sc pos 0 (.inl rfl) p he) (sTl ifs G' fs Z)
    ·cases h2
theorem sA:∀ (m:MEs) {C:Ctx} {X:Cx} (G:Good C Φ k X) (es:List Expr),okEs m C es=true->PA X es (lA X.K (wA Φ m))
 |.nil,C,X,G,es,h=>by
  simp[okEs]at h;subst h;exact bV
 |.cons m r,C,X,G,[],h=>by simp[okEs]at h
 |.cons m r,C,X,G,e::es,h=>by
  simp only[okEs,h8]at h;exact bn (mE G.mono m) (mA G.mono r) (sE m G e h.1.2) (sA r G es h.2) (ah h.1.1)
theorem sFs:∀ (m:MEs) {C:Ctx} {X:Cx} (G:Good C Φ k X) (es:List Expr),okEs m C es=true->PFd X es (wFs Φ m)
 |.nil,C,X,G,es,h=>by
  simp[okEs]at h;subst h;exact wj
 |.cons m r,C,X,G,[],h=>by simp[okEs]at h
 |.cons m r,C,X,G,e::es,h=>by
  simp only[okEs,h8]at h;exact uv (mE G.mono m) (mFs G.mono r) (sE m G e h.1.2) (sFs r G es h.2)
theorem sAnds:∀ (m:MEs) {C:Ctx} {X:Cx} (G:Good C Φ k X) (es:List Expr) (pos:Pos),okEs m C es=true->es≠[]->PE X (.BoolOp .And es pos) (lE X.K (wAnds Φ m))
 |.nil,C,X,G,es,pos,h,j=>by simp[okEs]at h;exact absurd h j
 |.cons m r,C,X,G,[],pos,h,j=>absurd rfl j
 |.cons m .nil,C,X,G,e::es,pos,h,_=>by
  simp only[okEs,h8]at h;obtain⟨h1,h2⟩:=h;simp at h2;subst h2;exact oM (sE m G e h1.2)
 |.cons m (.cons m2 r),C,X,G,e::es,pos,h,_=>by
  simp only[okEs,h8]at h;obtain⟨h1,h2⟩:=h
  cases es with
  |nil=>simp at h2
  | cons f fs =>
    exact vX (mE G.mono m) (mAnds G.mono _) (sE m G e h1.2) (sAnds (.cons m2 r) G (f::fs) pos (by simpa only[okEs,h8]using h2) (by simp))
theorem sOrs:∀ (m:MEs) {C:Ctx} {X:Cx} (G:Good C Φ k X) (es:List Expr) (pos:Pos),okEs m C es=true->es≠[]->PE X (.BoolOp .Or es pos) (lE X.K (wOrs Φ m))
 |.nil,C,X,G,es,pos,h,j=>by simp[okEs]at h;exact absurd h j
 |.cons m r,C,X,G,[],pos,h,j=>absurd rfl j
 |.cons m .nil,C,X,G,e::es,pos,h,_=>by
  simp only[okEs,h8]at h;obtain⟨h1,h2⟩:=h;simp at h2;subst h2;exact oM (sE m G e h1.2)
 |.cons m (.cons m2 r),C,X,G,e::es,pos,h,_=>by
  simp only[okEs,h8]at h;obtain⟨h1,h2⟩:=h
  cases es with
  |nil=>simp at h2
  | cons f fs =>
    exact xU (mE G.mono m) (mOrs G.mono _) (sE m G e h1.2) (sOrs (.cons m2 r) G (f::fs) pos (by simpa only[okEs,h8]using h2) (by simp))
theorem sO:∀ (m:MO) {C:Ctx} {X:Cx} (G:Good C Φ k X) (e:Option Expr),okO m C e=true->PO X e (lO X.K (wO Φ m))
 |.none,C,X,G,e,h=>by
  simp[okO]at h;subst h;exact u7
 |.some m,C,X,G,none,h=>by simp[okO]at h
 |.some m,C,X,G,some e,h=>by
  simp only[okO]at h;exact kS (mE G.mono m) (sE m G e h)
theorem sT:∀ (m:MT) {C:Ctx} {X:Cx} (G:Good C Φ k X) (e:Expr),okT m C e=true->PT X e (lT X.K (wT Φ m))
 |.tru m,C,X,G,e,h=>by
  simp only[okT,h8]at h;exact vT (mE G.mono m) (sE m G e h.2) (ny h.1)
 |.cmp op a b,C,X,G,e,h=>by
  refine dH e h λl os rs pos h=>?_;refine bN os h λo h=>?_;refine bN rs h λr h=>?_;simp only[h8,decide_eq_true_eq]at h;obtain⟨⟨⟨ho,B⟩,F⟩,hm⟩:=h;rw[CJ]at hm;subst ho;exact vP (cK G op) (aY op) (mE G.mono a) (mE G.mono b) (sE a G _ B) (sE b G _ F) hm
 |.chain op op' a b c,C,X,G,e,h=>by
  refine dH e h λl os rs pos h=>?_;refine dL os h λo o' h=>?_;refine dL rs h λr q h=>?_;simp only[h8,decide_eq_true_eq,CJ]at h;obtain⟨⟨⟨⟨⟨rfl,rfl⟩,B⟩,F⟩,J⟩,hm⟩:=h;exact rF (cK G op) (cK G op') (aY op) (aY op') (mE G.mono a) (mE G.mono b) (mE G.mono c) (sE a G _ B) (sE b G _ F) (sE c G _ J) hm
 |.and ts,C,X,G,e,h=>by
  refine dl e h λo xs _ h=>?_;replace h:=bj h;obtain⟨ho,h⟩:=h;obtain⟨ho,j⟩:=bj ho
  cases of_decide_eq_true ho
  exact(sAndTs ts G _ _ h (by intro z;rw[z]at j;cases j)).pt
 |.or ts,C,X,G,e,h=>by
  refine dl e h λo xs _ h=>?_;replace h:=bj h;obtain⟨ho,h⟩:=h;obtain⟨ho,j⟩:=bj ho
  cases of_decide_eq_true ho
  exact(sOrTs ts G _ _ h (by intro z;rw[z]at j;cases j)).pt
 |.not t,C,X,G,e,h=>by
  refine fv e h λo x _ h=>?_;replace h:=bj h;obtain⟨ho,h⟩:=h
  cases of_decide_eq_true ho
  exact vU (mT G.mono t) (sT t G _ h)
theorem sAndTs:∀ (m:MTs) {C:Ctx} {X:Cx} (G:Good C Φ k X) (es:List Expr) (pos:Pos),okTs m C es=true->es≠[]->PW X (.BoolOp .And es pos) (lT X.K (wAndTs Φ m))
 |.nil,C,X,G,es,pos,h,j=>by simp[okTs]at h;exact absurd h j
 |.cons m r,C,X,G,[],pos,h,j=>absurd rfl j
 |.cons m .nil,C,X,G,e::es,pos,h,_=>by
  simp only[okTs,h8]at h;obtain⟨h1,h2⟩:=h;simp at h2;subst h2;exact u5 (sT m G e h1)
 |.cons m (.cons m2 r),C,X,G,e::es,pos,h,_=>by
  simp only[okTs,h8]at h;obtain⟨h1,h2⟩:=h
  cases es with
  |nil=>simp at h2
  | cons f fs =>
    exact vW (mT G.mono m) (mAndTs G.mono _) (sT m G e h1) (sAndTs (.cons m2 r) G (f::fs) pos (by simpa only[okTs,h8]using h2) (by simp))
theorem sOrTs:∀ (m:MTs) {C:Ctx} {X:Cx} (G:Good C Φ k X) (es:List Expr) (pos:Pos),okTs m C es=true->es≠[]->PW X (.BoolOp .Or es pos) (lT X.K (wOrTs Φ m))
 |.nil,C,X,G,es,pos,h,j=>by simp[okTs]at h;exact absurd h j
 |.cons m r,C,X,G,[],pos,h,j=>absurd rfl j
 |.cons m .nil,C,X,G,e::es,pos,h,_=>by
  simp only[okTs,h8]at h;obtain⟨h1,h2⟩:=h;simp at h2;subst h2;exact vV (sT m G e h1)
 |.cons m (.cons m2 r),C,X,G,e::es,pos,h,_=>by
  simp only[okTs,h8]at h;obtain⟨h1,h2⟩:=h
  cases es with
  |nil=>simp at h2
  | cons f fs =>
    exact xT (mT G.mono m) (mOrTs G.mono _) (sT m G e h1) (sOrTs (.cons m2 r) G (f::fs) pos (by simpa only[okTs,h8]using h2) (by simp))
theorem sTl:∀ (m:MTs) {C:Ctx} {X:Cx} (G:Good C Φ k X) (es:List Expr),okTs m C es=true->D0 (λc t=>PT X c t) es ((wTl Φ m).map (lT X.K))
 |.nil,C,X,G,es,h=>by
  simp[okTs]at h;subst h;exact .nil
 |.cons m r,C,X,G,[],h=>by simp[okTs]at h
 |.cons m r,C,X,G,e::es,h=>by
  simp only[okTs,h8]at h;exact .cons (sT m G e h.1) (sTl r G es h.2)
theorem sI:∀ (m:MI) {C:Ctx} {X:Cx} (G:Good C Φ k X) (e tg:Expr),okI m C tg e=true->PI X tg e (lI X.K (wI Φ m)) /\ ∀ x,Dr e X.env x=pure x
 |.seq m,C,X,G,e,tg,h=>by
  simp only[okI,h8]at h;exact⟨w8 (mE G.mono m) (sE m G e h.2),jQ h.1⟩
 |.chars m,C,X,G,e,tg,h=>by
  simp only[okI,h8]at h;exact⟨rP (mE G.mono m) (sE m G e h.2),jQ h.1⟩
 |.rng1 a,C,X,G,e,tg,h=>by
  refine dm e h λx xs p pos h=>?_;refine bN xs h λy h=>?_;simp only[h8,decide_eq_true_eq]at h;obtain⟨⟨⟨rfl,j⟩,hs⟩,B⟩:=h;exact⟨uf (ax (mE G.mono a) av) (G.gl j) (G.mgB _ (by decide)) (bn (mE G.mono a) av (sE a G _ B) bV (ah hs)) (ah hs),λx=>rfl⟩
 |.enum a,C,X,G,e,tg,h=>by
  refine dm e h λx xs p pos h=>?_;refine bN xs h λy h=>?_;refine cU tg h λts kt pt h=>?_;simp only[h8,decide_eq_true_eq]at h;obtain⟨⟨⟨rfl,j⟩,hs⟩,B⟩:=h;exact⟨ug (mE G.mono a) (G.gl j) (G.mgB _ (by decide)) (bn (mE G.mono a) av (sE a G _ B) bV (ah hs)) (ah hs),λx=>rfl⟩
 |.enum1 a,C,X,G,e,tg,h=>by
  refine ni e h λf xs ks pos h=>?_;refine cC f h λx p h=>?_;refine bN xs h λy h=>?_;refine bN ks h λq h=>?_;obtain⟨qa,qv,qp⟩:=q;refine cn qv h λc U Y h=>?_;refine cU tg h λts kt pt h=>?_;simp only[h8,decide_eq_true_eq]at h;obtain⟨⟨⟨⟨⟨rfl,j⟩,hs⟩,J⟩,L⟩,B⟩:=h
  cases J
  cases L
  exact⟨rQ (mE G.mono a) (G.gl j) (G.mgB _ (by decide)) (bn (mE G.mono a) av (sE a G _ B) bV (ah hs)) (ah hs),λx=>rfl⟩
 |.zip a b,C,X,G,e,tg,h=>by
  refine dm e h λx xs p pos h=>?_;refine dL xs h λy z h=>?_;refine cU tg h λts kt pt h=>?_;simp only[h8,decide_eq_true_eq]at h;obtain⟨⟨⟨⟨⟨rfl,j⟩,hs⟩,F⟩,B⟩,O⟩:=h;exact⟨wb (mE G.mono a) (mE G.mono b) (G.gl j) (G.mgB _ (by decide)) (bn (mE G.mono a) (ax (mE G.mono b) av) (sE a G _ B) (bn (mE G.mono b) av (sE b G _ O) bV (ah F)) (ah hs)) (by rw[ah hs,ah F];rfl) (ah F),λx=>rfl⟩
theorem sCl:∀ (m:MC) {C:Ctx} {X:Cx} (G:Good C Φ k X) (elt:Expr) (gens:List CF) (sc:Scope) (pos:Pos) (d:Nat) (_:d=0∨d=d) (p:Addr),okC m C C (gens.drop (d+1)) elt=true ->
 PB X (aV elt gens sc pos d (.ref p) X.env) (lC X.K p (wCl Φ m))
 |.last src g ifs m,C,X,G,elt,gens,sc,pos,d,_,p,h=>by
  simp only[okC]at h
  split at h
  ·rename_i t it fs a hd;simp only [h8,decide_eq_true_eq] at h;obtain ⟨⟨⟨⟨rfl,hi⟩,B⟩,F⟩,he⟩:=h;have J:gens[d+1]? = some ⟨t,it,fs,0⟩:=by
    have z:(gens.drop (d+1))[0]? = some ⟨t,it,fs,0⟩:=by rw[hd];rfl
    rw[Ed]at z;simpa using z
   have j:gens[d+1+1]? = none:=by
    have z:(gens.drop (d+1))[1]? = none:=by rw[hd];rfl
    rw[Ed]at z;simpa using z
   refine PB.imp (hZ G.hx G.calm J (λg' z=>by rw[j]at z;cases z) (sI src G _ t hi).1 (sG G g t B) (cL (p:=p) G (bo (mE G.mono m)) (mTl G.mono ifs) (PB.imp (gL G.hx (sE m G elt he) j) (dY (mE G.mono m))) (sTl ifs G fs F)) (sI src G _ t hi).2) (eW (mI G.mono src) (aI (bo (mE G.mono m)) (mTl G.mono ifs)))
  ·cases h
 |.more src g ifs rest,C,X,G,elt,gens,sc,pos,d,_,p,h=>by
  simp only[okC]at h
  split at h
  ·rename_i t it fs a g2 gs hd;simp only [h8,decide_eq_true_eq] at h;obtain ⟨⟨⟨⟨rfl,hi⟩,B⟩,F⟩,he⟩:=h;have J:gens[d+1]? = some ⟨t,it,fs,0⟩:=by
    have z:(gens.drop (d+1))[0]? = some ⟨t,it,fs,0⟩:=by rw[hd];rfl
    rw[Ed]at z;simpa using z
   have j:gens[d+1+1]? = some g2:=by
    have z:(gens.drop (d+1))[1]? = some g2:=by rw[hd];rfl
    rw[Ed]at z;simpa using z
   have O:gens.drop (d+1+1)=g2::gs:=by
    have z:(gens.drop (d+1)).drop 1=g2::gs:=by rw[hd];rfl
    rw[List.drop_drop]at z;simpa using z
   have L:∀ g',gens[d+1+1]? = some g'->g'.is_async=0:=λg' z=>by
    rw[j]at z;cases z;exact eh he
   refine PB.imp (hZ G.hx G.calm J L (sI src G _ t hi).1 (sG G g t B) (cL (p:=p) G (mCl G.mono rest) (mTl G.mono ifs) (sCl rest G elt gens sc pos (d+1) (.inr rfl) p (by rw[O];exact he)) (sTl ifs G fs F)) (sI src G _ t hi).2) (eW (mI G.mono src) (aI (mCl G.mono rest) (mTl G.mono ifs)))
  ·cases h
end
end
end
section
section
variable {Φ:Phi} {k:Nat} {C:Ctx} {X:Cx}
theorem sd {ts vs:List Expr}{kk j:Nat}{pp p2:Pos}(hs:env.scope=sc)(z:sc.kind = .function)(h:no sc ts vs=true):DT [.Tuple ts kk pp] (.Tuple vs j p2) env=pure none:=by
 have B:env.blockKind = .function:=by unfold G0;rw[hs,z];rfl
 have h':no sc ts vs=true:=h;unfold DT;dsimp only;rw[B]
 by_cases c1:(!(ts.length==2 || ts.length==3) || vs.length != ts.length)=true
 ·simp only[c1,Bool.true_or,if_true]
 ·simp only[F7]at c1;rw[c1];simp only[FU,bne_self_eq_false,EL,if_false]
  split
  ·rfl
  ·
    generalize F:List.filterMap _ ts=L;obtain rfl:L=aU sc ts:=by
     rw[<- F];unfold aU;congr 1
     funext x
     cases x <;> first|rfl|(unfold HH;rw[hs])
    unfold no at h';rw[c1]at h';simp only[FU,Fi]at h'
    by_cases c3:((aU sc ts).length != ts.length || (aU sc ts).eraseDups.length != (aU sc ts).length)=true
    ·rw[if_pos c3]
    ·rw [if_neg c3];have J:vs.all (Hs 8)=true:=by
      rcases h' with h'|h'
      ·exact absurd (Fi _ _ |>.mpr h') c3
      ·exact h'
     rw[if_pos J]
theorem uH {ts vs:List Expr}{ns:List Str}{kk j:Nat}{pp p2:Pos}(hs:env.scope=sc)(B:sc.kind = .function)(h:nt sc ts vs ns=true):DT [.Tuple ts kk pp] (.Tuple vs j p2) env=pure (some ns):=by
 have F:env.blockKind = .function:=by unfold G0;rw[hs,B];rfl
 simp only[nt,h8,CJ,decide_eq_true_eq]at h;obtain⟨⟨⟨⟨⟨J,O⟩,U⟩,Y⟩,Z⟩,c6⟩:=h;unfold DT;dsimp only;rw[F,J];simp only[FU,bne_self_eq_false,EL,if_false]
 split
 ·next z=>exact absurd z (by rw[F7];exact O)
 ·generalize hL:List.filterMap _ ts=L;obtain rfl:L=aU sc ts:=by
   rw[<- hL];unfold aU;congr 1
   funext x
   cases x <;> first|rfl|(unfold HH;rw[hs])
  rw[Y,Z,c6,U];rfl
theorem lh {i:Nat}(h:nr C i x=true):C.N[i]? = some x/\C.sc.names.lookup x=some .local:=by
 simpa[nr]using h
theorem cM {tg:Expr}{b:Bool}(h:EO e (some tg) l env=pure b):ED [tg] e l env=pure b:=by
 unfold ED;exact h
theorem uI {tg:Expr}(hs:env.scope=sc)(j:sc.kind = .function)(h:sW sc tg e=true):DT [tg] e env=pure none:=by
 cases tg with
 | Tuple ts kk pp =>
   cases e with
   |Tuple vs z p2=>exact sd hs j h
   |_=>rfl
 |_=>first|rfl|(cases h;done)
theorem jS {elt:Expr}{gens:List CF}{s:Scope}{px:Pos}(hs:env.scope=sc)(j:sc.kind = .function) :
 EO (.ListComp elt gens s pos) (some (.Name x px)) l env=pure (nv sc x px (.ListComp elt gens s pos)):=by
 have z:env.blockKind = .function:=by unfold G0;rw[hs,j];rfl
 unfold EO;dsimp only;rw[z];unfold nv HH;rw[hs];rfl
theorem pK {ek ev:Expr}{gens:List CF}{s:Scope}{px:Pos}(hs:env.scope=sc)(j:sc.kind = .function) :
 EO (.DictComp ek ev gens s pos) (some (.Name x px)) l env=pure (sc.names.lookup x==some .local&&px.line==(Expr.DictComp ek ev gens s pos).pos.line && !(s.names.any λ(n,k)=>n==x&&(k == .local || k == .cell))):=by
 have z:env.blockKind = .function:=by unfold G0;rw[hs,j];rfl
 unfold EO;dsimp only;rw[z];unfold HH;rw[hs];rfl
mutual
theorem sS:∀ (m:MS) (G:Good C Φ k X) (F:C.sc.kind = .function) (s:Stmt),okS m C s=true->PS X s (lS X.K (wS Φ m))
 |.asg g m,G,F,s,h=>by
  refine fw s h λts e pos h1=>?_;clear h;refine bN ts h1 λtg h=>?_;clear h1;simp only[h8]at h;obtain⟨⟨⟨J,he⟩,Y⟩,U⟩:=h;have hw:=uI G.sc F Y;have pg:=sG G g tg J;have plain:ED [tg] e pos.line X.env=pure false->PS X (.Assign [tg] e pos) (lS X.K (gT (wE Φ m) (bG g))):=λhs =>
   PS.imp (nP (sE m G e he) pg hs hw (by cases tg <;> first|rfl|(cases Y;done))) (rl (mE G.mono m))
  cases tg with
  |Tuple ts a b=>exact plain (cM (gX U))
  | Name x px =>
    cases e with
    | ListComp elt gens sc cpos =>
      by_cases sw:nv C.sc x px (.ListComp elt gens sc cpos)=true
      ·cases g with
       |tup gs=>exact absurd J q7
       | name i =>
         cases m with
         | comp fr N' c =>
           replace he:=bj he;have B:aW sc X.env.scope X.N N' fr:=by rw[G.sc,G.N];exact gw he.1
           have B':aW sc C.sc C.N N' fr:=gw he.1;have Z:PG X (.Name x px) (fE i):=by
            have J:=bj J;have J:=H8 (bj J.1) J.2;exact kG G.nd (by rw[G.N];exact of_decide_eq_true J.1.1) (G.loc J.1.2) (G.own J.2)
           have BD:∀ l,EO (.ListComp elt gens sc cpos) (some (.Name x px)) l X.env=pure true:=λl=>by rw[jS G.sc F,sw]
           have mc:=mCmp G.mono fr c
           cases c with
           | last src g ifs m =>
             have h2:=he.2;simp only[okC]at h2
             split at h2
             ·rename_i t it fs a;simp only[h8,decide_eq_true_eq]at h2;obtain⟨⟨⟨⟨rfl,hi⟩,O⟩,ht⟩,L⟩:=h2;refine PS.imp (fO (i:=i) (g:=lG X.K (bG g)) (wi:=lI X.K (wI Φ src)) G.calm G.hx B (λg' z=>by simp at z) (sI src G _ t hi).1 (λs H fp=>sG (G.blk B' s H fp) g t O) (tb:=λp=>lC X.K p (ba (wTl Φ ifs) (cZ (wE Φ m)))) (λs H fp p=>?_) (sI src G _ t hi).2 Z (BD _)) λD σ H h=>?_
              ·have G':=G.blk B' s H fp;exact cL (p:=p) G' (bo (mE G.mono m)) (mTl G.mono ifs) (PB.imp (gL G'.hx (sE m G' elt L) rfl) (dY (mE G.mono m))) (sTl ifs G' fs ht)
              ·exact da (mI G.mono src) (aI (bo (mE G.mono m)) (mTl G.mono ifs)) σ H _ (ig mc D σ H h)
             ·cases h2
           | more src g ifs rest =>
             have h2:=he.2;simp only[okC]at h2
             split at h2
             ·rename_i t it fs a g2 gs;simp only [h8,decide_eq_true_eq] at h2;obtain ⟨⟨⟨⟨rfl,hi⟩,O⟩,ht⟩,L⟩:=h2;have BE:∀ g',(g2::gs)[0]? = some g'->g'.is_async=0:=fun g' z=>by
               have z':g2=g':=by simpa using z
               subst z';exact eh L
              refine PS.imp (fO (i:=i) (g:=lG X.K (bG g)) (wi:=lI X.K (wI Φ src)) G.calm G.hx B BE (sI src G _ t hi).1 (λs H fp=>sG (G.blk B' s H fp) g t O) (tb:=λp=>lC X.K p (ba (wTl Φ ifs) (wCl Φ rest))) (λs H fp p=>?_) (sI src G _ t hi).2 Z (BD _)) λD σ H h=>?_
              ·have G':=G.blk B' s H fp;exact cL (p:=p) G' (mCl G.mono rest) (mTl G.mono ifs) (sCl rest G' elt (⟨t,it,fs,0⟩::g2::gs) sc cpos 0 (.inl rfl) p L) (sTl ifs G' fs ht)
              ·exact da (mI G.mono src) (aI (mCl G.mono rest) (mTl G.mono ifs)) σ H _ (ig mc D σ H h)
             ·cases h2
         |_=>exact absurd he q7
      ·refine plain ?_;simp only[F7]at sw;refine cM ?_;rw[jS G.sc F,sw]
    |SetComp _ _ _ _=>cases m <;> exact absurd he q7
    | DictComp _ _ _ _ _ =>
      refine plain (cM ?_);rw[pK G.sc F];unfold wH at U;simp only[CJ]at U;rw[U]
    |_=>exact plain (cM rfl)
  |_=>cases Y
 |.par i j a b,G,F,s,h=>by
  refine fw s h λts e pos h=>?_;refine bN ts h λtg h=>?_;refine cU tg h λts k p h=>?_;refine cU e h λes k' p' h=>?_;refine dL ts h λt u h=>?_;refine dL es h λe f h=>?_;refine cC t h λx px h=>?_;refine cC u h λy py h=>?_;simp only[h8,decide_eq_true_eq]at h;obtain⟨⟨⟨⟨⟨⟨⟨hi,hj⟩,BG⟩,n1⟩,n2⟩,Y⟩,hb⟩,hw⟩:=h;obtain⟨i1,i2⟩:=lh hi;obtain⟨j1,j2⟩:=lh hj;exact PS.imp (vm G.calm G.nd (by rw[G.N];exact i1) (by rw[G.N];exact j1) BG (by rw[G.sc];exact i2) (by rw[G.sc];exact j2) (bn (mE G.mono a) (ax (mE G.mono b) av) (sE a G _ Y) (bn (mE G.mono b) av (sE b G _ hb) bV (ah n2)) (ah n1)) (uH G.sc F hw) (cM rfl)) (p9 (ax (mE G.mono a) (ax (mE G.mono b) av)))
 |.put o i m,G,F,s,h=>by
  refine fw s h λts e pos h=>?_;refine bN ts h λtg h=>?_;refine cD tg h λx y tp h=>?_;simp only[h8]at h;obtain⟨⟨⟨⟨BH,U⟩,ho⟩,hi⟩,he⟩:=h;exact wd (by have:=G.units;lia) (mE G.mono m) (mE G.mono o) (mE G.mono i) (sE m G e he) (sE o G x ho) (sE i G y hi) (cM (gX U)) rfl (λv=>by cases y <;> first|rfl|(cases BH;done))
 |.aug i op m,G,F,s,h=>by
  refine kE s h λt o e pos h=>?_;refine cC t h λx _ h=>?_;simp only[h8,decide_eq_true_eq]at h;obtain⟨⟨⟨⟨⟨rfl,BI⟩,hi⟩,hl⟩,hf⟩,he⟩:=h
  cases op with
  |add=>exact gd G.nd (by rw[G.N];exact hi) (G.loc hl) (sE m G _ he) oZ ii (mE G.mono m) (G.own hf)
  |sub=>exact gd G.nd (by rw[G.N];exact hi) (G.loc hl) (sE m G _ he) p6 ij (mE G.mono m) (G.own hf)
  |ext=>exact gd G.nd (by rw[G.N];exact hi) (G.loc hl) (sE m G _ he) pv io (mE G.mono m) (G.own hf)
  |mul=>exact gd G.nd (by rw[G.N];exact hi) (G.loc hl) (sE m G _ he) p8 ik (mE G.mono m) (G.own hf)
  |_=>simp at BI
 |.drop m,G,F,s,h=>by
  refine wB s h λe _ h=>?_;simp only[h8]at h;exact PS.imp (tq (sE m G _ h.2) (gX h.1)) (oX (mE G.mono m))
 |.ret m,G,F,s,h=>by
  refine rX s h λo _ h=>?_;refine jos o h λe h=>?_;exact PS.imp (vf (sE m G _ h)) (rj (mE G.mono m))
 |.ite c a b,G,F,s,h=>by
  refine zn s h λt x y _ h=>?_;simp only[h8]at h;exact PS.imp (xr (sT c G _ h.1.1) (sSs a G F _ h.1.2) (sSs b G F _ h.2)) (uh (mT G.mono c))
 |.for g src b,G,F,s,h=>by
  refine yb s h λtg it body els _ h=>?_;refine jO els h fun  h=>?_;simp only[h8]at h;obtain⟨⟨⟨hs,J⟩,hi⟩,hb⟩:=h;exact PS.imp (vq (λe s z=>(G.hx e s z).elim) G.calm (sI src G _ _ hi).1 (sG G g _ J) (sSs b G F _ hb) (jQ hs)) (rn (mI G.mono src) (mSs G.mono b))
 |.while c b,G,F,s,h=>by
  refine uE s h λt body els _ h=>?_;refine jO els h fun  h=>?_;simp only[h8]at h;exact PS.imp (qh (λe s z=>(G.hx e s z).elim) (sT c G _ h.1) (sSs b G F _ h.2)) (mH (mT G.mono c) (mSs G.mono b))
 |.bot,G,F,s,h=>λpins s0 σ H D I g9=>(by obtain⟨ρ,M,A,rs,rm,l,q⟩:=g9;exact q.elim)
 |.pass,G,F,s,h=>by
  refine wF s h λ_ h=>?_;exact PS.imp tm ie
 |.brk,G,F,s,h=>by
  refine uF s h λ_ h=>?_;exact PS.imp qf mG
 |.cnt,G,F,s,h=>by
  refine nl s h λ_ h=>?_;exact PS.imp kr oW
theorem sSs:∀ (m:MSs) (G:Good C Φ k X) (j:C.sc.kind = .function) (s:List Stmt),okSs m C s=true->PSs X s (lS X.K (wSs Φ m))
 |.nil,G,j,s,h=>by
  simp[okSs]at h;subst h;exact PSs.imp tf ie
 |.cons m r,G,j,[],h=>by simp[okSs]at h
 |.cons m r,G,j,s::ss,h=>by
  simp only[okSs,h8]at h;exact PSs.imp (qe (sS m G j s h.1) (sSs r G j ss h.2)) (rh (mS G.mono m) (mSs G.mono r))
end
end
end
variable {a:Addr}{ns:List Int}
section
structure FD where
 name:Str
 st:Stmt
 N:List Str
 np:Nat
 body:MSs
noncomputable def dq (N:List Str) (ds:List D):ao:=ds.map some++Cd (N.length - ds.length) none
noncomputable def phi (T:List FD):Nat->Phi
 |0=>λ_ _ _ _=>False
 |k+1=>λf ds M Q=>∃ d,T[f]? = some d/\ds.length=d.np/\wSs (phi T k) d.body { nx:=λ_ M'=>Q .non M',rt:=Q } (dq d.N ds) M
theorem fy (T:List FD):∀ k f,aJ (phi T k f)
 |0,f=>λ_ _ _ _ _ q=>q.elim
 |k+1,f=>λds M Q Q' h j=>(by obtain⟨d,e,l,q⟩:=j;exact⟨d,e,l,mSs (fy T k) d.body { nx:=λ_ M'=>Q .non M',rt:=Q } { nx:=λ_ M'=>Q' .non M',rt:=Q' } _ _ ⟨λ_ M' q'=>h _ _ q',h,λ_ _ z=>z,λ_ _ z=>z⟩ q⟩)
noncomputable def nA (Γ:List Str) (cs:List (Str×D)) (d:FD):Bool :=
 decide ((au d.st).kind = .function) && !(au d.st).isCoroutine && !(au d.st).isGenerator&&decide (d.N.Nodup)&&decide (d.np<=d.N.length)
  && (d.N.take d.np).all (λx=>(au d.st).names.lookup x==some .local || (au d.st).names.lookup x==some .cell)
  && (au d.st).names.all (λy=>!(y.2 == .free))&&okSs d.body ⟨Γ,d.N,au d.st,d.N,cs,0,d.name⟩ (bx d.st)
theorem se {Γ:List Str}{cs:List (Str×D)}{d:FD}(h:nA Γ cs d=true):er d.N (d.N.take d.np) (au d.st)/\(d.N.take d.np).length=d.np/\okSs d.body ⟨Γ,d.N,au d.st,d.N,cs,0,d.name⟩ (bx d.st)=true:=by
 simp only[nA,h8,decide_eq_true_eq,CJ]at h;obtain⟨⟨⟨⟨⟨⟨⟨h1,h2⟩,B⟩,F⟩,Y⟩,J⟩,L⟩,O⟩:=h;have j:(d.N.take d.np).length=d.np:=by rw[DC];lia
 refine⟨⟨h1,h2,B,F,by rw[j],λx hx=>?_,λy U e=>?_⟩,j,O⟩
 ·have z:=Dm.mp J x hx;simpa using z
 ·have z:=Dm.mp L y U;rw[e]at z;simp at z
section
variable {P:Ct} {w:CC} {K:Frag} {mg:Str->Option h6} {base:Heap}
structure sX (K:Frag) (mg:Str->Option h6) (T:List FD) (cs:List (Str×D)):Prop where
 blt:∀ x∈bltNames,mg x=none
 fns:∀ (i:Nat) (d:FD),T[i]? = some d -> ∃ f fd,Fun K d.name d.name d.st f fd/\mg d.name=some (.ref f)/\Dy K CH d.name=some (some (.ref f))/\Binds K fd (d.N.take d.np) []
 ok:∀ d∈T,nA (T.map (·.name)) cs d=true
 cst:∀ x d,(x,d)∈cs -> ∃ u,mg x=some u/\GV K d u
theorem pL {T:List FD}{cs:List (Str×D)}(O:sX K mg T cs):∀ (k i:Nat) (d:FD) (f:Addr) (fd:Ee),T[i]? = some d->Fun K d.name d.name d.st f fd->cr P w K mg base CX0 k f fd (d.N.take d.np) (lSp K (phi T k i))
 |0,i,d,f,fd,e,F=>⟨λvs H Q E h=>by obtain⟨ds,M,_,_,q⟩:=h;exact q.elim,λA outer s H args us vs Q E _ _ _ _ h=>by obtain⟨ds,M,_,_,q⟩:=h;exact q.elim⟩
 | k+1,i,d,f,fd,e,F=>by
   obtain⟨S,hl,hb⟩:=se (O.ok d (CI e));refine F.ok S (λvs H Q E h=>?_) λcdv A outer s H vs Q E hr h=>?_
   ·obtain⟨ds,M,rm,rs,d',e',l,q⟩:=h;rw[e]at e';cases e';rw[rs.length,l,hl]
   ·obtain ⟨ds,M,rm,rs,d',e',l,q⟩:=h;rw [e] at e';cases e';have G:Good ⟨T.map (·.name),d.N,au d.st,d.N,cs,0,d.name⟩ (phi T k) k ((eZ CX0 P w K mg base d.N d.name (au d.st) f cdv A outer s H E).nox):=by
     refine⟨λ_ _ z=>z,rfl,rfl,rfl,S.nd,λ_ _=>rfl,hr,O.blt,λj x hx=>?_,fy T k,O.cst,λz=>(by cases z),λ_ z=>(by cases z)⟩
     have B:(T.map (·.name))[j]? = some x:=hx;rw[CB]at B
     cases Y:T[j]? with
     |none=>rw[Y]at B;cases B
     | some d2 =>
       rw[Y]at B;cases B;obtain⟨f2,U,Z,m2,n2,b2⟩:=O.fns j d2 Y;exact⟨f2,U,_,m2,n2,Z.kp,b2,pL O k j d2 f2 U Y Z⟩
    refine⟨_,sSs d.body G S.kind _ hb,dq d.N ds,M,{ nx:=λ_ M'=>KE' K M H Q .non M',rt:=KE' K M H Q },?_,rm,⟨λρ M' σ H' x rs' rm' q'=>?_,λd M' v H' x rm' rd' q'=>q' v H' x rm' rd',λ_ _ _ _ _ _ _ z=>z,λ_ _ _ _ _ _ _ z=>z⟩,q⟩
    ·refine⟨by simp[ci,dq,rs.length],λj dd J=>?_⟩
     unfold dq at J;unfold ci
     by_cases L:j<ds.length
     ·rw[DI (by simpa using L),CB]at J
      cases e3:ds[j]? with
      |none=>rw[e3]at J;cases J
      | some z =>
        rw[e3]at J;cases J;obtain⟨v,hv,rv⟩:=rs.get e3;refine⟨v,?_,rv⟩;rw[DI (by rw[Ca,rs.length];exact L),CB,hv];rfl
     ·rw[Ep (by simpa using L),ER]at J
      split at J <;> cases J
    ·exact q' .non H' x rm' (Jv.mpr rfl)
theorem wN {T:List FD}{k i:Nat}{H:Hp}(B:lZ H)(F:SqL K H a (ns.map V.int))(h:phi T k i [.con (ns.map D.int)] (λ_=>none) λd _=>d = .bl true) :
 lSp K (phi T k i) [.ref a] H (λv _=>v = .bl true) λ_ _ _=>False:=by
 have j:RM K (λ_=>none) H:=λ_ _ z=>by cases z
 refine⟨[.con (ns.map D.int)],λ_=>none,j,RDs.cons (Jy.mpr ⟨a,ns.map V.int,rfl,?_,RDs.ints ns⟩) RDs.nil,fy T k i [.con (ns.map D.int)] (λ_=>none) (λd _=>d = .bl true) (KE' K (λ_=>none) H λv _=>v = .bl true) (λd M' e=>λv H' x rm rd=>?_) h⟩
 ·rcases F with(z|⟨o,z⟩)|z
  ·rcases B a with q|⟨o,xs,q⟩
   ·rw[z]at q;cases q
   ·rw[z]at q;cases q
  ·exact .inl ⟨o,z⟩
  ·exact .inr z
 ·subst e;exact Jt.mp rd
end
theorem bD (us:List h6)(h:us.length=1):∃ a,us=[a]:=List.length_eq_one_iff.mp h
theorem ca (us:List h6)(h:us.length=2):∃ a b,us=[a,b]:=by
 cases us with
 |nil=>cases h
 |cons a us=>obtain⟨b,rfl⟩:=bD us (Nat.succ.inj h);exact⟨a,b,rfl⟩
theorem yd (us:List h6)(h:us.length=3):∃ a b c,us=[a,b,c]:=by
 cases us with
 |nil=>cases h
 |cons a us=>obtain⟨b,c,rfl⟩:=ca us (Nat.succ.inj h);exact⟨a,b,c,rfl⟩
end
variable {b:Addr}{n c:Nat}{j i:Int}{s:Stmt}{d:FD}{T:List FD}{ds xs:List D}{M M' M'':Mem}{Q:QD}{ρ:ao}{Φ:Phi}{y:Str}{E:bv}
section
theorem wP {k:Nat}(e:T[f]? = some d)(l:ds.length=d.np)(r:dq d.N ds = ρ)(h:wSs (phi T k) d.body { nx:=λ_ M'=>Q .non M',rt:=Q } ρ M):phi T (k+1) f ds M Q:=by
 rw[<- r]at h
 first|exact⟨d,e,l,h⟩|exact .inl ⟨d,e,l,h⟩
theorem aw (j : 1<=n)(e:T[f]? = some d)(l:ds.length=d.np)(r:dq d.N ds = ρ)(h:wSs (phi T (n - 1)) d.body { nx:=λ_ M'=>Q .non M',rt:=Q } ρ M):phi T n f ds M Q:=by
 obtain⟨k,rfl⟩:∃ k,n=k+1:=⟨n - 1,by lia⟩
 exact wP e l r h
theorem zL {D:bv}:wSs Φ .nil D ρ M=D.nx ρ M:=by rw[wSs];rfl
theorem dM {s:MS}{r:MSs}{D:bv}:wSs Φ (.cons s r) D ρ M=wS Φ s { D with nx:=wSs Φ r D } ρ M:=by rw[wSs];rfl
theorem zM {y:D}:wIx (.tup ds) y M Q = ∃ i d,y = .int i/\atI ds i=some d/\Q d M:=rfl
theorem zN {y:D}:wIx (.con ds) y M Q = ∃ i d,y = .int i/\atI ds i=some d/\Q d M:=rfl
theorem bf {d:D}(h:M a=some (.lst ds))(e:atI ds i=some d)(q:Q d M):wIx (.ref a) (.int i) M Q:=.inl ⟨ds,i,d,h,rfl,e,q⟩
theorem br {v:D}{j:Nat}{Q:Mem->Prop}(h:M a=some (.lst ds))(e:ixN ds.length i=some j)(q:Q (ae M a (.lst (ds.set j v)))):fZ (.ref a) (.int i) v M Q:=⟨a,rfl,.inl ⟨ds,i,j,rfl,h,e,q⟩⟩
theorem lj (h:M a=some (.lst ds))(q:Q (.int ds.length) M):dB [.ref a] M Q:=⟨_,_,rfl,by simp only[jw,h],q⟩
theorem ag (h:M a=some (.lst ds)):aE M (.ref a)=some ds:=by simp only[aE,h]
theorem Ar:gQ [.int i] M Q=Q (.int i) M:=by
 apply propext;constructor
 ·rintro(⟨j,e,q⟩|⟨k,e,q⟩)
  ·cases e;exact q
  ·cases e
 ·exact λq=>.inl ⟨i,rfl,q⟩
theorem As {b:Bool}:gQ [.bl b] M Q=Q (.int (if b then 1 else 0)) M:=by
 apply propext;constructor
 ·rintro(⟨j,e,q⟩|⟨k,e,q⟩)
  ·cases e
  ·cases e;exact q
 ·exact λq=>.inr ⟨b,rfl,q⟩
theorem Bo:wEq (.int i) (.int j) M Q=Q (.bl (i==j)) M:=by
 simp[wEq,rb,DZ]
theorem Bp:wNe (.int i) (.int j) M Q=Q (.bl (!(i==j))) M:=by
 simp[wNe,rb,DZ]
theorem Au:dg (.int i) (.int j) M Q=Q (.int (i+j)) M:=rfl
theorem Av {a b:List D}:dg (.tup a) (.tup b) M Q=((a≠[]∨True)/\a.length+b.length<=tv/\Q (.tup (a++b)) M):=rfl
theorem Aw:jn (.int i) (.int j) M Q=Q (.int (i - j)) M:=rfl
theorem Ax:dU (.int i) (.int j) M Q=(MulOk i j/\Q (.int (i*j)) M):=rfl
theorem Ay {k:Int}:dU (.tup ds) (.int k) M Q=(-(2 ^ 63)<=k/\k<2 ^ 63/\ds.length*k.toNat<=tv/\Q (.tup (Cd k.toNat ds).flatten) M):=rfl
theorem wQ {k:Int}:dU (.ref a) (.int k) M Q = ∃ xs,M a=some (.lst xs) /\ -(2 ^ 63)<=k/\k<2 ^ 63/\xs.length*k.toNat<=tv /\ ∀ p,M p=none->Q (.ref p) (ae M p (.lst (Cd k.toNat xs).flatten)):=rfl
theorem zO:fP (.int i) (.int j) M Q=(0<j/\j<2 ^ 256/\Q (.int (i / j)) M):=rfl
theorem Az:jo (.int i) (.int j) M Q=(0<j/\Q (.int (i % j)) M):=rfl
theorem AA:jp (.int i) (.int j) M Q=(0<=j/\j<=1000000/\i.natAbs<2 ^ 64/\Q (.int (i ^ j.toNat)) M):=rfl
theorem Bq:wLt (.int i) (.int j) M Q=Q (.bl (decide (i<j))) M:=rfl
theorem Br:wLe (.int i) (.int j) M Q=Q (.bl (decide (i<=j))) M:=rfl
theorem ye:wGt (.int i) (.int j) M Q=Q (.bl (decide (j<i))) M:=rfl
theorem Bs:wGe (.int i) (.int j) M Q=Q (.bl (decide (j<=i))) M:=rfl
theorem zP:ga (.int i) (.int j) M Q=Q (.int (i+j)) M:=rfl
theorem zQ:gb (.int i) (.int j) M Q=Q (.int (i - j)) M:=rfl
theorem zR:gc (.int i) (.int j) M Q=(MulOk i j/\Q (.int (i*j)) M):=rfl
theorem AB:jt (.int i) M Q=Q (.int (-i)) M:=rfl
theorem AC:gP [.int i] M Q=Q (.int (if i<0 then -i else i)) M:=by simp[gP]
theorem zS:fQ [.int i,.int j] M Q=Q (.int (if j > i then j else i)) M:=by
 apply propext;constructor
 ·rintro⟨a,b,e,q⟩;cases e;exact q
 ·exact λq=>⟨i,j,rfl,q⟩
theorem zT:fR [.int i,.int j] M Q=Q (.int (if j<i then j else i)) M:=by
 apply propext;constructor
 ·rintro⟨a,b,e,q⟩;cases e;exact q
 ·exact λq=>⟨i,j,rfl,q⟩
theorem AD:dB [.con ds] M Q=Q (.int ds.length) M:=by simp[dB,jw]
theorem AE:dB [.tup ds] M Q=Q (.int ds.length) M:=by simp[dB,jw]
theorem jT:aE M (.tup ds)=some ds:=rfl
theorem AF:aE M (.con ds)=some ds:=rfl
theorem Bt {α:Sort _}{a b : α}:(if true=true then a else b)=a:=rfl
theorem Bu {α:Sort _}{a b : α}:(if false=true then a else b)=b:=rfl
theorem zU {ta tb:TEd}{R:List D->(Mem->Prop)->Mem->Prop}:gS ta tb ρ M R=ta ρ M λx j=>tb ρ j λy M2=>∃ xs ys,aE M2 x=some xs/\aE M2 y=some ys/\R (Gp fU xs ys) (λM=>aE M x=some xs/\aE M y=some ys) M2:=by
 unfold gS aH;congr 1;funext x j;unfold bh;congr 1;funext y M2;apply propext;constructor
 ·rintro⟨x',y',xs,ys,e,q⟩
  cases e;exact⟨xs,ys,q⟩
 ·rintro⟨xs,ys,q⟩;exact⟨x,y,xs,ys,rfl,q⟩
theorem Bv:fmD (.str y) M Q=(y.length<=tv/\Q (.str y) M):=rfl
theorem Bw:fmD (.int i) M Q=(i.natAbs.log2<1920/\Q (.str (D9 i)) M):=rfl
theorem AG:dg (.str x) (.str y) M Q=(x.length+y.length<=tv/\Q (.str (x++y)) M):=rfl
theorem AH {i}:wE Φ (.var i)=gM i:=rfl
theorem AI {i}:wE Φ (.int i)=wC (.int i):=rfl
theorem By {b}:wE Φ (.bl b)=wC (.bl b):=rfl
theorem AJ:wE Φ (.non)=wC .non:=rfl
theorem AK {x}:wE Φ (.str x)=wC (.str x):=rfl
theorem AL {op}{a}{b}:wE Φ (.bin op a b)=wOp (opB op) (wE Φ a) (wE Φ b):=rfl
theorem AM {a}:wE Φ (.neg a)=wUn jt (wE Φ a):=rfl
theorem AN {op}{a}{b}:wE Φ (.cmp op a b)=wOp (opC op) (wE Φ a) (wE Φ b):=rfl
theorem AO {es}:wE Φ (.and es)=wAnds Φ es:=rfl
theorem Bz {es}:wE Φ (.or es)=wOrs Φ es:=rfl
theorem AQ {a}:wE Φ (.not a)=iK (wE Φ a):=rfl
theorem AR {c}{a}{b}:wE Φ (.ite c a b)=wIf (wT Φ c) (wE Φ a) (wE Φ b):=rfl
theorem AS {es}:wE Φ (.tup es)=wAr m9 (wA Φ es):=rfl
theorem AT {es}:wE Φ (.lst es)=wAr md (wA Φ es):=rfl
theorem BA {a}{b}:wE Φ (.ix a b)=wOp wIx (wE Φ a) (wE Φ b):=rfl
theorem BB {a}{lo}{hi}:wE Φ (.sl a lo hi)=wSl (wE Φ a) (wO Φ lo) (wO Φ hi):=rfl
theorem zV {f}{es}:wE Φ (.call f es)=wAr (Φ f) (wA Φ es):=rfl
theorem AU {f}{es}:wE Φ (.blt f es)=wAr (opF f) (wA Φ es):=rfl
theorem zW {a}{T}:wE Φ (.isin a T)=iL T (wE Φ a):=rfl
theorem zo {op}{op'}{a}{b}{c}:wE Φ (.chain op op' a b c)=cm (opC op) (opC op') (wE Φ a) (wE Φ b) (wE Φ c):=rfl
theorem zX {u1}{d}:wE Φ (.glob u1 d)=wC d:=rfl
theorem zY {m}{o}{a}:wE Φ (.meth m o a)=wBM (opM m) (wE Φ o) (aH (wE Φ a) bh):=rfl
theorem zZ {fr}{u1}{c}:wE Φ (.comp fr u1 c)=wCmp Φ fr c:=rfl
theorem A0 {es}:wE Φ (.fstr es)=wFs Φ es E2:=rfl
theorem AV {a}:wE Φ (.fmt a)=mR (wE Φ a):=rfl
theorem A1 {o}{a}:wE Φ (.join o a)=iT (wE Φ o) (wE Φ a):=rfl
theorem zp {m}{o}{a}:wE Φ (.smeth m o a)=wSM (jJ m) (wE Φ o) (wE Φ a):=rfl
theorem AW {a}{b}:wE Φ (.ixS a b)=wOp mW (wE Φ a) (wE Φ b):=rfl
theorem AX {a}{lo}:wE Φ (.slS a lo)=mX (wE Φ a) (wO Φ lo):=rfl
theorem A2 {a}{j}:wE Φ (.revS a j)=iU (wE Φ a) (eF (wE Φ j)):=rfl
theorem AY {a}{b}:wE Φ (.orL a b)=mV (wE Φ a) (wE Φ b):=rfl
theorem A3:wA Φ (.nil)=bh:=rfl
theorem zq {e}{r}:wA Φ (.cons e r)=aH (wE Φ e) (wA Φ r):=rfl
theorem zr:wTl Φ (.nil)=[]:=rfl
theorem yx {t}{r}:wTl Φ (.cons t r)=wT Φ t::wTl Φ r:=rfl
theorem AZ {e}:wI Φ (.seq e)=mx (wE Φ e):=rfl
theorem A4 {a}:wI Φ (.rng1 a)=iM (aH (wE Φ a) bh):=rfl
theorem B0 {a}{b}:wI Φ (.zip a b)=gS (wE Φ a) (wE Φ b):=rfl
theorem A5 {a}:wI Φ (.enum a)=iN (wE Φ a):=rfl
theorem zt {a}:wI Φ (.enum1 a)=gn (wE Φ a):=rfl
theorem zu {a}:wI Φ (.chars a)=gm (wE Φ a):=rfl
theorem yz {src}{g}{ifs}{elt}:wCl Φ (.last src g ifs elt)=cI (wI Φ src) (bG g) (ba (wTl Φ ifs) (cZ (wE Φ elt))):=rfl
theorem yA {src}{g}{ifs}{rest}:wCl Φ (.more src g ifs rest)=cI (wI Φ src) (bG g) (ba (wTl Φ ifs) (wCl Φ rest)):=rfl
theorem yf {src}{g}{ifs}{elt}:wCmp Φ fr (.last src g ifs elt)=eK fr (wI Φ src) (bG g) (ba (wTl Φ ifs) (cZ (wE Φ elt))):=rfl
theorem yg {src}{g}{ifs}{rest}:wCmp Φ fr (.more src g ifs rest)=eK fr (wI Φ src) (bG g) (ba (wTl Φ ifs) (wCl Φ rest)):=rfl
theorem B1 {g}{e}:wS Φ (.asg g e)=gT (wE Φ e) (bG g):=rfl
theorem B2 {i}{j}{a}{b}:wS Φ (.par i j a b)=mz (aH (wE Φ a) (aH (wE Φ b) bh)) (bI (bX i) (bI (bX j) fj)):=rfl
theorem B3 {o}{i}{e}:wS Φ (.put o i e)=mJ (wE Φ e) (wE Φ o) (wE Φ i):=rfl
theorem B4 {i}{op}{e}:wS Φ (.aug i op e)=mK i (opI op) (wE Φ e):=rfl
theorem A6 {e}:wS Φ (.drop e)=iP (wE Φ e):=rfl
theorem B5 {e}:wS Φ (.ret e)=my (wE Φ e):=rfl
theorem B6 {c}{a}{b}:wS Φ (.ite c a b)=sIf (wT Φ c) (wSs Φ a) (wSs Φ b):=rfl
theorem B7 {g}{src}{b}:wS Φ (.for g src b)=mC (wI Φ src) (bG g) (wSs Φ b):=rfl
theorem zw {c}{b}:wS Φ (.while c b)=fY (wT Φ c) (wSs Φ b):=rfl
theorem B8:wS Φ (.bot)=λ_ _ _=>False:=rfl
theorem A7:wS Φ (.pass)=fW:=rfl
theorem B9:wS Φ (.brk)=fX:=rfl
theorem Ba:wS Φ (.cnt)=iO:=rfl
theorem Bb {e}:wT Φ (.tru e)=mn (wE Φ e):=rfl
theorem Bc {op}{a}{b}:wT Φ (.cmp op a b)=dA (wOp (opC op) (wE Φ a) (wE Φ b)):=rfl
theorem zx {op}{op'}{a}{b}{c}:wT Φ (.chain op op' a b c)=dA (cm (opC op) (opC op') (wE Φ a) (wE Φ b) (wE Φ c)):=rfl
theorem Bd {ts}:wT Φ (.and ts)=wAndTs Φ ts:=rfl
theorem BC {ts}:wT Φ (.or ts)=wOrTs Φ ts:=rfl
theorem Be {t}:wT Φ (.not t)=iH (wT Φ t):=rfl
theorem xf:wAndTs Φ (.nil)=λ_ _ _=>False:=rfl
theorem wR {e}:wAndTs Φ (.cons e .nil)=wT Φ e:=rfl
theorem wU {e}{f}{r}:wAndTs Φ (.cons e (.cons f r))=iI (wT Φ e) (wAndTs Φ (.cons f r)):=rfl
theorem yh:wOrTs Φ (.nil)=λ_ _ _=>False:=rfl
theorem xg {e}:wOrTs Φ (.cons e .nil)=wT Φ e:=rfl
theorem xh {e}{f}{r}:wOrTs Φ (.cons e (.cons f r))=mq (wT Φ e) (wOrTs Φ (.cons f r)):=rfl
theorem yi:wAnds Φ (.nil)=λ_ _ _=>False:=rfl
theorem xi {e}:wAnds Φ (.cons e .nil)=wE Φ e:=rfl
theorem xj {e}{f}{r}:wAnds Φ (.cons e (.cons f r))=iJ (wE Φ e) (wAnds Φ (.cons f r)):=rfl
theorem yB:wOrs Φ (.nil)=λ_ _ _=>False:=rfl
theorem yj {e}:wOrs Φ (.cons e .nil)=wE Φ e:=rfl
theorem yk {e}{f}{r}:wOrs Φ (.cons e (.cons f r))=mv (wE Φ e) (wOrs Φ (.cons f r)):=rfl
theorem zy {i}:bG (.name i)=bX i:=rfl
theorem A8 {gs}:bG (.tup gs)=qV (bGs gs):=rfl
theorem zz:bGs (.nil)=fj:=rfl
theorem yC {g}{r}:bGs (.cons g r)=bI (bG g) (bGs r):=rfl
theorem zA:wO Φ (.none)=eE:=rfl
theorem zB {e}:wO Φ (.some e)=eF (wE Φ e):=rfl
theorem zC:wFs Φ (.nil)=iQ:=rfl
theorem yD {e}{r}:wFs Φ (.cons e r)=iR (wE Φ e) (wFs Φ r):=rfl
theorem A9:opB (.add)=dg:=rfl
theorem Aa:opB (.sub)=jn:=rfl
theorem Ab:opB (.mul)=dU:=rfl
theorem zD:opB (.fdiv)=fP:=rfl
theorem Ac:opB (.mod)=jo:=rfl
theorem Ad:opB (.pow)=jp:=rfl
theorem Ae:opB (.ext)=dg:=rfl
theorem Bf:opC (.eq)=wEq:=rfl
theorem Bg:opC (.ne)=wNe:=rfl
theorem Bh:opC (.lt)=wLt:=rfl
theorem Bj:opC (.le)=wLe:=rfl
theorem Bk:opC (.gt)=wGt:=rfl
theorem Bl:opC (.ge)=wGe:=rfl
theorem Bm:opC (.is)=wIs:=rfl
theorem Af:opC (.isn)=mL:=rfl
theorem yE:opC (.inStr)=gj:=rfl
theorem yF:opC (.inNon)=gk:=rfl
theorem Ag:opF (.len)=dB:=rfl
theorem zE:opF (.intS)=iW:=rfl
theorem zF:opF (.lenS)=iX:=rfl
theorem Ah:opF (.abs)=gP:=rfl
theorem zG:opF (.max2)=fQ:=rfl
theorem zH:opF (.min2)=fR:=rfl
theorem Ai:opF (.int)=gQ:=rfl
theorem zI:opF (.list)=iG:=rfl
theorem yG:opF (.tuple)=fS:=rfl
theorem Aj:opF (.all)=mM:=rfl
theorem Ak:opF (.any)=mN:=rfl
theorem Al:opF (.str)=iS:=rfl
theorem ym:opM (.append)=eG:=rfl
theorem yn:opM (.extend)=eI:=rfl
theorem Am:opI (.add)=ga:=rfl
theorem An:opI (.sub)=gb:=rfl
theorem Ao:opI (.mul)=gc:=rfl
theorem Ap:opI (.ext)=iV:=rfl
local macro_rules|`(tactic| walk_at "wp")=>do
 let f:=fun(n:Lean.Name)(s:String)=>(s.splitOn " ").toArray.map fun x=>(⟨(Lean.mkIdent (n++x.toName)).raw⟩:Lean.Term)
 let a:=f `_root_.L2.Mi "m8 gM wC wOp wUn bh aH wAr dA m9 md mn iH iI mq iJ mv iK wIf eE eF wSl iL wBM bX fj bI qV mx iM iN cZ ba cI eK fW qZ fX iO iP my sIf gT mz mC fY mJ mK cm iQ iR mR iT iU mV jJ wSM mW mX iW iX gj gk gm gn zL zM zN Ar As Bo Bp Au Av Aw Ax Ay zO Az AA Bq Br ye Bs zP zQ zR AB AC zS zT AD AE jT AF Bt Bu zU Bv Bw AG AH AI By AJ AK AL AM AN AO Bz AQ AR AS AT BA BB zV AU zW zo zX zY zZ A0 AV A1 zp AW AX A2 AY A3 zq zr yx AZ A4 B0 A5 zt zu yz yA yf yg B1 B2 B3 B4 A6 B5 B6 B7 zw B8 A7 B9 Ba Bb Bc zx Bd BC Be xf wR wU yh xg xh yi xi xj yB yj yk zy A8 zz yC zA zB zC yD A9 Aa Ab zD Ac Ad Ae Bf Bg Bh Bj Bk Bl Bm Af yE yF Ag zE zF Ah zG zH Ai zI yG Aj Ak Al ym yn Am An Ao Ap"
 let b1:=a++f .anonymous "G9 Ga HI HJ Ey Eg IC ID IE Cr Eb Cp CP"
 let b2:=a++f .anonymous "EL if_false if_true G9 Ga HI HJ I9 exists_eq_left' exists_eq_left exists_eq_right exists_and_left exists_and_right D.bl.injEq D.int.injEq D.ref.injEq D.tup.injEq Ey Eg IC ID IE Cr Eb decide_eq_true_eq IW and_true true_and Cp CP"
 `(tactic| ((try dsimp only[$[$b1:term],*]);(try simp only[$[$b2:term],*])))
local macro_rules|`(tactic| walk_at "st")=>`(tactic| ((first|rw[dM]|(dsimp only;rw[dM]));walk_at "wp"))
def Ge (M M':Mem):Prop:=∀ a o,M a=some o->M' a=some o
theorem Ge.refl:Ge M M:=λ_ _ h=>h
theorem Ge.trans (h:Ge M M')(g:Ge M' M''):Ge M M'':=λ_ _ e=>g _ _ (h _ _ e)
theorem Ge.new {p:Addr}{o:O}(h:M p=none):Ge M (ae M p o):=λa o' e=>by
 rw[aq (λz=>by rw[z,h]at e;cases e)];exact e
def Box (b:Addr) (M:Mem):Prop:=∃ x y z:Int,M b=some (.lst [.int x,.int y,.int z])
structure Bx (b:Addr) (M M':Mem):Prop where
 box:Box b M'
 keep:∀ a o,a≠b->M a=some o->M' a=some o
theorem Bx.refl (h:Box b M):Bx b M M:=⟨h,λ_ _ _ e=>e⟩
theorem Bx.trans (h:Bx b M M')(g:Bx b M' M''):Bx b M M'':=⟨g.box,λa o n e=>g.keep a o n (h.keep a o n e)⟩
theorem Bx.ge (h:Bx b M M')(g:Ge M' M''):Bx b M M'':=⟨by obtain⟨x,y,z,e⟩:=h.box;exact⟨x,y,z,g _ _ e⟩,λa o n e=>g _ _ (h.keep a o n e)⟩
theorem Bx.put {x y z:Int}:Bx b M (ae M b (.lst [.int x,.int y,.int z])):=⟨⟨x,y,z,ad⟩,λa o n e=>by rw[aq n];exact e⟩
theorem Bx.of (h:Box b M)(g:Ge M M'):Bx b M M':=(Bx.refl h).ge g
theorem pM {b:BT}{chk:Mem->Prop}{N:NC}(I:List D->ao->Mem->List D->Prop){acc:List D}(h0:I [] ρ M acc)(z:∀ l ρ M acc,I l ρ M acc->chk M)(hs:∀ l x r ρ M acc,xs=l++x::r->I l ρ M acc -> ∃ ρ',b x ρ = some ρ' /\ ∀ N':NC,(∀ ρ2 M2 j,I (l++[x]) ρ2 M2 j->N' ρ2 M2 j)->tb ρ' M acc N')(B:∀ ρ M acc,I xs ρ M acc->N ρ M acc):bC b tb chk N xs ρ M acc:=by
 have g:∀ (r l:List D) (ρ:ao) (M:Mem) (acc:List D),xs=l++r->I l ρ M acc->bC b tb chk N r ρ M acc:=by
  intro r
  induction r with
  |nil=>intro l ρ M acc e i;rw[Dv]at e;subst e;exact⟨z _ _ _ _ i,B _ _ _ i⟩
  | cons x r ih =>
    intro l ρ M acc e i;obtain⟨ρ',F,h⟩:=hs l x r ρ M acc e i;exact⟨z _ _ _ _ i,ρ',F,h _ λρ2 M2 j J=>ih (l++[x]) ρ2 M2 j (by rw[e];simp) J⟩
 exact g xs [] ρ M acc rfl h0
theorem sf {b:BT}{tb:TSd}{chk:Mem->Prop}(I:List D->ao->Mem->Prop)(h0:I [] ρ M)(j:∀ l ρ M,I l ρ M->chk M)(hs:∀ l x r ρ M,xs=l++x::r->I l ρ M -> ∃ ρ',b x ρ = some ρ' /\ ∀ F:ao->Mem->Prop,(∀ ρ2 M2,I (l++[x]) ρ2 M2->F ρ2 M2)->tb { E with nx:=F,ct:=F,bk:=E.nx } ρ' M)(z:∀ ρ M,I xs ρ M->E.nx ρ M):bq b tb chk E xs ρ M:=by
 have g:∀ (r l:List D) (ρ:ao) (M:Mem),xs=l++r->I l ρ M->bq b tb chk E r ρ M:=by
  intro r
  induction r with
  |nil=>intro l ρ M e i;rw[Dv]at e;subst e;exact⟨j _ _ _ i,z _ _ i⟩
  | cons x r ih =>
    intro l ρ M e i;obtain⟨ρ',B,h⟩:=hs l x r ρ M e i;exact⟨j _ _ _ i,ρ',B,h _ λρ2 M2 J=>ih (l++[x]) ρ2 M2 (by rw[e];simp) J⟩
 exact g xs [] ρ M rfl h0
section
variable {T:List FD}
noncomputable def gx (s:Stmt):FD:=⟨"_law_cell_at",s,["_law_script","_law_k"],2,
 (.cons (.ite (.cmp .lt (.var 1) (.blt .len (.cons (.var 0) .nil))) (.cons (.ret (.ix (.var 0) (.var 1)))
 .nil) .nil)
 (.cons (.ret (.int 0))
 .nil))⟩
theorem fA {α:Type}{xs:List α}(h0 : 0<=i)(h1:i<xs.length):∃ x,atI xs i=some x/\xs[i.toNat]? = some x:=by
 have:i.toNat<xs.length:=by lia
 refine⟨xs[i.toNat],?_,Cf this⟩;unfold atI ixN;simp[h0,h1,Cf this]
theorem uJ (hf:T[f]? = some (gx s))(z : 1<=n){k:Int}(h0 : 0<=k)(q:∀ i,Q (.int i) M):phi T n f [.con (ns.map D.int),.int k] M Q:=by
 refine aw z hf rfl (ρ:=[some _,some _]) rfl ?_;unfold gx;walk_at "st"
 split
 ·next h =>
  walk_at "st";obtain⟨x,e,j⟩:=fA (xs:=ns.map D.int) h0 h;rw[CB]at j
  cases e3:ns[k.toNat]? with
  |none=>rw[e3]at j;cases j
  |some y=>rw[e3]at j;cases j;exact⟨_,e,q y⟩
 ·walk_at "st";exact q 0
theorem wV (h : -(2 ^ 64)<i/\i<2 ^ 64):MulOk i j:=.inl h
theorem jU (h : -(2 ^ 64)<j/\j<2 ^ 64):MulOk i j:=.inr (.inl h)
noncomputable def gY (s:Stmt):FD:=⟨"_law_mixed",s,["_law_number_here","_law_k","_law_once","_law_twice"],2,
 (.cons (.asg (.name 2) (.bin .mod (.bin .mul (.bin .add (.bin .add (.bin .mod (.var 0) (.int 1000000007)) (.bin .mul (.int 7) (.var 1))) (.int 1)) (.int 48271)) (.int 2147483647)))
 (.cons (.asg (.name 3) (.bin .mod (.bin .mul (.var 2) (.bin .add (.bin .add (.bin .mod (.var 2) (.int 1009)) (.var 1)) (.int 3))) (.int 998244353)))
 (.cons (.ret (.bin .fdiv (.bin .mod (.bin .add (.bin .mul (.var 3) (.int 39373)) (.var 2)) (.int 2147483629)) (.int 64)))
 .nil)))⟩
theorem jV (hf:T[f]? = some (gY s))(j : 1<=n){x k:Int}(q:∀ i,Q (.int i) M):phi T n f [.int x,.int k] M Q:=by
 refine aw j hf rfl (ρ:=[some _,some _,none,none]) rfl ?_;unfold gY;walk_at "st";refine⟨by decide,wV (by decide),jU (by decide),by decide,?_⟩
 walk_at "st";refine⟨by decide,wV ?_,by decide,?_⟩
 ·have h1:=Fj ((x % 1000000007+7*k+1)*48271) (b:=2147483647) (by decide)
  have h2:=EM ((x % 1000000007+7*k+1)*48271) (b:=2147483647) (by decide)
  lia
 walk_at "st";refine⟨jU (by decide),by decide,by decide,by decide,?_⟩
 exact q _
noncomputable def nB (s:Stmt) (fc fm:Nat):FD:=⟨"_law_box",s,["_law_script","_law_k","_law_cell"],2,
 (.cons (.asg (.name 2) (.call fc (.cons (.var 0) (.cons (.var 1) .nil))))
 (.cons (.ret (.lst (.cons (.bin .mul (.blt .abs (.cons (.var 2) .nil)) (.blt .int (.cons (.cmp .ge (.blt .abs (.cons (.var 2) .nil)) (.bin .pow (.int 10) (.int 18))) .nil))) (.cons (.call fm (.cons (.var 2) (.cons (.bin .add (.int 900) (.var 1)) .nil))) (.cons (.int 0) .nil)))))
 .nil))⟩
theorem wW {fc fm:Nat}{sc:Stmt}(hf:T[f]? = some (nB s fc fm))(z:T[fc]? = some (gx sc))(B:∀ {x k:Int} {M:Mem} {Q:QD},(∀ i,Q (.int i) M)->phi T (n - 1) fm [.int x,.int k] M Q)(J : 2<=n){k:Int}(h0 : 0<=k)(q:∀ p x y,M p=none->Q (.ref p) (ae M p (.lst [.int x,.int y,.int 0]))):phi T n f [.con (ns.map D.int),.int k] M Q:=by
 refine aw (by lia) hf rfl (ρ:=[some _,some _,none]) rfl ?_
 unfold nB;walk_at "st";refine uJ z (by lia) h0 λi=>?_
 walk_at "st";refine⟨by decide,by decide,by decide,jU ?_,?_⟩
 ·split <;> lia
 refine B λj=>?_;exact⟨by rw[s9];lia,λp F=>q p _ _ F⟩
noncomputable def jW (s:Stmt) (fm:Nat):FD:=⟨"_law_take",s,["_law_box_here","_law_many","_law_found","_law_reach"],2,
 (.cons (.ite (.cmp .gt (.ix (.var 0) (.int 0)) (.int 0)) (.cons (.asg (.name 2) (.bin .mod (.ix (.var 0) (.int 0)) (.var 1)))
 (.cons (.put (.var 0) (.int 0) (.bin .fdiv (.ix (.var 0) (.int 0)) (.var 1)))
 (.cons (.ret (.var 2))
 .nil))) .nil)
 (.cons (.asg (.tup (.cons (.name 2) (.cons (.name 3) .nil))) (.tup (.cons (.int 0) (.cons (.int 1) .nil))))
 (.cons (.while (.cmp .lt (.var 3) (.var 1)) (.cons (.put (.var 0) (.int 2) (.bin .add (.ix (.var 0) (.int 2)) (.int 1)))
 (.cons (.asg (.name 2) (.bin .add (.bin .mul (.var 2) (.int 33554432)) (.call fm (.cons (.ix (.var 0) (.int 1)) (.cons (.ix (.var 0) (.int 2)) .nil)))))
 (.cons (.asg (.name 3) (.bin .mul (.var 3) (.int 33554432)))
 .nil))))
 (.cons (.ret (.bin .mod (.var 2) (.var 1)))
 .nil))))⟩
def yo (T:List FD) (n fm:Nat):Prop:=∀ {x k:Int} {M:Mem} {Q:QD},(∀ i,Q (.int i) M)->phi T n fm [.int x,.int k] M Q
theorem uK {fm:Nat}(hf:T[f]? = some (jW s fm))(L:yo T (n - 1) fm)(U : 2<=n){m:Int}(O:Box b M)(h1 : 0<m)(h2:m<=2 ^ 140)(q:∀ r M',0<=r->r<m->Bx b M M'->Q (.int r) M'):phi T n f [.ref b,.int m] M Q:=by
 refine aw (by lia) hf rfl (ρ:=[some _,some _,none,none]) rfl ?_
 unfold jW;obtain⟨x,y,z,J⟩:=O;walk_at "st";refine bf J (d:=.int x) rfl ?_;simp only[ye];walk_at "wp"
 split
 ·next hx =>
  walk_at "st";refine bf J (d:=.int x) rfl ?_;walk_at "wp";refine⟨h1,?_⟩;walk_at "st";refine bf J (d:=.int x) rfl ?_;walk_at "wp";refine⟨h1,by lia,?_⟩
  refine br J (j:=0) rfl ?_;walk_at "st";exact q _ _ (Fj _ (by lia)) (EM _ h1) Bx.put
 ·next hx =>
  walk_at "st";refine⟨by rw[s9];lia,?_⟩
  walk_at "st";refine⟨7,?_⟩;have go:∀ (f:Nat) (found reach z:Int) (M':Mem),m<=reach*33554432 ^ f->M' b=some (.lst [.int x,.int y,.int z])->Bx b M M' ->
   aR (dA (wOp wLt (gM 3) (gM 1))) (wSs (phi T (n - 1)) (MSs.cons (MS.put (ME.var 0) (ME.int 2) (ME.bin BOp.add ((ME.var 0).ix (ME.int 2)) (ME.int 1)))
    (MSs.cons (MS.asg (MG.name 2) (ME.bin BOp.add (ME.bin BOp.mul (ME.var 2) (ME.int 33554432)) (ME.call fm (MEs.cons ((ME.var 0).ix (ME.int 1)) (MEs.cons ((ME.var 0).ix (ME.int 2)) MEs.nil)))))
      (MSs.cons (MS.asg (MG.name 3) (ME.bin BOp.mul (ME.var 3) (ME.int 33554432))) MSs.nil))))
    { nx:=wSs (phi T (n - 1)) (MSs.cons (MS.ret (ME.bin BOp.mod (ME.var 2) (ME.var 1))) MSs.nil) { nx:=λx M'=>Q D.non M',rt:=Q },rt:=Q } (f+1) [some (.ref b),some (.int m),some (.int found),some (.int reach)] M':=by
   intro f
   induction f with
   | zero =>
     intro found reach z M' hm F B;simp only[aR];walk_at "wp";rw[if_neg (by lia)]
     walk_at "st";exact⟨h1,q _ _ (Fj _ (by lia)) (EM _ h1) B⟩
   | succ f ih =>
     intro found reach z M' hm F B;rw[aR];walk_at "wp"
     split
     ·next Y =>
      walk_at "st";refine bf F (d:=.int z) rfl ?_;walk_at "wp";refine br F (j:=2) rfl ?_;walk_at "st";refine⟨jU (by decide),?_⟩
      refine bf ad (d:=.int y) rfl ?_;refine bf ad (d:=.int (z+1)) rfl ?_;refine L λi=>?_;walk_at "wp";walk_at "st";refine⟨jU (by decide),?_⟩
      exact ih _ _ (z+1) _ (by rw[Int.mul_assoc,<- Int.pow_succ'];exact hm) ad (B.trans Bx.put)
     ·walk_at "st";exact⟨h1,q _ _ (Fj _ (by lia)) (EM _ h1) B⟩
  exact go 6 0 1 z M (by lia) J (Bx.refl ⟨x,y,z,J⟩)
def jX (T:List FD) (n f:Nat):Prop:=∀ {b:Addr} {m:Int} {M:Mem} {Q:QD},Box b M->0<m->m<=2 ^ 140->(∀ r M',0<=r->r<m->Bx b M M'->Q (.int r) M')->phi T n f [.ref b,.int m] M Q
noncomputable def fB (s:Stmt) (ft:Nat):FD:=⟨"_law_number",s,["_law_box_here","_law_way"],1,
 (.cons (.asg (.name 1) (.call ft (.cons (.var 0) (.cons (.int 9) .nil))))
 (.cons (.ite (.cmp .eq (.var 1) (.int 0)) (.cons (.ret (.bin .sub (.call ft (.cons (.var 0) (.cons (.int 2001) .nil))) (.int 1000)))
 .nil) .nil)
 (.cons (.ret (.ix (.lst (.cons (.int 0) (.cons (.int 0) (.cons (.int 0) (.cons (.int 1) (.cons (.int 1) (.cons (.int 1) (.cons (.neg (.int 1)) (.cons (.neg (.int 1)) (.cons (.int 2) .nil)))))))))) (.var 1)))
 .nil)))⟩
theorem pN {ft:Nat}(hf:T[f]? = some (fB s ft))(j:jX T (n - 1) ft)(Y : 1<=n)(J:Box b M)(q:∀ r M',-1000<=r->r<=1000->Bx b M M'->Q (.int r) M'):phi T n f [.ref b] M Q:=by
 refine aw (by lia) hf rfl (ρ:=[some _,none]) rfl ?_
 unfold fB;walk_at "st";refine j J (by decide) (by decide) λr Z h0 h1 B=>?_
 walk_at "st"
 split
 ·walk_at "st";refine j B.box (by decide) (by decide) λr2 M2 h0 h1 L=>?_
  walk_at "wp";exact q _ _ (by lia) (by lia) (B.trans L)
 ·next F =>
  walk_at "st";refine⟨by rw[s9];lia,λp O=>?_⟩
  have F:r=1∨r=2∨r=3∨r=4∨r=5∨r=6∨r=7∨r=8:=by
   have:r≠0:=λz=>F (by rw[z];rfl)
   lia
  have U:=B.ge (Ge.new (o:=.lst [.int 0,.int 0,.int 0,.int 1,.int 1,.int 1,.int (-1),.int (-1),.int 2]) O)
  rcases F with rfl|rfl|rfl|rfl|rfl|rfl|rfl|rfl <;> exact bf ad rfl (q _ _ (by decide) (by decide) U)
end
section
variable {T:List FD}
def jY (T:List FD) (n f:Nat):Prop:=∀ {b:Addr} {M:Mem} {Q:QD},Box b M->(∀ r M',-1000<=r->r<=1000->Bx b M M'->Q (.int r) M')->phi T n f [.ref b] M Q
def bE (ns:List Int):Prop:=∀ x∈ns,-1000<=x/\x<=1000
theorem cE {lo:Int}:(bY lo n).length=n:=by simp[bY]
theorem aF {α:Type}{xs l r:List α}{x : α}(e:xs=l++x::r):l.length<xs.length:=by rw[e];simp
noncomputable def jZ (s:Stmt) (fn:Nat):FD:=⟨"_law_part",s,["_law_box_here","_law_length"],2,
 (.cons (.ret (.blt .tuple (.cons (.comp [none,(some 0)] ["_law_k","_law_box_here"] (.last (.rng1 (.var 1)) (.name 0) .nil (.call fn (.cons (.var 1) .nil)))) .nil)))
 .nil)⟩
theorem uL {fn:Nat}(hf:T[f]? = some (jZ s fn))(B:jY T (n - 1) fn)(Z : 1<=n){L:Nat}(hL:L<=1000)(F:Box b M)(q:∀ (ns:List Int) M',ns.length=L->bE ns->Bx b M M'->Q (.tup (ns.map .int)) M'):phi T n f [.ref b,.int L] M Q:=by
 refine aw (by lia) hf rfl (ρ:=[some _,some _]) rfl ?_
 unfold jZ;walk_at "st";refine⟨by lia,by lia,?_⟩
 refine pM (I:=λl ρ M' acc=>∃ (ns:List Int) (x:Option D),acc=ns.map .int/\ns.length=l.length/\bE ns/\Bx b M M' /\ ρ = [x,some (.ref b)]) ⟨[],none,rfl,rfl,λ_ h=>by simp at h,Bx.refl F,rfl⟩ (λ_ _ _ _ _=>trivial) ?_ ?_
 ·rintro l x r ρ M1 acc e ⟨ns,o,rfl,j,hs,z,rfl⟩;refine⟨_,rfl,λN' J=>?_⟩;walk_at "wp";refine B z.box λv M2 h1 h2 O=>?_;have:=aF e;rw[cE]at this;refine⟨by rw[Ca,j,s9];lia,J _ _ _ ⟨ns++[v],_,by simp,by simp[j],?_,z.trans O,rfl⟩⟩
  intro y U
  rcases Df.mp U with h|h
  ·exact hs y h
  ·simp at h;subst h;exact⟨h1,h2⟩
 ·rintro ρ M1 acc ⟨ns,o,rfl,j,hs,z,rfl⟩ p Y;rw[cE]at j;refine⟨_,ns.map .int,rfl,ag ad,q ns _ (by lia) hs (z.ge (Ge.new Y))⟩
noncomputable abbrev Pr:=List Int×List Int×List Int
noncomputable def prD (p:Pr):D:=.tup [.tup (p.1.map .int),.tup (p.2.1.map .int),.tup (p.2.2.map .int)]
noncomputable def cW (p:Pr):Jb:=.tuple [.tuple (p.1.map .int),.tuple (p.2.1.map .int),.tuple (p.2.2.map .int)]
structure cf (L0 L1 L2:Nat) (p:Pr):Prop where
 l0:p.1.length=L0
 l1:p.2.1.length=L1
 l2:p.2.2.length=L2
 s0:bE p.1
 s1:bE p.2.1
 s2:bE p.2.2
theorem ll {k:Nat}{M:Mem}:∀ ns:List Int,az (rb k M) (ns.map D.int)=some (ns.map PyData.int)
 |[]=>rfl
 | x::r=>by
   have e:rb k M (.int x)=some (.int x):=by cases k <;> rfl
   simp[az,e,ll r]
theorem yp {k:Nat}(p:Pr):rb (k+2) M (prD p)=some (cW p):=by
 simp[rb,prD,cW,az,ll]
theorem ka {k:Nat}{M:Mem}:∀ ps:List Pr,az (rb (k+2) M) (ps.map prD)=some (ps.map cW)
 |[]=>rfl
 |p::r=>by simp[az,yp,ka r]
theorem kb {k:Nat}(h:M a=some (.lst ds)):rb (k+1) M (.ref a)=(az (rb k M) ds).map IJ:=by
 simp only[rb,h]
theorem kc {s:MS}{r:MSs}(I:ao->Mem->Prop)(h1:∀ R:ao->Mem->Prop,(∀ ρ M,I ρ M->R ρ M)->wS Φ s { E with nx:=R } ρ M)(h2:∀ ρ M,I ρ M->wSs Φ r E ρ M):wSs Φ (.cons s r) E ρ M:=by
 rw[dM];exact h1 _ h2
theorem Bx.upd {q:Addr}{o:O}(h:Bx b M M')(B:M q=none)(j:q≠b):Bx b M (ae M' q o) :=
 ⟨by obtain ⟨x,y,z,e⟩:=h.box;exact ⟨x,y,z,by rw [aq j.symm];exact e⟩,fun u o' nu eu=>by
   rw[aq (λz=>by rw[z,B]at eu;cases eu)];exact h.keep u o' nu eu⟩
theorem Bx.none {q:Addr}(h:Bx b M M')(z:M' q=none)(j:q≠b):M q=none:=by
 cases e:M q with
 |none=>rfl
 |some o=>rw[h.keep q o j e]at z;cases z
noncomputable def prL (p:Pr):List D:=[.tup (p.1.map .int),.tup (p.2.1.map .int),.tup (p.2.2.map .int)]
theorem ej {k:Nat}:bE (Cd k 0):=λx h=>by
 rw[(List.mem_replicate.mp h).2];decide
theorem sg {k:Nat}:(Cd k [D.int 0]).flatten=(Cd k (0:Int)).map D.int:=by
 induction k with
 |zero=>rfl
 |succ k ih=>rw[CQ,Dc,ih];rfl
def pO (T:List FD) (n f:Nat):Prop:=∀ {b:Addr} {L:Nat} {M:Mem} {Q:QD},L<=1000->Box b M->(∀ (ns:List Int) M',ns.length=L->bE ns->Bx b M M'->Q (.tup (ns.map .int)) M')->phi T n f [.ref b,.int L] M Q
end
section
theorem bc {α:Type}{f : α -> D}{b:BT}{chk:Mem->Prop}{N:NC}(I:List α -> ao->Mem->List D->Prop){ys:List α}(hx:xs=ys.map f){acc:List D}(h0:I [] ρ M acc)(z:∀ l ρ M acc,I l ρ M acc->chk M)(hs:∀ l x r ρ M acc,ys=l++x::r->I l ρ M acc -> ∃ ρ',b (f x) ρ = some ρ' /\ ∀ N':NC,(∀ ρ2 M2 j,I (l++[x]) ρ2 M2 j->N' ρ2 M2 j)->tb ρ' M acc N')(B:∀ ρ M acc,I ys ρ M acc->N ρ M acc):bC b tb chk N xs ρ M acc:=by
 subst hx;have g:∀ (r l:List α) (ρ:ao) (M:Mem) (acc:List D),ys=l++r->I l ρ M acc->bC b tb chk N (r.map f) ρ M acc:=by
  intro r
  induction r with
  |nil=>intro l ρ M acc e i;rw[Dv]at e;subst e;exact⟨z _ _ _ _ i,B _ _ _ i⟩
  | cons x r ih =>
    intro l ρ M acc e i;obtain⟨ρ',F,h⟩:=hs l x r ρ M acc e i;exact⟨z _ _ _ _ i,ρ',F,h _ λρ2 M2 j J=>ih (l++[x]) ρ2 M2 j (by rw[e];simp) J⟩
 exact g ys [] ρ M acc rfl h0
theorem bO {α:Type}{f : α -> D}{b:BT}{tb:TSd}{chk:Mem->Prop}(I:List α -> ao->Mem->Prop){ys:List α}(hx:xs=ys.map f)(h0:I [] ρ M)(j:∀ l ρ M,I l ρ M->chk M)(hs:∀ l x r ρ M,ys=l++x::r->I l ρ M -> ∃ ρ',b (f x) ρ = some ρ' /\ ∀ F:ao->Mem->Prop,(∀ ρ2 M2,I (l++[x]) ρ2 M2->F ρ2 M2)->tb { E with nx:=F,ct:=F,bk:=E.nx } ρ' M)(z:∀ ρ M,I ys ρ M->E.nx ρ M):bq b tb chk E xs ρ M:=by
 subst hx;have g:∀ (r l:List α) (ρ:ao) (M:Mem),ys=l++r->I l ρ M->bq b tb chk E (r.map f) ρ M:=by
  intro r
  induction r with
  |nil=>intro l ρ M e i;rw[Dv]at e;subst e;exact⟨j _ _ _ i,z _ _ i⟩
  | cons x r ih =>
    intro l ρ M e i;obtain⟨ρ',B,h⟩:=hs l x r ρ M e i;exact⟨j _ _ _ i,ρ',B,h _ λρ2 M2 J=>ih (l++[x]) ρ2 M2 (by rw[e];simp) J⟩
 exact g ys [] ρ M rfl h0
theorem gy:bY 0 n=(D6 n).map λi=>D.int (i:Nat):=by simp[bY]
end
section
variable {T:List FD}
noncomputable def el (x:Str) (s:Stmt) (ft fp:Nat):FD:=⟨"_law_scheme",s,["_law_box_here",x,"_law_count","_law_products","_law_k","_law_product","_law_way","_law_side"],3,
 (.cons (.asg (.name 3) (.lst .nil))
 (.cons (.for (.name 4) (.rng1 (.var 2)) (.cons (.asg (.name 5) (.comp [none,(some 0)] ["_law_length","_law_box_here"] (.last (.seq (.var 1)) (.name 0) .nil (.call fp (.cons (.var 1) (.cons (.var 0) .nil))))))
 (.cons (.asg (.name 6) (.call ft (.cons (.var 0) (.cons (.int 8) .nil))))
 (.cons (.ite (.and (.cons (.cmp .lt (.var 6) (.int 3)) (.cons (.cmp .ne (.var 3) (.lst .nil)) .nil))) (.cons (.put (.var 5) (.var 6) (.ix (.ix (.var 3) (.call ft (.cons (.var 0) (.cons (.blt .len (.cons (.var 3) .nil)) .nil)))) (.var 6)))
 .nil) .nil)
 (.cons (.ite (.cmp .eq (.var 6) (.int 3)) (.cons (.asg (.name 7) (.call ft (.cons (.var 0) (.cons (.int 3) .nil))))
 (.cons (.put (.var 5) (.var 7) (.bin .mul (.tup (.cons (.int 0) .nil)) (.ix (.var 1) (.var 7))))
 .nil)) .nil)
 (.cons (.drop (.meth .append (.var 3) (.blt .tuple (.cons (.var 5) .nil))))
 .nil))))))
 (.cons (.ret (.bin .add (.blt .tuple (.cons (.var 1) .nil)) (.tup (.cons (.var 3) .nil))))
 .nil)))⟩
theorem nC {ft fp:Nat}(hf:T[f]? = some (el x s ft fp))(BP:jX T (n - 1) ft)(BQ:pO T (n - 1) fp)(hn : 1<=n){L0 L1 L2:Nat}(h0:L0<=1000)(h1:L1<=1000)(h2:L2<=1000)(hc:c<=1000)(hb:Box b M)(BG:a≠b)(ha:M a=some (.lst [.int L0,.int L1,.int L2]))(q:∀ (ps:List Pr) pr M',ps.length=c->(∀ p∈ps,cf L0 L1 L2 p)->Bx b M M'->M pr=none->M' pr=some (.lst (ps.map prD))->Q (.tup [.int L0,.int L1,.int L2,.ref pr]) M'):phi T n f [.ref b,.ref a,.int c] M Q:=by
 refine aw (by lia) hf rfl (ρ:=[some _,some _,some _,none,none,none,none,none]) rfl ?_
 unfold el;walk_at "st";refine⟨by lia,λpr BI=>?_⟩
 have Y:pr≠b:=λz=>by obtain⟨x,y,w,e⟩:=hb;rw[<- z,BI]at e;cases e
 have C7:pr≠a:=λz=>by rw[<- z,BI]at ha;cases ha
 walk_at "st";refine⟨by lia,by lia,?_⟩
 refine sf (I:=λl ρ M'=>∃ (ps:List Pr) (o4 o5 o6 o7:Option D),ρ = [some (.ref b),some (.ref a),some (.int c),some (.ref pr),o4,o5,o6,o7]/\ps.length=l.length/\(∀ p∈ps,cf L0 L1 L2 p)/\Bx b M M'/\M' pr=some (.lst (ps.map prD)))
  ⟨[],none,none,none,none,rfl,rfl,λ_ h=>by simp at h,Bx.of hb (Ge.new BI),ad⟩ (λ_ _ _ _=>trivial) ?_ ?_
 ·rintro l x r ρ M1 e ⟨ps,o4,o5,o6,o7,rfl,hl,hp,x1,BR⟩;have BZ:=aF e;rw[cE]at BZ;refine⟨_,rfl,λF hF=>?_⟩;walk_at "wp";have BJ:=x1.keep a _ BG ha;rw[dM];walk_at "wp";refine⟨_,ag BJ,?_⟩;simp only[bC];refine⟨ag BJ,_,rfl,?_⟩;walk_at "wp";refine BQ h0 x1.box λn0 M2 l0 s0 x2=>?_;have BS:=x2.keep a _ BG BJ;refine⟨by simp[s9],ag BS,?_⟩
  refine BQ h1 x2.box λn1 M3 l1 s1 x3=>?_;have BU:=x3.keep a _ BG BS;refine⟨by simp[s9],ag BU,?_⟩
  refine BQ h2 x3.box λn2 M4 l2 s2 x4=>?_;have BM:=x4.keep a _ BG BU;refine⟨by simp[s9],ag BM,λpq BH=>?_⟩
  have BE:=x4.keep pr _ Y (x3.keep pr _ Y (x2.keep pr _ Y BR));have x5:=((x1.trans x2).trans (x3.trans x4)).ge (Ge.new (o:=.lst ([]++[D.tup (E5 D.int n0)]++[D.tup (E5 D.int n1)]++[D.tup (E5 D.int n2)])) BH);have L:pq≠b:=λz=>by obtain⟨x,y,w,e⟩:=x4.box;rw[<- z,BH]at e;cases e
  have O:M pq=none:=((x1.trans x2).trans (x3.trans x4)).none BH L;have Z:pr≠pq:=λz=>by rw[z,BH]at BE;cases BE
  have C8:a≠pq:=λz=>by rw[z,BH]at BM;cases BM
  have BN:ae M4 pq (.lst ([]++[D.tup (E5 D.int n0)]++[D.tup (E5 D.int n1)]++[D.tup (E5 D.int n2)])) pr=some (.lst (ps.map prD)):=by rw[aq Z];exact BE
  have BV:ae M4 pq (.lst ([]++[D.tup (E5 D.int n0)]++[D.tup (E5 D.int n1)]++[D.tup (E5 D.int n2)])) pq=some (.lst (prL (n0,n1,n2))):=ad;have hok:cf L0 L1 L2 (n0,n1,n2):=⟨l0,l1,l2,s0,s1,s2⟩;generalize ae M4 pq (.lst ([]++[D.tup (E5 D.int n0)]++[D.tup (E5 D.int n1)]++[D.tup (E5 D.int n2)]))=M5 at x5 BN BV;generalize hP:(n0,n1,n2)=p0 at hok BV;clear BH BE x4 BM x3 BU x2 BS hP;walk_at "st";refine BP x5.box (by decide) (by decide) λway M6 w0 w1 x6=>?_
  have BK:=x6.keep pr _ Y BN;have BX:=x6.keep pq _ L BV;have BY:=x5.trans x6;refine kc (I:=λρ' M'=>ρ'=[some (.ref b),some (.ref a),some (.int c),some (.ref pr),some x,some (.ref pq),some (.int way),o7] /\ ∃ p:Pr,cf L0 L1 L2 p/\Bx b M M'/\M' pr=some (.lst (ps.map prD))/\M' pq=some (.lst (prL p))) (λR hR=>?_) ?_
  ·walk_at "wp"
   split
   ·next hw =>
    refine⟨by lia,λpe C0=>?_⟩
    have g:=Ge.new (o:=.lst []) C0;refine⟨_,_,kb (g _ _ BK) |>.trans (by rw[ka];rfl),kb ad,?_⟩
    walk_at "wp";have x7:=BY.ge g;have U:=g _ _ BK;have BL:=g _ _ BX
    split
    ·next C1 =>
     have C6 : 0<ps.length:=by
      cases ps with
      |nil=>simp[DZ,EH]at C1
      |cons p r=>simp
     walk_at "st";refine lj U ?_;refine BP x7.box (by rw[Ca];lia) (by rw[Ca];lia) λr M8 r0 r1 x8=>?_
     have J:=x8.keep pr _ Y U;have BD:=x8.keep pq _ L BL;obtain⟨d,e1,e2⟩:=fA r0 r1;refine bf J e1 ?_;rw[CB]at e2
     cases e3:ps[r.toNat]? with
     |none=>rw[e3]at e2;cases e2
     | some pp =>
       rw[e3]at e2;cases e2;have ho:=hp pp (CI e3);have C2:way=0∨way=1∨way=2:=by lia
       have x9:=x7.trans x8
       rcases C2 with rfl|rfl|rfl
       ·refine⟨_,_,rfl,rfl,br BD (j:=0) rfl ?_⟩;exact hR _ _ ⟨rfl,(pp.1,p0.2.1,p0.2.2),⟨ho.l0,hok.l1,hok.l2,ho.s0,hok.s1,hok.s2⟩,x9.upd O L,by rw[aq Z];exact J,ad⟩
       ·refine⟨_,_,rfl,rfl,br BD (j:=1) rfl ?_⟩;exact hR _ _ ⟨rfl,(p0.1,pp.2.1,p0.2.2),⟨hok.l0,ho.l1,hok.l2,hok.s0,ho.s1,hok.s2⟩,x9.upd O L,by rw[aq Z];exact J,ad⟩
       ·refine⟨_,_,rfl,rfl,br BD (j:=2) rfl ?_⟩;exact hR _ _ ⟨rfl,(p0.1,p0.2.1,pp.2.2),⟨hok.l0,hok.l1,ho.l2,hok.s0,hok.s1,ho.s2⟩,x9.upd O L,by rw[aq Z];exact J,ad⟩
    ·exact hR _ _ ⟨rfl,p0,hok,x7,U,BL⟩
   ·exact hR _ _ ⟨rfl,p0,hok,BY,BK,BX⟩
  ·rintro ρ M7 ⟨rfl,p,B,x7,U,BL⟩;refine kc (I:=λρ' M'=>∃ (o7:Option D),ρ'=[some (.ref b),some (.ref a),some (.int c),some (.ref pr),some x,some (.ref pq),some (.int way),o7] /\ ∃ p:Pr,cf L0 L1 L2 p/\Bx b M M'/\M' pr=some (.lst (ps.map prD))/\M' pq=some (.lst (prL p))) (λR hR=>?_) ?_
   ·walk_at "wp"
    split
    ·walk_at "st";refine BP x7.box (by decide) (by decide) λside M8 d0 d1 x8=>?_
     have J:=x8.keep pr _ Y U;have BD:=x8.keep pq _ L BL;have x9:=x7.trans x8;have BW:=x9.keep a _ BG ha;walk_at "st";refine⟨by rw[s9];lia,?_⟩
     have C3:side=0∨side=1∨side=2:=by lia
     rcases C3 with rfl|rfl|rfl
     ·refine bf BW (d:=.int L0) rfl ?_;walk_at "wp";refine⟨by lia,by lia,by rw[s9];lia,br BD (j:=0) rfl ?_⟩
      rw[sg];exact hR _ _ ⟨_,rfl,(Cd (L0:Int).toNat 0,p.2.1,p.2.2),⟨by simp,B.l1,B.l2,ej,B.s1,B.s2⟩,x9.upd O L,by rw[aq Z];exact J,ad⟩
     ·refine bf BW (d:=.int L1) rfl ?_;walk_at "wp";refine⟨by lia,by lia,by rw[s9];lia,br BD (j:=1) rfl ?_⟩
      rw[sg];exact hR _ _ ⟨_,rfl,(p.1,Cd (L1:Int).toNat 0,p.2.2),⟨B.l0,by simp,B.l2,B.s0,ej,B.s2⟩,x9.upd O L,by rw[aq Z];exact J,ad⟩
     ·refine bf BW (d:=.int L2) rfl ?_;walk_at "wp";refine⟨by lia,by lia,by rw[s9];lia,br BD (j:=2) rfl ?_⟩
      rw[sg];exact hR _ _ ⟨_,rfl,(p.1,p.2.1,Cd (L2:Int).toNat 0),⟨B.l0,B.l1,by simp,B.s0,B.s1,ej⟩,x9.upd O L,by rw[aq Z];exact J,ad⟩
    ·exact hR _ _ ⟨_,rfl,p,B,x7,U,BL⟩
   ·rintro ρ M9 ⟨C9,rfl,p,B,x9,BO,C4⟩;walk_at "st";refine⟨⟨_,BO⟩,_,_,rfl,ag C4,_,_,_,rfl,rfl,BO,by rw[Ca,s9];lia,?_⟩
    walk_at "wp";exact hF _ _ ⟨ps++[p],_,_,_,_,rfl,by simp[hl],λp' C5=>(Df.mp C5).elim (hp p') λz=>by simp at z;subst z;exact B,x9.upd BI Y,by rw[ad];simp[prD,prL]⟩
 ·rintro ρ M1 ⟨ps,o4,o5,o6,o7,rfl,hl,hp,x1,BR⟩;have BJ:=x1.keep a _ BG ha;dsimp only;walk_at "st";refine⟨_,_,rfl,ag BJ,by rw[s9];lia,?_⟩
  walk_at "wp";rw[cE]at hl;exact⟨by simp,by rw[s9];lia,q ps pr M1 (by lia) hp x1 BI BR⟩
end
section
noncomputable def tx (i:Int):Str:=g8 (D9 i)
theorem aB (h:i.natAbs<10 ^ 4):(tx i).length<=5:=by
 have e:=int_text_length_le10 (k:=4) (by decide) h
 unfold tx;rw[td];lia
theorem bR (h:i.natAbs<10 ^ 4):i.natAbs.log2<1920:=by
 by_cases z:i.natAbs=0
 ·rw[z];decide
 ·exact(Nat.log2_lt z).mpr (Co (Co h (show 10 ^ 4<=2 ^ 14 by decide)) (Nat.pow_le_pow_right (by decide) (by decide)))
theorem de (a b:String):g8 (a++b)=g8 a++g8 b:=by
 apply Str.ext';show (HK 0 0 (a++b).toByteArray.data.toList).toArray=(HK 0 0 a.toByteArray.data.toList).toArray++(HK 0 0 b.toByteArray.data.toList).toArray;rw[F0,F0,F0,String.toList_append,Cy];simp
theorem gz (h:i<0):g8 "-" ++ tx (-i)=tx i:=by
 cases i with
 |ofNat m=>exact absurd h (by simp)
 |negSucc m=>exact(de "-" (Nat.repr (m+1))).symm
theorem aj (a:String):Cz (g8 a)=true:=by
 unfold Cz;show (HK 0 0 a.toByteArray.data.toList).toArray.all _=true;rw[F0];simp only[List.all_toArray,Ia,Dm];intro c _;have h:=c.valid;simp only[UInt32.isValidChar,Nat.isValidChar]at h;simp only[Function.comp,decide_eq_true_eq,Jk];lia
theorem aK {a b:Str}(j:Cz a=true)(z:Cz b=true):Cz (a++b)=true:=by
 unfold Cz at *
 rw[Str.cps_append,Array.all_append,j,z];rfl
theorem gZ {s:Str}(hs:Cz s=true):∀ {ts:List Str},(∀ t∈ts,Cz t=true)->Cz (CS s ts)=true
 |[],_=>by simp[CS,Cz,E2]
 |[x],h=>h x (by simp)
 |x::y::r,h=>aK (aK (h x (by simp)) hs) (gZ hs λt j=>h t (Ci _ j))
theorem fC {s:Str}{B:Nat}:∀ {ts:List Str},(∀ t∈ts,t.length<=B)->(CS s ts).length<=ts.length*(B+s.length)
 |[],_=>by simp[CS,E2,J7]
 |[x],h=>by have:=h x (by simp);simp only[CS,Cp,CP];lia
 | x::y::r,h=>by
   have h1:=h x (by simp)
   have h2:=fC (s:=s) (ts:=y::r) λt j=>h t (Ci _ j);show (x++s++CS s (y::r)).length<=_;rw[z4,z4,Cp,HV];lia
theorem eN {B:Nat}:∀ {ts:List Str},(∀ t∈ts,t.length<=B)->(ts.map (·.length)).sum<=ts.length*B
 |[],_=>by simp
 | x::r,h=>by
   have h1:=h x (by simp)
   have h2:=eN (ts:=r) λt j=>h t (Ci _ j);rw[Cr,G1,Cp,HV];lia
noncomputable def fl (ns:List Int):List (Int×Nat):=ns.zipIdx.filter λp=>p.1 != 0
noncomputable def aL (p:Int×Nat):Str:=tx p.1++g8 ":" ++ tx (p.2:Nat)
noncomputable def al (ns:List Int):Str:=if (fl ns).isEmpty=true then g8 "-" else CS (g8 " ") ((fl ns).map aL)
noncomputable def aC (p:Pr):Str:=al p.1++g8 " * " ++ al p.2.1++g8 " > " ++ al p.2.2
noncomputable def ar (a b c:Nat):Str:=g8 "scheme " ++ tx a++g8 " " ++ tx b++g8 " " ++ tx c
theorem sh (a b c:Nat):g8 "scheme " ++ CS (g8 " ") [tx a,tx b,tx c]=ar a b c:=by
 unfold ar;simp only[CS,Ez]
theorem gA (ns:List Int):(fl ns).length<=ns.length:=D7 (F3 _ _) (by simp)
theorem ke {p:Int×Nat}(h:p∈fl ns):p.1∈ns/\p.2<ns.length:=by
 have h1:=CZ.mp (DL.mp h).1;exact⟨CI h1,(Cw.mp h1).1⟩
theorem cX (hs:bE ns)(j:ns.length<=1000){p:Int×Nat}(h:p∈fl ns):(aL p).length<=11:=by
 obtain⟨h1,h2⟩:=ke h;have:=hs _ h1;have a:=aB (i:=p.1) (by lia)
 have b:=aB (i:=(p.2:Int)) (by lia)
 have c:(g8 ":").length=1:=by rw[td];rfl
 unfold aL;rw[z4,z4];lia
theorem aZ (hs:bE ns)(j:ns.length<=1000):(al ns).length<=12000:=by
 unfold al
 split
 ·rw[td];decide
 ·have h:=fC (s:=g8 " ") (B:=11) (ts:=(fl ns).map aL) (by
   intro t z;obtain⟨p,F,rfl⟩:=CO.mp z;exact cX hs j F)
  have c:(g8 " ").length=1:=by rw[td];rfl
  have:=gA ns;rw[c,Ca]at h;lia
theorem eO:Cz (al ns)=true:=by
 unfold al
 split
 ·exact aj _
 ·refine gZ (aj _) λt j=>?_;obtain⟨p,z,rfl⟩:=CO.mp j;exact aK (aK (aj _) (aj _)) (aj _)
theorem fD {j z L2:Nat}{p:Pr}(h:cf j z L2 p)(h0:j<=1000)(h1:z<=1000)(h2:L2<=1000):(aC p).length<=36006:=by
 have a:=aZ h.s0 (by rw[h.l0];exact h0)
 have b:=aZ h.s1 (by rw[h.l1];exact h1)
 have c:=aZ h.s2 (by rw[h.l2];exact h2)
 have d:(g8 " * ").length=3:=by rw[td];rfl
 have e:(g8 " > ").length=3:=by rw[td];rfl
 unfold aC;simp only[z4];lia
theorem uM {p:Pr}:Cz (aC p)=true:=aK (aK (aK (aK eO (aj _)) eO) (aj _)) eO
theorem si {a b:Nat}:Cz (ar a b c)=true:=aK (aK (aK (aK (aK (aj _) (aj _)) (aj _)) (aj _)) (aj _)) (aj _)
theorem kf (ns:List Int):dE (ns.map .int)=ns.zipIdx.map λp=>.tup [.int (p.2:Nat),.int p.1]:=by
 unfold dE;apply FR;intro i;rw[Er,CB,CB,GW]
 cases ns[i]? <;> simp
end
section
noncomputable def cl (s:Str):List Nat:=s.cps.toList
theorem gB {a b:Str}(h:cl a=cl b):a=b:=by
 apply Str.ext';exact Array.toList_inj.mp h
theorem aG (a b:Str):cl (a++b)=cl a++cl b:=by unfold cl;rw[Str.cps_append];simp
theorem bb (a:Str):(cl a).length=a.length:=by simp[cl,J7]
theorem bH (c:Nat):cl ⟨#[c]⟩=[c]:=rfl
noncomputable def jl (c:Nat):List (List Nat)->List Nat
 |[]=>[]
 |[x]=>x
 |x::y::r=>x++c::jl c (y::r)
theorem cN (c:Nat):∀ ys:List Str,cl (CS ⟨#[c]⟩ ys)=jl c (ys.map cl)
 |[]=>rfl
 |[x]=>rfl
 | x::y::r=>by
   show cl (x++⟨#[c]⟩++CS ⟨#[c]⟩ (y::r))=_;rw[aG,aG,cN c (y::r),bH];simp[jl]
theorem pP {c:Nat}:∀ {x y s t:List Nat},c∉x->c∉y->x++c::s=y++c::t->x=y/\s=t
 |[],[],_,_,_,_,h=>by simpa using h
 |[],b::y,_,_,_,h2,h=>by simp at h h2;exact absurd h.1 h2.1
 |a::x,[],_,_,h1,_,h=>by simp at h h1;exact absurd h.1.symm h1.1
 | a::x,b::y,s,t,h1,h2,h=>by
   simp only[List.cons_append,IW]at h;simp only[Cb,not_or]at h1 h2;obtain⟨j,z⟩:=pP h1.2 h2.2 h.2;exact⟨by rw[h.1,j],z⟩
theorem pQ {c:Nat}:∀ {xs ys:List (List Nat)},xs≠[]->ys≠[]->(∀ x∈xs,c∉x)->(∀ y∈ys,c∉y)->jl c xs=jl c ys->xs=ys
 |[],_,h,_,_,_,_=>absurd rfl h
 |_,[],_,h,_,_,_=>absurd rfl h
 |[x],[y],_,_,_,_,h=>by rw[show x=y from h]
 |[x],y::z::r,_,_,h1,_,h=>by
  have:c∈x:=by rw[show x=y++c::jl c (z::r) from h];simp
  exact absurd this (h1 x (by simp))
 | x::u::r,[y],_,_,_,h2,h=>by
   have:c∈y:=by rw[<- show x++c::jl c (u::r)=y from h];simp
   exact absurd this (h2 y (by simp))
 | x::u::r,y::z::r',_,_,h1,h2,h=>by
   obtain⟨j,B⟩:=pP (h1 x (by simp)) (h2 y (by simp)) (show x++c::jl c (u::r)=y++c::jl c (z::r') from h)
   rw[j,pQ (by simp) (by simp) (λw hw=>h1 w (Ci _ hw)) (λw hw=>h2 w (Ci _ hw)) B]
theorem dN {ys:List Str}(h:ys≠[])(hf:∀ y∈ys,c∉cl y):D3 (CS ⟨#[c]⟩ ys) ⟨#[c]⟩=ys:=by
 have e:=StrLaws.join_split (CS ⟨#[c]⟩ ys) ⟨#[c]⟩;have B:=congrArg cl e;rw[cN,cN]at B;have j:=split_pos (CS ⟨#[c]⟩ ys) ⟨#[c]⟩;have F:=pQ (c:=c) (xs:=(D3 (CS ⟨#[c]⟩ ys) ⟨#[c]⟩).map cl) (ys:=ys.map cl) (by intro z;rw[Hh]at z;rw[z]at j;simp at j) (by simpa using h)
  (λx hx=>by obtain⟨p,j,rfl⟩:=CO.mp hx;exact StrLaws.split_free _ c p j) (λx hx=>by obtain⟨p,j,rfl⟩:=CO.mp hx;exact hf p j) B
 exact(List.map_inj_right (λa b=>gB)).mp F
theorem pR (x:Str)(i j:Nat):cl (FE x i j)=((cl x).drop i).take (j - i):=StrLaws.strSub_toList x i j
theorem kg (x y:Str)(k:Nat):HL x y x.length k↔k+y.length<=x.length/\((cl x).drop k).take y.length=cl y:=by
 unfold HL;rw[StrLaws.subAt_eq,beq_iff_eq];exact I0
theorem ln {a b:Str}(z:∀ k,k<a.length -> ¬ HL (a++y++b) y (a++y++b).length k):bJ (a++y++b) y=[a,y,b]:=by
 have j:HL (a++y++b) y (a++y++b).length a.length:=by
  rw[kg,aG,aG,z4,z4];refine⟨by lia,?_⟩
  rw[<- bb,<- bb,DP,List.drop_left,List.take_left]
 have key:∀ i r,D2 (a++y++b) y 0 (a++y++b).length 1=i::r->i=a.length->bJ (a++y++b) y=[a,y,b]:=by
  intro i r e ei;subst ei;unfold bJ D5;rw[e];have B:FE (a++y++b) 0 a.length=a:=gB (by rw[pR,aG,aG,<- bb,List.drop_zero,Nat.sub_zero,DP,List.take_left])
  have F:FE (a++y++b) (a.length+y.length) (a++y++b).length=b:=gB (by
   rw[pR,z4,z4,aG,aG,<- bb,<- bb,<- Cv,List.drop_left,<- bb,Nat.add_sub_cancel_left,IF])
  dsimp only;rw[B,F]
 rcases StrLaws.occ_head (a++y++b) y 1 (Cc 1) with⟨_,h0⟩|⟨i,r,h0,hi,J⟩
 ·exact absurd j (h0 _)
 ·refine key i r h0 ?_
  by_cases h1:i<a.length
  ·exact absurd hi (z i h1)
  ·by_cases h2:a.length<i
   ·exact absurd j (J _ h2)
   ·lia
theorem sj {a b:Str}(h:c∉cl a):bJ (a++⟨#[c]⟩++b) ⟨#[c]⟩=[a,⟨#[c]⟩,b]:=ln λk J B=>by
 have e:=(kg _ _ _).mp B;have F:(⟨#[c]⟩:Str).length=1:=rfl;rw[F,aG,aG,DP,List.drop_append_of_le_length (by rw[bb];lia),bH]at e
 have j:(cl a).drop k≠[]:=by intro z;rw[List.drop_eq_nil_iff,bb]at z;lia
 obtain⟨d,l,ed⟩:=List.exists_cons_of_ne_nil j;rw[ed]at e;have hd:d=c:=by simpa using e.2
 refine h (List.mem_of_mem_drop (i:=k) ?_);rw[ed,hd];simp
theorem gC {a b:Str}{z j B:Nat}(h:j∉cl a)(h0:j≠z):bJ (a++⟨#[z,j,B]⟩++b) ⟨#[z,j,B]⟩=[a,⟨#[z,j,B]⟩,b]:=ln λk Y L=>by
 have e:=((kg _ _ _).mp L).2;have O:(⟨#[z,j,B]⟩:Str).length=3:=rfl;have U:cl ⟨#[z,j,B]⟩=[z,j,B]:=rfl;rw[O,aG,aG,U]at e;have J:=congrArg (λl:List Nat=>l[1]?) e;simp only[List.getElem?_take,Ed]at J;rw[if_pos (by decide)]at J
 have F:(cl a++[z,j,B]++cl b)[k+1]? = some j:=J;rw[DP]at F
 by_cases hk1:k+1<a.length
 ·rw[DI (by rw[bb];exact hk1)]at F
  exact h (CI F)
 ·have:k+1=(cl a).length:=by rw[bb];lia
  rw[this,Ep (Cc _),Nat.sub_self]at F;have:z=j:=by simpa using F
  exact h0 this.symm
theorem gD (x:Str)(c:Nat):Es x ⟨#[c]⟩=decide ((cl x)[0]? = some c):=by
 unfold Es;have:=StrLaws.subAt_one x c 0;rw[Bool.eq_iff_iff,decide_eq_true_iff,h8,decide_eq_true_iff];exact this
theorem nD (h : 1<=x.length):cl (IB x (some 1) none)=(cl x).drop 1:=by
 have e:=slice_closes_from (x:=x) (i:=1) ⟨by decide,by rw[show x.cps.toList.length=x.length from bb x];lia⟩
 have j:=Ik e;rw[j];have z:=bb x;unfold cl at *
 rw[List.take_of_length_le]
 ·rfl
 ·simp only[Ew];lia
theorem uN (x:Str)(c:Nat):Txt.contains x ⟨#[c]⟩=decide (c∈cl x):=StrLaws.found_one x c
theorem pS (n:Nat):cl (tx (n:Nat))=(Nat.toDigits 10 n).map Jk:=PySem.W.KIN.signs_num n
theorem uO:((D6 1001).all λn=>let d:=(Nat.toDigits 10 n).map Jk;decide (1<=d.length)&&decide (d.length<=4)&&(decide (100<=n) || decide (d.length<=2))&&(!(d.head? == some 48) || decide (d.length<=1))&&d.all λc=>decide (48<=c)&&decide (c<=57))=true:=by decide +kernel
theorem em (h:n<=1000) : 1<=(tx (n:Nat)).length/\(tx (n:Nat)).length<=4/\(n<100->(tx (n:Nat)).length<=2)/\((cl (tx (n:Nat))).head? = some 48->(tx (n:Nat)).length<=1) /\ ∀ c∈cl (tx (n:Nat)),48<=c/\c<=57:=by
 have h1:=Dm.mp uO n (El.mpr (by lia))
 simp only[h8,Fi,decide_eq_true_eq,CJ,Dm]at h1;rw[<- bb,pS];obtain⟨⟨⟨⟨a,b⟩,c⟩,d⟩,e⟩:=h1;refine⟨a,b,λz=>c.resolve_left (by lia),λz=>d.resolve_left λw=>?_,e⟩
 rw[z]at w;exact absurd w (by decide)
theorem dr {k:Nat}(j:k≠45/\(k<48∨57<k))(i:Int):k∉cl (tx i):=int_text_free' k j i
theorem uP:cl (g8 "0123456789")=[48,49,50,51,52,53,54,55,56,57]:=by decide +kernel
theorem mk1:g8 " " = ⟨#[32]⟩/\g8 ":" = ⟨#[58]⟩/\g8 "-" = ⟨#[45]⟩/\g8 "\n" = ⟨#[10]⟩/\g8 "0" = ⟨#[48]⟩:=by decide +kernel
theorem mk3:g8 " * " = ⟨#[32,42,32]⟩/\g8 " > " = ⟨#[32,62,32]⟩:=by decide +kernel
theorem lq (p:Int×Nat):cl (aL p)=cl (tx p.1)++58::cl (tx (p.2:Nat)):=by
 unfold aL;rw[mk1.2.1,aG,aG,bH];simp
theorem iz {k:Nat}(j:k≠45/\(k<48∨57<k))(h2:k≠58)(p:Int×Nat):k∉cl (aL p):=by
 rw[lq,Df,Cb,not_or,not_or];exact⟨dr j _,h2,dr j _⟩
theorem h9 {c k:Nat}(h:k≠c):∀ {ys:List (List Nat)},(∀ y∈ys,k∉y)->k∉jl c ys
 |[],_=>by simp[jl]
 |[x],h1=>h1 x (by simp)
 | x::y::r,h1=>by
   have:=h9 h (ys:=y::r) λw hw=>h1 w (Ci _ hw);show k∉x++c::jl c (y::r);rw[Df,Cb,not_or,not_or];exact⟨h1 x (by simp),h,this⟩
theorem en {k:Nat}(j:k≠45/\(k<48∨57<k))(h2:k≠58)(B:k≠32)(ns:List Int):k∉cl (al ns):=by
 unfold al
 split
 ·rw[mk1.2.2.1,bH];simp;exact j.1
 ·rw [mk1.1,cN];exact h9 B fun y z=>by
   rw[List.map_map]at z;obtain⟨p,_,rfl⟩:=CO.mp z;exact iz j h2 p
theorem nE (h:(fl ns).isEmpty=false):D3 (al ns) (g8 " ")=(fl ns).map aL:=by
 unfold al;rw[if_neg (by rw[h];decide),mk1.1]
 exact dN (by intro z;rw[Hh]at z;rw[z]at h;cases h) λy j=>by
  obtain⟨p,_,rfl⟩:=CO.mp j;exact iz ⟨by decide,by decide⟩ (by decide) p
theorem uQ (p:Pr):cl (aC p)=cl (al p.1)++[32,42,32]++cl (al p.2.1)++[32,62,32]++cl (al p.2.2):=by
 unfold aC;rw[mk3.1,mk3.2,aG,aG,aG,aG];rfl
theorem pT (p:Pr) : 10∉cl (aC p):=by
 rw[uQ];have h:=λns=>en (k:=10) ⟨by decide,by decide⟩ (by decide) (by decide) ns
 simp[h]
theorem gE (a b c:Nat):ar a b c=CS (g8 " ") [g8 "scheme",tx a,tx b,tx c]:=by
 unfold ar;have e:g8 "scheme " = g8 "scheme" ++ g8 " ":=de "scheme" " ";rw[e];simp only[CS,Ez]
theorem lr:cl (g8 "scheme")=[115,99,104,101,109,101]:=by decide +kernel
theorem kF (a b c:Nat):D3 (ar a b c) (g8 " ")=[g8 "scheme",tx a,tx b,tx c]:=by
 rw[gE,mk1.1];refine dN (by simp) λy j=>?_
 simp only[Cb,Ck,or_false]at j
 rcases j with rfl|rfl|rfl|rfl
 ·rw[lr];decide
 all_goals exact dr ⟨by decide,by decide⟩ _
theorem nF (a b c:Nat) : 10∉cl (ar a b c):=by
 rw[gE,mk1.1,cN];refine h9 (by decide) λy j=>?_
 simp only[Cr,Eb,Cb,Ck,or_false]at j
 rcases j with rfl|rfl|rfl|rfl
 ·rw[lr];decide
 all_goals exact dr ⟨by decide,by decide⟩ _
theorem nG (a b c:Nat)(ps:List Pr):D3 (CS (g8 "\n") (ar a b c::ps.map aC)) (g8 "\n")=ar a b c::ps.map aC:=by
 rw[mk1.2.2.2.1];refine dN (by simp) λy j=>?_
 rcases Cb.mp j with rfl|j
 ·exact nF a b c
 ·obtain⟨p,_,rfl⟩:=CO.mp j;exact pT p
theorem uR (h:(fl ns).isEmpty=false):al ns≠g8 "-":=by
 intro e;have j:=congrArg cl e;have h1 : 58∈cl (al ns):=by
  unfold al;rw[if_neg (by rw[h];decide),mk1.1,cN]
  cases hf:fl ns with
  |nil=>rw[hf]at h;cases h
  | cons p r =>
    have hw : 58∈cl (aL p):=by rw[lq];simp
    cases r with
    |nil=>exact hw
    |cons q r=>show 58∈cl (aL p)++_;exact Fb _ hw
 rw[j,mk1.2.2.1,bH]at h1;simp at h1
theorem pU (p:Pr):bJ (aC p) (g8 " * ")=[al p.1,g8 " * ",al p.2.1++g8 " > " ++ al p.2.2]:=by
 unfold aC;rw[Ez,Ez,<- Ez (al p.2.1),mk3.1];exact gC (en ⟨by decide,by decide⟩ (by decide) (by decide) _) (by decide)
theorem pV (p:Pr):bJ (al p.2.1++g8 " > " ++ al p.2.2) (g8 " > ")=[al p.2.1,g8 " > ",al p.2.2]:=by
 rw[mk3.2];exact gC (en ⟨by decide,by decide⟩ (by decide) (by decide) _) (by decide)
theorem pW (p:Int×Nat):bJ (aL p) (g8 ":")=[tx p.1,g8 ":",tx (p.2:Nat)]:=by
 unfold aL;rw[mk1.2.1];exact sj (dr ⟨by decide,by decide⟩ _)
end
section
namespace K53
noncomputable def ai (i:Nat):Stmt:=PySem.Challenge.pw_fewtimes_k53_schemes_read.main.body.getD i (.Pass ⟨0,0,0,0⟩)
noncomputable def b0:MSs :=
 (.cons (.ret (.comp [none,none] ["at","x"] (.last (.enum (.var 0)) (.tup (.cons (.name 0) (.cons (.name 1) .nil))) (.cons (.cmp .ne (.var 1) (.int 0)) .nil) (.tup (.cons (.var 0) (.cons (.var 1) .nil))))))
 .nil)
noncomputable def d0:FD:=⟨"filled",ai 6,["part"],1,b0⟩
noncomputable def b1:MSs :=
 (.cons (.par 1 2 (.blt .abs (.cons (.var 0) .nil)) (.lst .nil))
 (.cons (.while (.cmp .ge (.var 1) (.bin .pow (.int 10) (.int 50))) (.cons .bot (.cons .bot .nil)))
 (.cons (.drop (.meth .append (.var 2) (.blt .str (.cons (.var 1) .nil))))
 (.cons (.ret (.bin .add (.ite (.cmp .lt (.var 0) (.int 0)) (.str (g8 "-")) (.str (g8 ""))) (.join (.str (g8 "")) (.revS (.var 2) (.neg (.int 1))))))
 .nil))))
noncomputable def d1:FD:=⟨"number_text",ai 10,["number","rest","words","last"],1,b1⟩
noncomputable def b2:MSs :=
 (.cons (.ret (.ite (.tru (.blt .any (.cons (.var 0) .nil))) (.join (.str (g8 " ")) (.comp [none,none] ["at","c"] (.last (.seq (.call 0 (.cons (.var 0) .nil))) (.tup (.cons (.name 0) (.cons (.name 1) .nil))) .nil (.fstr (.cons (.fmt (.call 1 (.cons (.var 1) .nil))) (.cons (.str (g8 ":")) (.cons (.fmt (.var 0)) .nil))))))) (.str (g8 "-"))))
 .nil)
noncomputable def d2:FD:=⟨"sum_text",ai 11,["part"],1,b2⟩
noncomputable def b3:MSs :=
 (.cons (.asg (.tup (.cons (.name 1) (.cons (.name 2) (.cons (.name 3) (.cons (.name 4) .nil))))) (.var 0))
 (.cons (.asg (.name 5) (.lst (.cons (.fstr (.cons (.str (g8 "scheme ")) (.cons (.fmt (.var 1)) (.cons (.str (g8 " ")) (.cons (.fmt (.var 2)) (.cons (.str (g8 " ")) (.cons (.fmt (.var 3)) .nil))))))) .nil)))
 (.cons (.aug 5 .ext (.comp [none,none,none] ["l","r","o"] (.last (.seq (.var 4)) (.tup (.cons (.name 0) (.cons (.name 1) (.cons (.name 2) .nil)))) .nil (.fstr (.cons (.fmt (.call 2 (.cons (.var 0) .nil))) (.cons (.str (g8 " * ")) (.cons (.fmt (.call 2 (.cons (.var 1) .nil))) (.cons (.str (g8 " > ")) (.cons (.fmt (.call 2 (.cons (.var 2) .nil))) .nil)))))))))
 (.cons (.ret (.join (.str (g8 "\n")) (.var 5)))
 .nil))))
noncomputable def d3:FD:=⟨"scheme_text",ai 12,["scheme","left","right","many","products","rows"],1,b3⟩
noncomputable def b4:MSs :=
 (.cons (.ite (.or (.cons (.not (.chain .le .le (.int 1) (.blt .lenS (.cons (.var 0) .nil)) (.var 1))) (.cons (.not (.tru (.blt .all (.cons (.comp [none] ["sign"] (.last (.chars (.var 0)) (.name 0) .nil (.cmp .inStr (.var 0) (.glob "FIGURES" (.str (g8 "0123456789")))))) .nil)))) .nil))) (.cons (.ret .non)
 .nil) .nil)
 (.cons (.ite (.and (.cons (.cmp .eq (.ixS (.var 0) (.int 0)) (.str (g8 "0"))) (.cons (.cmp .gt (.blt .lenS (.cons (.var 0) .nil)) (.int 1)) .nil))) (.cons (.ret .non)
 .nil) .nil)
 (.cons (.ret (.blt .intS (.cons (.var 0) .nil)))
 .nil)))
noncomputable def d4:FD:=⟨"number_from",ai 13,["word","most"],2,b4⟩
noncomputable def b5:MSs :=
 (.cons (.asg (.name 1) (.smeth .starts (.var 0) (.str (g8 "-"))))
 (.cons (.asg (.name 2) (.call 4 (.cons (.ite (.tru (.var 1)) (.slS (.var 0) (.some (.int 1))) (.var 0)) (.cons (.blt .lenS (.cons (.blt .str (.cons (.glob "GREATEST_FACTOR" (.int 1000)) .nil)) .nil)) .nil))))
 (.cons (.ite (.or (.cons (.cmp .is (.var 2) .non) (.cons (.not (.chain .le .le (.int 1) (.var 2) (.glob "GREATEST_FACTOR" (.int 1000)))) .nil))) (.cons (.ret .non)
 .nil) .nil)
 (.cons (.ret (.ite (.tru (.var 1)) (.neg (.var 2)) (.var 2)))
 .nil))))
noncomputable def d5:FD:=⟨"factor_from",ai 14,["word","is_below","size"],1,b5⟩
noncomputable def b6:MSs :=
 (.cons (.par 2 3 (.bin .mul (.lst (.cons (.int 0) .nil)) (.var 1)) (.neg (.int 1)))
 (.cons (.ite (.cmp .eq (.var 0) (.str (g8 "-"))) (.cons (.ret (.blt .tuple (.cons (.var 2) .nil)))
 .nil) .nil)
 (.cons (.for (.name 4) (.seq (.smeth .split (.var 0) (.str (g8 " ")))) (.cons (.asg (.tup (.cons (.name 5) (.cons (.name 6) (.cons (.name 7) .nil)))) (.smeth .part (.var 4) (.str (g8 ":"))))
 (.cons (.par 8 9 (.call 5 (.cons (.var 5) .nil)) (.call 4 (.cons (.var 7) (.cons (.blt .lenS (.cons (.blt .str (.cons (.glob "LONGEST" (.int 81)) .nil)) .nil)) .nil))))
 (.cons (.ite (.or (.cons (.cmp .is (.var 8) .non) (.cons (.cmp .is (.var 9) .non) (.cons (.not (.chain .lt .lt (.var 3) (.var 9) (.var 1))) .nil)))) (.cons (.ret .non)
 .nil) .nil)
 (.cons (.put (.var 2) (.var 9) (.var 8))
 (.cons (.asg (.name 3) (.var 9))
 .nil))))))
 (.cons (.ret (.blt .tuple (.cons (.var 2) .nil)))
 .nil))))
noncomputable def d6:FD:=⟨"sum_from",ai 15,["text","length","part","ahead","word","first","colon","second","c","at"],2,b6⟩
noncomputable def b7:MSs :=
 (.cons (.asg (.tup (.cons (.name 2) (.cons (.name 3) (.cons (.name 4) .nil)))) (.smeth .part (.var 0) (.str (g8 " * "))))
 (.cons (.asg (.tup (.cons (.name 5) (.cons (.name 6) (.cons (.name 7) .nil)))) (.smeth .part (.var 4) (.str (g8 " > "))))
 (.cons (.asg (.name 8) (.comp [none,none] ["text","length"] (.last (.zip (.lst (.cons (.var 2) (.cons (.var 5) (.cons (.var 7) .nil)))) (.var 1)) (.tup (.cons (.name 0) (.cons (.name 1) .nil))) .nil (.call 6 (.cons (.var 0) (.cons (.var 1) .nil))))))
 (.cons (.ret (.ite (.cmp .inNon .non (.var 8)) .non (.blt .tuple (.cons (.var 8) .nil))))
 .nil))))
noncomputable def d7:FD:=⟨"product_from",ai 16,["row","lengths","first","star","rest","second","sign","third","parts"],2,b7⟩
noncomputable def b8:MSs :=
 (.cons (.asg (.name 1) (.smeth .split (.var 0) (.str (g8 " "))))
 (.cons (.ite (.or (.cons (.cmp .ne (.blt .len (.cons (.var 1) .nil)) (.int 4)) (.cons (.cmp .ne (.ix (.var 1) (.int 0)) (.str (g8 "scheme"))) .nil))) (.cons (.ret .non)
 .nil) .nil)
 (.cons (.asg (.name 2) (.comp [none] ["word"] (.last (.seq (.sl (.var 1) (.some (.int 1)) .none)) (.name 0) .nil (.call 4 (.cons (.var 0) (.cons (.blt .lenS (.cons (.blt .str (.cons (.glob "LONGEST" (.int 81)) .nil)) .nil)) .nil))))))
 (.cons (.ite (.not (.tru (.blt .all (.cons (.comp [none] ["length"] (.last (.seq (.var 2)) (.name 0) .nil (.and (.cons (.cmp .isn (.var 0) .non) (.cons (.chain .le .le (.int 1) (.var 0) (.glob "LONGEST" (.int 81))) .nil))))) .nil)))) (.cons (.ret .non)
 .nil) .nil)
 (.cons (.ret (.blt .tuple (.cons (.var 2) .nil)))
 .nil)))))
noncomputable def d8:FD:=⟨"lengths_from",ai 17,["row","words","lengths"],1,b8⟩
noncomputable def b9:MSs :=
 (.cons (.asg (.name 1) (.smeth .split (.var 0) (.str (g8 "\n"))))
 (.cons (.asg (.name 2) (.call 8 (.cons (.ix (.var 1) (.int 0)) .nil)))
 (.cons (.ite (.cmp .is (.var 2) .non) (.cons .bot
 .nil) .nil)
 (.cons (.asg (.name 3) (.lst .nil))
 (.cons (.for (.tup (.cons (.name 4) (.cons (.name 5) .nil))) (.enum1 (.sl (.var 1) (.some (.int 1)) .none)) (.cons (.asg (.name 6) (.call 7 (.cons (.var 5) (.cons (.var 2) .nil))))
 (.cons (.ite (.or (.cons (.cmp .is (.var 6) .non) (.cons (.cmp .gt (.var 4) (.glob "MOST_PRODUCTS" (.int 400))) .nil))) (.cons .bot
 .nil) .nil)
 (.cons (.drop (.meth .append (.var 3) (.var 6)))
 .nil))))
 (.cons (.ret (.bin .add (.var 2) (.tup (.cons (.var 3) .nil))))
 .nil))))))
noncomputable def d9:FD:=⟨"scheme_from",ai 18,["text","rows","lengths","products","at","row","product"],1,b9⟩
noncomputable def d10:FD:=gx (ai 20)
noncomputable def d11:FD:=gY (ai 21)
noncomputable def d12:FD:=nB (ai 22) 10 11
noncomputable def d13:FD:=jW (ai 23) 11
noncomputable def d14:FD:=fB (ai 24) 13
noncomputable def d15:FD:=jZ (ai 25) 14
noncomputable def d16:FD:=el "_law_lengths_here" (ai 26) 13 15
noncomputable def b17:MSs :=
 (.cons (.ret (.comp [none,(some 0),(some 1)] ["_law_side","_law_box_here","_law_most"] (.last (.rng1 (.int 3)) (.name 0) .nil (.bin .add (.int 1) (.call 13 (.cons (.var 1) (.cons (.var 2) .nil)))))))
 .nil)
noncomputable def d17:FD:=⟨"_law_lengths",ai 27,["_law_box_here","_law_most"],2,b17⟩
noncomputable def b18:MSs :=
 (.cons (.asg (.name 1) (.ix (.lst (.cons (.int 4) (.cons (.int 4) (.cons (.int 4) (.cons (.int 12) (.cons (.int 12) (.cons (.int 4) (.cons (.int 4) (.cons (.int 81) .nil))))))))) (.call 13 (.cons (.var 0) (.cons (.int 8) .nil)))))
 (.cons (.asg (.name 2) (.ix (.lst (.cons (.int 3) (.cons (.int 5) (.cons (.int 1) (.cons (.int 12) (.cons (.int 4) (.cons (.int 2) (.cons (.int 0) (.cons (.int 60) .nil))))))))) (.call 13 (.cons (.var 0) (.cons (.int 8) .nil)))))
 (.cons (.ite (.cmp .eq (.var 1) (.int 81)) (.cons (.asg (.name 2) (.blt .min2 (.cons (.var 2) (.cons (.int 5) .nil))))
 .nil) .nil)
 (.cons (.ret (.call 16 (.cons (.var 0) (.cons (.call 17 (.cons (.var 0) (.cons (.var 1) .nil))) (.cons (.var 2) .nil)))))
 .nil))))
noncomputable def d18:FD:=⟨"_law_wide",ai 28,["_law_box_here","_law_most","_law_count"],1,b18⟩
noncomputable def b19:MSs :=
 (.cons (.asg (.name 1) (.lst .nil))
 (.cons (.for (.tup (.cons (.name 2) (.cons (.name 3) .nil))) (.enum (.var 0)) (.cons (.ite (.cmp .ne (.var 3) (.int 0)) (.cons (.drop (.meth .append (.var 1) (.bin .add (.bin .add (.blt .str (.cons (.var 3) .nil)) (.str (g8 ":"))) (.blt .str (.cons (.var 2) .nil)))))
 .nil) .nil)
 .nil))
 (.cons (.ret (.join (.str (g8 " ")) (.orL (.var 1) (.lst (.cons (.str (g8 "-")) .nil)))))
 .nil)))
noncomputable def d19:FD:=⟨"_law_sum",ai 29,["_law_part_here","_law_words","_law_place","_law_number_here"],1,b19⟩
noncomputable def b20:MSs :=
 (.cons (.asg (.name 1) (.lst (.cons (.bin .add (.str (g8 "scheme ")) (.join (.str (g8 " ")) (.comp [none] ["_law_length"] (.last (.seq (.sl (.var 0) .none (.some (.int 3)))) (.name 0) .nil (.blt .str (.cons (.var 0) .nil)))))) .nil)))
 (.cons (.for (.tup (.cons (.name 2) (.cons (.name 3) (.cons (.name 4) .nil)))) (.seq (.ix (.var 0) (.int 3))) (.cons (.drop (.meth .append (.var 1) (.bin .add (.bin .add (.bin .add (.bin .add (.call 19 (.cons (.var 2) .nil)) (.str (g8 " * "))) (.call 19 (.cons (.var 3) .nil))) (.str (g8 " > "))) (.call 19 (.cons (.var 4) .nil)))))
 .nil))
 (.cons (.ret (.join (.str (g8 "\n")) (.var 1)))
 .nil)))
noncomputable def d20:FD:=⟨"_law_text",ai 30,["_law_scheme_here","_law_rows","_law_l","_law_r","_law_o"],1,b20⟩
noncomputable def b21:MSs :=
 (.cons (.ite (.or (.cons (.not (.tru (.isin (.var 0) "tuple"))) (.cons (.cmp .ne (.blt .len (.cons (.var 0) .nil)) (.int 4)) (.cons (.not (.tru (.isin (.ix (.var 0) (.int 3)) "list"))) (.cons (.cmp .ne (.var 0) (.var 1)) .nil))))) (.cons (.ret (.bl false))
 .nil) .nil)
 (.cons (.asg (.name 2) (.blt .list (.cons (.sl (.var 0) .none (.some (.int 3))) .nil)))
 (.cons (.for (.name 3) (.seq (.ix (.var 0) (.int 3))) (.cons (.for (.name 4) (.seq (.var 3)) (.cons (.drop (.meth .extend (.var 2) (.blt .list (.cons (.var 4) .nil))))
 .nil))
 .nil))
 (.cons (.ret (.blt .all (.cons (.comp [none] ["_law_number_here"] (.last (.seq (.var 2)) (.name 0) .nil (.and (.cons (.isin (.var 0) "int") (.cons (.not (.isin (.var 0) "bool")) .nil))))) .nil)))
 .nil))))
noncomputable def d21:FD:=⟨"_law_same_scheme",ai 31,["_law_found","_law_due","_law_numbers","_law_product","_law_part_here"],2,b21⟩
noncomputable def b22:MSs :=
 (.cons (.for (.name 1) (.rng1 (.blt .max2 (.cons (.int 4) (.cons (.blt .min2 (.cons (.blt .len (.cons (.var 0) .nil)) (.cons (.int 10) .nil))) .nil)))) (.cons (.asg (.name 2) (.call 18 (.cons (.call 12 (.cons (.var 0) (.cons (.var 1) .nil))) .nil)))
 (.cons (.asg (.name 3) (.call 20 (.cons (.var 2) .nil)))
 (.cons (.asg (.name 4) (.call 9 (.cons (.var 3) .nil)))
 (.cons (.ite (.or (.cons (.not (.tru (.call 21 (.cons (.var 4) (.cons (.var 2) .nil))))) (.cons (.cmp .ne (.call 3 (.cons (.var 4) .nil)) (.var 3)) .nil))) (.cons (.ret (.bl false))
 .nil) .nil)
 (.cons (.drop (.meth .append (.ix (.var 4) (.int 3)) (.int 0)))
 (.cons (.ite (.not (.tru (.call 21 (.cons (.call 9 (.cons (.var 3) .nil)) (.cons (.var 2) .nil))))) (.cons (.ret (.bl false))
 .nil) .nil)
 .nil)))))))
 (.cons (.ret (.bl true))
 .nil))
noncomputable def d22:FD:=⟨"law",ai 32,["_law_script","_law_k","_law_scheme_here","_law_text_here","_law_found"],1,b22⟩
noncomputable def tab:List FD:=[d0,d1,d2,d3,d4,d5,d6,d7,d8,d9,d10,d11,d12,d13,d14,d15,d16,d17,d18,d19,d20,d21,d22]
noncomputable def kh:List (Str×D):=[("LONGEST",(.int 81)),("MOST_PRODUCTS",(.int 400)),("FIGURES",(.str (g8 "0123456789"))),("GREATEST_FACTOR",(.int 1000))]
end K53
end
section
namespace K53
theorem wX:∀ d∈tab,nA (tab.map (·.name)) kh d=true:=by decide +kernel
noncomputable abbrev PA (K:Frag) (x:Str) (f:Addr):Prop:=Dy K CH x=some (some (.ref f))
noncomputable abbrev PL (K:Frag) (f:Addr) (x:Str) (s:Stmt) (oc:h6) (od:Option Addr) (kV dc pm:h6) (an:Option Addr) (cd ct:h6) (sl:Array (Option h6)):Prop:=K.lookup f=some ⟨oc,od,.func (Ea x x (cF s) (bx s) (au s) .none kV dc pm an cd ct),sl⟩
noncomputable abbrev PC (K:Frag) (c:h6) (x:Str):Prop:=Fv K c x=true
noncomputable abbrev PK (K:Frag) (f:Addr):Prop:=DE K (.ref f)=true
theorem all_mk {l:Gw}{w:CC}{K:Frag}{h:Heap}{mg:Str->Option h6}{fa:Addr}(X:K.In h)(G:h.Ns CH mg)(hfa:mg "law" = some (.ref fa))(z:∀ x∈bltNames,Dy K CH x=some none)(a0:PA K "filled" f0)(l0:PL K f0 "filled" (ai 6) oc0 od0 kV0 dc0 pm0 an0 cd0 ct0 sl0)(c0:PC K cd0 "filled")(k0:PK K f0)(a1:PA K "number_text" f1)(l1:PL K f1 "number_text" (ai 10) oc1 od1 kV1 dc1 pm1 an1 cd1 ct1 sl1)(c1:PC K cd1 "number_text")(k1:PK K f1)(a2:PA K "sum_text" f2)(l2:PL K f2 "sum_text" (ai 11) oc2 od2 kV2 dc2 pm2 an2 cd2 ct2 sl2)(c2:PC K cd2 "sum_text")(k2:PK K f2)(a3:PA K "scheme_text" f3)(l3:PL K f3 "scheme_text" (ai 12) oc3 od3 kV3 dc3 pm3 an3 cd3 ct3 sl3)(c3:PC K cd3 "scheme_text")(k3:PK K f3)(a4:PA K "number_from" f4)(l4:PL K f4 "number_from" (ai 13) oc4 od4 kV4 dc4 pm4 an4 cd4 ct4 sl4)(c4:PC K cd4 "number_from")(k4:PK K f4)(a5:PA K "factor_from" f5)(l5:PL K f5 "factor_from" (ai 14) oc5 od5 kV5 dc5 pm5 an5 cd5 ct5 sl5)(c5:PC K cd5 "factor_from")(k5:PK K f5)(a6:PA K "sum_from" f6)(l6:PL K f6 "sum_from" (ai 15) oc6 od6 kV6 dc6 pm6 an6 cd6 ct6 sl6)(c6:PC K cd6 "sum_from")(k6:PK K f6)(a7:PA K "product_from" f7)(l7:PL K f7 "product_from" (ai 16) oc7 od7 kV7 dc7 pm7 an7 cd7 ct7 sl7)(c7:PC K cd7 "product_from")(k7:PK K f7)(a8:PA K "lengths_from" f8)(l8:PL K f8 "lengths_from" (ai 17) oc8 od8 kV8 dc8 pm8 an8 cd8 ct8 sl8)(c8:PC K cd8 "lengths_from")(k8:PK K f8)(a9:PA K "scheme_from" f9)(l9:PL K f9 "scheme_from" (ai 18) oc9 od9 kV9 dc9 pm9 an9 cd9 ct9 sl9)(c9:PC K cd9 "scheme_from")(k9:PK K f9)(a10:PA K "_law_cell_at" f10)(l10:PL K f10 "_law_cell_at" (ai 20) oc10 od10 kV10 dc10 pm10 an10 cd10 ct10 sl10)(c10:PC K cd10 "_law_cell_at")(k10:PK K f10)(a11:PA K "_law_mixed" f11)(l11:PL K f11 "_law_mixed" (ai 21) oc11 od11 kV11 dc11 pm11 an11 cd11 ct11 sl11)(c11:PC K cd11 "_law_mixed")(k11:PK K f11)(a12:PA K "_law_box" f12)(l12:PL K f12 "_law_box" (ai 22) oc12 od12 kV12 dc12 pm12 an12 cd12 ct12 sl12)(c12:PC K cd12 "_law_box")(k12:PK K f12)(a13:PA K "_law_take" f13)(l13:PL K f13 "_law_take" (ai 23) oc13 od13 kV13 dc13 pm13 an13 cd13 ct13 sl13)(c13:PC K cd13 "_law_take")(k13:PK K f13)(a14:PA K "_law_number" f14)(l14:PL K f14 "_law_number" (ai 24) oc14 od14 kV14 dc14 pm14 an14 cd14 ct14 sl14)(c14:PC K cd14 "_law_number")(k14:PK K f14)(a15:PA K "_law_part" f15)(l15:PL K f15 "_law_part" (ai 25) oc15 od15 kV15 dc15 pm15 an15 cd15 ct15 sl15)(c15:PC K cd15 "_law_part")(k15:PK K f15)(a16:PA K "_law_scheme" f16)(l16:PL K f16 "_law_scheme" (ai 26) oc16 od16 kV16 dc16 pm16 an16 cd16 ct16 sl16)(c16:PC K cd16 "_law_scheme")(k16:PK K f16)(a17:PA K "_law_lengths" f17)(l17:PL K f17 "_law_lengths" (ai 27) oc17 od17 kV17 dc17 pm17 an17 cd17 ct17 sl17)(c17:PC K cd17 "_law_lengths")(k17:PK K f17)(a18:PA K "_law_wide" f18)(l18:PL K f18 "_law_wide" (ai 28) oc18 od18 kV18 dc18 pm18 an18 cd18 ct18 sl18)(c18:PC K cd18 "_law_wide")(k18:PK K f18)(a19:PA K "_law_sum" f19)(l19:PL K f19 "_law_sum" (ai 29) oc19 od19 kV19 dc19 pm19 an19 cd19 ct19 sl19)(c19:PC K cd19 "_law_sum")(k19:PK K f19)(a20:PA K "_law_text" f20)(l20:PL K f20 "_law_text" (ai 30) oc20 od20 kV20 dc20 pm20 an20 cd20 ct20 sl20)(c20:PC K cd20 "_law_text")(k20:PK K f20)(a21:PA K "_law_same_scheme" f21)(l21:PL K f21 "_law_same_scheme" (ai 31) oc21 od21 kV21 dc21 pm21 an21 cd21 ct21 sl21)(c21:PC K cd21 "_law_same_scheme")(k21:PK K f21)(a22:PA K "law" f22)(l22:PL K f22 "law" (ai 32) oc22 od22 kV22 dc22 pm22 an22 cd22 ct22 sl22)(c22:PC K cd22 "law")(k22:PK K f22)(gcst0:Dy K CH "LONGEST" = some (some (.int 81 ut0)))(gcst1:Dy K CH "MOST_PRODUCTS" = some (some (.int 400 ut1)))(gcst2:Dy K CH "FIGURES" = some (some (.str (g8 "0123456789") ut2)))(gcst3:Dy K CH "GREATEST_FACTOR" = some (some (.int 1000 ut3)))
 : ∃ fd:Ee,(∀ (s:hQ) (v:h6),GY s fd ⟨[v],[]⟩ [("_law_script",v)]) /\ ∀ base:Heap,K.In base->base.Ns CH mg->cr l.prog w K mg base CX0 40 fa fd ["_law_script"] (lSp K (phi tab 40 22)):=by
 have e:=hfa.symm.trans (Cn X G a22)
 cases e
 have O:sX K mg tab kh:=by
  refine⟨λx hx=>PySem.W.mg_none_of X G (z x hx),?_,wX,?_⟩
  ·intro i d hd
   match i,hd with
   |0,hd=>cases hd;exact⟨_,_,af l0 c0 k0,Cn X G a0,a0,(af l0 c0 k0).binds λ_ _ _ _ _ _ us hl=>by obtain⟨u0,rfl⟩:=bD us hl;rfl⟩
   |1,hd=>cases hd;exact⟨_,_,af l1 c1 k1,Cn X G a1,a1,(af l1 c1 k1).binds λ_ _ _ _ _ _ us hl=>by obtain⟨u0,rfl⟩:=bD us hl;rfl⟩
   |2,hd=>cases hd;exact⟨_,_,af l2 c2 k2,Cn X G a2,a2,(af l2 c2 k2).binds λ_ _ _ _ _ _ us hl=>by obtain⟨u0,rfl⟩:=bD us hl;rfl⟩
   |3,hd=>cases hd;exact⟨_,_,af l3 c3 k3,Cn X G a3,a3,(af l3 c3 k3).binds λ_ _ _ _ _ _ us hl=>by obtain⟨u0,rfl⟩:=bD us hl;rfl⟩
   |4,hd=>cases hd;exact⟨_,_,af l4 c4 k4,Cn X G a4,a4,(af l4 c4 k4).binds λ_ _ _ _ _ _ us hl=>by obtain⟨u0,u1,rfl⟩:=ca us hl;rfl⟩
   |5,hd=>cases hd;exact⟨_,_,af l5 c5 k5,Cn X G a5,a5,(af l5 c5 k5).binds λ_ _ _ _ _ _ us hl=>by obtain⟨u0,rfl⟩:=bD us hl;rfl⟩
   |6,hd=>cases hd;exact⟨_,_,af l6 c6 k6,Cn X G a6,a6,(af l6 c6 k6).binds λ_ _ _ _ _ _ us hl=>by obtain⟨u0,u1,rfl⟩:=ca us hl;rfl⟩
   |7,hd=>cases hd;exact⟨_,_,af l7 c7 k7,Cn X G a7,a7,(af l7 c7 k7).binds λ_ _ _ _ _ _ us hl=>by obtain⟨u0,u1,rfl⟩:=ca us hl;rfl⟩
   |8,hd=>cases hd;exact⟨_,_,af l8 c8 k8,Cn X G a8,a8,(af l8 c8 k8).binds λ_ _ _ _ _ _ us hl=>by obtain⟨u0,rfl⟩:=bD us hl;rfl⟩
   |9,hd=>cases hd;exact⟨_,_,af l9 c9 k9,Cn X G a9,a9,(af l9 c9 k9).binds λ_ _ _ _ _ _ us hl=>by obtain⟨u0,rfl⟩:=bD us hl;rfl⟩
   |10,hd=>cases hd;exact⟨_,_,af l10 c10 k10,Cn X G a10,a10,(af l10 c10 k10).binds λ_ _ _ _ _ _ us hl=>by obtain⟨u0,u1,rfl⟩:=ca us hl;rfl⟩
   |11,hd=>cases hd;exact⟨_,_,af l11 c11 k11,Cn X G a11,a11,(af l11 c11 k11).binds λ_ _ _ _ _ _ us hl=>by obtain⟨u0,u1,rfl⟩:=ca us hl;rfl⟩
   |12,hd=>cases hd;exact⟨_,_,af l12 c12 k12,Cn X G a12,a12,(af l12 c12 k12).binds λ_ _ _ _ _ _ us hl=>by obtain⟨u0,u1,rfl⟩:=ca us hl;rfl⟩
   |13,hd=>cases hd;exact⟨_,_,af l13 c13 k13,Cn X G a13,a13,(af l13 c13 k13).binds λ_ _ _ _ _ _ us hl=>by obtain⟨u0,u1,rfl⟩:=ca us hl;rfl⟩
   |14,hd=>cases hd;exact⟨_,_,af l14 c14 k14,Cn X G a14,a14,(af l14 c14 k14).binds λ_ _ _ _ _ _ us hl=>by obtain⟨u0,rfl⟩:=bD us hl;rfl⟩
   |15,hd=>cases hd;exact⟨_,_,af l15 c15 k15,Cn X G a15,a15,(af l15 c15 k15).binds λ_ _ _ _ _ _ us hl=>by obtain⟨u0,u1,rfl⟩:=ca us hl;rfl⟩
   |16,hd=>cases hd;exact⟨_,_,af l16 c16 k16,Cn X G a16,a16,(af l16 c16 k16).binds λ_ _ _ _ _ _ us hl=>by obtain⟨u0,u1,u2,rfl⟩:=yd us hl;rfl⟩
   |17,hd=>cases hd;exact⟨_,_,af l17 c17 k17,Cn X G a17,a17,(af l17 c17 k17).binds λ_ _ _ _ _ _ us hl=>by obtain⟨u0,u1,rfl⟩:=ca us hl;rfl⟩
   |18,hd=>cases hd;exact⟨_,_,af l18 c18 k18,Cn X G a18,a18,(af l18 c18 k18).binds λ_ _ _ _ _ _ us hl=>by obtain⟨u0,rfl⟩:=bD us hl;rfl⟩
   |19,hd=>cases hd;exact⟨_,_,af l19 c19 k19,Cn X G a19,a19,(af l19 c19 k19).binds λ_ _ _ _ _ _ us hl=>by obtain⟨u0,rfl⟩:=bD us hl;rfl⟩
   |20,hd=>cases hd;exact⟨_,_,af l20 c20 k20,Cn X G a20,a20,(af l20 c20 k20).binds λ_ _ _ _ _ _ us hl=>by obtain⟨u0,rfl⟩:=bD us hl;rfl⟩
   |21,hd=>cases hd;exact⟨_,_,af l21 c21 k21,Cn X G a21,a21,(af l21 c21 k21).binds λ_ _ _ _ _ _ us hl=>by obtain⟨u0,u1,rfl⟩:=ca us hl;rfl⟩
   |22,hd=>cases hd;exact⟨_,_,af l22 c22 k22,Cn X G a22,a22,(af l22 c22 k22).binds λ_ _ _ _ _ _ us hl=>by obtain⟨u0,rfl⟩:=bD us hl;rfl⟩
   |i+23,hd=>simp[tab]at hd
  ·intro x i hx;simp only[kh,Cb,Ck,or_false,Prod.mk.injEq]at hx
   rcases hx with⟨rfl,rfl⟩|⟨rfl,rfl⟩|⟨rfl,rfl⟩|⟨rfl,rfl⟩
   ·exact⟨_,Cn X G gcst0,GV.ints⟩
   ·exact⟨_,Cn X G gcst1,GV.ints⟩
   ·exact⟨_,Cn X G gcst2,GV.strs⟩
   ·exact⟨_,Cn X G gcst3,GV.ints⟩
 refine⟨Ea "law" "law" (cF (ai 32)) (bx (ai 32)) (au (ai 32)) .none kV22 dc22 pm22 an22 cd22 ct22,λs v=>.of_eq rfl,λbase _ _=>?_⟩;exact pL O 40 22 d22 _ _ rfl (af l22 c22 k22)
theorem walk {l:Gw}{q:Ct}{loose:List Str}{XP:(Str->Option h6)->Heap->Prop}{YP:CC->Heap->Prop}{d:DefRec}{K:Params->Frag}(hn:l.most=some 63)(hdf:d.params.defaults=[])(hlaw:∀ ns:List Int,ns.length<=63->phi tab 40 22 [.con (ns.map D.int)] (fun _=>none) fun d _=>d = .bl true)(hY:∀ (w:CC) (h:Heap),YP w h->(K w.params).In h)(F:∀ (w:CC) (mg:Str->Option h6) (fa:Addr) (h:Heap),(K w.params).In h->h.Ns CH mg->mg d.name=some (.ref fa) ->
   ∃ fd:Ee,(∀ (s:hQ) (u:h6),GY s fd ⟨[u],[]⟩ [("_law_script",u)]) /\ ∀ base:Heap,(K w.params).In base->base.Ns CH mg->cr l.prog w (K w.params) mg base CX0 40 fa fd ["_law_script"] (lSp (K w.params) (phi tab 40 22))) :
 PySem.W.WalkO q loose XP YP l.row.toRowW d [] (λf vs=>J8 f vs) :=
 L2.walk_of (n:=63) (k:=40) (x:="_law_script") (CX:=λ_=>CX0) (sp:=λw=>lSp (K w.params) (phi tab 40 22)) hn (by decide) hdf ⟨rfl,by decide,by decide⟩ hY F (λw H a ns hl hO hS=>wN hO hS (hlaw ns hl)) λ_ _ _ _ _ z=>z
end K53
end
section
namespace K53
variable {n:Nat}
theorem cY (j : 2<=n):jX tab n 13:=λz h1 h2 q=>uK (s:=ai 23) (fm:=11) rfl (λq=>jV (s:=ai 21) rfl (by omega) q) j z h1 h2 q
theorem nH (z : 3<=n):jY tab n 14:=λj q=>pN (s:=ai 24) (ft:=13) rfl (cY (by omega)) (by omega) j q
theorem sk (B : 4<=n):pO tab n 15:=λj z q=>uL (s:=ai 25) (fn:=14) rfl (nH (by omega)) (by omega) j z q
theorem tj (s:Str)(ts:List Str):Jd s ts=CS s ts:=StrLaws.glued_eq_join s ts
variable {M:Mem}{Q:QD}
theorem pX {a b c d:D}(q:Q (.tup [a,b,c]) M):dk (.tup [a,b,c,d]) none (some 3) M Q:=q
variable {ns:List Int}
theorem wY (J : 1<=n)(O:ns.length<=1000)(q:∀ p,M p=none->Q (.ref p) (ae M p (.lst ((fl ns).map λx=>.tup [.int (x.2:Nat),.int x.1])))):phi tab n 0 [.tup (ns.map .int)] M Q:=by
 refine aw J rfl rfl (ρ:=[some _]) rfl ?_;unfold d0 b0;walk_at "st";rw[kf];refine bc (I:=λl ρ M' acc=>(∃ z B,ρ = [z,B])/\M'=M/\acc=(l.filter λp=>p.1 != 0).map λx=>.tup [.int (x.2:Nat),.int x.1]) (ys:=ns.zipIdx) (f:=λp=>.tup [.int (p.2:Nat),.int p.1]) rfl ⟨⟨_,_,rfl⟩,rfl,rfl⟩ (λ_ _ _ _ _=>trivial) ?_ ?_
 ·rintro l x r ρ M1 acc e ⟨⟨z,B,rfl⟩,rfl,rfl⟩;have j:=aF e;rw[FF]at j;refine⟨_,rfl,λN F=>?_⟩;walk_at "wp";have L:=F3 (λp:Int×Nat=>p.1 != 0) l
  split
  ·next hx =>
   exact⟨by rw[s9];first|decide|omega,by rw[Ca,s9];omega,F _ _ _ ⟨⟨_,_,rfl⟩,rfl,by rw[EN,Cy,Du (p:=λp:Int×Nat=>p.1 != 0) (a:=x) hx];rfl⟩⟩
  ·next hx=>exact F _ _ _ ⟨⟨_,_,rfl⟩,rfl,by rw[EN,Dt (p:=λp:Int×Nat=>p.1 != 0) (a:=x) hx];simp⟩
 ·rintro ρ M1 acc ⟨_,rfl,rfl⟩ p hp;exact q p hp
theorem yq (Z : 1<=n){c:Int}(hc : -1000<=c/\c<=1000)(q:∀ M',Ge M M'->Q (.str (tx c)) M'):phi tab n 1 [.int c] M Q:=by
 refine aw Z rfl rfl (ρ:=[some _,none,none,none]) rfl ?_;unfold d1 b1;walk_at "st";refine⟨DB _,λp Y=>?_⟩;have j:(if c<0 then -c else c).natAbs<10 ^ 4:=by split <;> omega
 have F : ¬ ((if c<0 then -c else c)≥(10:Int) ^ 50):=by
  have:(10:Int) ^ 50 > 1000:=by decide
  split <;> omega
 generalize J:(if c<0 then -c else c)=a at j F
 walk_at "st";refine⟨1,?_⟩;unfold aR;walk_at "wp";refine⟨by decide,by decide,by decide,?_⟩
 rw[if_neg (by exact F)]
 have O:ae M p (.lst []) p=some (.lst []):=ad;have g1:=Ge.new (o:=.lst []) Y;generalize ae M p (.lst [])=U at O g1;have ab:∀ o,Ge M (ae U p o):=λo a o' ea=>by rw[aq (λz=>by rw[z,Y]at ea;cases ea)];exact g1 _ _ ea
 walk_at "st";refine⟨⟨_,O⟩,_,rfl,bR j,_,_,_,rfl,rfl,O,by rw[s9];decide,?_⟩
 walk_at "st";have hl:=aB j;have l0:(g8 "").length=0:=by rw[td];rfl
 have l1:(g8 "-").length=1:=by rw[td];rfl
 have fin:∀ p2,ae U p (.lst ([]++[.str (tx a)])) p2=none->Ge M (ae (ae U p (.lst ([]++[.str (tx a)]))) p2 (.lst [.str (tx a)])):=λp2 h2=>(ab _).trans (Ge.new h2);have L:Jd (g8 "") [tx a]=tx a:=tj _ _;have hs:(E5 (λx=>x.length) [tx a]).sum+[tx a].length*(g8 "").length<=16777216:=by
  simp only[Cr,Eb,G1,Ig,l0];omega
 split
 ·next h =>
  refine⟨⟨_,rfl⟩,_,ad,λp2 B=>⟨_,rfl,[tx a],ad,hs,?_⟩⟩;refine⟨by rw[L,l1,s9];omega,?_⟩
  rw[L];have e:=q _ (fin p2 B);have ec:g8 "-" ++ tx a=tx c:=by rw[if_pos h]at J;rw[<- J];exact gz h
  rw[ec];exact e
 ·next h =>
  refine⟨⟨_,rfl⟩,_,ad,λp2 B=>⟨_,rfl,[tx a],ad,hs,?_⟩⟩;refine⟨by rw[L,l0,s9];omega,?_⟩
  rw[L];have e:=q _ (fin p2 B);have ec:g8 "" ++ tx a=tx c:=by rw[if_neg h]at J;rw[<- J];exact F8 _
  rw[ec];exact e
theorem ki:∀ ns:List Int,az gU (ns.map .int)=some (ns.map λx=>x != 0)
 |[]=>rfl
 |x::r=>by rw[Cr,az,ki r];rfl
theorem wZ:(ns.map λx=>x != 0).any id = !(fl ns).isEmpty:=by
 have:∀ (l:List Int) (k:Nat),(l.map λx=>x != 0).any id = !((l.zipIdx k).filter λp=>p.1 != 0).isEmpty:=by
  intro l
  induction l with
  |nil=>intro k;rfl
  | cons x r ih =>
    intro k;rw[Ex,Cr,DX,ih (k+1)]
    cases hx:(x != 0) with
    |true=>rw[Du (by exact hx)];rfl
    |false=>rw[Dt (by rw[hx];decide)];rfl
 exact this ns 0
theorem nI (hn : 2<=n)(hs:bE ns)(z:ns.length<=1000)(q:∀ M',Ge M M'->Q (.str (al ns)) M'):phi tab n 2 [.tup (ns.map .int)] M Q:=by
 refine aw (by omega) rfl rfl (ρ:=[some _]) rfl ?_
 unfold d2 b2;walk_at "st";refine⟨_,_,_,rfl,jT,ki ns,?_⟩;refine⟨_,rfl,?_⟩;rw[wZ]
 cases hx:(fl ns).isEmpty with
 | true =>
   have:al ns=g8 "-":=by unfold al;rw[if_pos hx]
   rw[<- this];exact q _ Ge.refl
 | false =>
   have j:al ns=CS (g8 " ") ((fl ns).map aL):=by unfold al;rw[if_neg (by rw[hx];decide)]
   refine(if_pos (by decide)).mpr ⟨⟨_,rfl⟩,?_⟩
   refine wY (by omega) z λp Y=>?_
   have g1:=Ge.new (o:=.lst ((fl ns).map λx=>.tup [.int (x.2:Nat),.int x.1])) Y;have B:ae M p (.lst ((fl ns).map λx=>.tup [.int (x.2:Nat),.int x.1])) p=some (.lst ((fl ns).map λx=>.tup [.int (x.2:Nat),.int x.1])):=ad;generalize ae M p (.lst ((fl ns).map λx=>.tup [.int (x.2:Nat),.int x.1]))=M1 at g1 B;refine⟨_,ag B,?_⟩;refine bc (I:=λl ρ M' acc=>(∃ L O,ρ = [L,O])/\Ge M1 M'/\acc=(l.map aL).map .str) (ys:=fl ns) (f:=λx=>.tup [.int (x.2:Nat),.int x.1]) rfl ⟨⟨_,_,rfl⟩,Ge.refl,rfl⟩ (λ_ _ _ _ h=>ag (h.2.1 _ _ B)) ?_ ?_
   ·rintro l x r ρ M2 acc e ⟨⟨L,O,rfl⟩,g2,rfl⟩;have Z:=aF e;have hm:x∈fl ns:=by rw[e];simp
    have F:=gA ns;obtain⟨h1,h2⟩:=ke hm;have J:=hs _ h1;have la:=aB (i:=x.1) (by omega)
    have lb:=aB (i:=(x.2:Int)) (by omega)
    have lc:(g8 ":").length=1:=by rw[td];rfl
    refine⟨_,rfl,λN hN=>?_⟩;walk_at "wp";refine yq (by omega) J λM3 g3=>?_
    have le:(E2:Str).length=0:=rfl;have hw:E2++tx x.1++g8 ":" ++ tx (x.2:Nat)=aL x:=by unfold aL;rw[F8]
    have BD:=cX hs z hm;refine⟨by rw[s9];first|decide|omega,_,rfl,by rw[z4,le,s9];omega,_,rfl,by rw[z4,z4,le,lc,s9];omega,bR (by omega),_,rfl,?_⟩
    have U:(E2++tx x.1++g8 ":" ++ tx (x.2:Nat)).length<=tv:=by rw[hw,s9];omega
    refine⟨U,U,by rw[Ca,Ca,s9];omega,hN _ _ _ ⟨⟨_,_,rfl⟩,g2.trans g3,?_⟩⟩
    rw[Cy,Cy,Cr,Cr,<- hw];rfl
   ·rintro ρ M2 acc ⟨_,g2,rfl⟩ p2 hp2;have hB:∀ t∈(fl ns).map aL,t.length<=11:=by
     intro t ht;obtain⟨y,hy,rfl⟩:=CO.mp ht;exact cX hs z hy
    have ls:=eN hB;have F:=gA ns;have lsep:(g8 " ").length=1:=by rw[td];rfl
    refine⟨_,rfl,(fl ns).map aL,ad,by rw[lsep];rw[Ca]at ls ⊢;omega,?_⟩
    rw[tj,<- j];exact q _ ((g1.trans g2).trans (Ge.new hp2))
noncomputable def df (a b c:Nat) (ps:List Pr):Str:=CS (g8 "\n") (ar a b c::ps.map aC)
variable {j z L2:Nat}{ps:List Pr}
theorem kj (J:∀ p∈ps,cf j z L2 p)(h0:j<=100)(h1:z<=100)(h2:L2<=100)(O:ps.length<=100) :
 ((ar j z L2::ps.map aC).map (·.length)).sum+(ar j z L2::ps.map aC).length*(g8 "\n").length<=16777216:=by
 have L:∀ t∈ar j z L2::ps.map aC,t.length<=36006:=by
  intro t B
  rcases Cb.mp B with rfl|B
  ·have a:=aB (i:=(j:Int)) (by omega)
   have b:=aB (i:=(z:Int)) (by omega)
   have c:=aB (i:=(L2:Int)) (by omega)
   have d:(g8 "scheme ").length=7:=by rw[td];rfl
   have e:(g8 " ").length=1:=by rw[td];rfl
   unfold ar;simp only[z4];omega
  ·obtain⟨p,F,rfl⟩:=CO.mp B;exact fD (J p F) (by omega) (by omega) (by omega)
 have ls:=eN L;have e:(g8 "\n").length=1:=by rw[td];rfl
 rw[e];rw[Cp,Ca]at ls ⊢;omega
variable {B:Nat}
theorem xa (hn : 3<=n){F:Nat}{pr:Addr}(U:∀ p∈ps,cf B F L2 p)(h0:B<=100)(h1:F<=100)(h2:L2<=100)(hc:ps.length<=100)(h:M pr=some (.lst (ps.map prD)))(q:∀ M',Ge M M'->Q (.str (df B F L2 ps)) M'):phi tab n 3 [.tup [.int B,.int F,.int L2,.ref pr]] M Q:=by
 refine aw (by omega) rfl rfl (ρ:=[some _,none,none,none,none,none]) rfl ?_
 unfold d3 b3;have a:(g8 (D9 (B:Int))).length<=5:=aB (i:=(B:Int)) (by omega)
 have b:(g8 (D9 (F:Int))).length<=5:=aB (i:=(F:Int)) (by omega)
 have c:(g8 (D9 (L2:Int))).length<=5:=aB (i:=(L2:Int)) (by omega)
 have d:(g8 "scheme ").length=7:=by rw[td];rfl
 have e:(g8 " ").length=1:=by rw[td];rfl
 have le:(E2:Str).length=0:=rfl;walk_at "st";walk_at "st";refine⟨_,rfl,by simp only[z4,le,d,s9];omega,bR (by omega),_,rfl,by simp only[z4,le,d,s9];omega,
  _,rfl,by simp only[z4,le,d,e,s9];omega,bR (by omega),_,rfl,by simp only[z4,le,d,e,s9];omega,
  _,rfl,by simp only[z4,le,d,e,s9];omega,bR (by omega),_,rfl,by simp only[z4,le,d,e,s9];omega,by simp only[z4,le,d,e,s9];omega,by rw[s9];first|decide|omega,λp J=>?_⟩
 have hh:E2++g8 "scheme " ++ g8 (D9 (B:Int))++g8 " " ++ g8 (D9 (F:Int))++g8 " " ++ g8 (D9 (L2:Int))=ar B F L2:=by rw[F8];rfl
 rw[hh];have g1:=Ge.new (o:=.lst [.str (ar B F L2)]) J;have Y:ae M p (.lst [.str (ar B F L2)]) p=some (.lst [.str (ar B F L2)]):=ad;generalize ae M p (.lst [.str (ar B F L2)])=Z at g1 Y;have L:M p=none:=J;have ab:∀ M2 o,Ge Z M2->Ge M (ae M2 p o):=λM2 o g2 x o' ea=>by rw[aq (λz=>by rw[z,L]at ea;cases ea)];exact g2 _ _ (g1 _ _ ea)
 walk_at "st";refine⟨_,ag (g1 _ _ h),?_⟩;refine bc (I:=λl ρ M' acc=>(∃ o1 o2 o3,ρ = [o1,o2,o3])/\Ge Z M'/\acc=(l.map aC).map .str) (ys:=ps) (f:=prD) rfl ⟨⟨_,_,_,rfl⟩,Ge.refl,rfl⟩ (λ_ _ _ _ hI=>ag (hI.2.1 _ _ (g1 _ _ h))) ?_ ?_
 ·rintro l x r ρ M2 acc ee ⟨⟨o1,o2,o3,rfl⟩,g2,rfl⟩;have BD:=aF ee;have j:=U x (by rw[ee];simp)
  have s0:=aZ j.s0 (by rw[j.l0];omega)
  have s1:=aZ j.s1 (by rw[j.l1];omega)
  have s2:=aZ j.s2 (by rw[j.l2];omega)
  have t1:(g8 " * ").length=3:=by rw[td];rfl
  have O:(g8 " > ").length=3:=by rw[td];rfl
  refine⟨_,rfl,λN hN=>?_⟩;walk_at "wp";refine nI (by omega) j.s0 (by rw[j.l0];omega) λM3 g3=>?_
  walk_at "wp";refine⟨by rw[s9];first|decide|omega,_,rfl,by simp only[z4,le,s9];omega,_,rfl,by simp only[z4,le,t1,s9];omega,?_⟩
  refine nI (by omega) j.s1 (by rw[j.l1];omega) λM4 g4=>?_
  walk_at "wp";refine⟨by rw[s9];first|decide|omega,_,rfl,by simp only[z4,le,t1,s9];omega,_,rfl,by simp only[z4,le,t1,O,s9];omega,?_⟩
  refine nI (by omega) j.s2 (by rw[j.l2];omega) λM5 g5=>?_
  walk_at "wp";refine⟨by rw[s9];first|decide|omega,_,rfl,by simp only[z4,le,t1,O,s9];omega,by simp only[z4,le,t1,O,s9];omega,by rw[Ca,Ca,s9];omega,hN _ _ _ ⟨⟨_,_,_,rfl⟩,((g2.trans g3).trans g4).trans g5,?_⟩⟩
  rw[Cy,Cy,Cr,Cr,F8];rfl
 ·rintro ρ M2 acc ⟨_,g2,rfl⟩ p2 hp2;walk_at "wp";have g3:=Ge.new (o:=.lst ((ps.map aC).map .str)) hp2;refine⟨p,p2,_,_,rfl,rfl,g3 _ _ (g2 _ _ Y),ad,by simp[s9];omega,?_⟩
  walk_at "st";refine⟨⟨_,rfl⟩,_,rfl,ar B F L2::ps.map aC,ad,kj U h0 h1 h2 hc,?_⟩;rw[tj];exact q _ (ab _ _ (g2.trans g3))
theorem sn (hn : 1<=n)(hs:bE ns)(hl:ns.length<=1000)(q:∀ M',Ge M M'->Q (.str (al ns)) M'):phi tab n 19 [.tup (ns.map .int)] M Q:=by
 refine aw (by omega) rfl rfl (ρ:=[some _,none,none,none]) rfl ?_
 unfold d19 b19;walk_at "st";refine⟨DB _,λp hp=>?_⟩;have g1:=Ge.new (o:=.lst []) hp;have e1:ae M p (.lst []) p=some (.lst []):=ad;generalize ae M p (.lst [])=M1 at g1 e1;walk_at "st";rw[kf];refine bO (I:=λl ρ M'=>(∃ J L,ρ = [some (.tup (ns.map .int)),some (.ref p),J,L])/\Ge M M'/\M' p=some (.lst (((l.filter λx=>x.1 != 0).map aL).map .str))) (ys:=ns.zipIdx) (f:=λx=>.tup [.int (x.2:Nat),.int x.1]) rfl ⟨⟨_,_,rfl⟩,g1,e1⟩ (λ_ _ _ _=>trivial) ?_ ?_
 ·rintro l x r ρ M2 e ⟨⟨J,L,rfl⟩,g2,j⟩;have O:=aF e;rw[FF]at O;have hm:x∈ns.zipIdx:=by rw[e];simp
  refine⟨_,rfl,λF hF=>?_⟩;walk_at "st";have hz:=CZ.mp hm;have BD:=hs _ (CI hz);have hi:=(Cw.mp hz).1;have la:(g8 (D9 x.1)).length<=5:=aB (i:=x.1) (by omega)
  have lb:(g8 (D9 (x.2:Int))).length<=5:=aB (i:=(x.2:Int)) (by omega)
  have lc:(g8 ":").length=1:=by rw[td];rfl
  have U:=F3 (λp:Int×Nat=>p.1 != 0) l
  split
  ·next hx =>
   walk_at "st";refine⟨⟨_,j⟩,_,rfl,bR (by omega),by rw[lc,s9];omega,_,rfl,bR (by omega),by rw[z4,lc,s9];omega,_,_,_,rfl,rfl,j,by rw[Ca,Ca,s9];omega,?_⟩
   walk_at "wp";refine hF _ _ ⟨⟨_,_,rfl⟩,λa o ea=>?_,?_⟩
   ·rw[aq (λz=>by rw[z,hp]at ea;cases ea)];exact g2 _ _ ea
   ·rw[ad,EN,Du (p:=λp:Int×Nat=>p.1 != 0) (a:=x) hx,Cy,Cy];rfl
  ·next hx =>
   refine hF _ _ ⟨⟨_,_,rfl⟩,g2,?_⟩;rw[j,EN,Dt (p:=λp:Int×Nat=>p.1 != 0) (a:=x) hx];simp
 ·rintro ρ M2 ⟨⟨J,L,rfl⟩,g2,j⟩;have e3:M2 p=some (.lst (((fl ns).map aL).map .str)):=j;have lsep:(g8 " ").length=1:=by rw[td];rfl
  walk_at "st";refine⟨⟨_,rfl⟩,_,e3,?_⟩;have Y:((((fl ns).map aL).map D.str).isEmpty)=(fl ns).isEmpty:=by cases fl ns <;> rfl
  rw[Y]
  cases hx:(fl ns).isEmpty with
  | true =>
    have hd:al ns=g8 "-":=by unfold al;rw[if_pos hx]
    have l1:(g8 "-").length=1:=by rw[td];rfl
    rw[if_pos rfl];refine⟨by rw[s9];first|decide|omega,λp2 Z=>⟨_,rfl,[g8 "-"],ad,?_,?_⟩⟩
    ·simp only[Cr,Eb,G1,Ig,Cp,CP,l1,lsep];omega
    ·rw[tj];have:=q _ (g2.trans (Ge.new (o:=.lst [.str (g8 "-")]) Z));rw[hd]at this;exact this
  | false =>
    have B:al ns=CS (g8 " ") ((fl ns).map aL):=by unfold al;rw[if_neg (by rw[hx];decide)]
    have hB:∀ t∈(fl ns).map aL,t.length<=11:=by
     intro t ht;obtain⟨y,hy,rfl⟩:=CO.mp ht;exact cX hs hl hy
    have ls:=eN hB;have U:=gA ns;rw[if_neg q7];refine⟨_,rfl,(fl ns).map aL,e3,by rw[lsep];rw[Ca]at ls ⊢;omega,?_⟩
    rw[tj,<- B];exact q _ g2
theorem yr (hn : 2<=n){J:Nat}{pr:Addr}(hp:∀ p∈ps,cf B J L2 p)(h0:B<=100)(h1:J<=100)(h2:L2<=100)(hc:ps.length<=100)(h:M pr=some (.lst (ps.map prD)))(q:∀ M',Ge M M'->Q (.str (df B J L2 ps)) M'):phi tab n 20 [.tup [.int B,.int J,.int L2,.ref pr]] M Q:=by
 refine aw (by omega) rfl rfl (ρ:=[some _,none,none,none,none]) rfl ?_
 unfold d20 b20;have a:(g8 (D9 (B:Int))).length<=5:=aB (i:=(B:Int)) (by omega)
 have b:(g8 (D9 (J:Int))).length<=5:=aB (i:=(J:Int)) (by omega)
 have c:(g8 (D9 (L2:Int))).length<=5:=aB (i:=(L2:Int)) (by omega)
 have d:(g8 "scheme ").length=7:=by rw[td];rfl
 have e:(g8 " ").length=1:=by rw[td];rfl
 walk_at "st";refine⟨⟨_,rfl⟩,pX ?_⟩;refine⟨_,jT,?_⟩;refine bc (I:=λl ρ M' acc=>(∃ o1,ρ = [o1])/\M'=M/\acc=(l.map λx:Nat=>tx x).map .str) (ys:=[B,J,L2]) (f:=λx=>.int (x:Nat)) rfl ⟨⟨_,rfl⟩,rfl,rfl⟩ (λ_ _ _ _ _=>jT) ?_ ?_
 ·rintro l x r ρ M2 acc ee ⟨⟨o1,rfl⟩,rfl,rfl⟩;have O:=aF ee;have hm:x∈[B,J,L2]:=by rw[ee];simp
  have hx:x<=100:=by
   simp only[Cb,Ck,or_false]at hm;omega
  refine⟨_,rfl,λN hN=>?_⟩;walk_at "wp";refine⟨_,rfl,bR (by omega),by rw[Ca,Ca,s9];simp only[Cp,CP]at O;omega,hN _ _ _ ⟨⟨_,rfl⟩,rfl,?_⟩⟩
  rw[Cy,Cy];rfl
 ·rintro ρ M2 acc ⟨_,rfl,rfl⟩ p hp1;have l3:(CS (g8 " ") [tx B,tx J,tx L2]).length<=17:=by
   simp only[CS,z4,e];unfold tx;omega
  refine⟨_,rfl,[tx B,tx J,tx L2],ad,?_,?_,by rw[s9];first|decide|omega,λp2 L=>?_⟩
  ·simp only[Cr,Eb,G1,Ig,Cp,CP,e];unfold tx;omega
  ·rw[tj,d,s9];omega
  rw[tj,sh];have g0:=Ge.new (o:=.lst (([B,J,L2].map λx:Nat=>tx x).map .str)) hp1;have g1:=g0.trans (Ge.new (o:=.lst [.str (ar B J L2)]) L);have Y:M2 p2=none:=by
   cases ex:M2 p2 with
   |none=>rfl
   |some o=>rw[g0 _ _ ex]at L;cases L
  have e1:ae (ae M2 p (.lst (([B,J,L2].map λx:Nat=>tx x).map .str))) p2 (.lst [.str (ar B J L2)]) p2=some (.lst [.str (ar B J L2)]):=ad;generalize ae (ae M2 p (.lst (([B,J,L2].map λx:Nat=>tx x).map .str))) p2 (.lst [.str (ar B J L2)])=M1 at g1 e1;walk_at "st";refine⟨_,rfl,_,ag (g1 _ _ h),?_⟩;refine bO (I:=λl ρ M'=>(∃ Z o3 o4,ρ = [some (.tup [.int B,.int J,.int L2,.ref pr]),some (.ref p2),Z,o3,o4])/\Ge M2 M'/\M' p2=some (.lst ((ar B J L2::l.map aC).map .str))) (ys:=ps) (f:=prD) rfl ⟨⟨_,_,_,rfl⟩,g1,e1⟩ (λ_ _ _ hI=>ag (hI.2.1 _ _ h)) ?_ ?_
  ·rintro l x r ρ M3 ee ⟨⟨Z,o3,o4,rfl⟩,g3,U⟩;have O:=aF ee;have j:=hp x (by rw[ee];simp)
   have s0:=aZ j.s0 (by rw[j.l0];omega)
   have s1:=aZ j.s1 (by rw[j.l1];omega)
   have s2:=aZ j.s2 (by rw[j.l2];omega)
   have t1:(g8 " * ").length=3:=by rw[td];rfl
   have t2:(g8 " > ").length=3:=by rw[td];rfl
   refine⟨_,rfl,λF hF=>?_⟩;walk_at "st";refine⟨⟨_,U⟩,?_⟩;refine sn (by omega) j.s0 (by rw[j.l0];omega) λM4 g4=>?_
   walk_at "wp";refine⟨by rw[t1,s9];omega,?_⟩
   refine sn (by omega) j.s1 (by rw[j.l1];omega) λM5 g5=>?_
   walk_at "wp";refine⟨by simp only[z4,t1,s9];omega,by simp only[z4,t1,t2,s9];omega,?_⟩
   refine sn (by omega) j.s2 (by rw[j.l2];omega) λM6 g6=>?_
   walk_at "wp";have gg:=(g4.trans g5).trans g6;refine⟨by simp only[z4,t1,t2,s9];omega,_,_,_,rfl,rfl,gg _ _ U,by simp[s9];omega,?_⟩
   walk_at "wp";refine hF _ _ ⟨⟨_,_,_,rfl⟩,λa o ea=>?_,?_⟩
   ·rw[aq (λz=>by rw[z,Y]at ea;cases ea)];exact gg _ _ (g3 _ _ ea)
   ·rw[ad];simp[aC]
  ·rintro ρ M3 ⟨⟨Z,o3,o4,rfl⟩,g3,U⟩;walk_at "st";refine⟨⟨_,rfl⟩,_,rfl,ar B J L2::ps.map aC,U,kj hp h0 h1 h2 hc,?_⟩;rw[tj];exact q _ g3
variable {b:Addr}
theorem nJ (hn : 3<=n){most:Int}(hb:Box b M)(m0 : 0<most)(m1:most<=81)(q:∀ (F J L2:Nat) a M',(1<=F/\1<=J/\1<=L2)->F<=81->J<=81->L2<=81->Bx b M M'->a≠b->M' a=some (.lst [.int F,.int J,.int L2])->Q (.ref a) M'):phi tab n 17 [.ref b,.int most] M Q:=by
 refine aw (by omega) rfl rfl (ρ:=[some _,some _]) rfl ?_
 unfold d17 b17;walk_at "st";refine⟨by omega,by omega,?_⟩
 refine bc (I:=λl ρ M' acc=>(∃ o,ρ = [o,some (.ref b),some (.int most)])/\Bx b M M' /\ ∃ ls:List Nat,ls.length=l.length/\(∀ x∈ls,1<=x/\x<=81)/\acc=ls.map λx=>.int (x:Nat)) (ys:=D6 3) (f:=λi=>.int (i:Nat)) (by rw[gy];simp) ⟨⟨_,rfl⟩,Bx.refl hb,[],rfl,by simp,rfl⟩ (λ_ _ _ _ hI=>trivial) ?_ ?_
 ·rintro l k r ρ M3 acc e ⟨⟨o1,rfl⟩,Y,ls,B,L,rfl⟩;refine⟨_,rfl,λN hN=>?_⟩;walk_at "wp";have O:=aF e;rw[List.length_range]at O;refine cY (by omega) Y.box m0 (by omega) λr M5 r0 r1 x5=>?_
  walk_at "wp";refine⟨by simp[s9,B];omega,hN _ _ _ ⟨⟨_,rfl⟩,Y.trans x5,ls++[(1+r).toNat],by simp[B],?_,?_⟩⟩
  ·intro y hy
   rcases Df.mp hy with h|h
   ·exact L y h
   ·simp at h;omega
  ·simp;omega
 ·rintro ρ M2 acc ⟨_,Z,ls,B,j,rfl⟩ a ha
  match ls,B,j with
  |[F,J,L2],_,j =>
  have BD:=j F (by simp)
  have BE:=j J (by simp)
  have BG:=j L2 (by simp)
  have U:a≠b:=λz=>by obtain⟨x,y,w,e⟩:=Z.box;rw[<- z,ha]at e;cases e
  exact q F J L2 a _ (by omega) (by omega) (by omega) (by omega) (Z.ge (Ge.new ha)) U ad
theorem sY {ds:List Int}{r:Int}(h0 : 0<=r)(h1:r<ds.length):∃ v,v∈ds/\atI (ds.map D.int) r=some (.int v):=by
 obtain⟨x,hx,j⟩:=fA (xs:=ds.map D.int) h0 (by rw[Ca];exact h1)
 obtain⟨v,z,rfl⟩:=CO.mp (CI j);exact⟨v,z,hx⟩
theorem zJ (hn : 6<=n)(hb:Box b M)(q:∀ (j B L2:Nat) (ps:List Pr) pr M',(1<=j/\1<=B/\1<=L2)->j<=81->B<=81->L2<=81->ps.length<=60->(∀ p∈ps,cf j B L2 p)->M' pr=some (.lst (ps.map prD))->Q (.tup [.int j,.int B,.int L2,.ref pr]) M'):phi tab n 18 [.ref b] M Q:=by
 refine aw (by omega) rfl rfl (ρ:=[some _,none,none]) rfl ?_
 unfold d18 b18;walk_at "st";refine⟨by rw[s9];first|decide|omega,λp hp=>?_⟩
 have x0:=(Bx.refl hb).ge (Ge.new (o:=.lst [.int 4,.int 4,.int 4,.int 12,.int 12,.int 4,.int 4,.int 81]) hp);have Y:p≠b:=λz=>by obtain⟨x,y,w,e⟩:=hb;rw[<- z,hp]at e;cases e
 refine cY (by omega) x0.box (by decide) (by decide) λr M1 r0 r1 Z=>?_
 obtain⟨most,BD,BE⟩:=sY (ds:=[4,4,4,12,12,4,4,81]) r0 r1;refine bf (Z.keep p _ Y ad) BE ?_;have F : 0<most/\most<=81:=by
  simp only[Cb,Ck,or_false]at BD;omega
 walk_at "st";refine⟨by rw[s9];first|decide|omega,λp2 J=>?_⟩
 have L:p2≠b:=λz=>by obtain⟨x,y,w,e⟩:=Z.box;rw[<- z,J]at e;cases e
 have x2:=(x0.trans Z).ge (Ge.new (o:=.lst [.int 3,.int 5,.int 1,.int 12,.int 4,.int 2,.int 0,.int 60]) J);refine cY (by omega) x2.box (by decide) (by decide) λr2 M3 s0 s1 x3=>?_
 obtain⟨cnt,BG,O⟩:=sY (ds:=[3,5,1,12,4,2,0,60]) s0 s1;refine bf (x3.keep p2 _ L ad) O ?_;have U : 0<=cnt/\cnt<=60:=by
  simp only[Cb,Ck,or_false]at BG;omega
 have rest:∀ cc:Int,0<=cc->cc<=60->phi tab (n - 1) 17 [.ref b,.int most] M3 λx M1=>phi tab (n - 1) 16 [.ref b,x,.int cc] M1 Q:=by
  intro cc c0 c1;obtain⟨c,rfl⟩:∃ c:Nat,cc=(c:Int):=⟨cc.toNat,(Hd c0).symm⟩;refine nJ (by omega) (x2.trans x3).box F.1 F.2 λj B L2 a M4 lp l0 l1 l2 x4 BH ha=>?_
  refine nC (x:="_law_lengths_here") (s:=ai 26) (ft:=13) (fp:=15) rfl (cY (by omega)) (sk (by omega)) (by omega) (by omega) (by omega) (by omega) (by omega) x4.box BH ha λps pr M5 BL BI x5 BK BJ=>?_
  exact q j B L2 ps pr M5 lp l0 l1 l2 (by omega) BI BJ
 walk_at "st"
 split
 ·walk_at "st";walk_at "st";exact rest _ (by split <;> omega) (by split <;> omega)
 ·walk_at "st";exact rest _ U.1 U.2
theorem kl:∀ ns:List Int,EH (ns.map .int) (ns.map .int)=true
 |[]=>rfl
 |x::r=>by simp[EH,DZ,kl r]
theorem lu:∀ ps:List Pr,EH (ps.map cW) (ps.map cW)=true
 |[]=>rfl
 |x::r=>by simp[EH,DZ,lu r,cW,kl]
variable {a:Addr}
theorem uS {k:Nat}(h:M a=some (.lst (ps.map prD))):rb (k+3) M (.ref a)=some (.list (ps.map cW)):=by
 rw[kb h,ka];rfl
theorem pY {x y z:Int}(h:M a=some (.lst (ps.map prD))):rb 16 M (.tup [.int x,.int y,.int z,.ref a])=some (.tuple [.int x,.int y,.int z,.list (ps.map cW)]):=by
 have j:rb 15 M (.ref a)=some (.list (ps.map cW)):=uS (k:=12) h;have i:∀ v:Int,rb 15 M (.int v)=some (.int v):=λ_=>rfl;show (az (rb 15 M) [.int x,.int y,.int z,.ref a]).map PyData.tuple=_;simp only[az,i,j,Ey,Eg]
theorem gF {α:Type}:∀ l:List α,az gU (l.map λ_=>D.bl true)=some (l.map λ_=>true)
 |[]=>rfl
 |x::r=>by rw[Cr,az,gF r];rfl
theorem km {α:Type}(l:List α):(l.map λ_=>true).all id=true:=by rw[Ia];simp
theorem zK {l:List Nat}(h : 1<=l.length):∃ c,atI l 0=some c/\l.head? = some c:=by
 cases l with
 |nil=>simp at h
 |cons a r=>exact⟨a,by simp[atI,ixN],rfl⟩
theorem pZ {a b:Str}(j:Cz a=true)(z:Cz b=true)(q:Q (.bl (decide (a=b))) M):wEq (.str a) (.str b) M Q:=by
 refine⟨.str a,.str b,by simp only[rb,j,if_true],by simp only[rb,z,if_true],?_⟩
 have:DZ (.str a) (.str b)=decide (a=b):=by simp only[DZ];by_cases h:a=b <;> simp[h]
 rw[this];exact q
theorem q0 {a b:Str}(j:Cz a=true)(z:Cz b=true)(q:Q (.bl (!decide (a=b))) M):wNe (.str a) (.str b) M Q:=by
 refine⟨.str a,.str b,by simp only[rb,j,if_true],by simp only[rb,z,if_true],?_⟩
 have:DZ (.str a) (.str b)=decide (a=b):=by simp only[DZ];by_cases h:a=b <;> simp[h]
 rw[this];exact q
theorem so {c:Nat}(h:c<128):Cz ⟨#[c]⟩=true:=by simp[Cz];omega
theorem j3 (L : 1<=n){k:Nat}{most:Int}(O:k<=1000)(hm:((tx (k:Nat)).length:Int)<=most)(q:∀ M',Ge M M'->Q (.int (k:Nat)) M'):phi tab n 4 [.str (tx (k:Nat)),.int most] M Q:=by
 refine aw L rfl rfl (ρ:=[some _,some _]) rfl ?_;unfold d4 b4;obtain⟨h1,h2,h3,U,F⟩:=em O;have hi:GO (tx (k:Nat))=some ((k:Nat):Int):=PySem.W.KIN.num_reads (by omega) (by omega)
 have ok:Cz (tx (k:Nat))=true:=aj _;generalize hw:tx (k:Nat)=w at *
 have j:w.length<=tv:=by rw[s9];first|decide|omega
 walk_at "st";refine⟨_,rfl,j,?_⟩;rw[if_pos (by omega)]
 have Y:decide ((w.length:Int)<=most)=true:=decide_eq_true hm;rw[Y];rw[if_neg (by decide)]
 refine⟨w,rfl,?_⟩;refine bc (I:=λl ρ M' acc=>(∃ o,ρ = [o])/\M'=M/\acc=l.map λ_=>.bl true) (ys:=cl w) (f:=λc=>.str ⟨#[c]⟩) rfl ⟨⟨_,rfl⟩,rfl,rfl⟩ (λ_ _ _ _ _=>trivial) ?_ ?_
 ·rintro l x r ρ M2 acc ee ⟨⟨o,rfl⟩,rfl,rfl⟩;have z:=aF ee;rw[bb]at z;have hx:=F x (by rw[ee];simp)
  refine⟨_,rfl,λN Z=>?_⟩;walk_at "wp";refine⟨_,_,rfl,rfl,?_⟩;rw[uN,uP];have:decide (x∈[48,49,50,51,52,53,54,55,56,57])=true:=decide_eq_true (by simp only[Cb,Ck,or_false];omega)
  rw[this];refine⟨by rw[Ca,s9];omega,Z _ _ _ ⟨⟨_,rfl⟩,rfl,?_⟩⟩
  rw[Cy];rfl
 ·rintro ρ M2 acc ⟨_,rfl,rfl⟩ p hp;refine⟨_,_,_,rfl,ag ad,gF _,true,by rw[km];rfl,?_⟩
  rw[if_neg (by decide)]
  have g1:=Ge.new (o:=.lst ((cl w).map λ_=>.bl true)) hp;generalize ae M2 p (.lst ((cl w).map λ_=>.bl true))=M1 at g1;walk_at "st";obtain⟨c,hc,J⟩:=zK (l:=cl w) (by rw[bb];exact h1)
  refine⟨_,rfl,j,c,hc,?_⟩;have B:c∈cl w:=List.mem_of_mem_head? J;have BD:=F c B;refine pZ (so (by omega)) (aj _) ⟨_,rfl,?_⟩
  have fin:wSs (phi tab (n - 1)) (MSs.cons (MS.ret (ME.blt BF.intS (MEs.cons (ME.var 0) MEs.nil))) MSs.nil) { nx:=λx M'=>Q D.non M',rt:=Q } [some (D.str w),some (D.int most)] M1:=by
   walk_at "st";exact⟨w,rfl,_,hi,by omega,q _ g1⟩
  split
  ·next h =>
   have e:=of_decide_eq_true h;have ec:c=48:=by
    rw[mk1.2.2.2.2]at e;have:=congrArg cl e;rw[bH,bH]at this;simpa using this
   have:=U (by rw[J,ec])
   refine⟨w,rfl,j,?_⟩;rw[if_neg (by omega)]
   exact fin
  ·exact fin
theorem yt (Y : 2<=n){c:Int}(Z : -1000<=c/\c<=1000)(h0:c≠0)(q:∀ M',Ge M M'->Q (.int c) M'):phi tab n 5 [.str (tx c)] M Q:=by
 refine aw (by omega) rfl rfl (ρ:=[some _,none,none]) rfl ?_
 unfold d5 b5;have lz:(tx c).length<=tv:=by have:=aB (i:=c) (by omega);rw[s9];first|decide|omega
 have j:(g8 (D9 (1000:Int))).length=4:=by decide +kernel
 have J:Nat.log2 (Int.natAbs 1000)<1920:=by decide
 walk_at "st";refine⟨⟨_,rfl⟩,_,rfl,_,rfl,?_⟩
 by_cases hneg:c<0
 ·have F:Es (tx c) (g8 "-")=true:=by
   rw[mk1.2.2.1,gD,<- gz hneg,aG,mk1.2.2.1,bH];rfl
  have l1 : 1<=(tx c).length:=by rw[<- bb,<- gz hneg,aG,mk1.2.2.1,bH];simp
  have L:IB (tx c) (some 1) none=tx ((c.natAbs:Nat):Int):=gB (by
   rw[nD l1,<- gz hneg,aG,mk1.2.2.1,bH,show ((c.natAbs:Nat):Int) = -c by omega];rfl)
  rw[F];walk_at "st";refine⟨true,rfl,?_⟩;rw[if_pos rfl];refine⟨_,rfl,lz,_,rfl,J,_,rfl,by rw[j,s9];omega,?_⟩
  rw[L];refine j3 (by omega) (by omega) (by rw[j];have:=(em (n:=c.natAbs) (by omega)).2.1;omega) λO g1=>?_
  walk_at "st";refine⟨false,rfl,_,rfl,?_⟩;have f0 : ¬ ((!decide (((c.natAbs:Nat):Int)<=1000))=true):=by simp;omega
  rw[if_neg q7,if_pos (by omega),if_neg f0]
  walk_at "st";refine⟨true,rfl,?_⟩;rw[if_pos rfl];have U : -((c.natAbs:Nat):Int)=c:=by omega
  rw[U];exact q _ g1
 ·have l1:=em (n:=c.natAbs) (by omega)
  have B:((c.natAbs:Nat):Int)=c:=by omega
  rw[B]at l1;have F:Es (tx c) (g8 "-")=false:=by
   rw[mk1.2.2.1,gD];refine decide_eq_false λz=>?_;have:=l1.2.2.2.2 45 (CI z);omega
  rw[F];walk_at "st";refine⟨false,rfl,?_⟩;rw[if_neg q7];refine⟨_,rfl,J,_,rfl,by rw[j,s9];omega,?_⟩
  rw[<- B];refine j3 (by omega) (by omega) (by rw[j,B];omega) λO g1=>?_
  walk_at "st";refine⟨false,rfl,_,rfl,?_⟩;have f0 : ¬ ((!decide (((c.natAbs:Nat):Int)<=1000))=true):=by simp;omega
  rw[if_neg q7,if_pos (by omega),if_neg f0]
  walk_at "st";refine⟨false,rfl,?_⟩;rw[if_neg q7,B];exact q _ g1
noncomputable def stp (ns:List Int) (l:List (Int×Nat)):List Int:=l.foldl (λa p=>a.set p.2 p.1) (Cd ns.length 0)
theorem sr (ns:List Int)(l:List (Int×Nat))(x:Int×Nat):stp ns (l++[x])=(stp ns l).set x.2 x.1:=by unfold stp;rw[List.foldl_append];rfl
theorem lw (ns:List Int):∀ l,(stp ns l).length=ns.length:=by
 have:∀ (l:List (Int×Nat)) (a:List Int),(l.foldl (λa p=>a.set p.2 p.1) a).length=a.length:=by
  intro l
  induction l with
  |nil=>intro a;rfl
  |cons x r ih=>intro a;rw[Fe,ih,Gu]
 intro l;unfold stp;rw[this,F1]
theorem lB (ns:List Int)(i:Nat)(hi:i<ns.length):∀ (l:List (Int×Nat)) (a:List Int),a.length=ns.length->(∀ p∈l,ns[p.2]? = some p.1) ->
 (l.foldl (λa p=>a.set p.2 p.1) a)[i]? = if (∃ p∈l,p.2=i) then ns[i]? else a[i]?
 |[],a,_,_=>by simp
 | x::r,a,z,B=>by
   have hx:=B x (by simp)
   rw[Fe,lB ns i hi r _ (by rw[Gu];exact z) λp j=>B p (Ci _ j)]
   by_cases h1:∃ p∈r,p.2=i
   ·obtain⟨p,j,e⟩:=h1;rw[if_pos ⟨p,j,e⟩,if_pos ⟨p,Ci _ j,e⟩]
   ·rw[if_neg h1]
    by_cases e:x.2=i
    ·subst e;rw[if_pos ⟨x,by simp,rfl⟩,Dw (by rw[z];exact hi),hx]
    ·rw[Em e,if_neg];rintro⟨p,j,h⟩
     rcases Cb.mp j with rfl|j
     ·exact e h
     ·exact h1 ⟨p,j,h⟩
theorem q8 {p:Int×Nat}(h:p∈fl ns):ns[p.2]? = some p.1/\p.1≠0:=by
 have h1:=CZ.mp (DL.mp h).1;have h2:=(DL.mp h).2;exact⟨h1,by simpa using h2⟩
theorem lD (ns:List Int):stp ns (fl ns)=ns:=by
 apply FR;intro i
 by_cases hi:i<ns.length
 ·unfold stp;rw[lB ns i hi _ _ (by rw[F1]) λp j=>(q8 j).1]
  split
  ·rfl
  ·next h =>
   by_cases z:ns[i]=0
   ·rw[Cf hi,z,ER,if_pos hi]
   ·exact absurd ⟨(ns[i],i),DL.mpr ⟨CZ.mpr (Cf hi),by simpa using z⟩,rfl⟩ h
 ·rw[GB (by rw[lw];omega),GB (by omega)]
noncomputable def ahd (l:List (Int×Nat)):Int:=match l.getLast? with|none=>-1|some p=>(p.2:Nat)
theorem su (l:List (Int×Nat))(x:Int×Nat):ahd (l++[x])=(x.2:Nat):=by unfold ahd;rw[List.getLast?_append];rfl
theorem uT (ns:List Int):(fl ns).Pairwise λa b=>a.2<b.2:=by
 refine List.Pairwise.filter _ ?_;have:∀ (l:List Int) (k:Nat),(l.zipIdx k).Pairwise λa b=>a.2<b.2:=by
  intro l
  induction l with
  |nil=>intro k;exact .nil
  | cons x r ih =>
    intro k;rw[Ex];refine .cons (λp j=>?_) (ih _);have:=List.mem_zipIdx j;dsimp only;omega
 exact this ns 0
theorem xb {l r:List (Int×Nat)}{x:Int×Nat}(e:fl ns=l++x::r):ahd l<(x.2:Nat):=by
 have h:=uT ns;rw[e,List.pairwise_append]at h;unfold ahd
 cases hl:l.getLast? with
 |none=>dsimp only;omega
 | some p =>
   have j:p∈l:=List.mem_of_getLast? hl;have:=h.2.2 p j x (by simp)
   dsimp only;omega
theorem yu (hn : 3<=n){L:Nat}(hs:bE ns)(hL:ns.length=L)(hl:L<=81)(q:∀ M',Ge M M'->Q (.tup (ns.map .int)) M'):phi tab n 6 [.str (al ns),.int (L:Nat)] M Q:=by
 refine aw (by omega) rfl rfl (ρ:=[some _,some _,none,none,none,none,none,none,none,none]) rfl ?_
 unfold d6 b6;have hz:=aZ hs (by omega)
 walk_at "st";refine⟨by rw[s9];first|decide|omega,λZ J=>?_⟩
 rw[wQ];refine⟨[.int 0],ad,by omega,by omega,by rw[s9];simp;omega,λp hp=>?_⟩
 have BD:M p=none:=by
  cases e:M p with
  |none=>rfl
  |some o=>rw[Ge.new (o:=.lst [.int 0]) J _ _ e]at hp;cases hp
 have Y:ae (ae M Z (.lst [.int 0])) p (.lst (Cd (L:Int).toNat [D.int 0]).flatten) p=some (.lst ((stp ns []).map .int)):=by
  rw[ad];unfold stp;rw[List.foldl_nil,Ej,hL,List.map_replicate];simp
 have g1:Ge M (ae (ae M Z (.lst [.int 0])) p (.lst (Cd (L:Int).toNat [D.int 0]).flatten)):=(Ge.new J).trans (Ge.new hp);generalize ae (ae M Z (.lst [.int 0])) p (.lst (Cd (L:Int).toNat [D.int 0]).flatten)=M1 at Y g1;walk_at "st";refine pZ eO (aj _) ⟨_,rfl,?_⟩
 cases hx:(fl ns).isEmpty with
 | true =>
   have hf:fl ns=[]:=IA.mp hx;have hd:al ns=g8 "-":=by unfold al;rw[if_pos hx]
   rw[if_pos (decide_eq_true hd)];walk_at "st";refine⟨_,_,rfl,ag Y,?_⟩;have:=lD ns;rw[hf]at this;rw[this];exact q _ g1
 | false =>
   rw[if_neg (by rw[decide_eq_false (uR hx)];decide)]
   walk_at "st";refine⟨⟨_,rfl⟩,_,rfl,_,rfl,by rw[td];rfl,by rw[s9];first|decide|omega,λp2 B=>?_⟩
   rw[nE hx];have e2:ae M1 p2 (.lst (((fl ns).map aL).map .str)) p2=some (.lst (((fl ns).map aL).map .str)):=ad;have g2:=Ge.new (o:=.lst (((fl ns).map aL).map .str)) B;have BE:p2≠p:=λz=>by subst z;rw[Y]at B;cases B
   have e3:=g2 _ _ Y;have g3:=g1.trans g2;generalize ae M1 p2 (.lst (((fl ns).map aL).map .str))=M2 at e2 g2 e3 g3;refine⟨_,ag e2,?_⟩;refine bO (I:=λl ρ M'=>(∃ o4 o5 o6 o7 o8 o9,ρ = [some (.str (al ns)),some (.int (L:Nat)),some (.ref p),some (.int (ahd l)),o4,o5,o6,o7,o8,o9])/\Ge M M'/\M' p=some (.lst ((stp ns l).map .int))/\M' p2=some (.lst (((fl ns).map aL).map .str))) (ys:=fl ns) (f:=λx=>.str (aL x)) (by rw[List.map_map];rfl) ⟨⟨_,_,_,_,_,_,rfl⟩,g3,e3,e2⟩ (λ_ _ _ hI=>ag hI.2.2.2) ?_ ?_
   ·rintro l x r ρ M3 ee ⟨⟨o4,o5,o6,o7,o8,o9,rfl⟩,g4,e4,e5⟩;have hm:x∈fl ns:=by rw[ee];simp
    have hw:=cX hs (by omega) hm
    obtain⟨hg,BG⟩:=q8 hm;obtain⟨BH,BJ⟩:=ke hm;have BI:=hs _ BH;refine⟨_,rfl,λF hF=>?_⟩;walk_at "st";refine⟨⟨_,rfl⟩,_,rfl,_,rfl,by rw[td];rfl,by rw[s9];first|decide|omega,?_⟩
    rw[pW];refine⟨_,rfl,?_⟩;walk_at "st";refine yt (by omega) BI BG λM4 g5=>?_
    walk_at "wp";have l4:(g8 (D9 (81:Int))).length=2:=by decide +kernel
    refine⟨_,rfl,by decide,_,rfl,by rw[l4,s9];omega,?_⟩
    refine j3 (by omega) (by omega) (by rw[l4];have:=(em (n:=x.2) (by omega)).2.2.1 (by omega);omega) λM5 g6=>?_
    walk_at "wp";have ha:=xb ee;have gg:=g5.trans g6;have e6:=gg _ _ e4;have e7:=gg _ _ e5;walk_at "st";refine⟨false,rfl,_,rfl,?_⟩;rw[if_neg q7];refine⟨false,rfl,_,rfl,?_⟩;have f0 : ¬ ((!decide (((x.2:Nat):Int)<(L:Nat)))=true):=by simp;omega
    rw[if_neg q7,if_pos ha,if_neg f0];walk_at "st";refine br e6 (j:=x.2) (by rw[Ca,lw];unfold ixN;rw[if_pos (by omega),if_pos (by omega),Ej]) ?_
    have U:∀ {o:O},ae M5 p o p2=M5 p2:=λ{o}=>aq BE;have ab:∀ o,Ge M (ae M5 p o):=λo a o' ea=>by rw[aq (λz=>by rw[z,BD]at ea;cases ea)];exact gg _ _ (g4 _ _ ea)
    walk_at "st";refine hF _ _ ⟨⟨_,_,_,_,_,_,by rw[su]⟩,ab _,?_,by rw[U];exact e7⟩
    rw[ad,sr,List.map_set]
   ·rintro ρ M3 ⟨⟨o4,o5,o6,o7,o8,o9,rfl⟩,g4,e4,e5⟩;walk_at "st";refine⟨_,_,rfl,ag e4,?_⟩;rw[lD];exact q _ g4
theorem yv (hn : 4<=n){p:Pr}(j:cf z B L2 p)(h0:z<=81)(h1:B<=81)(h2:L2<=81)(q:∀ M',Ge M M'->Q (prD p) M'):phi tab n 7 [.str (aC p),.tup [.int (z:Nat),.int (B:Nat),.int (L2:Nat)]] M Q:=by
 refine aw (by omega) rfl rfl (ρ:=[some _,some _,none,none,none,none,none,none,none]) rfl ?_
 unfold d7 b7;have hz:=fD j (by omega) (by omega) (by omega)
 have s1:=aZ j.s1 (by rw[j.l1];omega)
 have s2:=aZ j.s2 (by rw[j.l2];omega)
 have t1:(g8 " > ").length=3:=by rw[td];rfl
 walk_at "st";refine⟨⟨_,rfl⟩,_,rfl,_,rfl,by rw[td];rfl,by rw[s9];first|decide|omega,?_⟩
 rw[pU];refine⟨_,rfl,?_⟩;walk_at "st";refine⟨⟨_,rfl⟩,_,rfl,_,rfl,by rw[td];rfl,by simp only[z4,t1,s9];omega,?_⟩
 rw[pV];refine⟨_,rfl,?_⟩;walk_at "st";refine⟨by rw[s9];first|decide|omega,λF J=>⟨_,ag ad,?_⟩⟩
 have g1:=Ge.new (o:=.lst [.str (al p.1),.str (al p.2.1),.str (al p.2.2)]) J;have O:ae M F (.lst [.str (al p.1),.str (al p.2.1),.str (al p.2.2)]) F=some (.lst [.str (al p.1),.str (al p.2.1),.str (al p.2.2)]):=ad;generalize ae M F (.lst [.str (al p.1),.str (al p.2.1),.str (al p.2.2)])=M1 at g1 O;refine bc (I:=λl ρ M' acc=>(∃ U Y,ρ = [U,Y])/\Ge M1 M'/\acc=l.map λx:List Int×Nat=>.tup (x.1.map .int)) (ys:=[(p.1,z),(p.2.1,B),(p.2.2,L2)]) (f:=λx=>fU (.str (al x.1)) (.int (x.2:Nat))) rfl ⟨⟨_,_,rfl⟩,Ge.refl,rfl⟩ (λ_ _ _ _ Z=>ag (Z.2.1 _ _ O)) ?_ ?_
 ·rintro l x r ρ M2 acc ee ⟨⟨U,Y,rfl⟩,g2,rfl⟩;have hm:x∈[(p.1,z),(p.2.1,B),(p.2.2,L2)]:=by rw[ee];simp
  have L:=aF ee;have hx:bE x.1/\x.1.length=x.2/\x.2<=81:=by
   simp only[Cb,Ck,or_false]at hm
   rcases hm with rfl|rfl|rfl
   ·exact⟨j.s0,j.l0,h0⟩
   ·exact⟨j.s1,j.l1,h1⟩
   ·exact⟨j.s2,j.l2,h2⟩
  refine⟨_,rfl,λN hN=>?_⟩;walk_at "wp";refine yu (by omega) hx.1 hx.2.1 hx.2.2 λM3 g3=>?_
  walk_at "wp";refine⟨by rw[Ca,s9];simp only[Cp,CP]at L;omega,hN _ _ _ ⟨⟨_,_,rfl⟩,g2.trans g3,?_⟩⟩
  rw[Cy];rfl
 ·rintro ρ M2 acc ⟨_,g2,rfl⟩ p2 hp2;have g3:=(g1.trans g2).trans (Ge.new (o:=.lst ([(p.1,z),(p.2.1,B),(p.2.2,L2)].map λx:List Int×Nat=>.tup (x.1.map .int))) hp2);walk_at "st";refine⟨_,ad,rfl,?_⟩;have f0:List.any [D.tup (p.1.map D.int),.tup (p.2.1.map D.int),.tup (p.2.2.map D.int)] n6=false:=rfl;rw[f0,if_neg q7];exact⟨_,_,rfl,ag ad,q _ g3⟩
def sm (L:Nat):Prop:=1<=L/\L<=81
theorem yw (hn : 2<=n)(h0:sm j)(h1:sm z)(h2:sm L2)(q:∀ M',Ge M M'->Q (.tup [.int (j:Nat),.int (z:Nat),.int (L2:Nat)]) M'):phi tab n 8 [.str (ar j z L2)] M Q:=by
 unfold sm at h0 h1 h2;refine aw (by omega) rfl rfl (ρ:=[some _,none,none]) rfl ?_
 unfold d8 b8;have hz:(ar j z L2).length<=100:=by
  have a:=aB (i:=(j:Int)) (by omega)
  have b:=aB (i:=(z:Int)) (by omega)
  have c:=aB (i:=(L2:Int)) (by omega)
  have d:(g8 "scheme ").length=7:=by rw[td];rfl
  have e:(g8 " ").length=1:=by rw[td];rfl
  unfold ar;simp only[z4];omega
 walk_at "st";refine⟨⟨_,rfl⟩,_,rfl,_,rfl,by rw[td];rfl,by rw[s9];first|decide|omega,λp hp=>?_⟩
 rw[kF];have g1:=Ge.new (o:=.lst ([g8 "scheme",tx j,tx z,tx L2].map .str)) hp;have B:ae M p (.lst ([g8 "scheme",tx j,tx z,tx L2].map .str)) p=some (.lst [.str (g8 "scheme"),.str (tx j),.str (tx z),.str (tx L2)]):=ad;generalize ae M p (.lst ([g8 "scheme",tx j,tx z,tx L2].map .str))=M1 at g1 B;walk_at "st";refine lj B ?_;refine⟨_,_,rfl,rfl,false,rfl,?_⟩;rw[if_neg q7];refine bf B (d:=.str (g8 "scheme")) rfl ?_;refine q0 (aj _) (aj _) ⟨false,by rw[decide_eq_true rfl];rfl,?_⟩
 rw[if_neg q7];walk_at "st";refine⟨_,B,λp2 L=>⟨_,ag ad,?_⟩⟩;have ec:dh [D.str (g8 "scheme"),.str (tx j),.str (tx z),.str (tx L2)] (some 1) none=[j,z,L2].map λx:Nat=>D.str (tx x):=rfl;rw[ec];have g2:=g1.trans (Ge.new (o:=.lst ([j,z,L2].map λx:Nat=>D.str (tx x))) L);have e2:ae M1 p2 (.lst ([j,z,L2].map λx:Nat=>D.str (tx x))) p2=some (.lst ([j,z,L2].map λx:Nat=>D.str (tx x))):=ad;generalize ae M1 p2 (.lst ([j,z,L2].map λx:Nat=>D.str (tx x)))=M2 at g2 e2;have hx:∀ {l r:List Nat} {x:Nat},[j,z,L2]=l++x::r->1<=x/\x<=81/\l.length<3:=λ{l r x} ee=>by
  have hm:x∈[j,z,L2]:=by rw[ee];simp
  have O:=aF ee;simp only[Cb,Ck,or_false,Cp,CP]at hm O;omega
 have l4:(g8 (D9 (81:Int))).length=2:=by decide +kernel
 refine bc (I:=λl ρ M' acc=>(∃ U,ρ = [U])/\Ge M2 M'/\acc=l.map λx:Nat=>.int (x:Nat)) (ys:=[j,z,L2]) (f:=λx:Nat=>.str (tx x)) rfl ⟨⟨_,rfl⟩,Ge.refl,rfl⟩ (λ_ _ _ _ Y=>ag (Y.2.1 _ _ e2)) ?_ ?_
 ·rintro l x r ρ Z acc ee ⟨⟨U,rfl⟩,g3,rfl⟩;obtain⟨x1,x2,x3⟩:=hx ee;refine⟨_,rfl,λN hN=>?_⟩;walk_at "wp";refine⟨_,rfl,by decide,_,rfl,by rw[l4,s9];omega,?_⟩
  refine j3 (by omega) (by omega) (by rw[l4];have:=(em (n:=x) (by omega)).2.2.1 (by omega);omega) λM4 F=>?_
  walk_at "wp";refine⟨by rw[Ca,s9];omega,hN _ _ _ ⟨⟨_,rfl⟩,g3.trans F,by rw[Cy];rfl⟩⟩
 ·rintro ρ Z acc ⟨_,g3,rfl⟩ p3 hp3;have F:=(g2.trans g3).trans (Ge.new (o:=.lst ([j,z,L2].map λx:Nat=>D.int (x:Nat))) hp3);have J:ae Z p3 (.lst ([j,z,L2].map λx:Nat=>D.int (x:Nat))) p3=some (.lst ([j,z,L2].map λx:Nat=>D.int (x:Nat))):=ad;generalize ae Z p3 (.lst ([j,z,L2].map λx:Nat=>D.int (x:Nat)))=M4 at F J;walk_at "st";refine⟨_,ag J,?_⟩;refine bc (I:=λl ρ M' acc=>(∃ o,ρ = [o])/\M'=M4/\acc=l.map λ_=>.bl true) (ys:=[j,z,L2]) (f:=λx:Nat=>.int (x:Nat)) rfl ⟨⟨_,rfl⟩,rfl,rfl⟩ (λ_ _ _ _ Y=>by rw[Y.2.1];exact ag J) ?_ ?_
  ·rintro l x r ρ M5 acc ee ⟨⟨U,rfl⟩,rfl,rfl⟩;obtain⟨x1,x2,x3⟩:=hx ee;refine⟨_,rfl,λN hN=>?_⟩;walk_at "wp";refine⟨false,rfl,_,rfl,?_⟩;rw[if_pos (by decide),if_pos (by omega),decide_eq_true (show ((x:Nat):Int)<=81 by omega)]
   refine⟨by rw[Ca,s9];omega,hN _ _ _ ⟨⟨_,rfl⟩,rfl,by rw[Cy];rfl⟩⟩
  ·rintro ρ M5 acc ⟨_,rfl,rfl⟩ p4 hp4;refine⟨_,_,_,rfl,ag ad,gF _,true,by rw[km];rfl,?_⟩
   rw[if_neg (by decide)]
   have g5:=Ge.new (o:=.lst ([j,z,L2].map λ_=>.bl true)) hp4;walk_at "st";exact⟨_,_,rfl,ag (g5 _ _ J),q _ (F.trans g5)⟩
theorem xc {d:D}{ds:List D}:dh (d::ds) (some 1) none=ds:=by
 unfold dh;rw[HT.sIx_none,show (some (1:Int))=some ((1:Nat):Int) from rfl,HT.sIx_nat];have:min 1 (d::ds).length=1:=by rw[Cp];omega
 rw[this,List.drop_succ_cons,List.drop_zero,Cp,Nat.add_sub_cancel,IF]
theorem q9 (ps:List Pr):cS ((ps.map aC).map .str)=ps.zipIdx.map λx=>.tup [.int ((x.2:Nat)+1),.str (aC x.1)]:=by
 unfold cS;apply FR;intro i;rw[Er,CB,CB,CB,GW]
 cases ps[i]? <;> simp
theorem uU (ps:List Pr):ps.zipIdx.map (λx=>prD x.1)=ps.map prD:=by
 have:∀ (l:List Pr) (k:Nat),(l.zipIdx k).map (λx=>prD x.1)=l.map prD:=by
  intro l
  induction l with
  |nil=>intro k;rfl
  |cons x r ih=>intro k;rw[Ex,Cr,Cr,ih]
 exact this ps 0
theorem qb (hn : 5<=n)(hp:∀ p∈ps,cf j B L2 p)(h0:sm j)(h1:sm B)(h2:sm L2)(hc:ps.length<=60)(q:∀ pr M',Ge M M'->M pr=none->M' pr=some (.lst (ps.map prD))->Q (.tup [.int (j:Nat),.int (B:Nat),.int (L2:Nat),.ref pr]) M'):phi tab n 9 [.str (df j B L2 ps)] M Q:=by
 refine aw (by omega) rfl rfl (ρ:=[some _,none,none,none,none,none,none]) rfl ?_
 unfold d9 b9;have hz:(df j B L2 ps).length<=10000000:=by
  unfold sm at h0 h1 h2;have hB:∀ t∈ar j B L2::ps.map aC,t.length<=36006:=by
   intro t ht
   rcases Cb.mp ht with rfl|ht
   ·have a:=aB (i:=(j:Int)) (by omega)
    have b:=aB (i:=(B:Int)) (by omega)
    have c:=aB (i:=(L2:Int)) (by omega)
    have d:(g8 "scheme ").length=7:=by rw[td];rfl
    have e:(g8 " ").length=1:=by rw[td];rfl
    unfold ar;simp only[z4];omega
   ·obtain⟨p,BD,rfl⟩:=CO.mp ht;exact fD (hp p BD) (by omega) (by omega) (by omega)
  have h:=fC (s:=g8 "\n") hB;have e:(g8 "\n").length=1:=by rw[td];rfl
  rw[e,Cp,Ca]at h;unfold df;omega
 walk_at "st";refine⟨⟨_,rfl⟩,_,rfl,_,rfl,by rw[td];rfl,by rw[s9];first|decide|omega,λp BE=>?_⟩
 have es:D3 (df j B L2 ps) (g8 "\n")=ar j B L2::ps.map aC:=nG _ _ _ _;rw[es];have g1:=Ge.new (o:=.lst ((ar j B L2::ps.map aC).map .str)) BE;have Z:ae M p (.lst ((ar j B L2::ps.map aC).map .str)) p=some (.lst (.str (ar j B L2)::(ps.map aC).map .str)):=ad;generalize ae M p (.lst ((ar j B L2::ps.map aC).map .str))=M1 at g1 Z;walk_at "st";refine bf Z (d:=.str (ar j B L2)) (by simp[atI,ixN]) ?_
 refine yw (by omega) h0 h1 h2 λM2 g2=>?_
 walk_at "st";refine⟨false,rfl,_,rfl,?_⟩;rw[if_neg q7];walk_at "st";refine⟨DB _,λp2 J=>?_⟩;have O:M p2=none:=by
  cases e:M p2 with
  |none=>rfl
  |some o=>rw[g2 _ _ (g1 _ _ e)]at J;cases J
 have BJ:p2≠p:=λz=>by subst z;rw[g2 _ _ Z]at J;cases J
 have e2:ae M2 p2 (.lst []) p2=some (.lst []):=ad;have e3:=Ge.new (o:=.lst []) J _ _ (g2 _ _ Z);have g3:=(g1.trans g2).trans (Ge.new (o:=.lst []) J);generalize ae M2 p2 (.lst [])=M3 at e2 e3 g3;walk_at "st";refine⟨_,e3,λU L=>?_⟩;rw[xc];have BG:U≠p2:=λz=>by subst z;rw[e2]at L;cases L
 have e4:ae M3 U (.lst ((ps.map aC).map .str)) U=some (.lst ((ps.map aC).map .str)):=ad;have g4:=Ge.new (o:=.lst ((ps.map aC).map .str)) L;have e5:=g4 _ _ e2;have g5:=g3.trans g4;generalize ae M3 U (.lst ((ps.map aC).map .str))=M4 at e4 g4 e5 g5;refine⟨_,rfl,_,e4,?_⟩;rw[q9];refine bO (I:=λl ρ M'=>(∃ o4 o5 o6,ρ = [some (.str (df j B L2 ps)),some (.ref p),some (.tup [.int (j:Nat),.int (B:Nat),.int (L2:Nat)]),some (.ref p2),o4,o5,o6])/\Ge M M'/\M' p2=some (.lst (l.map λx=>prD x.1))/\M' U=some (.lst ((ps.map aC).map .str))) (ys:=ps.zipIdx) (f:=λx=>.tup [.int ((x.2:Nat)+1),.str (aC x.1)]) rfl ⟨⟨_,_,_,rfl⟩,g5,e5,e4⟩ (λ_ _ _ hI=>ag hI.2.2.2) ?_ ?_
 ·rintro l x r ρ M5 ee ⟨⟨o4,o5,o6,rfl⟩,g6,e6,e7⟩;have BH:=aF ee;rw[FF]at BH;have hm:x∈ps.zipIdx:=by rw[ee];simp
  have Y:=CZ.mp hm;have BK:x.2<ps.length:=(Cw.mp Y).1;have BI:=hp x.1 (CI Y);refine⟨_,rfl,λF hF=>?_⟩;walk_at "st";refine yv (by omega) BI h0.2 h1.2 h2.2 λM6 g7=>?_
  walk_at "st";refine⟨false,rfl,_,rfl,?_⟩;rw[if_neg q7,if_neg (by omega)]
  have e8:=g7 _ _ e6;have e9:=g7 _ _ e7;walk_at "st";refine⟨⟨_,e8⟩,_,_,_,rfl,rfl,e8,by rw[Ca,s9];omega,?_⟩
  refine hF _ _ ⟨⟨_,_,_,rfl⟩,λa o ea=>?_,?_,by rw[aq BG];exact e9⟩
  ·rw[aq (λz=>by rw[z,O]at ea;cases ea)];exact g7 _ _ (g6 _ _ ea)
  ·rw[ad,Cy];rfl
 ·rintro ρ M5 ⟨⟨o4,o5,o6,rfl⟩,g6,e6,e7⟩;walk_at "st";rw[uU]at e6;exact⟨by rw[s9];first|decide|omega,.inr trivial,by rw[s9];first|decide|omega,q p2 _ g6 O e6⟩
theorem sZ (hn : 1<=n)(hp:∀ p∈ps,cf j B L2 p)(h0:j<=81)(h1:B<=81)(h2:L2<=81)(hc:ps.length<=60)(ha:M a=some (.lst (ps.map prD)))(hb:M b=some (.lst (ps.map prD)))(q:∀ M',Ge M M'->Q (.bl true) M'):phi tab n 21 [.tup [.int (j:Nat),.int (B:Nat),.int (L2:Nat),.ref a],.tup [.int (j:Nat),.int (B:Nat),.int (L2:Nat),.ref b]] M Q:=by
 refine aw (by omega) rfl rfl (ρ:=[some _,some _,none,none,none]) rfl ?_
 unfold d21 b21;have t1:fh "tuple" "tuple" = true:=by decide
 have t2:fh "list" "list" = true:=by decide
 have t3:fh "int" "int" = true:=by decide
 have t4:fh "bool" "int" = false:=by decide
 walk_at "st";refine⟨_,rfl,true,by rw[t1];rfl,?_⟩
 rw[if_neg (by decide),if_neg (by decide)]
 refine⟨.ref a,rfl,"list",by simp only[tyN,ha],true,by rw[t2];rfl,?_⟩
 rw[if_neg (by decide)]
 refine⟨_,_,pY ha,pY hb,?_⟩;have e2:(!PyData.eqv (.tuple [.int j,.int B,.int L2,.list (ps.map cW)]) (.tuple [.int j,.int B,.int L2,.list (ps.map cW)]))=false:=by simp[DZ,EH,lu]
 refine⟨_,rfl,?_⟩;rw[e2,if_neg q7];walk_at "st";refine pX ?_;refine⟨_,_,rfl,rfl,λp Z=>?_⟩;have g1:=Ge.new (o:=.lst [.int (j:Nat),.int (B:Nat),.int (L2:Nat)]) Z;have e1:ae M p (.lst [.int (j:Nat),.int (B:Nat),.int (L2:Nat)]) p=some (.lst ([(j:Int),(B:Int),(L2:Int)].map .int)):=ad;generalize ae M p (.lst [.int (j:Nat),.int (B:Nat),.int (L2:Nat)])=M1 at g1 e1;have ab:∀ {M':Mem} o,Ge M M'->Ge M (ae M' p o):=λ{M'} o g x o' ea=>by rw[aq (λz=>by rw[z,Z]at ea;cases ea)];exact g _ _ ea
 walk_at "st";refine⟨.ref a,rfl,_,ag (g1 _ _ ha),?_⟩;refine bO (I:=λl ρ M'=>(∃ o3 O,ρ = [some (.tup [.int (j:Nat),.int (B:Nat),.int (L2:Nat),.ref a]),some (.tup [.int (j:Nat),.int (B:Nat),.int (L2:Nat),.ref b]),some (.ref p),o3,O])/\Ge M M' /\ ∃ zs:List Int,M' p=some (.lst (zs.map .int))/\zs.length<=3+243*l.length) (ys:=ps) (f:=prD) rfl ⟨⟨_,_,rfl⟩,g1,_,e1,by simp⟩ (λ_ _ _ hI=>ag (hI.2.1 _ _ ha)) ?_ ?_
 ·rintro l x r ρ M2 ee ⟨⟨o3,O,rfl⟩,g2,zs,hz,BE⟩;have BG:=aF ee;have hx:=hp x (by rw[ee];simp)
  refine⟨_,rfl,λF hF=>?_⟩;walk_at "st";refine⟨_,rfl,?_⟩;refine bO (I:=λl2 ρ M'=>(∃ O,ρ = [some (.tup [.int (j:Nat),.int (B:Nat),.int (L2:Nat),.ref a]),some (.tup [.int (j:Nat),.int (B:Nat),.int (L2:Nat),.ref b]),some (.ref p),some (prD x),O])/\Ge M M' /\ ∃ zs:List Int,M' p=some (.lst (zs.map .int))/\zs.length<=3+243*l.length+81*l2.length) (ys:=[x.1,x.2.1,x.2.2]) (f:=λns:List Int=>.tup (ns.map .int)) rfl ⟨⟨_,rfl⟩,g2,zs,hz,by simp;omega⟩ (λ_ _ _ _=>rfl) ?_ ?_
  ·rintro l2 y r2 ρ M3 e3 ⟨⟨O,rfl⟩,g3,U,J,L⟩;have BD:=aF e3;have hy:y.length<=81:=by
    have hm:y∈[x.1,x.2.1,x.2.2]:=by rw[e3];simp
    simp only[Cb,Ck,or_false]at hm
    rcases hm with rfl|rfl|rfl
    ·rw[hx.l0];exact h0
    ·rw[hx.l1];exact h1
    ·rw[hx.l2];exact h2
   simp only[Cp,CP]at BD;refine⟨_,rfl,λF2 BH=>?_⟩;walk_at "st";refine⟨⟨_,J⟩,_,_,rfl,rfl,λp5 Y=>?_⟩;have h5:p5≠p:=λz=>by subst z;rw[J]at Y;cases Y
   refine⟨_,_,_,_,rfl,rfl,by rw[aq h5.symm];exact J,ad,by rw[Ca,Ca,s9];omega,?_⟩
   refine BH _ _ ⟨⟨_,rfl⟩,ab _ (g3.trans (Ge.new Y)),U++y,by rw[ad,Cy],?_⟩
   rw[Cv,Cv,Cp,CP];omega
  ·rintro ρ M3 ⟨⟨O,rfl⟩,g3,U,J,L⟩;simp only[Cp,CP]at L;exact hF _ _ ⟨⟨_,_,rfl⟩,g3,U,J,by simp;omega⟩
 ·rintro ρ M2 ⟨⟨o3,O,rfl⟩,g2,zs,hz,BE⟩;walk_at "st";refine⟨_,ag hz,?_⟩;refine bc (I:=λl ρ M' acc=>(∃ o,ρ = [o])/\M'=M2/\acc=l.map λ_=>.bl true) (ys:=zs) (f:=λx:Int=>.int x) rfl ⟨⟨_,rfl⟩,rfl,rfl⟩ (λ_ _ _ _ hI=>by rw[hI.2.1];exact ag hz) ?_ ?_
  ·rintro l x r ρ M5 acc ee ⟨⟨o1,rfl⟩,rfl,rfl⟩;have BG:=aF ee;refine⟨_,rfl,λN hN=>?_⟩;walk_at "wp";refine⟨_,rfl,?_⟩;rw[if_pos t3];have hb:(E5 (λ_:Int=>D.bl true) l).length<tv:=by rw[Ca,s9];omega
   refine⟨_,rfl,hb,?_⟩;rw[t4];exact hN _ _ _ ⟨⟨_,rfl⟩,rfl,by rw[Cy];rfl⟩
  ·rintro ρ M5 acc ⟨_,rfl,rfl⟩ p4 hp4;refine⟨_,_,_,rfl,ag ad,gF _,?_⟩;rw[km];exact q _ (g2.trans (Ge.new hp4))
theorem law_holds (ns:List Int)(hl:ns.length<=63):phi tab 40 22 [.con (ns.map D.int)] (λ_=>none) λd _=>d = .bl true:=by
 refine aw (by omega) rfl rfl (ρ:=[some _,none,none,none,none]) rfl ?_
 unfold d22 b22;walk_at "st";rw[Ca];refine⟨by split <;> split <;> omega,by split <;> split <;> omega,?_⟩
 refine bO (I:=λl ρ M'=>∃ o1 o2 o3 o4,ρ = [some (.con (ns.map D.int)),o1,o2,o3,o4]) gy ⟨_,_,_,_,rfl⟩ (λ_ _ _ hI=>trivial) ?_ ?_
 ·rintro l k r ρ M8 e ⟨o1,o2,o3,o4,rfl⟩;refine⟨_,rfl,λF hF=>?_⟩;walk_at "st";refine wW (s:=ai 22) (fc:=10) (fm:=11) (sc:=ai 20) rfl rfl (λq=>jV (s:=ai 21) rfl (by omega) q) (by omega) (by omega) λp x y hp=>?_
  refine zJ (by omega) ⟨_,_,_,ad⟩ λL0 L1 L2 ps pr M1 lp l0 l1 l2 hc j O=>?_
  have h0:sm L0:=⟨lp.1,l0⟩;have h1:sm L1:=⟨lp.2.1,l1⟩;have h2:sm L2:=⟨lp.2.2,l2⟩;have tok:Cz (df L0 L1 L2 ps)=true:=by
   refine gZ (aj _) λt ht=>?_
   rcases Cb.mp ht with rfl|ht
   ·exact si
   ·obtain⟨p',_,rfl⟩:=CO.mp ht;exact uM
  walk_at "st";refine yr (by omega) j (by omega) (by omega) (by omega) (by omega) O λM2 g2=>?_
  walk_at "st";refine qb (by omega) j h0 h1 h2 hc λB M3 g3 U e3=>?_
  have J:=g3 _ _ (g2 _ _ O);have BD:B≠pr:=λz=>by subst z;rw[g2 _ _ O]at U;cases U
  walk_at "st";refine sZ (by omega) j l0 l1 l2 hc e3 J λM4 g4=>?_
  refine⟨true,rfl,?_⟩;rw[if_neg (by decide)]
  have e4:=g4 _ _ e3;have Y:=g4 _ _ J;refine xa (by omega) j (by omega) (by omega) (by omega) (by omega) e4 λM5 g5=>?_
  refine q0 tok tok ⟨false,by rw[decide_eq_true rfl];rfl,?_⟩
  rw[if_neg q7];have e5:=g5 _ _ e4;have Z:=g5 _ _ Y;walk_at "st";refine⟨.ref B,rfl,⟨_,rfl,_,e5⟩,_,_,_,rfl,rfl,e5,by rw[Ca,s9];omega,?_⟩
  have L:ae M5 B (.lst (ps.map prD++[.int 0])) pr=some (.lst (ps.map prD)):=by rw[aq BD.symm];exact Z
  generalize ae M5 B (.lst (ps.map prD++[.int 0]))=M6 at L;walk_at "st";refine qb (by omega) j h0 h1 h2 hc λBE M7 g7 BG e7=>?_
  walk_at "wp";refine sZ (by omega) j l0 l1 l2 hc e7 (g7 _ _ L) λM9 g9=>?_
  refine⟨true,rfl,?_⟩;rw[if_neg (by decide)]
  walk_at "wp";exact hF _ _ ⟨_,_,_,_,rfl⟩
 ·rintro ρ M8 ⟨o1,o2,o3,o4,rfl⟩;dsimp only;walk_at "st"
end K53
end
end
end Mi
end L2
open PySem.W in
set_option maxRecDepth 100000 in
set_option maxHeartbeats 0 in
theorem PySem.Challenge.cw_fewtimes_k53_schemes_read_holds : PySem.Challenge.rw_fewtimes_k53_schemes_read.Holds := by
 w_on;o_law;k_head;(case hw=>w_witness2)
 k_fill
 refine L2.Mi.K53.walk (l:=PySem.Challenge.rw_fewtimes_k53_schemes_read) rfl rfl L2.Mi.K53.law_holds (fun w h Y=>PySem.W.kIn_of Y) ?F
 case F =>
  intro w mg fa h KX G hmg;refine' L2.Mi.K53.all_mk KX G hmg ?z ?_ ?_ ?_ ?_ ?_ ?_ ?_ ?_ ?_ ?_ ?_ ?_ ?_ ?_ ?_ ?_ ?_ ?_ ?_ ?_ ?_ ?_ ?_ ?_ ?_ ?_ ?_ ?_ ?_ ?_ ?_ ?_ ?_ ?_ ?_ ?_ ?_ ?_ ?_ ?_ ?_ ?_ ?_ ?_ ?_ ?_ ?_ ?_ ?_ ?_ ?_ ?_ ?_ ?_ ?_ ?_ ?_ ?_ ?_ ?_ ?_ ?_ ?_ ?_ ?_ ?_ ?_ ?_ ?_ ?_ ?_ ?_ ?_ ?_ ?_ ?_ ?_ ?_ ?_ ?_ ?_ ?_ ?_ ?_ ?_ ?_ ?_ ?_ ?_ ?_ ?_ ?_ ?_ ?_ ?_ ?_
  case z =>
   intro x hx;simp only [L2.Mi.bltNames,List.mem_cons,List.not_mem_nil,or_false] at hx
   rcases hx with rfl | rfl | rfl | rfl | rfl | rfl | rfl | rfl | rfl | rfl | rfl | rfl | rfl | rfl | rfl | rfl | rfl | rfl | rfl | rfl <;> k_is
  all_goals try (show _=_;k_is)
