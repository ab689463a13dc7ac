import PyProof.Rows.All
import Wide.All
import OpenK.AllK
import Wide.FinOn
import Lean
import PyProof.EqAt
import PyProof.EqKinds
import PyProof.TupleCall
import PyProof.ZipIter
import PyProof.EnumMake
import PyProof.EnumFor
import PyProof.CollectIter
import PyProof.Rows.SeqMore
import PyProof.ConsumeWalk
import PyProof.Rows.SortShellK
import PyProof.DictItems
import PyProof.DictWalks
import PyProof.AttrMissHeap
import PyProof.DictIter
import PyProof.MaxThree
import PyProof.SeqI3
import PySem.Challenge.RW_fewtimes_k24_tables_turned
set_option Elab.async false
set_option linter.all false
set_option compiler.extract_closed false
set_option genSizeOf false
set_option bootstrap.genMatcherCode false
set_option maxRecDepth 100000
set_option maxHeartbeats 4000000
open PySem.W (Frag)
namespace L2
open PySem PySem.Spec PyProof.Rows
section
noncomputable abbrev Key:=Sum Int Str
noncomputable def fQ:Key -> Value -> Bool
 | .inl k,v=>Value.isInt k v
 | .inr x,v=>Value.isStrOf x v
noncomputable def BI (w:World):Key -> Int
 | .inl k=>hashInt k
 | .inr x=>hashStr w x
theorem aQ:∀ {k:Key} {v:Value},fQ k v = true -> (∃ i t,k = Sum.inl i /\ v = Value.int i t) ∨ (∃ x t,k = Sum.inr x /\ v = Value.str x t)
 | .inl i,v,h=>by
  obtain ⟨t,e⟩:=Value.isInt_shape (k:=i) (v:=v) h
  exact .inl ⟨i,t,rfl,e⟩
 | .inr x,v,h=>by
  obtain ⟨t,e⟩:=Value.isStrOf_shape (x:=x) (v:=v) h
  exact .inr ⟨x,t,rfl,e⟩
theorem qS (i:Int) (t:Tok):fQ (.inl i) (.int i t) = true:=by simp [fQ,Value.isInt]
theorem qT (x:Str) (t:Tok):fQ (.inr x) (.str x t) = true:=by simp [fQ,Value.isStrOf]
theorem zf (a b:Int):decide ((Sum.inl a:Key) = Sum.inl b) = (a == b):=by
 by_cases e:a = b
 ·subst e;simp
 ·have h : ¬ (Sum.inl a:Key) = Sum.inl b:=fun q=>e (Sum.inl.inj q)
  rw [decide_eq_false h]
  exact (beq_eq_false_iff_ne.mpr e).symm
theorem zg (a b:Str):decide ((Sum.inr a:Key) = Sum.inr b) = decide (a = b):=by
 by_cases e:a = b
 ·subst e;simp
 ·have h : ¬ (Sum.inr a:Key) = Sum.inr b:=fun q=>e (Sum.inr.inj q)
  rw [decide_eq_false h,decide_eq_false e]
theorem zh (a:Int) (b:Str):decide ((Sum.inl a:Key) = Sum.inr b) = false:=decide_eq_false (fun q=>nomatch q)
theorem zi (a:Str) (b:Int):decide ((Sum.inr a:Key) = Sum.inl b) = false:=decide_eq_false (fun q=>nomatch q)
noncomputable def aG (prog:Program) (w:World):PySem.KeyKind prog w Key where
 is:=fQ
 hash:=BI w
 inj:=fun v a b ha hb=>by
  rcases aQ ha with ⟨i,t,rfl,rfl⟩ | ⟨x,t,rfl,rfl⟩
  ·rcases aQ hb with ⟨j,u,rfl,e⟩ | ⟨y,u,rfl,e⟩
   ·injection e with e1 _;rw [e1]
   ·exact nomatch e
  ·rcases aQ hb with ⟨j,u,rfl,e⟩ | ⟨y,u,rfl,e⟩
   ·exact nomatch e
   ·injection e with e1 _;rw [e1]
 byValue:=fun k v h=>by
  rcases aQ h with ⟨i,t,rfl,rfl⟩ | ⟨x,t,rfl,rfl⟩ <;> rfl
 pyHash:=fun hv h=>by
  rcases aQ hv with ⟨i,t,rfl,rfl⟩ | ⟨x,t,rfl,rfl⟩
  ·exact wpAny_pyHash_int h
  ·exact wpAny_pyHash_str h
 eqBool:=fun hu hv h=>by
  rcases aQ hu with ⟨i,t,rfl,rfl⟩ | ⟨x,t,rfl,rfl⟩
  ·rcases aQ hv with ⟨j,u,rfl,rfl⟩ | ⟨y,u,rfl,rfl⟩
   ·rw [zf] at h;exact wpAny_eqBool_int h
   ·rw [zh] at h;exact SeqAt.EqAt.int_str i t y u _ _ _ _ h
  ·rcases aQ hv with ⟨j,u,rfl,rfl⟩ | ⟨y,u,rfl,rfl⟩
   ·rw [zi] at h;exact SeqAt.EqAt.str_int x t j u _ _ _ _ h
   ·rw [zg] at h;exact wpAny_eqBool_str h
 «strs» := fun k x t v h=>by
  rcases aQ h with ⟨i,u,rfl,e⟩ | ⟨y,u,rfl,e⟩
  ·exact nomatch e
  ·injection e with e1 _
   subst e1
   cases v <;> rfl
theorem nE (prog:Program) (w:World) (i:Int) (t:Tok):(aG prog w).is (.inl i) (.int i t) = true:=qS i t
theorem nF (prog:Program) (w:World) (x:Str) (t:Tok):(aG prog w).is (.inr x) (.str x t) = true:=qT x t
end
section
inductive V where
 | non | bl (b:Bool) | int (i:Int) | str (x:Str) | byt (b:Array UInt8) | flt (b:UInt64) | ref (a:Addr) | ty (n:String)
 deriving DecidableEq
noncomputable def RelV:V -> Value -> Prop
 | .non,u=>u = Value.none
 | .bl b,u=>u = Value.bool b
 | .int i,u => ∃ t,u = Value.int i t
 | .str x,u => ∃ t,u = Value.str x t
 | .byt b,u => ∃ t,u = Value.bytes b t
 | .flt b,u => ∃ t,u = Value.float b t
 | .ref a,u=>u = Value.ref a
 | .ty n,u=>u = Value.type n
noncomputable abbrev Vals:List V -> List Value -> Prop:=Paired RelV
theorem Vals.length {xs:List V} {us:List Value} (r:Vals xs us):xs.length = us.length:=Paired.length r
theorem Vals.get:∀ {xs:List V} {us:List Value} {i:Nat} {x:V},Vals xs us -> xs[i]? = some x -> ∃ u,us[i]? = some u /\ RelV x u
 | _,_,_,_, .nil,e=>by simp at e
 | _,_,0,_, .cons r _,e=>by simp at e;subst e;exact ⟨_,rfl,r⟩
 | _,_,i + 1,x, .cons _ t,e=>by
   obtain ⟨u,h1,h2⟩:=Vals.get (i:=i) (x:=x) t (by simpa using e)
   exact ⟨u,by simpa using h1,h2⟩
theorem Vals.set {x:V} {u:Value} (r:RelV x u):∀ {xs:List V} {us:List Value} (i:Nat),Vals xs us -> Vals (xs.set i x) (us.set i u)
 | _,_,_, .nil => .nil
 | _,_,0, .cons _ t => .cons r t
 | _,_,i + 1, .cons q t => .cons q (Vals.set r i t)
theorem Vals.append:∀ {xs ys:List V} {us ws:List Value},Vals xs us -> Vals ys ws -> Vals (xs ++ ys) (us ++ ws)
 | _,_,_,_, .nil,s=>s
 | _,_,_,_, .cons r t,s => .cons r (Vals.append t s)
theorem Vals.take:∀ {xs:List V} {us:List Value} (n:Nat),Vals xs us -> Vals (xs.take n) (us.take n)
 | _,_,0,_ => .nil
 | _,_,_ + 1, .nil => .nil
 | _,_,n + 1, .cons r t => .cons r (Vals.take n t)
theorem Vals.drop:∀ {xs:List V} {us:List Value} (n:Nat),Vals xs us -> Vals (xs.drop n) (us.drop n)
 | _,_,0,r=>r
 | _,_,_ + 1, .nil => .nil
 | _,_,n + 1, .cons _ t=>Vals.drop n t
noncomputable def RelO:Option V -> Option Value -> Prop
 | some v,some u=>RelV v u
 | none,none=>True
 | _,_=>False
noncomputable def KV {κ:Type}:List (κ × V) -> List (κ × Value) -> Prop:=Paired fun (p : κ × V) (q : κ × Value)=>p.1 = q.1 /\ RelV p.2 q.2
noncomputable def kV:Key -> V
 | .inl i => .int i
 | .inr x => .str x
inductive HO where
 | lst (xs:List V)
 | tup (xs:List V)
 | dK (kvs:List (Key × V)) | dT (kvs:List (List Key × V))
 | set (S:Int -> Bool) (n:Nat)
 | ins (C dx:Addr) (fs:List (Str × V))
 | own (x:Addr)
 | xd (fs:List (Str × V))
 | met (f x:Addr)
 | rng (lo hi:Int)
 | frz (o:Obj) (u:HO)
 | tbl (ps:Array Value)
 | ext (φ:Heap -> Prop)
noncomputable abbrev Hp:=Addr -> Option HO
noncomputable def upd (H:Hp) (a:Addr) (o:HO):Hp:=fun b=>if b = a then some o else H b
theorem av {H:Hp} {a:Addr} {o:HO}:upd H a o a = some o:=by unfold upd;rw [if_pos rfl]
theorem ai {H:Hp} {a b:Addr} {o:HO} (h:b ≠ a):upd H a o b = H b:=by unfold upd;rw [if_neg h]
theorem xk {H:Hp} {a:Addr} {o u:HO}:upd (upd H a o) a u = upd H a u:=by
 funext b;unfold upd;split <;> rfl
theorem wk {H:Hp} {a b:Addr} {o u:HO} (h:H a = some o) (h':H b = some u) (d:o ≠ u):a ≠ b:=by
 intro e;subst e;rw [h] at h';exact d (Option.some.inj h')
theorem aW {H:Hp} {a b:Addr} {o:HO} (h:H a = some o) (h':H b = none):a ≠ b:=by
 intro e;subst e;rw [h] at h';cases h'
section
variable (P:Program) (w:World)
noncomputable def ObjOk (H:Hp) (h:Heap) (a:Addr):HO -> Prop
 | .lst xs=>xs.length <= sizeLine /\ ∃ (its:List Value) (n:Nat),Vals xs its /\ h.get? a = some { cls := .type "list",data := .seq its.toArray n }
 | .tup xs=>xs.length <= sizeLine /\ ∃ its:List Value,Vals xs its /\ IsTup h a its.toArray
 | .dK kvs=>kvs.length <= sizeLine /\ (a == sysModules) = false /\ ∃ vs,KV kvs vs /\ h.DictOf (aG P w) a vs
 | .dT kvs=>kvs.length <= sizeLine /\ (a == sysModules) = false /\ ∃ xs:List (List Key × Addr × Value),
  Paired (fun (p:List Key × V) (q:List Key × Addr × Value)=>p.1 = q.1 /\ H q.2.1 = some (.tup (p.1.map kV)) /\ RelV p.2 q.2.2) kvs xs /\
  ∃ o es ep,h.get? a = some o /\ o.ExactDict /\ o.data = .dict es ep /\ es.toList = xs.map (entryOfKey (tupleKind (aG P w))) /\ (xs.map (·.1)).Nodup
 | .set S n=>h.SetOf (intKind P w) a S n
 | .ins C dx fs=>H dx = some (.own a) /\ fs.length <= 1000 /\ dx ≠ a /\ h.get? a = some (PySem.W.instObj C dx) /\
  ∃ mA,h.Ns1 dx mA /\ (∀ f,RelO (fs.lookup f) (mA f)) /\ PySem.Within mA (fs.map (·.1))
 | .own _ => ∃ o,h.get? a = some o
 | .xd fs => ∃ mA,h.Ns1 a mA /\ ∀ f,RelO (fs.lookup f) (mA f)
 | .rng lo hi => ∃ t u v,h.get? a = some { cls := .type "range",data := .fields #[.int lo t, .int hi u, .int 1 v] }
 | .frz o u=>h.get? a = some o /\ ObjOk H h a u
 | .tbl ps=>h.get? a = some { cls := .none,data := .fields ps }
 | .met f x=>h.get? a = some (PySem.W.methodObj (.ref f) (.ref x))
 | .ext φ => φ h /\ (∃ o,h.get? a = some o) /\ ∀ h1 h2:Heap, φ h1 -> (∀ o,h1.get? a = some o -> h2.get? a = some o) -> φ h2
noncomputable def HOk (H:Hp) (h:Heap):Prop := ∀ a o,H a = some o -> ObjOk P w H h a o
end
section
variable {P:Program} {w:World} {H H':Hp} {h h':Heap} {a:Addr} {o:HO}
theorem ObjOk.lt (x:ObjOk P w H h a o):a < h.objs.size:=by
 cases o with
 | lst xs=>obtain ⟨_,_,_,_,e⟩:=x;exact Heap.lt_size e
 | tup xs=>obtain ⟨_,_,_,p⟩:=x;exact p.lt
 | dK kvs=>obtain ⟨_,_,_,_,o,_,_,e,_⟩:=x;exact Heap.lt_size e
 | dT kvs=>obtain ⟨_,_,_,_,o,_,_,e,_⟩:=x;exact Heap.lt_size e
 | set S n=>obtain ⟨o,_,_,_,e,_⟩:=x;exact Heap.lt_size e
 | ins C dx fs=>obtain ⟨_,_,_,e,_⟩:=x;exact Heap.lt_size e
 | own y=>obtain ⟨_,e⟩:=x;exact Heap.lt_size e
 | xd fs=>obtain ⟨_,⟨_,_,_,e,_⟩,_⟩:=x;exact Heap.lt_size e
 | rng lo hi=>obtain ⟨_,_,_,e⟩:=x;exact Heap.lt_size e
 | frz ob u=>obtain ⟨e,_⟩:=x;exact Heap.lt_size e
 | tbl ps=>exact Heap.lt_size (show h.get? a = some _ from x)
 | met f y=>exact Heap.lt_size (show h.get? a = some _ from x)
 | ext φ => obtain ⟨_,⟨_,e⟩,_⟩:=x;exact Heap.lt_size e
theorem Paired.mapP {α β:Type} {F G : α -> β -> Prop}:∀ {l₁:List α} {l₂:List β},Paired F l₁ l₂ -> (∀ a b,F a b -> G a b) -> Paired G l₁ l₂
 | _,_, .nil,_ => .nil
 | _,_, .cons r t,f => .cons (f _ _ r) (Paired.mapP t f)
theorem ObjOk.stay (x:ObjOk P w H h a o) (k:∀ b u,(b = a ∨ H b = some (.own a)) -> h.get? b = some u -> h'.get? b = some u)
 (ho:∀ b,H b = some (.own a) -> H' b = some (.own a)) (ht:∀ b xs,H b = some (.tup xs) -> H' b = some (.tup xs)):ObjOk P w H' h' a o:=by
 induction o with
 | lst xs=>obtain ⟨z,its,n,r,e⟩:=x;exact ⟨z,its,n,r,k _ _ (.inl rfl) e⟩
 | tup xs=>obtain ⟨z,its,r,ob,e,c⟩:=x;exact ⟨z,its,r,ob,k _ _ (.inl rfl) e,c⟩
 | dK kvs=>obtain ⟨z,y,vs,r,ob,es,ep,e,c⟩:=x;exact ⟨z,y,vs,r,ob,es,ep,k _ _ (.inl rfl) e,c⟩
 | dT kvs =>
   obtain ⟨z,y,xs,r,ob,es,ep,e,c⟩:=x
   exact ⟨z,y,xs,Paired.mapP r fun p q z=>⟨z.1,ht _ _ z.2.1,z.2.2⟩,ob,es,ep,k _ _ (.inl rfl) e,c⟩
 | set S n=>obtain ⟨ob,es,ep,t,e,c⟩:=x;exact ⟨ob,es,ep,t,k _ _ (.inl rfl) e,c⟩
 | ins C dx fs =>
   obtain ⟨d,z,ne,e,mA,⟨od,es,ep,e2,c⟩,r⟩:=x
   exact ⟨ho _ d,z,ne,k _ _ (.inl rfl) e,mA,⟨od,es,ep,k _ _ (.inr d) e2,c⟩,r⟩
 | own y=>obtain ⟨ob,e⟩:=x;exact ⟨ob,k _ _ (.inl rfl) e⟩
 | xd fs=>obtain ⟨mA,⟨od,es,ep,e,c⟩,r⟩:=x;exact ⟨mA,⟨od,es,ep,k _ _ (.inl rfl) e,c⟩,r⟩
 | rng lo hi=>obtain ⟨t,u,v,e⟩:=x;exact ⟨t,u,v,k _ _ (.inl rfl) e⟩
 | frz ob u ih=>obtain ⟨e,q⟩:=x;exact ⟨k _ _ (.inl rfl) e,ih q⟩
 | tbl ps =>
   have e:h.get? a = some { cls := .none,data := .fields ps }:=x
   show h'.get? a = some { cls := .none,data := .fields ps }
   exact k a _ (.inl rfl) e
 | met f y =>
   have e:h.get? a = some (PySem.W.methodObj (.ref f) (.ref y)):=x
   show h'.get? a = some (PySem.W.methodObj (.ref f) (.ref y))
   exact k a _ (.inl rfl) e
 | ext φ => obtain ⟨p,⟨o,e⟩,st⟩:=x;exact ⟨st _ _ p fun o q=>k _ _ (.inl rfl) q,⟨o,k _ _ (.inl rfl) e⟩,st⟩
theorem HOk.lt (x:HOk P w H h) (e:H a = some o):a < h.objs.size:=(x a o e).lt
theorem HOk.fresh (x:HOk P w H h) (e:h.objs.size <= a):H a = none:=by
 cases q:H a with
 | none=>rfl
 | some u=>exact absurd (Nat.lt_of_lt_of_le (x.lt q) e) (Nat.lt_irrefl _)
theorem HOk.kept (x:HOk P w H h) (k:∀ b u,h.get? b = some u -> h'.get? b = some u):HOk P w H h':=fun a o e =>
 (x a o e).stay (fun b u _ q=>k b u q) (fun _ q=>q) fun _ _ q=>q
theorem HOk.laid (x:HOk P w H h) (k:∀ b u,h.get? b = some u -> h'.get? b = some u) (hp:h.objs.size <= a) (new:ObjOk P w (upd H a o) h' a o):HOk P w (upd H a o) h':=fun b u e=>by
 have hn:=x.fresh hp
 by_cases hb:b = a
 ·subst hb;rw [av] at e;cases e;exact new
 ·rw [ai hb] at e
  exact (x b u e).stay (fun c v _ q=>k c v q) (fun c q=>by rw [ai (aW q hn)];exact q) fun c xs q=>by rw [ai (aW q hn)];exact q
end
noncomputable def Rd (H:Hp) (a:Addr) (u:HO):Prop:=H a = some u ∨ ∃ o,H a = some (.frz o u)
theorem Rd.of {H:Hp} {a:Addr} {u:HO} (h:H a = some u):Rd H a u := .inl h
theorem Rd.ok {P:Program} {w:World} {H:Hp} {h:Heap} {a:Addr} {u:HO} (r:Rd H a u) (x:HOk P w H h):ObjOk P w H h a u:=by
 rcases r with r | ⟨o,r⟩
 ·exact x a u r
 ·obtain ⟨_,q⟩:=x a _ r
  exact q
noncomputable def Mut:Option HO -> Prop
 | some (.lst _)=>True
 | some (.dK _)=>True
 | some (.dT _)=>True
 | some (.set _ _)=>True
 | some (.ins _ _ _)=>True
 | some (.ext _)=>True
 | _=>False
section
variable {P:Program} {w:World} {H:Hp} {h h':Heap} {x e:Addr} {o':HO}
theorem HOk.write (ok:HOk P w H h) (mu:Mut (H x)) (he:e = x ∨ H e = some (.own x)) (k:∀ b u,b ≠ e -> h.get? b = some u -> h'.get? b = some u) (heo:∃ u,h'.get? e = some u)
 (new:ObjOk P w (upd H x o') h' x o'):HOk P w (upd H x o') h':=fun b u q=>by
 have nown:∀ c y,H c = some (.own y) -> c ≠ x:=fun c y r z=>by subst z;rw [r] at mu;exact mu
 have ntup:∀ c xs,H c = some (.tup xs) -> c ≠ x:=fun c xs r z=>by subst z;rw [r] at mu;exact mu
 by_cases hb:b = x
 ·subst hb;rw [av] at q;cases q;exact new
 ·rw [ai hb] at q
  by_cases hbe:b = e
  ·have q':H b = some (.own x):=by
    rcases he with z | z
    ·exact absurd (hbe.trans z) hb
    ·rw [hbe];exact z
   rw [q] at q';cases q'
   obtain ⟨v,hv⟩:=heo
   exact ⟨v,by rw [hbe];exact hv⟩
  ·refine (ok b u q).stay (fun c v hc r=>k c v ?_ r) (fun c r=>by rw [ai (nown c b r)];exact r) fun c xs r=>by rw [ai (ntup c xs r)];exact r
   rcases hc with rfl | hc
   ·exact hbe
   ·rintro rfl
    rcases he with z | z
    ·exact nown c b hc z
    ·rw [hc] at z;cases z;exact hb rfl
end
structure Un (fs ex:List Addr) (H H':Hp) (h h':Heap):Prop where
 keep:∀ b o,h.get? b = some o -> H b = none -> b ∉ fs -> b ∉ ex -> h'.get? b = some o
 slot:∀ b o,h.get? b = some o -> H b = none -> b ∈ fs -> b ∉ ex -> ∃ sl,h'.get? b = some { o with slots:=sl }
 free:∀ b o,h.get? b = some o -> H b = none -> b ∉ ex -> H' b = none
 there:∀ b o,h.get? b = some o -> b ∉ ex -> ∃ o',h'.get? b = some o'
 tups:∀ b xs,H b = some (.tup xs) -> H' b = some (.tup xs)
 frzs:∀ b o u,H b = some (.frz o u) -> H' b = some (.frz o u)
 tbls:∀ b ps,H b = some (.tbl ps) -> ∃ more,H' b = some (.tbl (ps ++ more))
section
variable {fs fs' ex ex':List Addr} {H H1 H2:Hp} {h h1 h2 h':Heap} {a x e:Addr} {o:HO}
theorem Un.any (u:Un fs ex H H1 h h1) {b:Addr} {ob:Obj} (q:h.get? b = some ob) (n:H b = none) (hx:b ∉ ex):∃ sl,h1.get? b = some { ob with slots:=sl }:=by
 by_cases hb:b ∈ fs
 ·exact u.slot b ob q n hb hx
 ·exact ⟨ob.slots,u.keep b ob q n hb hx⟩
theorem Un.trans (a:Un fs ex H H1 h h1) (b:Un fs ex H1 H2 h1 h2):Un fs ex H H2 h h2 where
 keep:=fun c ob q n hc hx=>b.keep c ob (a.keep c ob q n hc hx) (a.free c ob q n hx) hc hx
 slot:=fun c ob q n hc hx=>by
  obtain ⟨sl,e1⟩:=a.slot c ob q n hc hx
  obtain ⟨sl',e2⟩:=b.slot c _ e1 (a.free c ob q n hx) hc hx
  exact ⟨sl',e2⟩
 free:=fun c ob q n hx=>by
  obtain ⟨o',e1⟩:=a.there c ob q hx
  exact b.free c o' e1 (a.free c ob q n hx) hx
 there:=fun c ob q hx=>by
  obtain ⟨o',e1⟩:=a.there c ob q hx
  exact b.there c o' e1 hx
 tups:=fun c xs q=>b.tups c xs (a.tups c xs q)
 frzs:=fun c ob xs q=>b.frzs c ob xs (a.frzs c ob xs q)
 tbls:=fun c ps q=>by
  obtain ⟨m1,e1⟩:=a.tbls c ps q
  obtain ⟨m2,e2⟩:=b.tbls c _ e1
  exact ⟨m1 ++ m2,by rw [e2,Array.append_assoc]⟩
theorem Un.kept (k:∀ b u,h.get? b = some u -> h'.get? b = some u):Un fs ex H H h h' :=
 ⟨fun b ob q _ _ _=>k b ob q,fun b ob q _ _ _=>⟨ob.slots,k b ob q⟩,fun _ _ _ n _=>n,fun b ob q _=>⟨ob,k b ob q⟩,fun _ _ q=>q,fun _ _ _ q=>q,fun _ ps q=>⟨#[],by rw [q];simp⟩⟩
theorem Un.refl:Un fs ex H H h h:=Un.kept fun _ _ q=>q
theorem Un.laid (k:∀ b u,h.get? b = some u -> h'.get? b = some u) (hp:h.objs.size <= a) (hn:H a = none):Un fs ex H (upd H a o) h h' where
 keep:=fun b u q _ _ _=>k b u q
 slot:=fun b u q _ _ _=>⟨u.slots,k b u q⟩
 free:=fun b u q n _=>by rw [ai (Nat.ne_of_lt (Nat.lt_of_lt_of_le (Heap.lt_size q) hp))];exact n
 there:=fun b u q _=>⟨u,k b u q⟩
 tups:=fun b xs q=>by rw [ai (aW q hn)];exact q
 frzs:=fun b u xs q=>by rw [ai (aW q hn)];exact q
 tbls:=fun b ps q=>⟨#[],by rw [ai (aW q hn),q];simp⟩
theorem Un.write (mu:Mut (H x)) (he:e = x ∨ H e = some (.own x)) (k:∀ b u,b ≠ e -> h.get? b = some u -> h'.get? b = some u) (heo:∃ u,h'.get? e = some u):Un fs ex H (upd H x o) h h':=by
 have hx:∀ b,H b = none -> b ≠ x:=fun b n z=>by subst z;rw [n] at mu;exact mu
 have hb:∀ b,H b = none -> b ≠ e:=fun b n z=>by
  subst z
  rcases he with r | r
  ·exact hx b n r
  ·rw [n] at r;cases r
 have hm:∀ b u,H b = some u -> ¬ Mut (some u) -> b ≠ x:=fun b u q nm z=>by subst z;rw [q] at mu;exact nm mu
 refine ⟨fun b u q n _ _=>k b u (hb b n) q,fun b u q n _ _=>⟨u.slots,k b u (hb b n) q⟩,fun b u q n _=>by rw [ai (hx b n)];exact n,fun b u q _ => ?_,
  fun b xs q=>by rw [ai (hm b _ q fun z=>z)];exact q,fun b u xs q=>by rw [ai (hm b _ q fun z=>z)];exact q,fun b ps q=>⟨#[],by rw [ai (hm b _ q fun z=>z),q];simp⟩⟩
 by_cases hbe:b = e
 ·subst hbe;exact heo
 ·exact ⟨u,k b u hbe q⟩
theorem Un.mono (u:Un fs ex H H1 h h1) (hs:∀ b ∈ fs,b ∈ fs') (hx:∀ b ∈ ex,b ∈ ex'):Un fs' ex' H H1 h h1 :=
 ⟨fun b ob q n hb he=>u.keep b ob q n (fun z=>hb (hs b z)) fun z=>he (hx b z),fun _ _ q n _ he=>u.any q n fun z=>he (hx _ z),fun b ob q n he=>u.free b ob q n fun z=>he (hx b z),fun b ob q he=>u.there b ob q fun z=>he (hx b z),u.tups,u.frzs,u.tbls⟩
end
noncomputable def trk (h:Heap) (H:Hp):List Addr:=(List.range h.objs.size).filter fun a=>(H a).isSome
noncomputable def eK (h:Heap) (H:Hp):Heap:=PySem.W.hideAll h (trk h H)
theorem qU (h:Heap) (H:Hp):(eK h H).objs.size = h.objs.size:=PySem.W.hideAll_size _ _
theorem u8 {h:Heap} {H:Hp} {b:Addr} {o:Obj} (e:h.get? b = some o) (n:H b = none):(eK h H).get? b = some o :=
 PySem.W.hideAll_get _ e fun hm=>by
  have q:(H b).isSome = true:=(List.mem_filter.mp hm).2
  rw [n] at q;simp at q
theorem xm {h:Heap} {H:Hp} {b:Addr} {o:Obj} (e:(eK h H).get? b = some o):h.get? b = some o /\ H b = none:=by
 have e':h.get? b = some o:=PySem.W.of_hideAll (trk h H) e
 refine ⟨e', ?_⟩
 cases q:H b with
 | none=>rfl
 | some x =>
   have hm:b ∈ trk h H:=List.mem_filter.mpr ⟨List.mem_range.mpr (Heap.lt_size e'),by simp [q]⟩
   have z:(eK h H).get? b = none:=PySem.W.hideAll_none (trk h H) hm
   rw [z] at e;cases e
noncomputable def xo (g h:Heap) (L:Addr):List (Addr × Obj):=(List.range h.objs.size).filterMap fun a=>if a = L ∨ (g.get? a).isSome = true then none else (h.get? a).map fun o=>(a,o)
noncomputable def rest (g h:Heap) (L d:Addr):List (Addr × Obj):=(xo g h L).filter fun p=>decide (p.1 ≠ d)
end
section
structure Mod (K:Frag) (mg:Str -> Option Value) (base:Heap):Prop where
 kin:K.In base
 glob:base.Ns mainGlobals mg
 blt:∃ mb,base.Ns builtinsNs mb /\ ∀ x:Str,x ≠ "__name__" -> mb x = bootBuiltins x
 nolimit:base.NoLimit
structure Cx where
 prog:Program
 w:World
 K:Frag
 mg:Str -> Option Value
 base:Heap
 A:Around
 N:List Str
 s₀:Shared
 H₀:Hp
 env:Env
 outer:List Env
 stack:List Env
 ex:List Addr
 fn:Str -> Bool
 calm:Bool
 pn:List (Addr × Obj)
 xe:Value -> Shared -> Prop
noncomputable def frs (l:List Env):List Addr:=l.filterMap (·.frame)
noncomputable abbrev Cx.fs (X:Cx):List Addr:=frs X.outer
noncomputable def Vis (sc:Scope) (x:Str):Prop:=sc.names.lookup x = some .local ∨ sc.names.lookup x = some .cell ∨ sc.names.lookup x = some .free
noncomputable def Loc (sc:Scope) (x:Str):Prop:=sc.names.lookup x = some .local ∨ sc.names.lookup x = some .cell
noncomputable def BJ (env:Env) (h:Heap) (m:Str -> Option Value) (x:Str) (u:Value):Prop :=
 (env.kindOf x = some .local /\ m x = some u) ∨ ((env.kindOf x = some .cell ∨ env.kindOf x = some .free) /\ ∃ c,env.cells.lookup x = some c /\ h.IsCell c (some u))
structure Cx.Ok (X:Cx):Prop where
 mod:Mod X.K X.mg X.base
 kind:X.env.scope.kind = .function
 glob:X.env.globals = mainGlobals
 blt:X.env.builtins = builtinsNs
 above:X.s₀.heap.objs.size <= X.env.locals
 inj:∀ x y c,X.env.cells.lookup x = some c -> X.env.cells.lookup y = some c -> x = y
 has:∀ x,(X.env.kindOf x = some .cell ∨ X.env.kindOf x = some .free) -> ∃ c,X.env.cells.lookup x = some c
 cab:∀ x c,X.fn x = true -> X.env.cells.lookup x = some c -> X.s₀.heap.objs.size <= c
 hd:X.calm = true -> X.A.handled = none
 frames:X.A.frames = some X.stack
 stk:X.stack = X.outer ∨ (X.stack = X.env :: X.outer /\ X.env.frame = some X.env.locals)
 exf:∀ b ∈ X.ex,b ≠ X.env.locals /\ ∀ x c,X.env.cells.lookup x = some c -> c ≠ b
 bs:∀ b o,X.base.get? b = some o -> X.s₀.heap.get? b = some o /\ X.H₀ b = none
 bsz:X.base.objs.size <= X.s₀.heap.objs.size
 noex:∀ b o,X.base.get? b = some o -> b ∉ X.ex
 exfs:∀ b ∈ X.ex,b ∉ X.fs
 funs:X.s₀.heap.FunFrames X.base X.outer
 frf:∀ b ∈ X.fs,X.H₀ b = none
structure Inv (X:Cx) (pins:List (Addr × Obj)) (σ:List (Option V)) (H:Hp) (s:Shared):Prop where
 ok:X.Ok
 os:s.os = X.s₀.os
 bare:AllBare s.gens
 base:Un X.fs X.ex X.H₀ H X.s₀.heap s.heap
 loc:∃ m,s.heap.Ns X.env.locals m /\ ∀ (i:Nat) (x:Str) (v:V),X.N[i]? = some x -> σ[i]? = some (some v) -> Vis X.env.scope x -> ∃ u,RelV v u /\ BJ X.env s.heap m x u
 cell:∀ x c,X.env.cells.lookup x = some c -> ∃ v,s.heap.IsCell c v
 free:H X.env.locals = none
 freeC:∀ x c,X.env.cells.lookup x = some c -> H c = none
 pin:∀ p ∈ X.pn ++ pins,s.heap.get? p.1 = some p.2 /\ H p.1 = none /\ p.1 ≠ X.env.locals /\ p.1 ∉ X.fs /\ ∀ v,p.2.data ≠ .cell v
 hok:HOk X.prog X.w H s.heap
 len : σ.length = X.N.length
section
variable {X:Cx} {pins:List (Addr × Obj)} {σ:List (Option V)} {H H':Hp} {s:Shared} {h':Heap}
theorem Cx.Ok.nofr (ok:X.Ok) {b:Addr} {o:Obj} (e:X.base.get? b = some o):b ∉ X.fs:=fun hb=>by
 have:=(ok.funs.mem hb).1
 rw [e] at this;cases this
theorem Inv.bs (I:Inv X pins σ H s):∀ b o,X.base.get? b = some o -> s.heap.get? b = some o /\ H b = none:=fun b o e =>
 ⟨I.base.keep b o (I.ok.bs b o e).1 (I.ok.bs b o e).2 (I.ok.nofr e) (I.ok.noex b o e),I.base.free b o (I.ok.bs b o e).1 (I.ok.bs b o e).2 (I.ok.noex b o e)⟩
theorem Inv.bk (I:Inv X pins σ H s):∀ b o,X.base.get? b = some o -> s.heap.get? b = some o:=fun b o e=>(I.bs b o e).1
theorem Inv.mod (I:Inv X pins σ H s):Mod X.K X.mg X.base:=I.ok.mod
theorem Inv.kIn (I:Inv X pins σ H s):X.K.In s.heap:=I.ok.mod.kin.keeps I.bk
theorem Inv.lt (I:Inv X pins σ H s):X.env.locals < s.heap.objs.size:=let ⟨_,hn,_⟩:=I.loc;hn.lt
theorem Inv.sz (I:Inv X pins σ H s):X.s₀.heap.objs.size <= s.heap.objs.size:=Nat.le_trans I.ok.above (Nat.le_of_lt I.lt)
theorem Inv.nofs (I:Inv X pins σ H s) {a:Addr} (h:s.heap.objs.size <= a):a ∉ X.fs:=fun hb=>by
 obtain ⟨_,o,ho,_⟩:=I.ok.funs.mem hb
 exact absurd (Nat.lt_of_lt_of_le (Heap.lt_size ho) (Nat.le_trans I.sz h)) (Nat.lt_irrefl _)
theorem Inv.cne (I:Inv X pins σ H s):∀ x c,X.env.cells.lookup x = some c -> c ≠ X.env.locals:=fun x c e z=>by
 obtain ⟨v,o,ho,hd⟩:=I.cell x c e
 obtain ⟨m,⟨o',es,ep,ho',hd',_⟩,_⟩:=I.loc
 rw [z,ho'] at ho;cases ho;rw [hd'] at hd;cases hd
theorem Inv.funs (I:Inv X pins σ H s):s.heap.FunFrames X.base X.outer:=by
 have all:∀ (l:List Env),(∀ b ∈ frs l,b ∈ X.fs) -> X.s₀.heap.FunFrames X.base l -> s.heap.FunFrames X.base l:=by
  intro l
  induction l with
  | nil=>intro _ _;trivial
  | cons env r ih =>
    intro hs hl
    obtain ⟨hk,⟨L,o,hf,hn,ho,hd⟩,hr⟩:=hl
    have hL:L ∈ X.fs:=hs L (by unfold frs;rw [List.filterMap_cons,hf];exact List.mem_cons_self)
    obtain ⟨sl,e⟩:=I.base.slot L o ho (I.ok.frf L hL) hL fun z=>I.ok.exfs L z hL
    exact ⟨hk,⟨L,_,hf,hn,e,hd⟩,ih (fun b hb=>hs b (by unfold frs;rw [List.filterMap_cons,hf];exact List.mem_cons_of_mem _ hb)) hr⟩
 exact all X.outer (fun _ hb=>hb) I.ok.funs
theorem Inv.stack (I:Inv X pins σ H s):s.heap.FunFrames X.base X.stack:=by
 rcases I.ok.stk with e | ⟨e,hf⟩
 ·rw [e];exact I.funs
 ·rw [e]
  obtain ⟨m,hn,_⟩:=I.loc
  refine .cons (by rw [I.ok.kind];decide) hf hn ?_ I.funs
  exact Heap.get?_none_of_le (Nat.le_trans I.ok.bsz I.ok.above)
theorem Inv.stkSub (I:Inv X pins σ H s):∀ b ∈ frs X.stack,b ∈ X.env.locals :: X.fs:=fun b hb=>by
 rcases I.ok.stk with e | ⟨e,hf⟩
 ·rw [e] at hb;exact List.mem_cons_of_mem _ hb
 ·rw [e] at hb
  unfold frs at hb
  rw [List.filterMap_cons,hf] at hb
  exact hb
theorem Inv.stkFree (I:Inv X pins σ H s):∀ b ∈ frs X.stack,H b = none:=fun b hb=>by
 rcases List.mem_cons.mp (I.stkSub b hb) with e | hb
 ·rw [e];exact I.free
 ·obtain ⟨_,o,ho,_⟩:=I.ok.funs.mem hb
  exact I.base.free b o ho (I.ok.frf b hb) fun z=>I.ok.exfs b z hb
theorem Inv.step {g':Array GenState} {t':Nat} {d':Drawn} {ch:List Addr} (I:Inv X pins σ H s)
 (hch:∀ b ∈ ch,(b ∈ X.ex ∨ X.s₀.heap.objs.size <= b) /\ b ≠ X.env.locals /\ (∀ x c,X.env.cells.lookup x = some c -> c ≠ b) /\ ∀ p ∈ X.pn ++ pins,p.1 ≠ b)
 (keep:∀ b o,b ≠ X.env.locals -> b ∉ X.fs -> b ∉ ch -> s.heap.get? b = some o -> H b = none -> h'.get? b = some o)
 (slot:∀ b o,b ≠ X.env.locals -> b ∈ X.fs -> b ∉ ch -> s.heap.get? b = some o -> H b = none -> ∃ sl,h'.get? b = some { o with slots:=sl }) (free:∀ b o,b ∉ ch -> s.heap.get? b = some o -> H b = none -> H' b = none)
 (there:∀ b o,b ∉ ch -> s.heap.get? b = some o -> ∃ o',h'.get? b = some o')
 (tups:∀ b xs,H b = some (.tup xs) -> H' b = some (.tup xs)) (frzs:∀ b o u,H b = some (.frz o u) -> H' b = some (.frz o u)) (tbls:∀ b ps,H b = some (.tbl ps) -> ∃ more,H' b = some (.tbl (ps ++ more)))
 (ns:∀ m,s.heap.Ns X.env.locals m -> h'.Ns X.env.locals m) (hok:HOk X.prog X.w H' h') (hg:AllBare g') :
 Inv X pins σ H' { s with heap:=h',gens:=g',drawn:=d',toks:=t' }:=by
 have neL:∀ b o,X.s₀.heap.get? b = some o -> b ≠ X.env.locals:=fun b o e=>Nat.ne_of_lt (Nat.lt_of_lt_of_le (Heap.lt_size e) I.ok.above)
 have neC:∀ b o,X.s₀.heap.get? b = some o -> b ∉ X.ex -> b ∉ ch:=fun b o e hx hb=>by
  rcases (hch b hb).1 with z | z
  ·exact hx z
  ·exact absurd (Nat.lt_of_lt_of_le (Heap.lt_size e) z) (Nat.lt_irrefl _)
 have cellK:∀ x c,X.env.cells.lookup x = some c -> ∀ v,s.heap.IsCell c v -> h'.IsCell c v:=fun x c e v ⟨o,ho,hd⟩=>by
  have nch:c ∉ ch:=fun z=>(hch c z).2.2.1 x c e rfl
  by_cases hc:c ∈ X.fs
  ·obtain ⟨sl,q⟩:=slot c o (I.cne x c e) hc nch ho (I.freeC x c e)
   exact ⟨_,q,hd⟩
  ·exact ⟨o,keep c o (I.cne x c e) hc nch ho (I.freeC x c e),hd⟩
 refine ⟨I.ok,I.os,hg,⟨fun b o e n hb hx => ?_,fun b o e n hb hx => ?_,fun b o e n hx => ?_,fun b o e hx => ?_,fun b xs e=>tups b xs (I.base.tups b xs e),fun b o xs e=>frzs b o xs (I.base.frzs b o xs e),fun b ps e => ?_⟩, ?_,fun x c e => ?_, ?_,fun x c e => ?_,fun p hp => ?_,hok,I.len⟩
 ·exact keep b o (neL b o e) hb (neC b o e hx) (I.base.keep b o e n hb hx) (I.base.free b o e n hx)
 ·obtain ⟨sl,e1⟩:=I.base.slot b o e n hb hx
  obtain ⟨sl',e2⟩:=slot b _ (neL b o e) hb (neC b o e hx) e1 (I.base.free b o e n hx)
  exact ⟨sl',e2⟩
 ·obtain ⟨o',e1⟩:=I.base.there b o e hx
  exact free b o' (neC b o e hx) e1 (I.base.free b o e n hx)
 ·obtain ⟨o',e1⟩:=I.base.there b o e hx
  exact there b o' (neC b o e hx) e1
 ·obtain ⟨m1,e1⟩:=I.base.tbls b ps e
  obtain ⟨m2,e2⟩:=tbls b _ e1
  exact ⟨m1 ++ m2,by rw [e2,Array.append_assoc]⟩
 ·obtain ⟨m,hn,hl⟩:=I.loc
  refine ⟨m,ns m hn,fun i x v e1 e2 e3 => ?_⟩
  obtain ⟨u,r,l⟩:=hl i x v e1 e2 e3
  refine ⟨u,r, ?_⟩
  rcases l with l | ⟨k,c,e,z⟩
  ·exact .inl l
  ·exact .inr ⟨k,c,e,cellK x c e _ z⟩
 ·obtain ⟨v,z⟩:=I.cell x c e
  exact ⟨v,cellK x c e v z⟩
 ·obtain ⟨m,⟨o,_,_,ho,_⟩,_⟩:=I.loc
  exact free _ o (fun z=>(hch _ z).2.1 rfl) ho I.free
 ·obtain ⟨v,o,ho,hd⟩:=I.cell x c e
  exact free c o (fun z=>(hch c z).2.2.1 x c e rfl) ho (I.freeC x c e)
 ·obtain ⟨e,n,ne,nf,d⟩:=I.pin p hp
  have nch:p.1 ∉ ch:=fun z=>(hch p.1 z).2.2.2 p hp rfl
  exact ⟨keep p.1 p.2 ne nf nch e n,free p.1 p.2 nch e n,ne,nf,d⟩
theorem Inv.un {t':Nat} (I:Inv X pins σ H s) (u:Un X.fs [] H H' s.heap h') (hok:HOk X.prog X.w H' h'):Inv X pins σ H' { s with heap:=h',toks:=t' }:=by
 obtain ⟨m,⟨o,es,ep,ho,r⟩,_⟩:=id I.loc
 obtain ⟨sl,hL⟩:=u.any ho I.free (by simp)
 exact I.step (g':=s.gens) (d':=s.drawn) (ch := []) (fun _ z=>nomatch z) (fun b o _ hb _ e n=>u.keep b o e n hb (by simp)) (fun b o _ hb _ e n=>u.slot b o e n hb (by simp)) (fun b o _ e n=>u.free b o e n (by simp)) (fun b o _ e=>u.there b o e (by simp)) u.tups u.frzs u.tbls (fun m' hm=>by
  obtain ⟨o',es',ep',ho',r'⟩:=hm
  rw [ho] at ho';cases ho'
  exact ⟨_,es',ep',hL,r'⟩) hok I.bare
theorem Inv.call {g':Array GenState} {t':Nat} {d':Drawn} {ch:List Addr} (I:Inv X pins σ H s) (u:Un (frs X.stack) ch H H' s.heap h') (hok:HOk X.prog X.w H' h') (hg:AllBare g')
 (hch:∀ b ∈ ch,(b ∈ X.ex ∨ X.s₀.heap.objs.size <= b) /\ b ≠ X.env.locals /\ (∀ x c,X.env.cells.lookup x = some c -> c ≠ b) /\ ∀ p ∈ X.pn ++ pins,p.1 ≠ b) :
 Inv X pins σ H' { s with heap:=h',gens:=g',drawn:=d',toks:=t' }:=by
 obtain ⟨m,⟨o,es,ep,ho,r⟩,_⟩:=id I.loc
 obtain ⟨sl,hL⟩:=u.any ho I.free fun z=>(hch _ z).2.1 rfl
 exact I.step (ch:=ch) hch (fun b o hL hb hc e n=>u.keep b o e n (fun z=>(List.mem_cons.mp (I.stkSub b z)).elim hL hb) hc) (fun b o _ _ hc e n=>u.any e n hc) (fun b o hc e n=>u.free b o e n hc) (fun b o hc e=>u.there b o e hc) u.tups u.frzs u.tbls (fun m' hm=>by
  obtain ⟨o',es',ep',ho',r'⟩:=hm
  rw [ho] at ho';cases ho'
  exact ⟨_,es',ep',hL,r'⟩) hok hg
theorem Inv.turned {t':Nat} {it:Addr} (I:Inv X pins σ H s) (k:∀ b o,b ≠ it -> s.heap.get? b = some o -> h'.get? b = some o) (hn:H it = none) (hL:it ≠ X.env.locals)
 (h1:it ∈ X.ex ∨ X.s₀.heap.objs.size <= it) (h2:∀ x c,X.env.cells.lookup x = some c -> c ≠ it) (h3:∀ p ∈ X.pn ++ pins,p.1 ≠ it):Inv X pins σ H { s with heap:=h',toks:=t' }:=by
 have nit:∀ b u,H b = some u -> b ≠ it:=fun b u e z=>by rw [z,hn] at e;cases e
 refine I.step (g':=s.gens) (d':=s.drawn) (ch := [it]) (fun b hb => ?_) (fun b o _ _ hc e _=>k b o (fun z=>hc (by simp [z])) e) (fun b o _ _ hc e _=>⟨o.slots,k b o (fun z=>hc (by simp [z])) e⟩) (fun _ _ _ _ n=>n)
  (fun b o hc e=>⟨o,k b o (fun z=>hc (by simp [z])) e⟩) (fun _ _ e=>e) (fun _ _ _ e=>e) (fun b ps e=>⟨#[],by rw [e];simp⟩) (fun m hm => ?_) (fun b u e => ?_) I.bare
 ·have e:b = it:=by simpa using hb
  subst e
  exact ⟨h1,hL,h2,h3⟩
 ·obtain ⟨o,es,ep,ho,r⟩:=hm
  exact ⟨o,es,ep,k _ o (Ne.symm hL) ho,r⟩
 ·refine (I.hok b u e).stay (fun c v hc q=>k c v ?_ q) (fun _ q=>q) fun _ _ q=>q
  rcases hc with z | z
  ·rw [z];exact nit b u e
  ·exact nit c _ z
theorem Inv.tok (I:Inv X pins σ H s) (t:Nat):Inv X pins σ H { s with toks:=t }:=I.un (h':=s.heap) (t':=t) Un.refl I.hok
theorem Inv.kept {t':Nat} (I:Inv X pins σ H s) (k:∀ b u,s.heap.get? b = some u -> h'.get? b = some u):Inv X pins σ H { s with heap:=h',toks:=t' }:=I.un (Un.kept k) (I.hok.kept k)
theorem Inv.laid {a:Addr} {o:HO} {t':Nat} (I:Inv X pins σ H s) (k:∀ b u,s.heap.get? b = some u -> h'.get? b = some u) (hp:s.heap.objs.size <= a) (new:ObjOk X.prog X.w (upd H a o) h' a o) :
 Inv X pins σ (upd H a o) { s with heap:=h',toks:=t' }:=I.un (Un.laid k hp (I.hok.fresh hp)) (I.hok.laid k hp new)
theorem Inv.write {x e:Addr} {o:HO} {t':Nat} (I:Inv X pins σ H s) (mu:Mut (H x)) (he:e = x ∨ H e = some (.own x)) (k:∀ b u,b ≠ e -> s.heap.get? b = some u -> h'.get? b = some u) (heo:∃ u,h'.get? e = some u)
 (new:ObjOk X.prog X.w (upd H x o) h' x o):Inv X pins σ (upd H x o) { s with heap:=h',toks:=t' }:=I.un (Un.write mu he k heo) (I.hok.write mu he k heo new)
theorem Inv.pins_of {pins':List (Addr × Obj)} (I:Inv X pins σ H s) (h:∀ p ∈ pins',s.heap.get? p.1 = some p.2 /\ H p.1 = none /\ p.1 ≠ X.env.locals /\ p.1 ∉ X.fs /\ ∀ v,p.2.data ≠ .cell v):Inv X pins' σ H s :=
 ⟨I.ok,I.os,I.bare,I.base,I.loc,I.cell,I.free,I.freeC,fun p hp=>(List.mem_append.mp hp).elim (fun z=>I.pin p (List.mem_append_left _ z)) (h p),I.hok,I.len⟩
theorem kD {N:List Str} (hN:N.Nodup) {i j:Nat} {x:Str} (a:N[i]? = some x) (b:N[j]? = some x):i = j:=by
 obtain ⟨h1,e1⟩:=List.getElem?_eq_some_iff.mp a
 obtain ⟨h2,e2⟩:=List.getElem?_eq_some_iff.mp b
 exact (List.getElem_inj hN).mp (e1.trans e2.symm)
theorem qV {M:Model} {A:Around} {E:Value -> Shared -> Prop} {i:Nat} {x:Str} {v:V} {u:Value} {Q:Unit -> Shared -> Prop} (I:Inv X pins σ H s) (hN:X.N.Nodup) (hi:X.N[i]? = some x) (hx:Loc X.env.scope x) (r:RelV v u)
 (h:∀ s',Inv X pins (σ.set i (some v)) H s' -> (∃ a,Heap.SameBut a s.heap s'.heap /\ (a = X.env.locals ∨ X.env.cells.lookup x = some a)) -> Q () s') (hf:X.fn x = true ∨ X.env.scope.names.lookup x = some .local:=by first | exact .inl rfl | exact .inr rfl | assumption):wpAny M A (storeName X.env x u) Q E s:=by
 obtain ⟨m,hn,hl⟩:=id I.loc
 have hcls:(X.env.scope.kind == .class || (X.env.scope.kind == .module && X.env.locals != X.env.globals)) = false:=by rw [I.ok.kind];rfl
 have hiσ:i < σ.length:=by rw [I.len];exact (List.getElem?_eq_some_iff.mp hi).1
 have cne:=I.cne
 have tracked:∀ {a:Addr} {h':Heap},(∃ o,s.heap.get? a = some o /\ H a = none) -> Heap.SameBut a s.heap h' -> HOk X.prog X.w H h':=fun {a h'} ha hs b ob e=>by
  obtain ⟨_,_,hfree⟩:=ha
  refine (I.hok b ob e).stay (fun c w' hc q=>(hs.2 c ?_).trans q) (fun _ q=>q) fun _ _ q=>q
  rintro rfl
  rcases hc with rfl | hc
  ·rw [hfree] at e;cases e
  ·rw [hfree] at hc;cases hc
 rcases hx with hk | hk
 ·refine wpAny_storeName_local hk hn (fun h' hn' hs => ?_) hcls
  obtain ⟨oL,_,_,hoL,_⟩:=id hn
  refine h _ ⟨I.ok,I.os,I.bare,⟨fun b o e n hb hx => ?_,fun b o e n hb hx => ?_,I.base.free,fun b o e hx => ?_,I.base.tups,I.base.frzs,I.base.tbls⟩,⟨_,hn',fun j y v' e1 e2 e3 => ?_⟩,fun y c e => ?_,I.free,I.freeC,fun p hp => ?_,tracked ⟨oL,hoL,I.free⟩ hs,by simpa using I.len⟩ ⟨_,hs, .inl rfl⟩
  ·exact (hs.2 b (Nat.ne_of_lt (Nat.lt_of_lt_of_le (Heap.lt_size e) I.ok.above))).trans (I.base.keep b o e n hb hx)
  ·obtain ⟨sl,e1⟩:=I.base.slot b o e n hb hx
   exact ⟨sl,(hs.2 b (Nat.ne_of_lt (Nat.lt_of_lt_of_le (Heap.lt_size e) I.ok.above))).trans e1⟩
  ·obtain ⟨o',e1⟩:=I.base.there b o e hx
   exact ⟨o',(hs.2 b (Nat.ne_of_lt (Nat.lt_of_lt_of_le (Heap.lt_size e) I.ok.above))).trans e1⟩
  ·by_cases hj:j = i
   ·subst hj
    rw [hi] at e1;cases e1
    rw [List.getElem?_set_self hiσ] at e2
    cases e2
    exact ⟨u,r, .inl ⟨hk,by simp⟩⟩
   ·rw [List.getElem?_set_ne (Ne.symm hj)] at e2
    obtain ⟨u',r',q⟩:=hl j y v' e1 e2 e3
    refine ⟨u',r', ?_⟩
    rcases q with ⟨k,e⟩ | ⟨k,c,e,z⟩
    ·refine .inl ⟨k, ?_⟩
     have:y ≠ x:=fun e=>hj (kD hN e1 (e ▸ hi))
     simp [this,e]
    ·exact .inr ⟨k,c,e,z.sameBut hs (cne y c e)⟩
  ·obtain ⟨w',z⟩:=I.cell y c e
   exact ⟨w',z.sameBut hs (cne y c e)⟩
  ·obtain ⟨e,n,ne,nf,d⟩:=I.pin p hp
   exact ⟨(hs.2 p.1 ne).trans e,n,ne,nf,d⟩
 ·have hfn:X.fn x = true:=by
   rcases hf with z | z
   ·exact z
   ·rw [z] at hk;cases hk
  obtain ⟨c,hc⟩:=I.ok.has x (.inl hk)
  obtain ⟨w',z⟩:=I.cell x c hc
  refine wpAny_storeName_cell I.ok.kind hk hc z (fun h' hc' hs => ?_)
  obtain ⟨oc,hoc,hocd⟩:=id z
  refine h { s with heap:=h' } ⟨I.ok,I.os,I.bare,⟨fun b o e n hb hx => ?_,fun b o e n hb hx => ?_,I.base.free,fun b o e hx => ?_,I.base.tups,I.base.frzs,I.base.tbls⟩,⟨m,hn.sameBut hs (Ne.symm (cne x c hc)),fun j y v' e1 e2 e3 => ?_⟩,fun y c' e => ?_,I.free,I.freeC,fun p hp => ?_,tracked ⟨oc,hoc,I.freeC x c hc⟩ hs,by simpa using I.len⟩ ⟨c,hs, .inr hc⟩
  ·exact (hs.2 b (Nat.ne_of_lt (Nat.lt_of_lt_of_le (Heap.lt_size e) (I.ok.cab x c hfn hc)))).trans (I.base.keep b o e n hb hx)
  ·obtain ⟨sl,e1⟩:=I.base.slot b o e n hb hx
   exact ⟨sl,(hs.2 b (Nat.ne_of_lt (Nat.lt_of_lt_of_le (Heap.lt_size e) (I.ok.cab x c hfn hc)))).trans e1⟩
  ·obtain ⟨o',e1⟩:=I.base.there b o e hx
   exact ⟨o',(hs.2 b (Nat.ne_of_lt (Nat.lt_of_lt_of_le (Heap.lt_size e) (I.ok.cab x c hfn hc)))).trans e1⟩
  ·by_cases hj:j = i
   ·subst hj
    rw [hi] at e1;cases e1
    rw [List.getElem?_set_self hiσ] at e2
    cases e2
    exact ⟨u,r, .inr ⟨.inl hk,c,hc,hc'⟩⟩
   ·rw [List.getElem?_set_ne (Ne.symm hj)] at e2
    obtain ⟨u',r',q⟩:=hl j y v' e1 e2 e3
    refine ⟨u',r', ?_⟩
    rcases q with q | ⟨k,c',e,z'⟩
    ·exact .inl q
    ·refine .inr ⟨k,c',e,z'.sameBut hs ?_⟩
     rintro rfl
     exact hj (kD hN e1 (I.ok.inj _ _ _ e hc ▸ hi))
  ·by_cases hcc:c' = c
   ·subst hcc;exact ⟨_,hc'⟩
   ·obtain ⟨w2,z2⟩:=I.cell y c' e
    exact ⟨w2,z2.sameBut hs hcc⟩
  ·obtain ⟨e,n,ne,nf,d⟩:=I.pin p hp
   refine ⟨(hs.2 p.1 ?_).trans e,n,ne,nf,d⟩
   intro q
   rw [q,hoc] at e
   have q':oc = p.2:=Option.some.inj e
   exact d w' (by rw [<- q'];exact hocd)
theorem gF {M:Model} {A:Around} {E:Value -> Shared -> Prop} {i:Nat} {x:Str} {v:V} {u:Value} {Q:Unit -> Shared -> Prop} (I:Inv X pins σ H s) (hN:X.N.Nodup) (hi:X.N[i]? = some x) (hx:Loc X.env.scope x) (r:RelV v u)
 (h:∀ s',Inv X pins (σ.set i (some v)) H s' -> Q () s') (hf:X.fn x = true ∨ X.env.scope.names.lookup x = some .local:=by first | exact .inl rfl | exact .inr rfl | assumption):wpAny M A (storeName X.env x u) Q E s :=
 qV I hN hi hx r (fun s' I' _=>h s' I') hf
theorem Inv.call' {s':Shared} {ch:List Addr} (I:Inv X pins σ H s) (ho:s'.os = s.os) (u:Un (frs X.stack) ch H H' s.heap s'.heap) (hok:HOk X.prog X.w H' s'.heap) (hg:AllBare s'.gens)
 (hch:∀ b ∈ ch,(b ∈ X.ex ∨ X.s₀.heap.objs.size <= b) /\ b ≠ X.env.locals /\ (∀ x c,X.env.cells.lookup x = some c -> c ≠ b) /\ ∀ p ∈ X.pn ++ pins,p.1 ≠ b):Inv X pins σ H' s':=by
 obtain ⟨h',g',d',t',o'⟩:=s'
 have e:o' = s.os:=ho
 subst e
 exact I.call (g':=g') (t':=t') (d':=d') u hok hg hch
end
noncomputable abbrev XK:=Value -> Option Addr -> Hp -> Prop
noncomputable abbrev St:=List (Option V)
noncomputable abbrev VK:=V -> Hp -> Prop
noncomputable abbrev TE:=St -> Hp -> VK -> Prop
noncomputable abbrev TT:=St -> Hp -> (Bool -> Hp -> Prop) -> Prop
noncomputable abbrev TA:=St -> Hp -> (List V -> Hp -> Prop) -> Prop
structure bB where
 nx:St -> Hp -> Prop
 rt:VK
 bk:St -> Hp -> Prop:=fun _ _=>False
 ct:St -> Hp -> Prop:=fun _ _=>False
noncomputable abbrev TS:=bB -> St -> Hp -> Prop
noncomputable def EP (X:Cx) (pins:List (Addr × Obj)) (σ:St) (Q:VK) (u:Value) (s':Shared):Prop := ∃ v H',Inv X pins σ H' s' /\ RelV v u /\ Q v H'
noncomputable def TP (X:Cx) (pins:List (Addr × Obj)) (σ:St) (Q:Bool -> Hp -> Prop) (b:Bool) (s':Shared):Prop := ∃ H',Inv X pins σ H' s' /\ Q b H'
noncomputable def AP (X:Cx) (pins:List (Addr × Obj)) (σ:St) (Q:List V -> Hp -> Prop) (us:List Value) (s':Shared):Prop := ∃ vs H',Inv X pins σ H' s' /\ Vals vs us /\ Q vs H'
noncomputable def SP (X:Cx) (pins:List (Addr × Obj)) (D:bB) (f:Flow) (s':Shared):Prop :=
 match f with
 | .next => ∃ σ' H',Inv X pins σ' H' s' /\ D.nx σ' H'
 | .brk => ∃ σ' H',Inv X pins σ' H' s' /\ D.bk σ' H'
 | .cont => ∃ σ' H',Inv X pins σ' H' s' /\ D.ct σ' H'
 | .ret u => ∃ v σ' H',Inv X pins σ' H' s' /\ RelV v u /\ D.rt v H'
noncomputable def PE (X:Cx) (e:Expr) (t:TE):Prop :=
 ∀ (pins:List (Addr × Obj)) (s:Shared) (σ:St) (H:Hp) (Q:VK),Inv X pins σ H s -> t σ H Q -> wpAny (model X.prog X.w) X.A (eval e X.env) (EP X pins σ Q) X.xe s
noncomputable def PT (X:Cx) (e:Expr) (t:TT):Prop :=
 ∀ (pins:List (Addr × Obj)) (s:Shared) (σ:St) (H:Hp) (Q:Bool -> Hp -> Prop),Inv X pins σ H s -> t σ H Q -> wpAny (model X.prog X.w) X.A (isTrue e X.env (eval e X.env)) (TP X pins σ Q) X.xe s
noncomputable def PW (X:Cx) (e:Expr) (t:TT):Prop :=
 ∀ (whole:Sem Value) (pins:List (Addr × Obj)) (s:Shared) (σ:St) (H:Hp) (Q:Bool -> Hp -> Prop),Inv X pins σ H s -> t σ H Q -> wpAny (model X.prog X.w) X.A (isTrue e X.env whole) (TP X pins σ Q) X.xe s
theorem PW.pt {X:Cx} {e:Expr} {t:TT} (h:PW X e t):PT X e t:=h _
noncomputable def PA (X:Cx) (es:List Expr) (t:TA):Prop :=
 ∀ (pos:Pos) (pins:List (Addr × Obj)) (s:Shared) (σ:St) (H:Hp) (Q:List V -> Hp -> Prop),Inv X pins σ H s -> t σ H Q -> wpAny (model X.prog X.w) X.A (spliced (backTo pos (starEach es X.env))) (AP X pins σ Q) X.xe s
noncomputable def PS (X:Cx) (st:Stmt) (t:TS):Prop :=
 ∀ (pins:List (Addr × Obj)) (s:Shared) (σ:St) (H:Hp) (D:bB),Inv X pins σ H s -> t D σ H -> wpAny (model X.prog X.w) X.A (exec st X.env) (SP X pins D) X.xe s
noncomputable def PSs (X:Cx) (st:List Stmt) (t:TS):Prop :=
 ∀ (pins:List (Addr × Obj)) (s:Shared) (σ:St) (H:Hp) (D:bB),Inv X pins σ H s -> t D σ H -> wpAny (model X.prog X.w) X.A (execs st X.env) (SP X pins D) X.xe s
theorem thn {α:Type} {t:Sem α} {Q Q' : α -> Shared -> Prop} {M:Model} {A:Around} {E:Value -> Shared -> Prop} {s:Shared} (h:wpAny M A t Q E s) (hQ:∀ a s,Q a s -> Q' a s):wpAny M A t Q' E s:=wpAny_mono h hQ fun _ _ x=>x
end
section
section
variable {X:Cx}
theorem bin {a b:Expr} {ta tb:TE} (ha:PE X a ta) (hb:PE X b tb) {pins:List (Addr × Obj)} {s:Shared} {σ:St} {H:Hp} {R:V -> V -> Hp -> Prop} (I:Inv X pins σ H s) (h:ta σ H fun x H1=>tb σ H1 fun y H2=>R x y H2)
 {α:Type} {Q : α -> Shared -> Prop} {f:Value -> Value -> Sem α}
 (hf:∀ v u s2 x y H2,Inv X pins σ H2 s2 -> RelV x v -> RelV y u -> R x y H2 -> wpAny (model X.prog X.w) X.A (f v u) Q X.xe s2) :
 wpAny (model X.prog X.w) X.A (eval a X.env) (fun v s₁ => wpAny (model X.prog X.w) X.A (eval b X.env) (fun u s₂ => wpAny (model X.prog X.w) X.A (f v u) Q X.xe s₂) X.xe s₁) X.xe s:=by
 refine thn (ha pins s σ H _ I h) fun v s1 ⟨x,H1,I1,r1,q1⟩ => ?_
 refine thn (hb pins s1 σ H1 _ I1 q1) fun u s2 ⟨y,H2,I2,r2,q2⟩ => ?_
 exact hf v u s2 x y H2 I2 r1 r2 q2
noncomputable def BK (i:Nat):TE:=fun σ H Q => ∃ v, σ[i]? = some (some v) /\ Q v H
noncomputable def tC (v:V):TE:=fun _ H Q=>Q v H
theorem zj {i:Nat} {x:Str} {pos:Pos} (hN:X.N[i]? = some x) (hv:Vis X.env.scope x) (hd:(x == ("__debug__":Str)) = false:=by decide) (hcd:(x == ("__classdict__":Str)) = false:=by decide):PE X (.Name x pos) (BK i):=by
 intro pins s σ H Q I h
 obtain ⟨v,e,h⟩:=h
 obtain ⟨m,hn,hl⟩:=I.loc
 obtain ⟨u,r,l⟩:=hl i x v hN e hv
 have fin:EP X pins σ Q u s:=⟨v,H,I,r,h⟩
 rcases l with ⟨hk,hm⟩ | ⟨hk,c,hc,hcell⟩
 ·exact wpAny_Name (wpAny_loadName_local I.ok.kind hk hn hm fin) hd
 ·rcases hk with hk | hk
  ·exact wpAny_Name (wpAny_loadName_cell I.ok.kind hk hc hcell fin) hd
  ·exact wpAny_Name (wpAny_loadName_free I.ok.kind hk hc hcell fin hcd) hd
theorem zk {i j pos}:PE X (.Constant (.int i) j pos) (tC (.int i)):=fun _ _ _ H _ I h=>wpAny_Constant_int ⟨.int i,H,I.tok _,⟨_,rfl⟩,h⟩
theorem AV {b j pos}:PE X (.Constant (.bool b) j pos) (tC (.bl b)):=fun _ _ _ H _ I h=>Constant_bool ⟨.bl b,H,I,rfl,h⟩
noncomputable def Gl (X:Cx) (x:Str):Prop:=X.env.kindOf x = some .globalImplicit
theorem nV {E:Value -> Shared -> Prop} {pins:List (Addr × Obj)} {s:Shared} {σ:St} {H:Hp} {x:Str} {u:Value} {pos:Pos} {Q:Value -> Shared -> Prop} (I:Inv X pins σ H s) (hg:Gl X x) (hm:X.mg x = some u) (h:Q u s)
 (hd:(x == ("__debug__":Str)) = false:=by decide):wpAny (model X.prog X.w) X.A (eval (.Name x pos) X.env) Q E s :=
 Calls.Name_function_global I.ok.kind hg (Calls.loadGlobal_global (by rw [I.ok.glob];exact I.mod.glob.keeps I.bk) hm h) hd
theorem dU {E:Value -> Shared -> Prop} {pins:List (Addr × Obj)} {s:Shared} {σ:St} {H:Hp} {x:Str} {u:Value} {pos:Pos} {Q:Value -> Shared -> Prop} (I:Inv X pins σ H s) (hg:Gl X x) (hm:X.mg x = none) (hv:bootBuiltins x = some u) (h:Q u s)
 (hn:x ≠ "__name__" := by decide) (hd:(x == ("__debug__":Str)) = false:=by decide):wpAny (model X.prog X.w) X.A (eval (.Name x pos) X.env) Q E s:=by
 obtain ⟨mb,h1,h2⟩:=I.mod.blt
 exact Calls.Name_function_global I.ok.kind hg (Calls.loadGlobal_builtin (by rw [I.ok.glob];exact I.mod.glob.keeps I.bk) hm (by rw [I.ok.blt];exact h1.keeps I.bk) ((h2 x hn).trans hv) h) hd
theorem j6 {x:Str} {v:V} {u:Value} {pos:Pos} (hg:Gl X x) (hm:X.mg x = none) (hv:bootBuiltins x = some u) (r:RelV v u) (hn:x ≠ "__name__" := by decide) (hd:(x == ("__debug__":Str)) = false:=by decide):PE X (.Name x pos) (tC v) :=
 fun _ _ _ H _ I h=>dU I hg hm hv ⟨v,H,I,r,h⟩ hn hd
variable {a b:Expr} {ta tb:TE} {pos:Pos}
noncomputable def tB (t:TE):TT:=fun σ H Q=>t σ H fun x H1 => ∃ c,x = .bl c /\ Q c H1
variable {tA tB':TT} {rest:List Expr}
noncomputable def BL (t u:TT):TT:=fun σ H Q=>t σ H fun c H1=>if c = true then u σ H1 Q else Q false H1
noncomputable def tOr (t u:TT):TT:=fun σ H Q=>t σ H fun c H1=>if c = true then Q true H1 else u σ H1 Q
noncomputable def BM (t:TT):TT:=fun σ H Q=>t σ H fun c H1=>Q (!c) H1
theorem xq (ha:PT X a tA):PW X (.BoolOp .And [a] pos) tA:=by
 intro wh pins s σ H Q I h
 refine isTrue_and (thn (ha pins s σ H Q I h) fun c s1 e => ?_)
 cases c with
 | true=>exact isTrue_and_nil e
 | false=>exact e
theorem zm (ha:PT X a tA):PW X (.BoolOp .Or [a] pos) tA:=by
 intro wh pins s σ H Q I h
 refine isTrue_or (thn (ha pins s σ H Q I h) fun c s1 e => ?_)
 cases c with
 | false=>exact isTrue_or_nil e
 | true=>exact e
theorem zn (ha:PT X a tA) (hb:PW X (.BoolOp .And (b :: rest) pos) tB'):PW X (.BoolOp .And (a :: b :: rest) pos) (BL tA tB'):=by
 intro wh pins s σ H Q I h
 refine isTrue_and (thn (ha pins s σ H _ I h) fun c s1 ⟨H1,I1,q1⟩ => ?_)
 cases c with
 | true=>exact hb wh pins s1 σ H1 Q I1 q1
 | false=>exact ⟨H1,I1,q1⟩
theorem AW (ha:PT X a tA) (hb:PW X (.BoolOp .Or (b :: rest) pos) tB'):PW X (.BoolOp .Or (a :: b :: rest) pos) (tOr tA tB'):=by
 intro wh pins s σ H Q I h
 refine isTrue_or (thn (ha pins s σ H _ I h) fun c s1 ⟨H1,I1,q1⟩ => ?_)
 cases c with
 | true=>exact ⟨H1,I1,q1⟩
 | false=>exact hb wh pins s1 σ H1 Q I1 q1
theorem zo (ha:PT X a tA):PT X (.UnaryOp .Not a pos) (BM tA):=by
 intro pins s σ H Q I h
 exact isTrue_not (ha pins s σ H (fun c H1=>Q (!c) H1) I h)
noncomputable def AX (ta tb:TE):TE:=fun σ H Q=>ta σ H fun x H1 => ∃ c,x = .bl c /\ if c = true then tb σ H1 Q else Q (.bl false) H1
noncomputable def AY (ta:TE):TE:=fun σ H Q=>ta σ H fun x H1 => ∃ c,x = .bl c /\ Q (.bl (!c)) H1
theorem zp {op} {t:TE} (h:PE X a t):PE X (.BoolOp op [a] pos) t:=fun pins s σ H Q I hw=>BoolOp_one (h pins s σ H Q I hw)
theorem zq (ha:PE X a ta) (hb:PE X (.BoolOp .And (b :: rest) pos) tb):PE X (.BoolOp .And (a :: b :: rest) pos) (AX ta tb):=by
 intro pins s σ H Q I h
 refine BoolOp_and (thn (ha pins s σ H _ I h) fun v s1 ⟨x,H1,I1,r1,q1⟩ => ?_)
 obtain ⟨c,rfl,q1⟩:=q1
 cases r1
 refine wpAny_truthy_bool ?_
 cases c with
 | true=>exact hb pins s1 σ H1 Q I1 q1
 | false=>exact ⟨.bl false,H1,I1,rfl,q1⟩
theorem zr (ha:PE X a ta):PE X (.UnaryOp .Not a pos) (AY ta):=by
 intro pins s σ H Q I h
 refine UnaryOp_ (thn (ha pins s σ H _ I h) fun v s1 ⟨x,H1,I1,r1,q1⟩ => ?_)
 obtain ⟨c,rfl,q1⟩:=q1
 cases r1
 exact not_of (wpAny_truthy_bool ⟨.bl (!c),H1,I1,rfl,q1⟩)
noncomputable def tIf (t:TT) (ta tb:TE):TE:=fun σ H Q=>t σ H fun c H1=>if c = true then ta σ H1 Q else tb σ H1 Q
theorem u9 {c:Expr} (hc:PT X c tA) (ha:PE X a ta) (hb:PE X b tb):PE X (.IfExp c a b pos) (tIf tA ta tb):=by
 intro pins s σ H Q I h
 refine wpAny_IfExp (thn (hc pins s σ H _ I h) fun d s1 ⟨H1,I1,q1⟩ => ?_)
 cases d with
 | true=>exact ha pins s1 σ H1 Q I1 q1
 | false=>exact hb pins s1 σ H1 Q I1 q1
end
end
section
noncomputable def SqL (K:Frag) (H:Hp) (a:Addr) (xs:List V):Prop :=
 Rd H a (.lst xs) ∨
  ∃ (o:Obj) (its:Array Value) (n:Nat),K.lookup a = some o /\ o.cls = .type "list" /\ o.dict = none /\ o.data = .seq its n /\ its.size <= sizeLine /\ Vals xs its.toList
noncomputable def SqT (K:Frag) (H:Hp) (a:Addr) (xs:List V):Prop :=
 Rd H a (.tup xs) ∨
  ∃ (o:Obj) (its:Array Value) (n:Nat),K.lookup a = some o /\ o.cls = .type "tuple" /\ o.data = .seq its n /\ its.size <= sizeLine /\ Vals xs its.toList
noncomputable def BN:Value -> Option V
 | .none=>some .non
 | .bool b=>some (.bl b)
 | .int i _=>some (.int i)
 | .str x _=>some (.str x)
 | .bytes b _=>some (.byt b)
 | .float b _=>some (.flt b)
 | .ref a=>some (.ref a)
 | .type n=>some (.ty n)
 | _=>none
theorem RelV.abs {x:V} {u:Value} (r:RelV x u):BN u = some x:=by
 cases x with
 | non=>cases r;rfl
 | bl _=>cases r;rfl
 | int _=>obtain ⟨t,rfl⟩:=r;rfl
 | str _=>obtain ⟨t,rfl⟩:=r;rfl
 | byt _=>obtain ⟨t,rfl⟩:=r;rfl
 | flt _=>obtain ⟨t,rfl⟩:=r;rfl
 | ref _=>cases r;rfl
 | ty _=>cases r;rfl
theorem RelV.inj {x y:V} {u:Value} (r:RelV x u) (q:RelV y u):x = y:=Option.some.inj (r.abs.symm.trans q.abs)
theorem Vals.inj:∀ {xs ys:List V} {us:List Value},Vals xs us -> Vals ys us -> xs = ys
 | _,_,_, .nil, .nil=>rfl
 | _,_,_, .cons r t, .cons r' t'=>by rw [r.inj r',Vals.inj t t']
section
variable {X:Cx} {pins:List (Addr × Obj)} {σ:St} {H:Hp} {s:Shared} {a:Addr} {xs ys:List V}
theorem SqL.of {K:Frag} (h:H a = some (.lst xs)):SqL K H a xs := .inl (.inl h)
theorem SqT.of {K:Frag} (h:H a = some (.tup xs)):SqT K H a xs := .inl (.inl h)
theorem Inv.list (I:Inv X pins σ H s) (h:SqL X.K H a xs):∃ its:List Value,Vals xs its /\ PlainL s.heap a its.toArray /\ xs.length <= sizeLine:=by
 rcases h with h | ⟨o,its,n,hk,hc,hd,hs,hz,r⟩
 ·obtain ⟨z,its,n,r,e⟩:=h.ok I.hok
  exact ⟨its,r,⟨_,n,e,rfl,rfl,rfl⟩,z⟩
 ·refine ⟨its.toList,r,⟨o,n,I.kIn a o hk,hc,hd,by simpa using hs⟩, ?_⟩
  have e:=r.length
  simp only [Array.length_toList] at e
  omega
theorem Inv.tuple (I:Inv X pins σ H s) (h:SqT X.K H a xs):∃ its:List Value,Vals xs its /\ IsTup s.heap a its.toArray /\ xs.length <= sizeLine:=by
 rcases h with h | ⟨o,its,n,hk,hc,hs,hz,r⟩
 ·obtain ⟨z,its,r,p⟩:=h.ok I.hok
  exact ⟨its,r,p,z⟩
 ·refine ⟨its.toList,r,⟨o,I.kIn a o hk,hc,n,by simpa using hs⟩, ?_⟩
  have e:=r.length
  simp only [Array.length_toList] at e
  omega
theorem Inv.list_inj (I:Inv X pins σ H s) (h:SqL X.K H a xs) (h':SqL X.K H a ys):xs = ys:=by
 obtain ⟨its,r,⟨o,n,e,_,_,d⟩,_⟩:=I.list h
 obtain ⟨its',r',⟨o',n',e',_,_,d'⟩,_⟩:=I.list h'
 rw [e] at e';cases e'
 rw [d] at d'
 injection d' with d1 _
 have:its = its':=by simpa using congrArg Array.toList d1
 subst this
 exact r.inj r'
theorem Inv.tuple_inj (I:Inv X pins σ H s) (h:SqT X.K H a xs) (h':SqT X.K H a ys):xs = ys:=by
 obtain ⟨its,r,⟨o,e,_,n,d⟩,_⟩:=I.tuple h
 obtain ⟨its',r',⟨o',e',_,n',d'⟩,_⟩:=I.tuple h'
 rw [e] at e';cases e'
 rw [d] at d'
 injection d' with d1 _
 have:its = its':=by simpa using congrArg Array.toList d1
 subst this
 exact r.inj r'
end
noncomputable abbrev Cx.wish (X:Cx) (E:Value -> Shared -> Prop):Cx := { X with xe:=E }
noncomputable abbrev Cx.nox (X:Cx):Cx:=X.wish fun _ _=>False
theorem Cx.Ok.wish {X:Cx} (ok:X.Ok) (E:Value -> Shared -> Prop):(X.wish E).Ok :=
 ⟨ok.mod,ok.kind,ok.glob,ok.blt,ok.above,ok.inj,ok.has,ok.cab,ok.hd,ok.frames,ok.stk,ok.exf,ok.bs,ok.bsz,ok.noex,ok.exfs,ok.funs,ok.frf⟩
theorem Cx.Ok.unwish {X:Cx} {E:Value -> Shared -> Prop} (ok:(X.wish E).Ok):X.Ok :=
 ⟨ok.mod,ok.kind,ok.glob,ok.blt,ok.above,ok.inj,ok.has,ok.cab,ok.hd,ok.frames,ok.stk,ok.exf,ok.bs,ok.bsz,ok.noex,ok.exfs,ok.funs,ok.frf⟩
section
variable {X:Cx} {pins:List (Addr × Obj)} {σ:St} {H:Hp} {s:Shared} {E:Value -> Shared -> Prop}
theorem Inv.wish (I:Inv X pins σ H s) (E:Value -> Shared -> Prop):Inv (X.wish E) pins σ H s:=⟨I.ok.wish E,I.os,I.bare,I.base,I.loc,I.cell,I.free,I.freeC,I.pin,I.hok,I.len⟩
theorem Inv.unwish (I:Inv (X.wish E) pins σ H s):Inv X pins σ H s:=⟨I.ok.unwish,I.os,I.bare,I.base,I.loc,I.cell,I.free,I.freeC,I.pin,I.hok,I.len⟩
theorem SP.unwish {D:bB} {f:Flow} {s':Shared} (h:SP (X.wish E) pins D f s'):SP X pins D f s':=by
 cases f with
 | next=>obtain ⟨σ',H',I,q⟩:=h;exact ⟨σ',H',I.unwish,q⟩
 | brk=>obtain ⟨σ',H',I,q⟩:=h;exact ⟨σ',H',I.unwish,q⟩
 | cont=>obtain ⟨σ',H',I,q⟩:=h;exact ⟨σ',H',I.unwish,q⟩
 | ret u=>obtain ⟨v, σ',H',I,r,q⟩:=h;exact ⟨v, σ',H',I.unwish,r,q⟩
theorem PSs.nox {st:List Stmt} {t:TS} (h:PSs X.nox st t):PSs X st t:=fun pins s σ H D I hw =>
 wpAny_mono (h pins s σ H D (I.wish _) hw) (fun _ _ q=>q.unwish) fun _ _ z=>False.elim z
end
section
variable {X:Cx} {st:Stmt} {rest:List Stmt} {t u:TS} {e:Expr} {te:TE} {pos:Pos}
noncomputable def pH:TS:=fun D σ H=>D.nx σ H
noncomputable def zt (t u:TS):TS:=fun D σ H=>t { D with nx:=u D } σ H
theorem xr:PSs X [] pH:=fun _ _ σ H _ I h=>wpAny_execs_nil ⟨σ,H,I,h⟩
theorem ua (h1:PS X st t) (h2:PSs X rest u):PSs X (st :: rest) (zt t u):=by
 intro pins s σ H D I h
 refine wpAny_execs_cons (thn (h1 pins s σ H { D with nx:=u D } I h) fun f s1 q => ?_)
 cases f with
 | next =>
   obtain ⟨σ',H',I',q⟩:=q
   exact h2 pins s1 σ' H' D I' q
 | ret v=>exact q
 | brk=>exact q
 | cont=>exact q
noncomputable def qW:TS:=fun D σ H=>D.bk σ H
noncomputable def wl:TS:=fun D σ H=>D.ct σ H
theorem xt:PS X (.Pass pos) pH:=fun _ _ σ H _ I h=>wpAny_Pass ⟨σ,H,I,h⟩
theorem ub:PS X (.Break pos) qW:=fun _ _ σ H _ I h=>wpAny_Break ⟨σ,H,I,h⟩
theorem nG:PS X (.Continue pos) wl:=fun _ _ σ H _ I h=>wpAny_Continue ⟨σ,H,I,h⟩
theorem Inv.quiet {pins:List (Addr × Obj)} {σ:St} {H:Hp} {s:Shared} (I:Inv X pins σ H s):interactive X.env = false:=by simp [interactive,I.ok.kind]
noncomputable def wm (te:TE):TS:=fun D σ H=>te σ H fun _ H1=>D.nx σ H1
theorem xu (he:PE X e te) (hs:swapsWith e none pos.line X.env = pure false:=by rfl):PS X (.Expr e pos) (wm te):=by
 intro pins s σ H D I h
 exact wpAny_Expr_any (thn (he pins s σ H _ I h) fun v s1 ⟨x,H1,I1,r1,q1⟩=>⟨σ,H1,I1,q1⟩) I.quiet hs
noncomputable def zu (te:TE):TS:=fun D σ H=>te σ H D.rt
theorem zv (he:PE X e te):PS X (.Return (some e) pos) (zu te):=by
 intro pins s σ H D I h
 exact wpAny_Return_some (thn (he pins s σ H _ I h) fun v s1 ⟨x,H1,I1,r1,q1⟩=>⟨x, σ,H1,I1,r1,q1⟩)
noncomputable def zw (c:TT) (t u:TS):TS:=fun D σ H=>c σ H fun b H1=>if b = true then t D σ H1 else u D σ H1
theorem AZ {c:Expr} {a b:List Stmt} {tc:TT} (hc:PT X c tc) (ha:PSs X a t) (hb:PSs X b u):PS X (.If c a b pos) (zw tc t u):=by
 intro pins s σ H D I h
 refine wpAny_If (thn (hc pins s σ H _ I h) fun d s1 ⟨H1,I1,q1⟩ => ?_)
 cases d with
 | true=>exact ha pins s1 σ H1 D I1 q1
 | false=>exact hb pins s1 σ H1 D I1 q1
end
noncomputable abbrev TG:=V -> St -> Hp -> (St -> Hp -> Prop) -> Prop
noncomputable abbrev TGs:=List V -> St -> Hp -> (St -> Hp -> Prop) -> Prop
noncomputable def PG (X:Cx) (target:Expr) (t:TG):Prop :=
 ∀ (pins:List (Addr × Obj)) (s:Shared) (σ:St) (H:Hp) (v:V) (u:Value) (Q:St -> Hp -> Prop),Inv X pins σ H s -> RelV v u -> t v σ H Q ->
  wpAny (model X.prog X.w) X.A (assign target X.env u) (fun _ s' => ∃ σ' H',Inv X pins σ' H' s' /\ Q σ' H') X.xe s
noncomputable def PGs (X:Cx) (ts:List Expr) (t:TGs):Prop :=
 ∀ (pins:List (Addr × Obj)) (s:Shared) (σ:St) (H:Hp) (vs:List V) (us:List Value) (Q:St -> Hp -> Prop),Inv X pins σ H s -> Vals vs us -> t vs σ H Q ->
  wpAny (model X.prog X.w) X.A (assignInOrder ((assignEach ts X.env).map (·.2)) us) (fun _ s' => ∃ σ' H',Inv X pins σ' H' s' /\ Q σ' H') X.xe s
noncomputable abbrev pI:=V -> V -> V -> Hp -> (Hp -> Prop) -> Prop
noncomputable def PSet (X:Cx) (t:pI):Prop :=
 ∀ (pins:List (Addr × Obj)) (s:Shared) (σ:St) (H:Hp) (o i v:V) (ov iv u:Value) (Q:Hp -> Prop),Inv X pins σ H s -> RelV o ov -> RelV i iv -> RelV v u -> t o i v H Q ->
  wpAny (model X.prog X.w) X.A (setItem ov iv u) (fun _ s' => ∃ H',Inv X pins σ H' s' /\ Q H') X.xe s
section
variable {X:Cx} {pos:Pos}
noncomputable def i3 (i:Nat):TG:=fun v σ H Q=>Q (σ.set i (some v)) H
theorem nW {i:Nat} {x:Str} (hN:X.N.Nodup) (hi:X.N[i]? = some x) (hx:Loc X.env.scope x) (hf:X.fn x = true ∨ X.env.scope.names.lookup x = some .local:=by first | exact .inl rfl | exact .inr rfl | assumption):PG X (.Name x pos) (i3 i):=by
 intro pins s σ H v u Q I r h
 exact wpAny_assign_Name (gF I hN hi hx r (fun s' I'=>⟨_,H,I',h⟩) hf)
noncomputable def BO:TGs:=fun vs σ H Q=>vs = [] /\ Q σ H
noncomputable def B0 (t:TG) (u:TGs):TGs:=fun vs σ H Q => ∃ v r,vs = v :: r /\ t v σ H fun σ' H'=>u r σ' H' Q
theorem xv:PGs X [] BO:=by
 intro pins s σ H vs us Q I r h
 obtain ⟨e,h⟩:=h
 subst e
 cases r
 exact assignInOrder_nil ⟨σ,H,I,h⟩
theorem uc {e:Expr} {es:List Expr} {t:TG} {u:TGs} (h1:PG X e t) (h2:PGs X es u)
 (hs:(assignEach (e :: es) X.env).map (·.2) = assign e X.env :: (assignEach es X.env).map (·.2):=by rfl):PGs X (e :: es) (B0 t u):=by
 intro pins s σ H vs us Q I r h
 obtain ⟨v,vr,e1,h⟩:=h
 subst e1
 cases r with
 | cons r rr =>
   rw [hs]
   refine assignInOrder_cons (thn (h1 pins s σ H _ _ _ I r h) fun _ s1 ⟨σ1,H1,I1,q1⟩ => ?_)
   exact h2 pins s1 σ1 H1 _ _ Q I1 rr q1
noncomputable def BP (K:Frag) (n:Nat) (t:TGs):TG:=fun v σ H Q => ∃ a xs,v = .ref a /\ SqT K H a xs /\ xs.length = n /\ t xs σ H Q
theorem zx {es:List Expr} {k:Nat} {t:TGs} {n:Nat} (hc:X.calm = true) (h:PGs X es t)
 (hn:(assignEach es X.env).length = n:=by rfl) (hst:(assignEach es X.env).findIdx? (·.1) = none:=by rfl):PG X (.Tuple es k pos) (BP X.K n t):=by
 intro pins s σ H v u Q I r hw
 obtain ⟨a,xs,e1,hq,hl,hw⟩:=hw
 subst e1
 cases r
 obtain ⟨its,rv,ht,hz⟩:=I.tuple hq
 refine assign_Tuple_tuple (I.ok.hd hc) ht (by simp [hn, <- hl,rv.length]) hst fun h' hx => ?_
 have I1:Inv X pins σ H { s with heap:=h' }:=I.kept (t':=s.toks) fun b o e=>hx b o (Nat.ne_of_lt (Heap.lt_size e)) e
 exact h pins _ σ H xs _ Q I1 (by simpa using rv) hw
noncomputable def BQ (to ti:TE) (t:pI):TG:=fun v σ H Q=>to σ H fun o H1=>ti σ H1 fun i H2=>t o i v H2 fun H3=>Q σ H3
theorem zy {o i:Expr} {to ti:TE} {t:pI} (ho:PE X o to) (hi:PE X i ti) (hs:PSet X t)
 (ha:∀ v,assign (.Subscript o i pos) X.env v = (do
   let ov <- holding [v] (eval o X.env)
   let iv <- holding [v,ov] (eval i X.env)
   standAt pos
   holding [v,ov,iv] (setItem ov iv v)
   release [v,ov,iv] []):=by intro _;rfl):PG X (.Subscript o i pos) (BQ to ti t):=by
 intro pins s σ H v u Q I r h
 rw [ha]
 refine wpAny_bind (wpAny_holding (thn (ho pins s σ H _ I h) fun ov s1 ⟨x,H1,I1,r1,q1⟩ => ?_))
 refine wpAny_bind (wpAny_holding (thn (hi pins s1 σ H1 _ I1 q1) fun iv s2 ⟨y,H2,I2,r2,q2⟩ => ?_))
 refine wpAny_bind (wpAny_standAt (wpAny_bind (wpAny_holding (thn (hs pins s2 σ H2 x y v ov iv u _ I2 r1 r2 r q2) fun _ s3 ⟨H3,I3,q3⟩ => ?_))))
 exact wpAny_release ⟨σ,H3,I3,q3⟩
noncomputable def pJ (te:TE) (g:TG):TS:=fun D σ H=>te σ H fun x H1=>g x σ H1 D.nx
theorem qX {tg e:Expr} {te:TE} {g:TG} (he:PE X e te) (hg:PG X tg g) (hs:swapsWithSole [tg] e pos.line X.env = pure false:=by rfl) (hw:swappedStores [tg] e X.env = pure none:=by rfl)
 (h1:(assignEach [tg] X.env).map (·.2) = [assign tg X.env]:=by rfl):PS X (.Assign [tg] e pos) (pJ te g):=by
 intro pins s σ H D I h
 refine wpAny_Assign_stores (thn (he pins s σ H _ I h) fun v s1 ⟨x,H1,I1,r1,q1⟩ => ?_) hs hw
 rw [h1]
 exact thn (hg pins s1 σ H1 x v _ I1 r1 q1) fun _ s2 q=>q
noncomputable def zz (i j:Nat) (ta:TA):TS:=fun D σ H=>ta σ H fun vs H1 => ∃ v w,vs = [v,w] /\ D.nx ((σ.set i (some v)).set j (some w)) H1
theorem zA {i j:Nat} {x y:Str} {a b:Expr} {ta:TA} {px py pt:Pos} {kt k2 pt2} (hc:X.calm = true) (hN:X.N.Nodup) (hi:X.N[i]? = some x) (hj:X.N[j]? = some y) (hij:i ≠ j)
 (hx:X.env.scope.names.lookup x = some .local) (hy:X.env.scope.names.lookup y = some .local) (ha:PA X [a,b] ta)
 (hw:swappedStores [.Tuple [.Name x px, .Name y py] kt pt] (.Tuple [a,b] k2 pt2) X.env = pure (some [x,y]))
 (hs:swapsWithSole [.Tuple [.Name x px, .Name y py] kt pt] (.Tuple [a,b] k2 pt2) pos.line X.env = pure false:=by rfl) :
 PS X (.Assign [.Tuple [.Name x px, .Name y py] kt pt] (.Tuple [a,b] k2 pt2) pos) (zz i j ta):=by
 intro pins s σ H D I h
 rw [exec_Assign_arm]
 refine wpAny_bind (wpAny_standAt ?_)
 rw [hs]
 refine wpAny_bind (wpAny_pure ?_)
 rw [if_neg (by decide)]
 refine wpAny_bind (Tuple_ (thn (ha _ pins s σ H _ I h) fun us s1 ⟨vs,H1,I1,r1,q1⟩ => ?_))
 obtain ⟨v,w,e1,q1⟩:=q1
 subst e1
 obtain ⟨u1,u2,rfl,rv,rw'⟩:∃ u1 u2,us = [u1,u2] /\ RelV v u1 /\ RelV w u2:=by
  cases r1 with
  | cons p q =>
    cases q with
    | cons p' q' =>
      cases q'
      exact ⟨_,_,rfl,p,p'⟩
 refine wpAny_newObj_type ?_ (by show 2 <= sizeLine;decide)
 have I2:Inv X pins σ H1 { s1 with heap:=s1.heap.push { cls := .type "tuple",data := .seq [u1,u2].toArray } }:=I1.kept (t':=s1.toks) fun b o e=>Heap.get?_push_of_some _ e
 rw [hw]
 refine wpAny_bind (wpAny_pure ?_)
 show wpAny (model X.prog X.w) X.A (do rule "assign.swapped-stores";let items <- unpackItems (.ref s1.heap.objs.size) 2 none;assignInOrder [fun v=>bindName X.env y v,fun v=>bindName X.env x v] items.reverse;pure Flow.next) _ _ _
 refine wpAny_bind (wpAny_rule (wpAny_bind (unpackItems_tuple (items := #[u1,u2]) (I.ok.hd hc) (IsTup.new s1.heap _) fun h' hx' => ?_)))
 have I3:=I2.kept (h':=h') (t':=s1.toks) fun b o e=>hx' b o (Nat.ne_of_lt (Heap.lt_size e)) e
 show wpAny _ _ (assignInOrder [fun v=>bindName X.env y v,fun v=>bindName X.env x v] [u2,u1] >>= fun _=>pure Flow.next) _ _ _
 refine wpAny_bind (assignInOrder_cons (wpAny_bindName (gF I3 hN hj (.inl hy) rw' (fun s2 I4 => ?_) (.inr hy))))
 refine assignInOrder_cons (wpAny_bindName (gF I4 hN hi (.inl hx) rv (fun s3 I5=>assignInOrder_nil (wpAny_pure ?_)) (.inr hx)))
 rw [List.set_comm _ _ (Ne.symm hij)] at I5
 exact ⟨_,H1,I5,q1⟩
end
section
variable {X:Cx} {pos:Pos}
noncomputable def qY (c:TT) (tb:TS):TS:=fun D σ H => ∃ W:Nat -> St -> Hp -> Prop,(∃ m,W m σ H) /\ ∀ m σ H,W m σ H ->
 c σ H fun b H1=>if b = true then ∃ N:St -> Hp -> Prop,(∀ σ' H',N σ' H' -> ∃ m',m' < m /\ W m' σ' H') /\ tb { D with nx:=N,ct:=N,bk:=D.nx } σ H1 else D.nx σ H1
theorem ud {c:Expr} {body:List Stmt} {tc:TT} {tb:TS} (hp:PassesOwn (model X.prog X.w) X.A X.env X.xe) (hc:PT X c tc) (hb:PSs X body tb):PS X (.While c body [] pos) (qY tc tb):=by
 intro pins s σ H D I h
 obtain ⟨W,⟨m0,w0⟩,turn⟩:=h
 refine wpAny_While (codeAny_whileLoop (fun n s' => ∃ σ' H',Inv X pins σ' H' s' /\ W n σ' H') ?_ m0 ⟨σ,H,I,w0⟩)
 rintro n s1 ⟨σ1,H1,I1,w1⟩
 refine wpAny_passesOwn hp (thn (hc pins s1 σ1 H1 _ I1 (turn n σ1 H1 w1)) fun b s2 ⟨H2,I2,q2⟩ => ?_)
 cases b with
 | true =>
   obtain ⟨N,hN,q2⟩:=q2
   rw [if_pos rfl]
   refine wpAny_passesOwn hp (thn (hb pins s2 σ1 H2 _ I2 q2) fun f s3 q3 => ?_)
   cases f with
   | next =>
     obtain ⟨σ3,H3,I3,n3⟩:=q3
     obtain ⟨m',hm,w3⟩:=hN σ3 H3 n3
     exact ⟨m',hm, σ3,H3,I3,w3⟩
   | cont =>
     obtain ⟨σ3,H3,I3,n3⟩:=q3
     obtain ⟨m',hm,w3⟩:=hN σ3 H3 n3
     exact ⟨m',hm, σ3,H3,I3,w3⟩
   | brk=>exact q3
   | ret v=>exact q3
 | false =>
   rw [if_neg Bool.false_ne_true]
   exact wpAny_execs_nil ⟨σ1,H2,I2,q2⟩
end
structure It where
 go:Nat -> Hp -> Prop
 yld:Nat -> Hp -> V -> Hp -> Prop
 stop:Nat -> Hp -> Prop
noncomputable def bW (X:Cx) (pins:List (Addr × Obj)) (H:Hp) (b:Addr):Prop :=
 H b = none /\ b ≠ X.env.locals /\ b ∉ X.fs /\ (b ∈ X.ex ∨ X.s₀.heap.objs.size <= b) /\ (∀ x c,X.env.cells.lookup x = some c -> c ≠ b) /\ ∀ p ∈ X.pn ++ pins,p.1 ≠ b
theorem Inv.fpOk {X:Cx} {pins:List (Addr × Obj)} {σ:St} {H H':Hp} {s:Shared} {b:Addr} (I:Inv X pins σ H s) (hb:s.heap.objs.size <= b) (hn:H' b = none):bW X pins H' b:=by
 refine ⟨hn,Nat.ne_of_gt (Nat.lt_of_lt_of_le I.lt hb),I.nofs hb, .inr (Nat.le_trans I.sz hb),fun x c e z => ?_,fun p hp z => ?_⟩
 ·obtain ⟨v,q⟩:=I.cell x c e
  exact absurd (Nat.lt_of_lt_of_le q.lt (by rw [z];exact hb)) (Nat.lt_irrefl _)
 ·exact absurd (Nat.lt_of_lt_of_le (Heap.lt_size (I.pin p hp).1) (by rw [z];exact hb)) (Nat.lt_irrefl _)
structure fi (P:Program) (w:World) (K:Frag) (tg:Expr) (J:It) (fp:List Addr) (it:Addr) (tn:Nat -> Heap -> Prop):Prop where
 mem:it ∈ fp
 obj:∀ i h,tn i h -> ∀ b ∈ fp, ∃ o,h.get? b = some o /\ ∀ v,o.data ≠ .cell v
 keep:∀ i h h',tn i h -> (∀ b ∈ fp, ∀ o,h.get? b = some o -> h'.get? b = some o) -> tn i h'
 item:∀ (X:Cx),X.prog = P -> X.w = w -> X.K = K -> X.calm = true -> ∀ (i:Nat) (pins:List (Addr × Obj)) (s:Shared) (σ:St) (H:Hp) (E:Value -> Shared -> Prop),Inv X pins σ H s -> (∀ b ∈ fp,bW X pins H b) -> tn i s.heap -> J.go i H ->
  wpAny (model P w) X.A (pyNext (.ref it)) (fun r s1 => ∃ u,r = some u /\
   wpAny (model P w) X.A (letOwnedTupleGo tg (.ref it) u) (fun _ s2 => ∃ x H',Inv X pins σ H' s2 /\ RelV x u /\ J.yld i H x H' /\ tn (i + 1) s2.heap /\ ∀ b ∈ fp,H' b = none) E s1) E s
 done:∀ (X:Cx),X.prog = P -> X.w = w -> X.K = K -> X.calm = true -> ∀ (i:Nat) (pins:List (Addr × Obj)) (s:Shared) (σ:St) (H:Hp) (E:Value -> Shared -> Prop),Inv X pins σ H s -> (∀ b ∈ fp,bW X pins H b) -> tn i s.heap -> J.stop i H ->
  wpAny (model P w) X.A (pyNext (.ref it)) (fun r s1=>r = none /\ Inv X pins σ H s1) E s
 self:∀ (A:Around) (i:Nat) (s:Shared) (Q:Value -> Shared -> Prop) (E:Value -> Shared -> Prop),tn i s.heap -> Q (.ref it) s -> wpAny (model P w) A (pyIter (.ref it)) Q E s
noncomputable abbrev TI:=St -> Hp -> (It -> Hp -> Prop) -> Prop
noncomputable def PIE (X:Cx) (pins:List (Addr × Obj)) (σ:St) (tg:Expr) (R:It -> Hp -> Prop) (itv:Value) (s2:Shared):Prop :=
 ∃ (it:Addr) (fp:List Addr) (tn:Nat -> Heap -> Prop) (J:It) (H':Hp),itv = .ref it /\ Inv X pins σ H' s2 /\ fi X.prog X.w X.K tg J fp it tn /\ tn 0 s2.heap /\ (∀ b ∈ fp,bW X pins H' b) /\ R J H'
noncomputable def PI (X:Cx) (tg iter:Expr) (wi:TI):Prop :=
 ∀ (pins:List (Addr × Obj)) (s:Shared) (σ:St) (H:Hp) (R:It -> Hp -> Prop),Inv X pins σ H s -> wi σ H R ->
  wpAny (model X.prog X.w) X.A (eval iter X.env) (fun v s1=>wpAny (model X.prog X.w) X.A (pyIter v) (PIE X pins σ tg R) X.xe s1) X.xe s
theorem ko {M:Model} {A:Around} {E:Value -> Shared -> Prop} {s:Shared} {tg:Expr} {it:Addr} {u:Value} {o:Obj} {n:String} {vs:Array Value} {Q:Unit -> Shared -> Prop} (ho:s.heap.get? it = some o) (hc:o.cls = .type n) (hd:o.data = .fields vs)
 (hn : ["enumerate", "zip", "dict_itemiterator", "dict_reverseitemiterator", "odict_iterator", "itertools.zip_longest", "itertools.pairwise"].contains n = false) (hQ:Q () s):wpAny M A (letOwnedTupleGo tg (.ref it) u) Q E s:=by
 unfold letOwnedTupleGo
 cases tg <;> first
  | exact wpAny_pure hQ
  | (cases u <;> first
      | exact wpAny_pure hQ
      | (refine wpAny_bind (wpAny_load ho ?_)
         rw [hc,hd]
         show wpAny M A (if (["enumerate", "zip", "dict_itemiterator", "dict_reverseitemiterator", "odict_iterator", "itertools.zip_longest", "itertools.pairwise"].contains n && vs[0]? == some (rawInt _)) = true then _ else _) Q E s
         rw [if_neg (by intro h;rw [hn,Bool.false_and] at h;cases h)]
         exact wpAny_pure hQ))
noncomputable def Itl (K:Frag) (a:Addr):It :=
 ⟨fun i H => ∃ xs x,SqL K H a xs /\ xs[i]? = some x,fun i H x H'=>H' = H /\ ∀ xs,SqL K H a xs -> xs[i]? = some x,fun i H => ∃ xs,SqL K H a xs /\ xs.length <= i⟩
noncomputable def Itt (K:Frag) (a:Addr):It :=
 ⟨fun i H => ∃ xs x,SqT K H a xs /\ xs[i]? = some x,fun i H x H'=>H' = H /\ ∀ xs,SqT K H a xs -> xs[i]? = some x,fun i H => ∃ xs,SqT K H a xs /\ xs.length <= i⟩
noncomputable def Itr (lo:Int) (n:Nat):It:=⟨fun i _=>i < n,fun i H x H'=>H' = H /\ x = .int (lo + i),fun i _=>n <= i⟩
theorem qZ {P:Program} {w:World} {K:Frag} {tg:Expr} (a it:Addr):fi P w K tg (Itl K a) [it] it (fun i h=>h.IsListIter it a i) where
 mem:=by simp
 obj:=fun i h st b hb=>by
  have e:b = it:=by simpa using hb
  subst e
  obtain ⟨o,e,c,d⟩:=st
  exact ⟨o,e,fun v z=>by rw [d] at z;cases z⟩
 keep:=fun i h h' st k=>st.at fun o e=>k it (by simp) o e
 item:=by
  intro X hP hw hK hc i pins s σ H E I hf st hg
  subst hP hw hK
  obtain ⟨xs,x,hq,hx⟩:=hg
  obtain ⟨its,rv,p,hz⟩:=I.list hq
  obtain ⟨u,hu,ru⟩:=rv.get hx
  obtain ⟨f0,f1,f2,f3,f4,f5⟩:=hf it (by simp)
  refine wpAny_pyNext_list_item st p.isList (x:=u) (by simpa using hu) fun h' st' sb => ?_
  have I1:Inv X pins σ H { s with heap:=h' }:=I.turned (t':=s.toks) (fun b o hb e=>(sb.2 b hb).trans e) f0 f1 f3 f4 f5
  obtain ⟨o,e,c,d⟩:=id st'
  exact ⟨u,rfl,ko (s := { s with heap:=h' }) e c d (by decide) ⟨x,H,I1,ru,⟨rfl,fun ys hy=>by rw [I.list_inj hy hq];exact hx⟩,st',fun b hb=>(hf b hb).1⟩⟩
 done:=by
  intro X hP hw hK hc i pins s σ H E I hf st hg
  subst hP hw hK
  obtain ⟨xs,hq,hx⟩:=hg
  obtain ⟨its,rv,p,hz⟩:=I.list hq
  obtain ⟨f0,f1,f2,f3,f4,f5⟩:=hf it (by simp)
  have hl:=rv.length
  exact wpAny_pyNext_list_end (I.ok.hd hc) st p.isList (by simp;omega) fun h' eb=>⟨rfl,I.turned (t':=s.toks) (fun b o hb e=>eb b o hb e) f0 f1 f3 f4 f5⟩
 self:=fun _ _ _ _ _ st h=>wpAny_pyIter_listiter st h
theorem pK {P:Program} {w:World} {K:Frag} {tg:Expr} (a it:Addr):fi P w K tg (Itt K a) [it] it (fun i h=>h.IsTupleIter it a i) where
 mem:=by simp
 obj:=fun i h st b hb=>by
  have e:b = it:=by simpa using hb
  subst e
  obtain ⟨o,e,c,d⟩:=st
  exact ⟨o,e,fun v z=>by rw [d] at z;cases z⟩
 keep:=fun i h h' st k=>st.at fun o e=>k it (by simp) o e
 item:=by
  intro X hP hw hK hc i pins s σ H E I hf st hg
  subst hP hw hK
  obtain ⟨xs,x,hq,hx⟩:=hg
  obtain ⟨its,rv,p,hz⟩:=I.tuple hq
  obtain ⟨u,hu,ru⟩:=rv.get hx
  obtain ⟨f0,f1,f2,f3,f4,f5⟩:=hf it (by simp)
  refine wpAny_pyNext_tuple_item st (show s.heap.IsTuple a its.toArray from p) (x:=u) (by simpa using hu) fun h' st' sb => ?_
  have I1:Inv X pins σ H { s with heap:=h' }:=I.turned (t':=s.toks) (fun b o hb e=>(sb.2 b hb).trans e) f0 f1 f3 f4 f5
  obtain ⟨o,e,c,d⟩:=id st'
  exact ⟨u,rfl,ko (s := { s with heap:=h' }) e c d (by decide) ⟨x,H,I1,ru,⟨rfl,fun ys hy=>by rw [I.tuple_inj hy hq];exact hx⟩,st',fun b hb=>(hf b hb).1⟩⟩
 done:=by
  intro X hP hw hK hc i pins s σ H E I hf st hg
  subst hP hw hK
  obtain ⟨xs,hq,hx⟩:=hg
  obtain ⟨its,rv,p,hz⟩:=I.tuple hq
  obtain ⟨f0,f1,f2,f3,f4,f5⟩:=hf it (by simp)
  have hl:=rv.length
  exact wpAny_pyNext_tuple_end (I.ok.hd hc) st (show s.heap.IsTuple a its.toArray from p) (by simp;omega) fun h' eb=>⟨rfl,I.turned (t':=s.toks) (fun b o hb e=>eb b o hb e) f0 f1 f3 f4 f5⟩
 self:=fun _ _ _ _ _ st h=>wpAny_pyIter_tupleiter st h
theorem pL {P:Program} {w:World} {K:Frag} {tg:Expr} (it:Addr) (lo:Int) (n:Nat):fi P w K tg (Itr lo n) [it] it (fun i h=>IsRangeIter h it (lo + (i:Nat) * 1) ((n:Int) - (i:Nat)) 1) where
 mem:=by simp
 obj:=fun i h st b hb=>by
  have e:b = it:=by simpa using hb
  subst e
  exact ⟨_,st,fun v z=>by
   have z':Data.fields _ = Data.cell v:=z
   cases z'⟩
 keep:=fun i h h' st k=>k it (by simp) _ st
 item:=by
  intro X hP hw hK hc i pins s σ H E I hf st hg
  subst hP hw hK
  obtain ⟨f0,f1,f2,f3,f4,f5⟩:=hf it (by simp)
  have W:=Walks.range (prog:=X.prog) (w:=X.w) (I.ok.hd hc) it lo 1 n
  refine W.item i s _ _ hg st fun v h' tk hv st' kk => ?_
  obtain ⟨t,rfl⟩:=hv
  have I1:Inv X pins σ H { s with heap:=h',toks:=tk }:=I.turned (fun b o hb e=>kk b o (by simpa using hb) e) f0 f1 f3 f4 f5
  refine ⟨_,rfl,ko (s := { s with heap:=h',toks:=tk }) (n := "range_iterator") st' rfl rfl (by decide) ⟨.int (lo + i),H,I1,⟨t, ?_⟩,⟨rfl,rfl⟩,st',fun b hb=>(hf b hb).1⟩⟩
  rw [Int.mul_one]
 done:=by
  intro X hP hw hK hc i pins s σ H E I hf st hg
  subst hP hw hK
  obtain ⟨f0,f1,f2,f3,f4,f5⟩:=hf it (by simp)
  exact wpAny_pyNext_range_end (I.ok.hd hc) st (by have:n <= i:=hg;omega) fun h' eb=>⟨rfl,I.turned (t':=s.toks) (fun b o hb e=>eb b o hb e) f0 f1 f3 f4 f5⟩
 self:=fun _ _ _ _ _ st h=>wpAny_pyIter_rangeiter st h
end
section
section
variable {X:Cx} {tg:Expr}
theorem ue {pins:List (Addr × Obj)} {σ:St} {H:Hp} {s:Shared} {R:It -> Hp -> Prop} {E:Value -> Shared -> Prop} {lo hi:Int} {t u v:Tok} {tk:Nat} (I:Inv X pins σ H s) (h1 : -(2 ^ 62) <= lo) (h2:lo < 2 ^ 62) (h3 : -(2 ^ 62) <= hi) (h4:hi < 2 ^ 62)
 (q:R (Itr lo (hi - lo).toNat) H):wpAny (model X.prog X.w) X.A (pyIter (.ref s.heap.objs.size)) (PIE X pins σ tg R) E { s with heap:=s.heap.push { cls := .type "range",data := .fields #[.int lo t, .int hi u, .int 1 v] },toks:=tk }:=by
 refine wpAny_pyIter_range (IsRange.new ..) (small_one h1 h2 h3 h4) ?_
 have I1:Inv X pins σ H { s with heap:=s.heap.push { cls := .type "range",data := .fields #[.int lo t, .int hi u, .int 1 v] },toks:=tk }:=I.kept fun b o e=>Heap.get?_push_of_some _ e
 refine ⟨(s.heap.push { cls := .type "range",data := .fields #[.int lo t, .int hi u, .int 1 v] }).objs.size,[(s.heap.push { cls := .type "range",data := .fields #[.int lo t, .int hi u, .int 1 v] }).objs.size],_,_,H,rfl,
  I1.kept (t':=tk) fun b o e=>Heap.get?_push_of_some _ e,pL _ lo (hi - lo).toNat, ?_,fun b hb => ?_,q⟩
 ·have e1:lo + ((0:Nat):Int) * 1 = lo:=by simp
  have e2:(((hi - lo).toNat:Nat):Int) - ((0:Nat):Int) = Builtin.Range.rangeSize lo hi 1:=by rw [rangeSize_one];split <;> omega
  show IsRangeIter _ _ (lo + ((0:Nat):Int) * 1) ((((hi - lo).toNat:Nat):Int) - ((0:Nat):Int)) 1
  rw [e1,e2]
  exact Heap.get?_push_size _ rfl
 ·have e:b = (s.heap.push { cls := .type "range",data := .fields #[.int lo t, .int hi u, .int 1 v] }).objs.size:=by simpa using hb
  subst e
  exact I1.fpOk (Nat.le_refl _) (I1.hok.fresh (Nat.le_refl _))
noncomputable def B1 (ta:TA):TI:=fun σ H R=>ta σ H fun vs H1 => ∃ j:Int,vs = [.int j] /\ -(2 ^ 62) <= j /\ j < 2 ^ 62 /\ R (Itr 0 j.toNat) H1
theorem r0 {a:Expr} {ta:TA} {p pos:Pos} (hg:Gl X "range") (hm:X.mg "range" = none) (ha:PA X [a] ta) (hs:starEach [a] X.env = [(false,eval a X.env)]:=by rfl):PI X tg (.Call (.Name "range" p) [a] [] pos) (B1 ta):=by
 intro pins s σ H R I h
 refine Call_ (dU I hg hm boot_range (PyProof.Rows.callWith_type1 (thn (ha pos pins s σ H _ I h) fun us s1 ⟨vs,H1,I1,r1,q1⟩ => ?_) hs rfl))
 obtain ⟨j,e,q1,q2,q⟩:=q1
 subst e
 cases r1 with
 | cons r rr =>
   cases rr
   obtain ⟨t,rfl⟩:=r
   exact call_range_1 (ue I1 (by omega) (by omega) q1 q2 (by simpa using q))
noncomputable def zB (wi:TI) (g:TG) (tb:TS):TS:=fun D σ H=>wi σ H fun J H1 => ∃ W:Nat -> Nat -> St -> Hp -> Prop,(∃ m,W 0 m σ H1) /\ ∀ i m σ H,W i m σ H ->
 (J.stop i H /\ D.nx σ H) ∨ (J.go i H /\ ∃ N:St -> Hp -> Prop,(∀ σ' H',N σ' H' -> ∃ m',m' < m /\ W (i + 1) m' σ' H') /\ ∀ x H',J.yld i H x H' -> g x σ H' fun σ2 H2=>tb { D with nx:=N,ct:=N,bk:=D.nx } σ2 H2)
noncomputable def i4 (fp:List Addr) (h:Heap):List (Addr × Obj):=fp.filterMap fun b=>(h.get? b).map fun o=>(b,o)
theorem cU {fp:List Addr} {h:Heap} {b:Addr} {o:Obj} (hb:b ∈ fp) (e:h.get? b = some o):(b,o) ∈ i4 fp h:=List.mem_filterMap.mpr ⟨b,hb,by rw [e];rfl⟩
theorem r6 {fp:List Addr} {h:Heap} {p:Addr × Obj} (hp:p ∈ i4 fp h):p.1 ∈ fp /\ h.get? p.1 = some p.2:=by
 obtain ⟨b,hb,e⟩:=List.mem_filterMap.mp hp
 cases q:h.get? b with
 | none=>rw [q] at e;cases e
 | some o =>
   rw [q] at e
   have e':(b,o) = p:=Option.some.inj e
   subst e'
   exact ⟨hb,q⟩
theorem Inv.pinned {pins:List (Addr × Obj)} {σ:St} {H:Hp} {s:Shared} {fp:List Addr} (I:Inv X pins σ H s) (hf:∀ b ∈ fp,bW X pins H b) (ho:∀ b ∈ fp, ∃ o,s.heap.get? b = some o /\ ∀ v,o.data ≠ .cell v):Inv X (pins ++ i4 fp s.heap) σ H s :=
 I.pins_of fun p hp=>(List.mem_append.mp hp).elim (fun z=>I.pin p (List.mem_append_right _ z)) fun z=>by
  obtain ⟨hb,e⟩:=r6 z
  obtain ⟨f0,f1,f2,_⟩:=hf p.1 hb
  obtain ⟨o,e',d⟩:=ho p.1 hb
  rw [e] at e';cases e'
  exact ⟨e,f0,f1,f2,d⟩
theorem Inv.unpinned {pins pl:List (Addr × Obj)} {σ:St} {H:Hp} {s:Shared} (I:Inv X (pins ++ pl) σ H s):Inv X pins σ H s:=I.pins_of fun p hp=>I.pin p (List.mem_append_right _ (List.mem_append_left _ hp))
theorem zC {iter:Expr} {body:List Stmt} {wi:TI} {g:TG} {tb:TS} {pos:Pos} (hp:PassesOwn (model X.prog X.w) X.A X.env X.xe) (hc:X.calm = true) (hi:PI X tg iter wi) (hg:PG X tg g) (hb:PSs X body tb)
 (hs:∀ x,foldedSetIterable iter X.env x = pure x:=by intro _;rfl):PS X (.For tg iter body [] pos) (zB wi g tb):=by
 intro pins s σ H D I h
 refine wpAny_For (thn (hi pins s σ H _ I h) fun v s1 h1=>thn h1 fun itv s2 h2 => ?_) hs
 obtain ⟨it,fp,tn,J,H2,e,I2,T,st2,f2,W,⟨m0,w0⟩,turn⟩:=h2
 subst e
 have stat:∀ {H':Hp},(∀ b ∈ fp,H' b = none) -> ∀ b ∈ fp,bW X pins H' b:=fun hn b hb=>⟨hn b hb,(f2 b hb).2⟩
 refine codeAny_forLoop_any (fun n s' => ∃ i σ' H',Inv X pins σ' H' s' /\ tn i s'.heap /\ (∀ b ∈ fp,H' b = none) /\ W i n σ' H') ?_ m0 ⟨0, σ,H2,I2,st2,fun b hb=>(f2 b hb).1,w0⟩
 rintro n s3 ⟨i, σ3,H3,I3,st3,fr3,w3⟩
 rcases turn i n σ3 H3 w3 with ⟨stop,qn⟩ | ⟨go,N,hN,step⟩
 ·refine wpAny_passesOwn hp (thn (T.done X rfl rfl rfl hc i pins s3 σ3 H3 X.xe I3 (stat fr3) st3 stop) fun r s4 ⟨hr,I4⟩ => ?_)
  subst hr
  exact wpAny_execs_nil ⟨σ3,H3,I4,qn⟩
 ·refine wpAny_passesOwn hp (thn (T.item X rfl rfl rfl hc i pins s3 σ3 H3 X.xe I3 (stat fr3) st3 go) fun r s4 ⟨u,hr,h4⟩ => ?_)
  subst hr
  refine wpAny_passesOwn hp (thn h4 fun _ s5 ⟨x,H5,I5,r5,y5,st5,fr5⟩ => ?_)
  have I5':=I5.pinned (stat fr5) (T.obj _ _ st5)
  refine wpAny_passesOwn hp (thn (hg _ s5 σ3 H5 x u _ I5' r5 (step x H5 y5)) fun _ s6 ⟨σ6,H6,I6,q6⟩ => ?_)
  refine wpAny_passesOwn hp (thn (hb _ s6 σ6 H6 _ I6 q6) fun f s7 q7 => ?_)
  have again:∀ {σ7:St} {H7:Hp},Inv X (pins ++ i4 fp s5.heap) σ7 H7 s7 -> N σ7 H7 -> ∃ m,m < n /\ ∃ i σ' H',Inv X pins σ' H' s7 /\ tn i s7.heap /\ (∀ b ∈ fp,H' b = none) /\ W i m σ' H':=fun {σ7 H7} I7 n7=>by
   obtain ⟨m',hm,w7⟩:=hN σ7 H7 n7
   refine ⟨m',hm,i + 1, σ7,H7,I7.unpinned,T.keep _ _ _ st5 fun b hb o e=>(I7.pin (b,o) (List.mem_append_right _ (List.mem_append_right _ (cU hb e)))).1,fun b hb => ?_,w7⟩
   obtain ⟨o,e,d⟩:=T.obj _ _ st5 b hb
   exact (I7.pin (b,o) (List.mem_append_right _ (List.mem_append_right _ (cU hb e)))).2.1
  cases f with
  | next=>obtain ⟨σ7,H7,I7,n7⟩:=q7;exact again I7 n7
  | cont=>obtain ⟨σ7,H7,I7,n7⟩:=q7;exact again I7 n7
  | brk=>obtain ⟨σ7,H7,I7,q7⟩:=q7;exact ⟨σ7,H7,I7.unpinned,q7⟩
  | ret v=>obtain ⟨x7, σ7,H7,I7,r7,q7⟩:=q7;exact ⟨x7, σ7,H7,I7.unpinned,r7,q7⟩
end
end
section
noncomputable abbrev R2:=V -> V -> Hp -> VK -> Prop
noncomputable def OpR (X:Cx) (f:Value -> Value -> Sem Value) (r:R2):Prop :=
 ∀ (pins:List (Addr × Obj)) (s:Shared) (σ:St) (H:Hp) (x y:V) (v u:Value) (Q:VK),Inv X pins σ H s -> RelV x v -> RelV y u -> r x y H Q ->
  wpAny (model X.prog X.w) X.A (f v u) (EP X pins σ Q) X.xe s
noncomputable def UnR (X:Cx) (f:Value -> Sem Value) (r:V -> Hp -> VK -> Prop):Prop :=
 ∀ (pins:List (Addr × Obj)) (s:Shared) (σ:St) (H:Hp) (x:V) (v:Value) (Q:VK),Inv X pins σ H s -> RelV x v -> r x H Q ->
  wpAny (model X.prog X.w) X.A (f v) (EP X pins σ Q) X.xe s
noncomputable def CallR (X:Cx) (f:Value) (r:List V -> Hp -> VK -> Prop):Prop :=
 ∀ (pins:List (Addr × Obj)) (s:Shared) (σ:St) (H:Hp) (xs:List V) (us:List Value) (Q:VK),Inv X pins σ H s -> Vals xs us -> r xs H Q ->
  wpAny (model X.prog X.w) X.A (call f us) (EP X pins σ Q) X.xe s
noncomputable def BR (X:Cx) (r:V -> Hp -> (Bool -> Hp -> Prop) -> Prop):Prop :=
 ∀ (pins:List (Addr × Obj)) (s:Shared) (σ:St) (H:Hp) (x:V) (v:Value) (Q:Bool -> Hp -> Prop),Inv X pins σ H s -> RelV x v -> r x H Q ->
  wpAny (model X.prog X.w) X.A (truthy v) (TP X pins σ Q) X.xe s
noncomputable def tOp (r:R2) (ta tb:TE):TE:=fun σ H Q=>ta σ H fun x H1=>tb σ H1 fun y H2=>r x y H2 Q
noncomputable def tUn (r:V -> Hp -> VK -> Prop) (ta:TE):TE:=fun σ H Q=>ta σ H fun x H1=>r x H1 Q
noncomputable def rI (C:Int -> Int -> Prop) (g:Int -> Int -> V):R2:=fun x y H Q => ∃ i j,x = .int i /\ y = .int j /\ C i j /\ Q (g i j) H
noncomputable def rI0 (g:Int -> Int -> V):R2:=fun x y H Q => ∃ i j,x = .int i /\ y = .int j /\ Q (g i j) H
noncomputable def rU (g:Int -> V):V -> Hp -> VK -> Prop:=fun x H Q => ∃ i,x = .int i /\ Q (g i) H
section
variable {X:Cx} {a b c:Expr} {ta tb tc:TE} {pos:Pos}
theorem uf (ha:PE X a ta) (hb:PE X b tb) {pins:List (Addr × Obj)} {s:Shared} {σ:St} {H:Hp} {R:V -> V -> Hp -> Prop} (I:Inv X pins σ H s)
 (h:ta σ H fun x H1=>tb σ H1 fun y H2=>R x y H2) {Q:Value -> Shared -> Prop} {f:Value -> Value -> Sem Value}
 (hf:∀ v u s2 x y H2,Inv X pins σ H2 s2 -> RelV x v -> RelV y u -> R x y H2 -> wpAny (model X.prog X.w) X.A (f v u) Q X.xe s2) :
 wpAny (model X.prog X.w) X.A (eval a X.env) (fun v s₁ => wpAny (model X.prog X.w) X.A (eval b X.env) (fun u s₂ => wpAny (model X.prog X.w) X.A (f v u) Q X.xe s₂) X.xe s₁) X.xe s:=by
 refine thn (ha pins s σ H _ I h) fun v s1 ⟨x,H1,I1,r1,q1⟩ => ?_
 refine thn (hb pins s1 σ H1 _ I1 q1) fun u s2 ⟨y,H2,I2,r2,q2⟩ => ?_
 exact hf v u s2 x y H2 I2 r1 r2 q2
theorem B2 {op:Operator} {r:R2} (ho:OpR X (binaryOp op) r) (ha:PE X a ta) (hb:PE X b tb):PE X (.BinOp a op b pos) (tOp r ta tb):=by
 intro pins s σ H Q I h
 exact wpAny_BinOp (uf ha hb I h fun v u s2 x y H2 I2 rx ry q=>ho pins s2 σ H2 x y v u Q I2 rx ry q)
theorem B3 {op:UnaryOp} {r:V -> Hp -> VK -> Prop} (ho:UnR X (unaryOp op) r) (ha:PE X a ta):PE X (.UnaryOp op a pos) (tUn r ta):=by
 intro pins s σ H Q I h
 exact UnaryOp_ (thn (ha pins s σ H _ I h) fun v s1 ⟨x,H1,I1,r1,q1⟩=>ho pins s1 σ H1 x v Q I1 r1 q1)
theorem opI {f:Value -> Value -> Sem Value} {C:Int -> Int -> Prop} {g:Int -> Int -> Int}
 (rule:∀ (i j:Int) (t u:Tok) (s:Shared) (Q:Value -> Shared -> Prop) (E:Value -> Shared -> Prop),C i j -> Q (.int (g i j) s.toks) { s with toks:=s.toks + 1 } -> wpAny (model X.prog X.w) X.A (f (.int i t) (.int j u)) Q E s) :
 OpR X f (rI C fun i j => .int (g i j)):=by
 intro pins s σ H x y v u Q I rx ry h
 obtain ⟨i,j,rfl,rfl,hc,q⟩:=h
 obtain ⟨t,rfl⟩:=rx
 obtain ⟨t',rfl⟩:=ry
 exact rule i j t t' s _ _ hc ⟨.int (g i j),H,I.tok _,⟨_,rfl⟩,q⟩
theorem zD {f:Value -> Value -> Sem Value} {g:Int -> Int -> Int}
 (rule:∀ (i j:Int) (t u:Tok) (s:Shared) (Q:Value -> Shared -> Prop) (E:Value -> Shared -> Prop),Q (.int (g i j) s.toks) { s with toks:=s.toks + 1 } -> wpAny (model X.prog X.w) X.A (f (.int i t) (.int j u)) Q E s) :
 OpR X f (rI0 fun i j => .int (g i j)):=by
 intro pins s σ H x y v u Q I rx ry h
 obtain ⟨i,j,rfl,rfl,q⟩:=h
 obtain ⟨t,rfl⟩:=rx
 obtain ⟨t',rfl⟩:=ry
 exact rule i j t t' s _ _ ⟨.int (g i j),H,I.tok _,⟨_,rfl⟩,q⟩
theorem ug {f:Value -> Value -> Sem Value} {g:Int -> Int -> Bool}
 (rule:∀ (i j:Int) (t u:Tok) (s:Shared) (Q:Value -> Shared -> Prop) (E:Value -> Shared -> Prop),Q (.bool (g i j)) s -> wpAny (model X.prog X.w) X.A (f (.int i t) (.int j u)) Q E s) :
 OpR X f (rI0 fun i j => .bl (g i j)):=by
 intro pins s σ H x y v u Q I rx ry h
 obtain ⟨i,j,rfl,rfl,q⟩:=h
 obtain ⟨t,rfl⟩:=rx
 obtain ⟨t',rfl⟩:=ry
 exact rule i j t t' s _ _ ⟨.bl (g i j),H,I,rfl,q⟩
noncomputable def BS (i j:Int):Prop := 0 <= j /\ j <= 1000000 /\ i.natAbs < 2 ^ 64
theorem op_add:OpR X (binaryOp .Add) (rI0 fun i j => .int (i + j)):=zD fun _ _ _ _ _ _ _ q=>add_int q
theorem zE:OpR X (binaryOp .Sub) (rI0 fun i j => .int (i - j)):=zD fun _ _ _ _ _ _ _ q=>sub_int q
theorem zF:OpR X (binaryOp .Mod) (rI (fun _ j => 0 < j) fun i j => .int (i % j)):=opI fun i j _ _ _ _ _ hc q=>by
 have h1:(0:Int) < j:=hc
 exact mod_int' (by omega) (by rw [Int.fmod_eq_emod_of_nonneg i (by omega)];exact q)
theorem zG:OpR X (binaryOp .Pow) (rI BS fun i j => .int (i ^ j.toNat)):=opI fun _ _ _ _ _ _ _ hc q=>pow_int_small hc.1 hc.2.1 hc.2.2 q
theorem unI {f:Value -> Sem Value} {g:Int -> Int}
 (rule:∀ (i:Int) (t:Tok) (s:Shared) (Q:Value -> Shared -> Prop) (E:Value -> Shared -> Prop),Q (.int (g i) s.toks) { s with toks:=s.toks + 1 } -> wpAny (model X.prog X.w) X.A (f (.int i t)) Q E s) :
 UnR X f (rU fun i => .int (g i)):=by
 intro pins s σ H x v Q I rx h
 obtain ⟨i,rfl,q⟩:=h
 obtain ⟨t,rfl⟩:=rx
 exact rule i t s _ _ ⟨.int (g i),H,I.tok _,⟨_,rfl⟩,q⟩
theorem zH:UnR X (unaryOp .USub) (rU fun i => .int (-i)):=unI fun _ _ _ _ _ q=>neg_int q
end
section
variable {X:Cx} {a b c:Expr} {ta tb tc:TE} {pos:Pos}
theorem B4:OpR X (compareOp .Lt) (rI0 fun i j => .bl (decide (i < j))):=ug fun _ _ _ _ _ _ _ q=>lt_int q
theorem B5:OpR X (compareOp .Gt) (rI0 fun i j => .bl (decide (j < i))):=ug fun _ _ _ _ _ _ _ q=>gt_int q
theorem B6:OpR X (compareOp .GtE) (rI0 fun i j => .bl (decide (j <= i))):=ug fun _ _ _ _ _ _ _ q=>ge_int q
theorem OpR.or {f:Value -> Value -> Sem Value} {r r':R2} (h:OpR X f r) (h':OpR X f r'):OpR X f (fun x y H Q=>r x y H Q ∨ r' x y H Q):=by
 intro pins s σ H x y v u Q I rx ry q
 rcases q with q | q
 ·exact h pins s σ H x y v u Q I rx ry q
 ·exact h' pins s σ H x y v u Q I rx ry q
theorem xw {op:CmpOp} {r:R2} (ho:OpR X (compareOp op) r) (ha:PE X a ta) (hb:PE X b tb) (hm:behindInMarks op b = false):PE X (.Compare a [op] [b] pos) (tOp r ta tb):=by
 intro pins s σ H Q I h
 exact wpAny_Compare1 (uf ha hb I h fun v u s2 x y H2 I2 rx ry q=>ho pins s2 σ H2 x y v u Q I2 rx ry q) hm
noncomputable def wn (t:TE):TT:=fun σ H Q=>t σ H fun x H' => ∃ k,x = .bl k /\ Q k H'
theorem xx {op:CmpOp} {r:R2} (ho:OpR X (compareOp op) r) (ha:PE X a ta) (hb:PE X b tb) (hm:behindInMarks op b = false):PT X (.Compare a [op] [b] pos) (wn (tOp r ta tb)):=by
 intro pins s σ H Q I h
 refine wpAny_isTrue_Compare1 (thn (ha pins s σ H _ I h) fun v s1 ⟨x,H1,I1,r1,q1⟩=>thn (hb pins s1 σ H1 _ I1 q1) fun u s2 ⟨y,H2,I2,r2,q2⟩ =>
  thn (ho pins s2 σ H2 x y v u _ I2 r1 r2 q2) fun c s3 ⟨z,H3,I3,r3,k,e,q3⟩ => ?_) hm
 subst e
 cases r3
 exact wpAny_truthy_bool ⟨H3,I3,q3⟩
noncomputable def uh (K:Frag) (x:V) (H:Hp) (k:Bool):Prop :=
 match x with
 | .non=>k = false
 | .bl b=>k = b
 | .int i=>k = (i != 0)
 | .str y=>y.length <= sizeLine /\ k = ((y.length:Int) != 0)
 | .byt y=>y.size <= sizeLine /\ k = ((y.size:Int) != 0)
 | .ref p=>(∃ xs,SqL K H p xs /\ k = !xs.isEmpty) ∨ (∃ xs,SqT K H p xs /\ k = !xs.isEmpty) ∨ ∃ kvs,H p = some (.dK kvs) /\ k = !kvs.isEmpty
 | _=>False
theorem pM {κ:Type} {kvs:List (κ × V)} {vs:List (κ × Value)} (r:KV kvs vs):(!vs.isEmpty) = !kvs.isEmpty:=by
 cases r <;> rfl
theorem i5 {xs:List V} {its:List Value} (r:Vals xs its):(!its.toArray.isEmpty) = !xs.isEmpty:=by
 cases r <;> simp
theorem fj:(sizeLine:Nat) < 2 ^ 63:=by rw [sizeLine_eq];decide
theorem zI:BR X (fun x H Q => ∃ k,uh X.K x H k /\ Q k H):=by
 intro pins s σ H x v Q I rx h
 obtain ⟨k,e,q⟩:=h
 have hl:=fj
 have hs:sizeLine = 16777216:=sizeLine_eq
 cases x with
 | non =>
   cases rx
   have e':k = false:=e
   subst e'
   exact truthy_none ⟨H,I,q⟩
 | bl b =>
   cases rx
   have e':k = b:=e
   subst e'
   exact wpAny_truthy_bool ⟨H,I,q⟩
 | int i =>
   obtain ⟨t,rfl⟩:=rx
   have e':k = (i != 0):=e
   subst e'
   exact PySem.P.truthy_int ⟨H,I,q⟩
 | str y =>
   obtain ⟨t,rfl⟩:=rx
   obtain ⟨hy,e'⟩:y.length <= sizeLine /\ k = ((y.length:Int) != 0):=e
   subst e'
   exact PySem.P.truthy_str (by omega) ⟨H,I.tok _,q⟩
 | byt y =>
   obtain ⟨t,rfl⟩:=rx
   obtain ⟨hy,e'⟩:y.size <= sizeLine /\ k = ((y.size:Int) != 0):=e
   subst e'
   exact PySem.W.truthy_bytes (by omega) ⟨H,I.tok _,q⟩
 | ref p =>
   cases rx
   have e':(∃ xs,SqL X.K H p xs /\ k = !xs.isEmpty) ∨ (∃ xs,SqT X.K H p xs /\ k = !xs.isEmpty) ∨ ∃ kvs,H p = some (.dK kvs) /\ k = !kvs.isEmpty:=e
   rcases e' with ⟨xs,hx,e'⟩ | ⟨xs,hx,e'⟩ | ⟨kvs,hx,e'⟩
   ·subst e'
    obtain ⟨its,r,pl,hz⟩:=I.list hx
    have hlen:=r.length
    exact wpAny_truthy_list pl.isList (by simp only [List.size_toArray];omega) ⟨H,I.tok _,by rw [i5 r];exact q⟩
   ·subst e'
    obtain ⟨its,r,pl,hz⟩:=I.tuple hx
    have hlen:=r.length
    exact truthy_tuple pl (by simp only [List.size_toArray];omega) ⟨H,I.tok _,by rw [i5 r];exact q⟩
   ·subst e'
    obtain ⟨hz,hS,vs,r,m⟩:kvs.length <= sizeLine /\ (p == sysModules) = false /\ ∃ vs,KV kvs vs /\ s.heap.DictOf (aG X.prog X.w) p vs:=I.hok p _ hx
    have hlen:kvs.length = vs.length:=Paired.length r
    exact wpAny_truthy_dict hS m (by omega) ⟨H,I.tok _,by rw [pM r];exact q⟩
 | _=>exact (show False from e).elim
theorem ui (ha:PE X a ta) (he:∀ whole,isTrue a X.env whole = (do let v <- whole;standAt a.pos;holding [v] (truthy v))) :
 PT X a (fun σ H Q=>ta σ H fun x H' => ∃ k,uh X.K x H' k /\ Q k H'):=by
 intro pins s σ H Q I h
 exact isTrue_plain (thn (ha pins s σ H _ I h) fun v s1 ⟨x,H1,I1,r1,q1⟩=>zI pins s1 σ H1 x v Q I1 r1 q1) (he _)
theorem pN:OpR X (binaryOp .Add) (fun x y H Q => ∃ i j,x = .str i /\ y = .str j /\ i.length + j.length <= sizeLine /\ Q (.str (i ++ j)) H):=by
 intro pins s σ H x y v u Q I rx ry h
 obtain ⟨i,j,rfl,rfl,hz,q⟩:=h
 obtain ⟨t,rfl⟩:=rx
 obtain ⟨t',rfl⟩:=ry
 exact add_str (fun t' tk=>⟨.str (i ++ j),H,I.tok _,⟨_,rfl⟩,q⟩) hz
theorem dD {x:V} {us:List Value} (r:Vals [x] us):∃ u,us = [u] /\ RelV x u:=by
 cases r with
 | cons r1 r2=>cases r2;exact ⟨_,rfl,r1⟩
theorem kr {x y:V} {us:List Value} (r:Vals [x,y] us):∃ u w',us = [u,w'] /\ RelV x u /\ RelV y w':=by
 cases r with
 | cons r1 r2 =>
   cases r2 with
   | cons r3 r4=>cases r4;exact ⟨_,_,rfl,r1,r3⟩
theorem uj:CallR X (.builtin "abs") (fun xs H Q => ∃ i,xs = [.int i] /\ Q (.int (if i < 0 then -i else i)) H):=by
 intro pins s σ H xs us Q I r h
 obtain ⟨i,rfl,q⟩:=h
 obtain ⟨u,rfl,t,rfl⟩:=dD r
 exact call_abs_int fun u tk=>⟨.int (if i < 0 then -i else i),H,I.tok _,⟨_,rfl⟩,q⟩
theorem r8 (hc:X.calm = true):CallR X (.builtin "min") (fun xs H Q => ∃ i j,xs = [.int i, .int j] /\ Q (.int (if j < i then j else i)) H):=by
 intro pins s σ H xs us Q I r h
 obtain ⟨i,j,rfl,q⟩:=h
 obtain ⟨u,w',rfl,⟨t,rfl⟩,⟨t',rfl⟩⟩:=kr r
 refine min_two_ints (I.ok.hd hc) fun h' tk k=>⟨_,H,I.kept k, ?_,q⟩
 by_cases hj:j < i
 ·rw [if_pos hj,if_pos hj];exact ⟨_,rfl⟩
 ·rw [if_neg hj,if_neg hj];exact ⟨_,rfl⟩
theorem r9:CallR X (.type "int") (fun xs H Q=>(∃ i,xs = [.int i] /\ Q (.int i) H) ∨ ∃ k,xs = [.bl k] /\ Q (.int (if k then 1 else 0)) H):=by
 intro pins s σ H xs us Q I r h
 rcases h with ⟨i,rfl,q⟩ | ⟨k,rfl,q⟩
 ·obtain ⟨u,rfl,t,rfl⟩:=dD r
  exact call_int_int ⟨.int i,H,I,⟨_,rfl⟩,q⟩
 ·obtain ⟨u,rfl,r1⟩:=dD r
  cases r1
  exact call_int_bool ⟨.int (if k then 1 else 0),H,I.tok _,⟨_,rfl⟩,q⟩
noncomputable def BU (K:Frag) (x:V) (H:Hp) (n:Nat):Prop :=
 match x with
 | .str y=>y.length <= sizeLine /\ n = y.length
 | .byt y=>y.size <= sizeLine /\ n = y.size
 | .ref p=>(∃ xs,SqL K H p xs /\ n = xs.length) ∨ ∃ xs,SqT K H p xs /\ n = xs.length
 | _=>False
theorem uk:CallR X (.builtin "len") (fun xs H Q => ∃ x n,xs = [x] /\ BU X.K x H n /\ Q (.int n) H):=by
 intro pins s σ H xs us Q I r h
 obtain ⟨x,n,rfl,e,q⟩:=h
 obtain ⟨u,rfl,rx⟩:=dD r
 have hl:=fj
 have hs:sizeLine = 16777216:=sizeLine_eq
 cases x with
 | str y =>
   obtain ⟨t,rfl⟩:=rx
   obtain ⟨hy,e'⟩:y.length <= sizeLine /\ n = y.length:=e
   subst e'
   exact len_str (by omega) ⟨.int _,H,I.tok _,⟨_,rfl⟩,q⟩
 | byt y =>
   obtain ⟨t,rfl⟩:=rx
   obtain ⟨hy,e'⟩:y.size <= sizeLine /\ n = y.size:=e
   subst e'
   exact PySem.W.len_bytes (by omega) ⟨.int _,H,I.tok _,⟨_,rfl⟩,q⟩
 | ref p =>
   cases rx
   have e':(∃ xs,SqL X.K H p xs /\ n = xs.length) ∨ ∃ xs,SqT X.K H p xs /\ n = xs.length:=e
   rcases e' with ⟨xs,hx,e'⟩ | ⟨xs,hx,e'⟩
   ·subst e'
    obtain ⟨its,r',pl,hz⟩:=I.list hx
    have hlen:=r'.length
    exact Calls.call_len_list pl.isList (by simp only [List.size_toArray];omega) ⟨.int xs.length,H,I.tok _,⟨_,by simp only [List.size_toArray];rw [hlen]⟩,q⟩
   ·subst e'
    obtain ⟨its,r',pl,hz⟩:=I.tuple hx
    have hlen:=r'.length
    exact len_tuple pl (by simp only [List.size_toArray];omega) ⟨.int xs.length,H,I.tok _,⟨_,by simp only [List.size_toArray];rw [hlen]⟩,q⟩
 | _=>exact (show False from e).elim
end
end
section
structure ObjM (h:Heap) (x dx C:Addr) (mA:Str -> Option Value):Prop where
 obj:h.get? x = some (PySem.W.instObj C dx)
 ns:h.Ns1 dx mA
 ne:dx ≠ x
theorem rf {h:Heap} {dx:Addr} {mA:Str -> Option Value} (n:h.Ns1 dx mA):∃ od,h.get? dx = some od /\ ∀ name,PySem.W.lookIn name od = some (mA name):=by
 obtain ⟨o,es,ep,ho,hd,hk,_,hm⟩:=n
 refine ⟨o,ho,fun name => ?_⟩
 have e:=hm name
 unfold nsFind findBy at e
 rw [<- Array.find?_toList] at e
 unfold PySem.W.lookIn
 rw [hd]
 dsimp only
 split
 ·rename_i y q
  rw [q] at e
  exact congrArg some e
 ·rename_i q
  rw [q] at e
  have a:es.toList.any (·.refKey) = false:=by
   rw [List.any_eq_false]
   intro y hy
   obtain ⟨z,t,hkey⟩:=hk y (Array.mem_toList_iff.mp hy)
   simp [DictEntry.refKey,hkey]
  have a' : ¬ es.toList.any (·.refKey) = true:=by rw [a];exact Bool.false_ne_true
  rw [if_neg a']
  exact congrArg some e
theorem ObjM.look {h:Heap} {x dx C:Addr} {mA:Str -> Option Value} (I:ObjM h x dx C mA):∃ od,PySem.W.InstAt h x (PySem.W.instObj C dx) C (some od) /\ ∀ name,PySem.W.lookIn name od = some (mA name) :=
 let ⟨od,ho,hl⟩:=rf I.ns
 ⟨od,⟨I.obj,rfl,rfl,ho⟩,hl⟩
theorem RelO.some_of {v:V} {o:Option Value} (r:RelO (some v) o):∃ u,o = some u /\ RelV v u:=by
 cases o with
 | none=>exact (show False from r).elim
 | some u=>exact ⟨u,rfl,r⟩
section
variable {P:Program} {w:World} {H H':Hp} {h h':Heap} {a C dx:Addr} {fs fs':List (Str × V)}
theorem xz (hok:HOk P w H h) (e:H a = some (.ins C dx fs)):∃ mA,ObjM h a dx C mA /\ (∀ f,RelO (fs.lookup f) (mA f)) /\ PySem.Within mA (fs.map (·.1)) /\ fs.length <= 1000 /\ H dx = some (.own a):=by
 obtain ⟨d,z,ne,ob,mA,n,r,q⟩:=(show ObjOk P w H h a (.ins C dx fs) from hok a _ e)
 exact ⟨mA,⟨ob,n,ne⟩,r,q,z,d⟩
end
structure Cls (K:Frag) (C:Addr):Prop where
 pg:PySem.W.plainGet K C Str.empty = true
 hd:PySem.W.hasDictIn K C = true
 po:PySem.W.plainOver K C = true
 sa:PySem.W.findIn K (.ref C) "__setattr__" = some (some (.builtin "object.__setattr__"))
theorem Cls.get {K:Frag} {C:Addr} (c:Cls K C) (f:Str):PySem.W.plainGet K C f = true:=c.pg
section
variable {X:Cx} {pins:List (Addr × Obj)} {σ:St} {H:Hp} {s:Shared} {A:Around} {E:Value -> Shared -> Prop} {Q:Value -> Shared -> Prop} {c:Value} {b:Bool}
inductive bX (K:Frag) (H:Hp):V -> Value -> Prop where
 | non:bX K H .non (.type "NoneType")
 | bl (x:Bool):bX K H (.bl x) (.type "bool")
 | int (i:Int):bX K H (.int i) (.type "int")
 | str (x:Str):bX K H (.str x) (.type "str")
 | flt (x:UInt64):bX K H (.flt x) (.type "float")
 | lst {a:Addr} {xs:List V} (e:H a = some (.lst xs)):bX K H (.ref a) (.type "list")
 | frz {a:Addr} {o:Obj} {xs:List V} (e:H a = some (.frz o (.lst xs))):bX K H (.ref a) (.type "list")
 | tup {a:Addr} {xs:List V} (e:H a = some (.tup xs)):bX K H (.ref a) (.type "tuple")
 | dK {a:Addr} {kvs:List (Key × V)} (e:H a = some (.dK kvs)):bX K H (.ref a) (.type "dict")
 | dT {a:Addr} {kvs:List (List Key × V)} (e:H a = some (.dT kvs)):bX K H (.ref a) (.type "dict")
 | ins {a C dx:Addr} {fs:List (Str × V)} (e:H a = some (.ins C dx fs)) (cl:Cls K C) (ha:PySem.W.findIn K (.ref C) "__class__" = some (some (.builtin "object.__class__")))
    (hn:PySem.W.specialIn K (.builtin "object.__class__") "__get__" = some (some (.builtin "getset_descriptor.__get__"))) (htk:PySem.W.takesIn K (.builtin "object.__class__") = some true)
    (hm:PySem.W.mroIn K C (.type "object") = some true):bX K H (.ref a) (.ref C)
theorem rg {x:V} {u t:Value} (I:Inv X pins σ H s) (rx:RelV x u) (ty:bX X.K H x t) (e:PySem.W.kitOne X.K t c = some b) (h:∀ tk,Q (.bool b) { s with toks:=tk }) :
 wpAny (model X.prog X.w) A (call (.builtin "isinstance") [u,c]) Q E s:=by
 cases ty with
 | non=>cases (show u = Value.none from rx);exact PySem.W.kia_one PySem.W.kitx_none I.kIn True.intro e (fun z=>nomatch z) h
 | bl y=>cases (show u = Value.bool y from rx);exact PySem.W.kia_one PySem.W.kitx_bool I.kIn True.intro e (fun z=>nomatch z) h
 | int i=>obtain ⟨t,q⟩:=(show ∃ t,u = Value.int i t from rx);cases q;exact PySem.W.kia_one PySem.W.kitx_int I.kIn True.intro e (fun z=>nomatch z) h
 | str y=>obtain ⟨t,q⟩:=(show ∃ t,u = Value.str y t from rx);cases q;exact PySem.W.kia_one PySem.W.kitx_str I.kIn True.intro e (fun z=>nomatch z) h
 | flt y=>obtain ⟨t,q⟩:=(show ∃ t,u = Value.float y t from rx);cases q;exact PySem.W.kia_one PySem.W.kitx_float I.kIn True.intro e (fun z=>nomatch z) h
 | @lst a xs ea =>
  cases (show u = Value.ref a from rx)
  obtain ⟨_,_,n,_,h1⟩:=(show ObjOk X.prog X.w H s.heap a (.lst xs) from I.hok a _ ea)
  exact PySem.W.kia_one PySem.W.kitx_list I.kIn ⟨_,h1,rfl⟩ e (fun z=>nomatch z) h
 | @frz a ob xs ea =>
  cases (show u = Value.ref a from rx)
  obtain ⟨_,_,_,n,_,h1⟩:=(show ObjOk X.prog X.w H s.heap a (.frz ob (.lst xs)) from I.hok a _ ea)
  exact PySem.W.kia_one PySem.W.kitx_list I.kIn ⟨_,h1,rfl⟩ e (fun z=>nomatch z) h
 | @tup a xs ea =>
  cases (show u = Value.ref a from rx)
  obtain ⟨_,_,_,p⟩:=(show ObjOk X.prog X.w H s.heap a (.tup xs) from I.hok a _ ea)
  obtain ⟨o,h1,h2,_⟩:=p
  exact PySem.W.kia_one PySem.W.kitx_tuple I.kIn ⟨o,h1,h2⟩ e (fun z=>nomatch z) h
 | @dK a kvs ea =>
  cases (show u = Value.ref a from rx)
  obtain ⟨_,_,vs,_,p⟩:=(show ObjOk X.prog X.w H s.heap a (.dK kvs) from I.hok a _ ea)
  obtain ⟨o,es,ep,h1,h2,_⟩:=p
  exact PySem.W.kia_one PySem.W.kitx_dict I.kIn ⟨o,h1,h2.1⟩ e (fun z=>nomatch z) h
 | @dT a kvs ea =>
  cases (show u = Value.ref a from rx)
  obtain ⟨_,_,xs,_,o,es,ep,h1,h2,_⟩:=(show ObjOk X.prog X.w H s.heap a (.dT kvs) from I.hok a _ ea)
  exact PySem.W.kia_one PySem.W.kitx_dict I.kIn ⟨o,h1,h2.1⟩ e (fun z=>nomatch z) h
 | @ins a C dx fs ea cl ha hn htk hm =>
  cases (show u = Value.ref a from rx)
  obtain ⟨mA,O,_⟩:=xz I.hok ea
  obtain ⟨od,J,_⟩:=O.look
  exact PySem.W.kia_one (PySem.W.kitx_own (cl.get _) cl.hd ha hn htk hm) I.kIn J e (fun z=>nomatch z) h
end
end
section
structure Room (k:Nat) (A:Around):Prop where
 hd:A.handled = none
 dp:A.depth + 3 * k + 5 < recursionLimit
 un:A.units + 16 * k + 200 < cLine
theorem Room.mono {j k:Nat} {A:Around} (r:Room k A) (h:j <= k):Room j A:=⟨r.hd,by have:=r.dp;omega,by have:=r.un;omega⟩
theorem Room.deeper {k:Nat} {A:Around} (r:Room (k + 1) A) (env:Env):Room k (A.deeper env) :=
 ⟨r.hd,by have:=r.dp;show A.depth + 1 + 3 * k + 5 < _;omega,by have:=r.un;show A.units + 3 + 16 * k + 200 < _;omega⟩
theorem Room.in1 {k:Nat} {A:Around} (r:Room (k + 1) A):Room k A.in1 :=
 ⟨r.hd,by have:=r.dp;show A.depth + 3 * k + 5 < _;omega,by have:=r.un;show A.units + 1 + 16 * k + 200 < _;omega⟩
theorem Room.depth {k:Nat} {A:Around} (r:Room k A):A.depth < recursionLimit:=by have:=r.dp;omega
theorem Room.units {k:Nat} {A:Around} (r:Room k A):A.units + 64 < cLine:=by have:=r.un;omega
noncomputable def zJ:TA:=fun _ H Q=>Q [] H
noncomputable def wo (ta:TE) (tr:TA):TA:=fun σ H Q=>ta σ H fun x H1=>tr σ H1 fun xs H2=>Q (x :: xs) H2
section
variable {X:Cx} {e:Expr} {es:List Expr} {te:TE} {t:TA} {pos:Pos}
theorem i6:PA X [] zJ:=fun _ _ _ _ H Q I h=>Calls.spliced_nil ⟨[],H,I, .nil,h⟩
theorem cB (ha:PE X e te) (hr:PA X es t) (hs:starEach (e :: es) X.env = (false,eval e X.env) :: starEach es X.env:=by rfl):PA X (e :: es) (wo te t):=by
 intro pos pins s σ H Q I h
 rw [hs]
 show wpAny _ _ (spliced ((false,eval e X.env) :: backTo pos (starEach es X.env))) _ _ s
 refine Calls.spliced_cons (thn (ha pins s σ H _ I h) fun u s1 ⟨x,H1,I1,r1,q1⟩ => ?_)
 exact thn (hr pos pins s1 σ H1 _ I1 q1) fun us s2 ⟨xs,H2,I2,r2,q2⟩=>⟨x :: xs,H2,I2, .cons r1 r2,q2⟩
noncomputable def BV (t:TA):TE:=fun σ H Q=>t σ H fun xs H1=>xs.length <= sizeLine /\ ∀ p,H1 p = none -> Q (.ref p) (upd H1 p (.tup xs))
noncomputable def BW (t:TA):TE:=fun σ H Q=>t σ H fun xs H1=>xs.length <= sizeLine /\ ∀ p,H1 p = none -> Q (.ref p) (upd H1 p (.lst xs))
theorem rh {x1} (h:PA X es t):PE X (.Tuple es x1 pos) (BV t):=by
 intro pins s σ H Q I hq
 refine wpAny_Tuple_spliced (thn (h pos pins s σ H _ I hq) fun us s1 ⟨xs,H1,I1,r,z,q⟩=>⟨by rw [<- r.length];exact z, ?_⟩)
 have hf:H1 s1.heap.objs.size = none:=I1.hok.fresh (Nat.le_refl _)
 refine ⟨.ref s1.heap.objs.size,upd H1 s1.heap.objs.size (.tup xs),I1.laid (t':=s1.toks) (fun b u e=>Heap.get?_push_of_some _ e) (Nat.le_refl _) ?_,rfl,q _ hf⟩
 exact ⟨z,us,r,⟨_,Heap.get?_push_size _ rfl,rfl,_,rfl⟩⟩
theorem zK (h:PA X es t):PE X (.List es pos) (BW t):=by
 intro pins s σ H Q I hq
 refine wpAny_List_spliced (thn (h pos pins s σ H _ I hq) fun us s1 ⟨xs,H1,I1,r,z,q⟩=>⟨by rw [<- r.length];exact z, ?_⟩)
 have hf:H1 s1.heap.objs.size = none:=I1.hok.fresh (Nat.le_refl _)
 refine ⟨.ref s1.heap.objs.size,upd H1 s1.heap.objs.size (.lst xs),I1.laid (t':=s1.toks) (fun b u e=>Heap.get?_push_of_some _ e) (Nat.le_refl _) ?_,rfl,q _ hf⟩
 exact ⟨z,us,0,r,Heap.get?_push_size _ rfl⟩
end
noncomputable abbrev Sp:=List V -> Hp -> VK -> XK -> Prop
noncomputable abbrev CXT:=List Env -> Hp -> Shared -> XK -> Value -> Shared -> Prop
structure Env0 (P:Program) (w:World) (K:Frag) (mg:Str -> Option Value) (base:Heap) (A:Around) (outer:List Env) (s:Shared) (H:Hp):Prop where
 frames:A.frames = some outer
 mod:Mod K mg base
 bs:∀ b o,base.get? b = some o -> s.heap.get? b = some o /\ H b = none
 bsz:base.objs.size <= s.heap.objs.size
 funs:s.heap.FunFrames base outer
 frf:∀ b ∈ frs outer,H b = none
 hok:HOk P w H s.heap
 bare:AllBare s.gens
noncomputable def CE (outer:List Env) (P:Program) (w:World) (H:Hp) (s:Shared) (Q:VK) (u:Value) (s':Shared):Prop :=
 ∃ v H',s'.os = s.os /\ AllBare s'.gens /\ Un (frs outer) [] H H' s.heap s'.heap /\ HOk P w H' s'.heap /\ RelV v u /\ Q v H'
noncomputable def CR (CX:CXT) (outer:List Env) (P:Program) (w:World) (H:Hp) (s:Shared) (Q:VK) (E:XK) (r:Result) (s':Shared):Prop :=
 match r with
 | .ok (.ret u)=>CE outer P w H s Q u s'
 | .ok _=>False
 | .error e=>CX outer H s E e s'
structure FnOk (P:Program) (w:World) (K:Frag) (mg:Str -> Option Value) (base:Heap) (CX:CXT) (k:Nat) (f:Addr) (fd:FuncData) (ps:List Str) (sp:Sp):Prop where
 len:∀ vs H Q E,sp vs H Q E -> vs.length = ps.length
 run:∀ (A:Around) (outer:List Env) (s:Shared) (H:Hp) (args:Args) (us:List Value) (vs:List V) (Q:VK) (E:XK),Room k A -> Env0 P w K mg base A outer s H -> BindsTo s fd args (ps.zip us) -> Vals vs us -> sp vs H Q E ->
  codeAny (model P w) A (.call (.ref f) args) (CR CX outer P w H s Q E) s
theorem FnOk.mono {P:Program} {w:World} {K:Frag} {mg:Str -> Option Value} {base:Heap} {CX:CXT} {j k:Nat} {f:Addr} {fd:FuncData} {ps:List Str} {sp:Sp} (F:FnOk P w K mg base CX j f fd ps sp) (h:j <= k) :
 FnOk P w K mg base CX k f fd ps sp:=⟨F.len,fun A outer s H args us vs Q E hr=>F.run A outer s H args us vs Q E (hr.mono h)⟩
theorem Env0.in1 {P:Program} {w:World} {K:Frag} {mg:Str -> Option Value} {base:Heap} {A:Around} {outer:List Env} {s:Shared} {H:Hp} (e:Env0 P w K mg base A outer s H) :
 Env0 P w K mg base A.in1 outer s H:=⟨e.frames,e.mod,e.bs,e.bsz,e.funs,e.frf,e.hok,e.bare⟩
section
variable {X:Cx} {pins:List (Addr × Obj)} {σ:St} {H:Hp} {s s':Shared}
theorem Inv.env0 (I:Inv X pins σ H s):Env0 X.prog X.w X.K X.mg X.base X.A X.stack s H :=
 ⟨I.ok.frames,I.ok.mod,I.bs,Nat.le_trans I.ok.bsz I.sz,I.stack,I.stkFree,I.hok,I.bare⟩
theorem Inv.after {Q:VK} {u:Value} (I:Inv X pins σ H s) (h:CE X.stack X.prog X.w H s Q u s'):EP X pins σ Q u s':=by
 obtain ⟨v,H',os,bare,un,hok,r,q⟩:=h
 obtain ⟨hh,g,d,t,os'⟩:=s'
 obtain rfl:os' = s.os:=os
 exact ⟨v,H',I.call (h':=hh) (g':=g) (d':=d) (t':=t) (ch := []) un hok bare (fun b z=>absurd z (by simp)),r,q⟩
end
noncomputable def wp (sp:Sp) (dvs:List V) (E:XK) (t:TA):TE:=fun σ H Q=>t σ H fun vs H1=>sp (vs ++ dvs) H1 Q E
noncomputable def Binds (K:Frag) (fd:FuncData) (ps:List Str) (ds:List Value):Prop :=
 ∀ (s:Shared) (us:List Value),K.In s.heap -> (us ++ ds).length = ps.length -> BindsTo s fd ⟨us,[]⟩ (ps.zip (us ++ ds))
theorem Binds.all {K:Frag} {fd:FuncData} {ps:List Str} (h:∀ us:List Value,us.length = ps.length -> bindArgs fd ⟨us,[]⟩ = pure (ps.zip us)):Binds K fd ps []:=fun s us _ hl=>by
 rw [List.append_nil] at hl ⊢
 exact .of_eq (h us hl)
noncomputable def i7 (CX:CXT) (X:Cx) (E:XK):Prop := ∀ (pins:List (Addr × Obj)) (σ:St) (H:Hp) (s:Shared) (e:Value) (s':Shared),Inv X pins σ H s -> CX X.stack H s E e s' -> X.xe e s'
section
variable {X:Cx} {CX:CXT} {k:Nat} {f C:Addr} {fd:FuncData} {ps:List Str} {sp:Sp} {dvs:List V} {ds:List Value} {E:XK} {x m:Str} {p pos apos:Pos} {e o:Expr} {es:List Expr} {ta:TE} {t:TA}
theorem rj {pins:List (Addr × Obj)} {σ:St} {H:Hp} {s:Shared} {Q:VK} {us:List Value} {vs:List V} (F:FnOk X.prog X.w X.K X.mg X.base CX k f fd ps sp) (hr:Room k X.A) (hb:Binds X.K fd ps ds) (hd:Vals dvs ds) (hx:i7 CX X E)
 (I:Inv X pins σ H s) (r:Vals vs us) (h:sp (vs ++ dvs) H Q E):wpAny (model X.prog X.w) X.A (call (.ref f) us) (EP X pins σ Q) X.xe s:=by
 have r2:Vals (vs ++ dvs) (us ++ ds):=r.append hd
 have hl:(us ++ ds).length = ps.length:=by rw [<- r2.length];exact F.len _ _ _ _ h
 refine wpAny_call (codeAny_mono (F.run X.A X.stack s H ⟨us,[]⟩ (us ++ ds) (vs ++ dvs) Q E hr I.env0 (hb s us I.kIn hl) r2 h) fun r s' hq => ?_)
 cases r with
 | error e=>exact hx pins σ H s e s' I hq
 | ok fl =>
   cases fl with
   | ret u=>exact I.after hq
   | next=>exact False.elim hq
   | brk=>exact False.elim hq
   | cont=>exact False.elim hq
theorem xA (F:FnOk X.prog X.w X.K X.mg X.base CX k f fd ps sp) (hr:Room k X.A) (hg:Gl X x) (hm:X.mg x = some (.ref f)) (hk:PySem.W.keepIn X.K (.ref f) = true) (hb:Binds X.K fd ps ds) (hd:Vals dvs ds) (hx:i7 CX X E)
 (ha:PA X (e :: es) t) (hdb:(x == ("__debug__":Str)) = false:=by decide) (he:starEach (e :: es) X.env = (false,eval e X.env) :: starEach es X.env:=by rfl) (hpl:(backTo pos (starEach es X.env)).any (·.1) = false:=by rfl) :
 PE X (.Call (.Name x p) (e :: es) [] pos) (wp sp dvs E t):=by
 intro pins s σ H Q I h
 refine wpAny_Call_Name_kw (nV I hg hm ?_ hdb)
 refine PySem.W.callWith_K (h₀ := X.base) I.ok.mod.kin hk (thn (ha pos pins s σ H _ I h) fun us s1 ⟨vs,H1,I1,r,q⟩=>⟨I1.kIn, ?_⟩) he hpl
 exact rj F hr hb hd hx I1 r q
theorem um (F:FnOk X.prog X.w X.K X.mg X.base CX k f fd ps sp) (hr:Room k X.A) (hg:Gl X x) (hm:X.mg x = some (.ref f)) (hk:PySem.W.keepIn X.K (.ref f) = true) (hb:Binds X.K fd ps ds) (hd:Vals dvs ds) (hx:i7 CX X E)
 (hdb:(x == ("__debug__":Str)) = false:=by decide):PE X (.Call (.Name x p) [] [] pos) (wp sp dvs E zJ):=by
 intro pins s σ H Q I h
 refine wpAny_Call_Name_kw (nV I hg hm ?_ hdb)
 exact PySem.W.callWith_K0 I.kIn hk (rj (us := []) F hr hb hd hx I .nil h)
end
structure fR (N P:List Str) (sc:Scope):Prop where
 kind:sc.kind = .function
 co:sc.isCoroutine = false
 gen:sc.isGenerator = false
 nd:N.Nodup
 pre:N.take P.length = P
 par:∀ x ∈ P,sc.names.lookup x = some .local ∨ sc.names.lookup x = some .cell
 nofree:∀ y ∈ sc.names,y.2 ≠ .free
theorem jB {kindOf:Str -> Option NameKind} {x:Str}:∀ {binds:List (Str × Value)} {m:Str -> Option Value},(∀ v,(x,v) ∉ binds) -> bindL kindOf binds m x = m x
 | [],_,_=>rfl
 | (n,v) :: r,m,h=>by
  unfold bindL
  rw [jB fun w hw=>h w (List.mem_cons_of_mem _ hw)]
  split
  ·have:x ≠ n:=by rintro rfl;exact h v List.mem_cons_self
   simp [this]
  ·rfl
theorem jC {kindOf:Str -> Option NameKind} {x:Str}:∀ {binds:List (Str × Value)} {m:Str -> Option Value},(∀ v,(x,v) ∉ binds) -> bindC kindOf binds m x = m x
 | [],_,_=>rfl
 | (n,v) :: r,m,h=>by
  unfold bindC
  rw [jC fun w hw=>h w (List.mem_cons_of_mem _ hw)]
  split
  ·rfl
  ·have:x ≠ n:=by rintro rfl;exact h v List.mem_cons_self
   simp [this]
theorem jD {kindOf:Str -> Option NameKind} {x:Str} {v:Value}:∀ {P:List Str} {vs:List Value} {i:Nat} {m:Str -> Option Value},P.Nodup -> P[i]? = some x -> vs[i]? = some v -> kindOf x = some .local ->
 bindL kindOf (P.zip vs) m x = some v
 | [],_,_,_,_,h,_,_=>by simp at h
 | _ :: _,[],_,_,_,_,h,_=>by simp at h
 | p :: P,w :: vs,0,m,nd,h1,h2,hk=>by
   simp at h1 h2;subst h1;subst h2
   show bindL kindOf ((p,w) :: P.zip vs) m p = _
   unfold bindL
   rw [jB fun v hv=>(List.nodup_cons.mp nd).1 (List.of_mem_zip hv).1,if_pos hk]
   simp
 | p :: P,w :: vs,i + 1,m,nd,h1,h2,hk=>by
   show bindL kindOf ((p,w) :: P.zip vs) m x = _
   unfold bindL
   exact jD (i:=i) (List.nodup_cons.mp nd).2 (by simpa using h1) (by simpa using h2) hk
theorem jE {kindOf:Str -> Option NameKind} {x:Str} {v:Value}:∀ {P:List Str} {vs:List Value} {i:Nat} {m:Str -> Option Value},P.Nodup -> P[i]? = some x -> vs[i]? = some v -> kindOf x ≠ some .local ->
 bindC kindOf (P.zip vs) m x = some v
 | [],_,_,_,_,h,_,_=>by simp at h
 | _ :: _,[],_,_,_,_,h,_=>by simp at h
 | p :: P,w :: vs,0,m,nd,h1,h2,hk=>by
   simp at h1 h2;subst h1;subst h2
   show bindC kindOf ((p,w) :: P.zip vs) m p = _
   unfold bindC
   rw [jC fun v hv=>(List.nodup_cons.mp nd).1 (List.of_mem_zip hv).1,if_neg hk]
   simp
 | p :: P,w :: vs,i + 1,m,nd,h1,h2,hk=>by
   show bindC kindOf ((p,w) :: P.zip vs) m x = _
   unfold bindC
   exact jE (i:=i) (List.nodup_cons.mp nd).2 (by simpa using h1) (by simpa using h2) hk
noncomputable def cJ (N:List Str) (vs:List V):St:=vs.map some ++ List.replicate (N.length - vs.length) none
noncomputable def gG (CX:CXT) (P:Program) (w:World) (K:Frag) (mg:Str -> Option Value) (base:Heap) (N:List Str) (qual:Str) (scope:Scope) (f:Addr) (cd:Value) (A:Around) (outer:List Env) (s:Shared) (H:Hp) (E:XK):Cx where
 prog:=P
 w:=w
 K:=K
 mg:=mg
 base:=base
 A:=A.deeper (envOfC qual scope s.heap.objs.size f cd)
 N:=N
 s₀ := s
 H₀ := H
 env:=envOfC qual scope s.heap.objs.size f cd
 outer:=outer
 stack:=envOfC qual scope s.heap.objs.size f cd :: outer
 ex := []
 calm:=true
 fn:=fun _=>true
 pn := []
 xe:=fun e s'=>wpAny (model P w) (A.deeper (envOfC qual scope s.heap.objs.size f cd)) (leaving (envOfC qual scope s.heap.objs.size f cd) e) (fun _ s''=>CX outer H s E e s'') (fun e' s''=>CX outer H s E e' s'') s'
theorem kE {sc:Scope} {n:Nat} {x:Str} (h:sc.names.lookup x = some .cell):∃ c,(cellsFrom n sc.names []).lookup x = some c:=by
 have q:=PySem.W.cellsFrom_some sc.names n [] (.inl h)
 exact Option.isSome_iff_exists.mp q
theorem rl {CX:CXT} {P:Program} {w:World} {K:Frag} {mg:Str -> Option Value} {base:Heap} {N ps:List Str} {qual:Str} {scope:Scope} {f:Addr} {cd:Value} {A:Around} {outer:List Env} {s s1:Shared} {H:Hp} {E:XK} {us:List Value} {vs:List V}
 (S:fR N ps scope) (hd:A.handled = none) (e0:Env0 P w K mg base A outer s H) (hl:vs.length = ps.length) (r:Vals vs us)
 (x:InCallC s s.heap.objs.size (bindL (envOfC qual scope s.heap.objs.size f cd).kindOf (ps.zip us) fun _=>none) (cellsFrom (s.heap.objs.size + 1) scope.names []) (bindC (envOfC qual scope s.heap.objs.size f cd).kindOf (ps.zip us) fun _=>none) s1) :
 Inv (gG CX P w K mg base N qual scope f cd A outer s H E) [] (cJ N vs) H s1:=by
 have hpl:ps.length <= N.length:=by have:=congrArg List.length S.pre;rw [List.length_take] at this;omega
 obtain ⟨h1,tk,rfl,hk⟩:=x.done
 have noA:∀ b:Addr,b ∉ (gG CX P w K mg base N qual scope f cd A outer s H E).ex:=fun b z=>absurd (show b ∈ ([]:List Addr) from z) (by simp)
 refine ⟨⟨e0.mod,S.kind,rfl,rfl,Nat.le_refl _,fun y z c h1 h2 => ?_,fun y hy => ?_,fun y c _ h => ?_,fun _=>hd,Around.frames_deeper e0.frames, .inr ⟨rfl,rfl⟩,fun b z=>absurd z (noA b),e0.bs,e0.bsz,fun b _ _=>noA b,fun b z=>absurd z (noA b),e0.funs,e0.frf⟩,
  rfl,e0.bare,Un.kept hk,⟨_,x.toInCall.ns,fun i y v h1 h2 h3 => ?_⟩,fun y c h=>⟨_,x.cell y c h⟩,e0.hok.fresh (Nat.le_refl _),fun y c h => ?_,fun p hp=>absurd (show p ∈ ([]:List (Addr × Obj)) from hp) (by simp),e0.hok.kept hk, ?_⟩
 ·exact name_of_addr x.apart (PySem.mem_of_lookup h1) (PySem.mem_of_lookup h2)
 ·have hy:scope.names.lookup y = some .cell ∨ scope.names.lookup y = some .free:=hy
  rcases hy with hy | hy
  ·exact kE hy
  ·exact absurd rfl (S.nofree _ (PySem.mem_of_lookup hy))
 ·exact Nat.le_of_lt (x.above y c (PySem.mem_of_lookup h))
 ·have hi:i < vs.length:=by
   unfold cJ at h2
   by_cases hi:i < vs.length
   ·exact hi
   ·rw [List.getElem?_append_right (by simpa using hi)] at h2
    rw [List.getElem?_replicate] at h2
    split at h2 <;> cases h2
  have ha:vs[i]? = some v:=by
   unfold cJ at h2
   rw [List.getElem?_append_left (by simpa using hi),List.getElem?_map] at h2
   cases e:vs[i]? with
   | none=>rw [e] at h2;cases h2
   | some a=>rw [e] at h2;cases h2;rfl
  obtain ⟨u,hu,rv⟩:=r.get ha
  have hp:ps[i]? = some y:=by
   rw [<- S.pre,List.getElem?_take_of_lt (by omega)];exact h1
  have ndP:ps.Nodup:=by rw [<- S.pre];exact S.nd.sublist (List.take_sublist _ _)
  refine ⟨u,rv, ?_⟩
  rcases S.par y (List.mem_of_getElem? hp) with k | k
  ·exact .inl ⟨k,jD ndP hp hu k⟩
  ·obtain ⟨c,e⟩:=kE (n:=s.heap.objs.size + 1) k
   refine .inr ⟨.inl k,c,e, ?_⟩
   have q:=x.cell y c e
   rw [jE ndP hp hu (by show scope.names.lookup y ≠ _;rw [k];decide)] at q
   exact q
 ·exact e0.hok.fresh (Nat.le_of_lt (x.above y c (PySem.mem_of_lookup h)))
 ·unfold cJ
  show _ = N.length
  rw [List.length_append,List.length_map,List.length_replicate]
  omega
theorem B7 {CX:CXT} {P:Program} {w:World} {K:Frag} {mg:Str -> Option Value} {base:Heap} {k:Nat} {f:Addr} {name qual:Str} {params:Arguments} {body:List Stmt} {scope:Scope} {dV kV doc pm cdv ct oc:Value} {an od:Option Addr}
 {osl:Array (Option Value)} {N ps:List Str} {sp:Sp} (lk:K.lookup f = some ⟨oc,od, .func (PySem.W.fnOf name qual params body scope dV kV doc pm an cdv ct),osl⟩) (hcd:PySem.W.codeIn K cdv qual = true) (S:fR N ps scope)
 (len:∀ vs H Q E,sp vs H Q E -> vs.length = ps.length)
 (hbody:∀ (A:Around) (outer:List Env) (s:Shared) (H:Hp) (vs:List V) (Q:VK) (E:XK),Room k (A.deeper (envOfC qual scope s.heap.objs.size f cdv)) -> sp vs H Q E ->
   ∃ t,PSs (gG CX P w K mg base N qual scope f cdv A outer s H E) body t /\ t { nx:=fun _ H'=>Q .non H',rt:=Q } (cJ N vs) H) :
 FnOk P w K mg base CX (k + 1) f (PySem.W.fnOf name qual params body scope dV kV doc pm an cdv ct) ps sp:=by
 refine ⟨len,fun A outer s H args us vs Q E hr e0 hb r hsp => ?_⟩
 have hl:=len _ _ _ _ hsp
 have KX:K.In s.heap:=e0.mod.kin.keeps fun b o e=>(e0.bs b o e).1
 have lim:s.heap.NoLimit:=e0.mod.nolimit.keeps fun b o e=>(e0.bs b o e).1
 have hkind:∀ y ∈ ps.zip us,scope.names.lookup y.1 = some .local ∨ (scope.names.lookup y.1 = some .cell /\ ((cellsFrom (s.heap.objs.size + 1) scope.names []).lookup y.1).isSome = true):=fun ⟨n,v⟩ hy=>by
  rcases S.par n (List.of_mem_zip hy).1 with q | q
  ·exact .inl q
  ·exact .inr ⟨q,PySem.W.cellsFrom_some _ _ _ (.inl q)⟩
 refine codeAny_call_function hr.depth (KX _ _ lk) rfl S.co S.gen rfl (PySem.W.codeRec_of KX hcd) (hb _ _ _ _ ?_)
 refine wpAny_newFunctionEnv_cells S.kind hkind fun env he s1 x => ?_
 subst he
 refine ⟨lim.keeps x.toInCall.keep,codeAny_func ?_⟩
 obtain ⟨t,ht,hq⟩:=hbody A outer s H vs Q E (hr.deeper _) hsp
 have I:Inv (gG CX P w K mg base N qual scope f cdv A outer s H E) [] (cJ N vs) H s1:=rl S hr.hd e0 hl r x
 refine wpAny_mono (ht [] s1 (cJ N vs) H _ I hq) (fun fl s' hs => ?_) fun e s' hs=>hs
 have fin:∀ {σ':St} {H':Hp} {v:V} {u:Value},Inv (gG CX P w K mg base N qual scope f cdv A outer s H E) [] σ' H' s' -> RelV v u -> Q v H' -> CE outer P w H s Q u s' :=
  fun {σ' H' v u} J rv q=>⟨v,H',J.os,J.bare,J.base,J.hok,rv,q⟩
 cases fl with
 | ret u =>
   obtain ⟨v, σ',H',J,rv,q⟩:=hs
   exact fin J rv q
 | next =>
   obtain ⟨σ',H',J,q⟩:=hs
   exact fin (v:=V.non) (u:=Value.none) J rfl q
 | brk =>
   obtain ⟨_,_,_,q⟩:=hs
   exact False.elim q
 | cont =>
   obtain ⟨_,_,_,q⟩:=hs
   exact False.elim q
end
section
section
variable {X:Cx} {x:Str} {p pos:Pos} {e:Expr} {es:List Expr} {t:TA} {id T:String} {r:List V -> Hp -> VK -> Prop}
noncomputable def tCB (r:List V -> Hp -> VK -> Prop) (t:TA):TE:=fun σ H Q=>t σ H fun vs H1=>r vs H1 Q
theorem ci (hc:CallR X (.builtin id) r) (hg:Gl X x) (hm:X.mg x = none) (hv:bootBuiltins x = some (.builtin id)) (ha:PA X (e :: es) t) (hn:x ≠ "__name__" := by decide) (hdb:(x == ("__debug__":Str)) = false:=by decide)
 (he:starEach (e :: es) X.env = (false,eval e X.env) :: starEach es X.env:=by rfl) (hpl:(backTo pos (starEach es X.env)).any (·.1) = false:=by rfl):PE X (.Call (.Name x p) (e :: es) [] pos) (tCB r t):=by
 intro pins s σ H Q I h
 refine wpAny_Call_Name_kw (dU I hg hm hv ?_ hn hdb)
 exact PyProof.Rows.callWith_builtin1 (thn (ha pos pins s σ H _ I h) fun us s1 ⟨vs,H1,I1,r1,q1⟩=>hc pins s1 σ H1 vs us Q I1 r1 q1) he hpl
theorem dE (hc:CallR X (.type T) r) (hg:Gl X x) (hm:X.mg x = none) (hv:bootBuiltins x = some (.type T)) (ha:PA X (e :: es) t) (hn:x ≠ "__name__" := by decide) (hdb:(x == ("__debug__":Str)) = false:=by decide)
 (he:starEach (e :: es) X.env = (false,eval e X.env) :: starEach es X.env:=by rfl) (hpl:(backTo pos (starEach es X.env)).any (·.1) = false:=by rfl):PE X (.Call (.Name x p) (e :: es) [] pos) (tCB r t):=by
 intro pins s σ H Q I h
 refine wpAny_Call_Name_kw (dU I hg hm hv ?_ hn hdb)
 exact PyProof.Rows.callWith_type1 (thn (ha pos pins s σ H _ I h) fun us s1 ⟨vs,H1,I1,r1,q1⟩=>hc pins s1 σ H1 vs us Q I1 r1 q1) he hpl
end
end
end L2
namespace HT
open PySem PyProof.Rows
section
variable {prog:Program} {w:World} {A:Around} {E:Value -> Shared -> Prop} {s:Shared}
theorem cat_tup {t b:Addr} {vs ws:List Value} {Q:Value -> Shared -> Prop} (ht:IsTup s.heap t vs.toArray) (hb:IsTup s.heap b ws.toArray) (hv:vs ≠ [])
 (h1:ws = [] -> Q (.ref t) s) (h2:ws ≠ [] -> Q (.ref s.heap.objs.size) { s with heap:=s.heap.push { cls := .type "tuple",data := .seq (vs ++ ws).toArray } })
 (hsz:vs.length + ws.length <= sizeLine):wpAny (model prog w) A (binaryOp .Add (.ref t) (.ref b)) Q E s:=by
 obtain ⟨⟨cls,dd,data,sl⟩,ho,hc,n,hd⟩:=id ht
 obtain ⟨⟨cls2,dd2,data2,sl2⟩,ho2,hc2,n2,hd2⟩:=id hb
 simp only at hc hd hc2 hd2
 subst hc hd hc2 hd2
 have e:vs.toArray ++ ws.toArray = (vs ++ ws).toArray:=by simp
 by_cases hw:ws = []
 ·exact concat_meets ⟨_,ho,rfl⟩ ⟨_,ho2,rfl⟩ noFill_tuple_add seq_tuple_add PySem.F.slot_tuple_add PySem.F.entry_tuple_add (PySem.F.args_tuple_add_2 _ _)
   (tuple_addW1 t b vs.toArray ws.toArray n n2 dd dd2 sl sl2 (by simpa using hv) (by simp [hw])) ⟨ho,ho2,h1 hw⟩
 ·refine concat_meets ⟨_,ho,rfl⟩ ⟨_,ho2,rfl⟩ noFill_tuple_add seq_tuple_add PySem.F.slot_tuple_add PySem.F.entry_tuple_add (PySem.F.args_tuple_add_2 _ _)
   (tuple_addW2 t b vs.toArray ws.toArray n n2 dd dd2 sl sl2 (by simpa using hv) (by simpa using hw) (by rw [List.size_toArray,List.size_toArray];exact hsz)) ⟨ho,ho2, ?_⟩
  rw [e]
  exact h2 hw
noncomputable def sIx (n d:Nat):Option Int -> Nat
 | none=>d
 | some v=>if v < 0 then (v + (n:Int)).toNat else min v.toNat n
theorem zL (n d:Nat) (hd:d <= n) (o:Option Int):sIx n d o <= n:=by
 cases o with
 | none=>exact hd
 | some v =>
   show (if v < 0 then (v + (n:Int)).toNat else min v.toNat n) <= n
   by_cases hv:v < 0
   ·rw [if_pos hv];omega
   ·rw [if_neg hv];exact Nat.min_le_right _ _
theorem nX (v:Int) (n d:Nat):(if v < 0 then max (v + (n:Int)) 0 else min v (n:Int)) = ((sIx n d (some v):Nat):Int):=by
 show (if v < 0 then max (v + (n:Int)) 0 else min v (n:Int)) = (((if v < 0 then (v + (n:Int)).toNat else min v.toNat n):Nat):Int)
 by_cases hv:v < 0
 ·simp only [if_pos hv];omega
 ·simp only [if_neg hv];omega
theorem pO (lo hi:Option Int) (n:Nat):Builtin.Slice.sliceAdjust lo hi 1 (n:Int) = (((sIx n 0 lo:Nat):Int),((sIx n n hi:Nat):Int)):=by
 have h1 : ¬ ((1:Int) < 0):=by omega
 unfold Builtin.Slice.sliceAdjust
 simp only [h1,if_false]
 refine Prod.ext ?_ ?_
 ·cases lo with
  | none=>rfl
  | some v=>exact nX v n 0
 ·cases hi with
  | none=>rfl
  | some v=>exact nX v n n
theorem pP (i j:Nat):Builtin.Slice.slicePlaces (i:Int) (j:Int) 1 = j - i:=by
 unfold Builtin.Slice.slicePlaces
 have h1:(1:Int) > 0:=by omega
 simp only [h1,if_true,Int.ediv_one]
 split <;> omega
theorem i8 {v:Value} {o:Option Int} {Q:Option Int -> Shared -> Prop} (p:IsPart v o) (h:Q o s):wpAny (model prog w) A (Builtin.Slice.slicePartIndex v) Q E s:=by
 cases p with
 | none=>exact slicePart_none h
 | int i t=>exact slicePart_int h
theorem dm {sl:Addr} {vl vu:Value} {lo hi:Option Int} {n:Nat} {Q:Int × Int × Nat -> Shared -> Prop} (hs:s.heap.IsSliceOf sl vl vu .none) (pl:IsPart vl lo) (pu:IsPart vu hi)
 (h:Q (((sIx n 0 lo:Nat):Int),1,sIx n n hi - sIx n 0 lo) s):wpAny (model prog w) A (Builtin.Slice.sliceApplied (.ref sl) (pure (n:Int))) Q E s:=by
 obtain ⟨os,hos,hcs,hds⟩:=id hs
 unfold Builtin.Slice.sliceApplied Builtin.Slice.sliceFields
 refine wpAny_bind (wpAny_bind (wpAny_field hos hds (x:=vl) rfl (wpAny_bind (wpAny_field hos hds (x:=vu) rfl (wpAny_bind (wpAny_field hos hds (x := .none) rfl (wpAny_pure ?_)))))))
 refine wpAny_bind (slicePart_none ?_)
 show wpAny _ _ (if ((1:Int) == 0) = true then _ else _) _ _ s
 rw [if_neg (by decide)]
 refine wpAny_bind (i8 pl (wpAny_bind (i8 pu (wpAny_bind (wpAny_pure ?_)))))
 show wpAny _ _ (match Builtin.Slice.sliceAdjust lo hi 1 (n:Int) with | (lo,hi)=>pure (lo,(1:Int),Builtin.Slice.slicePlaces lo hi 1)) _ _ s
 rw [pO lo hi n]
 show wpAny _ _ (pure (((sIx n 0 lo:Nat):Int),(1:Int),Builtin.Slice.slicePlaces ((sIx n 0 lo:Nat):Int) ((sIx n n hi:Nat):Int) 1)) _ _ s
 rw [pP]
 exact wpAny_pure h
theorem uo (xs:Array Value) (i k:Nat):((List.range k).filterMap fun (m:Nat)=>xs[((i:Int) + (m:Int) * 1).toNat]?).toArray = ((xs.toList.drop i).take k).toArray:=by
 have e:(fun (m:Nat)=>xs[((i:Int) + (m:Int) * 1).toNat]?) = fun m=>xs[i + m]? := by
  funext m
  have:((i:Int) + (m:Int) * 1).toNat = i + m:=by omega
  rw [this]
 rw [e]
 have:=pick_run xs i k
 rw [List.filterMap_map] at this
 have e2:((fun x=>xs[x]?) ∘ fun x=>i + x) = fun m=>xs[i + m]? := rfl
 rw [e2] at this
 rw [this]
theorem getItem_tuple_cut {t sl:Addr} {items:Array Value} {vl vu:Value} {lo hi:Option Int} {Q:Value -> Shared -> Prop} (ht:IsTup s.heap t items) (hs:s.heap.IsSliceOf sl vl vu .none) (pl:IsPart vl lo) (pu:IsPart vu hi)
 (hw : ¬ (sIx items.size 0 lo = 0 /\ sIx items.size items.size hi = items.size))
 (h:Q (.ref s.heap.objs.size) { s with heap:=s.heap.push { cls := .type "tuple",data := .seq ((items.toList.drop (sIx items.size 0 lo)).take (sIx items.size items.size hi - sIx items.size 0 lo)).toArray } })
 (hsz:items.size <= sizeLine):wpAny (model prog w) A (getItem (.ref t) (.ref sl)) Q E s:=by
 have htake:sizeOk (.seq ((items.toList.drop (sIx items.size 0 lo)).take (sIx items.size items.size hi - sIx items.size 0 lo)).toArray):=by
  show ((items.toList.drop (sIx items.size 0 lo)).take (sIx items.size items.size hi - sIx items.size 0 lo)).toArray.size <= sizeLine
  rw [List.size_toArray,List.length_take,List.length_drop,Array.length_toList]
  omega
 have hj:sIx items.size items.size hi <= items.size:=zL _ _ (Nat.le_refl _) hi
 obtain ⟨os,hos,hcs,hds⟩:=id hs
 have hTs:s.TypeIs (.ref sl) "slice" := ⟨os,hos,hcs⟩
 unfold getItem
 try with_reducible refine wpAny_holding ?_
 first | refine wpAny_bind (wpAny_pure ?_) | skip
 refine wpAny_bind (wpAny_sequenceKey ht.typeIs (by decide) ?_)
 refine wpAny_bind (wpAny_callSpecial?_slot (name:=Str.ofString "__getitem__") ht.typeIs PyProof.Rows.slot_tuple_getitem
  (wpAny_call_entry PyProof.Rows.slot_tuple_getitem ht.typeIs entry_tuple_getitem ?_ (args_tuple_getitem _ _)))
 show wpAny _ _ (Builtin.Tuple.tupleItemsOf (.ref t) >>= _) _ _ s
 refine wpAny_bind (tupleItemsOf_ ht ?_)
 refine wpAny_bind (wpAny_typeOf hTs ?_)
 rw [if_pos (by decide)]
 refine wpAny_bind (dm hs pl pu ?_)
 have hno : ¬ ((((sIx items.size 0 lo:Nat):Int) == 0 && (1:Int) == 1 && (sIx items.size items.size hi - sIx items.size 0 lo) == items.size) = true):=by
  intro q
  rw [Bool.and_eq_true,Bool.and_eq_true] at q
  have q1:((sIx items.size 0 lo:Nat):Int) = 0:=eq_of_beq q.1.1
  have q2:sIx items.size items.size hi - sIx items.size 0 lo = items.size:=eq_of_beq q.2
  exact hw ⟨by omega,by omega⟩
 show wpAny _ _ (if (((sIx items.size 0 lo:Nat):Int) == 0 && (1:Int) == 1 && (sIx items.size items.size hi - sIx items.size 0 lo) == items.size) = true then _ else _) _ _ s
 rw [if_neg hno,uo]
 first
  | exact wpAny_bind (m:=Builtin.Tuple.tupleExact _) (wpAny_newObj_type (wpAny_pure ⟨_,rfl,wpAny_pure h⟩) htake)
  | exact wpAny_bind (m:=Builtin.Tuple.tupleExact _) (wpAny_newObj_type (wpAny_bind (wpAny_pure (wpAny_pure ⟨_,rfl,wpAny_pure h⟩))) htake)
  | exact wpAny_bind (wpAny_bind (m:=Builtin.Tuple.tupleExact _) (wpAny_newObj_type (wpAny_pure (wpAny_pure ⟨_,rfl,wpAny_pure h⟩)) htake))
  | exact wpAny_bind (wpAny_bind (m:=Builtin.Tuple.tupleExact _) (wpAny_newObj_type (wpAny_pure ⟨_,rfl,wpAny_pure h⟩) htake))
end
end HT
namespace L2
open PySem PySem.Spec PyProof.Rows
section
noncomputable abbrev TO:=St -> Hp -> (Option Int -> Hp -> Prop) -> Prop
noncomputable def PO (X:Cx) (e:Option Expr) (t:TO):Prop :=
 ∀ (pins:List (Addr × Obj)) (s:Shared) (σ:St) (H:Hp) (Q:Option Int -> Hp -> Prop),Inv X pins σ H s -> t σ H Q ->
  wpAny (model X.prog X.w) X.A (evalPart e X.env) (fun u s' => ∃ o H',Inv X pins σ H' s' /\ IsPart u o /\ Q o H') X.xe s
noncomputable def xB:TO:=fun _ H Q=>Q none H
noncomputable def B8 (t:TE):TO:=fun σ H Q=>t σ H fun x H1 => ∃ i,x = .int i /\ Q (some i) H1
section
variable {X:Cx} {e:Expr} {te:TE} {lo hi:Option Expr} {tl th:TO} {pos p2:Pos}
theorem xC:PO X none xB:=by
 intro pins s σ H Q I h
 rw [evalPart_none]
 exact wpAny_pure ⟨none,H,I, .none,h⟩
theorem xD (h:PE X e te):PO X (some e) (B8 te):=by
 intro pins s σ H Q I hw
 rw [evalPart_some]
 refine thn (h pins s σ H _ I hw) fun u s1 ⟨x,H1,I1,r1,q1⟩ => ?_
 obtain ⟨i,rfl,q⟩:=q1
 obtain ⟨t,rfl⟩:=r1
 exact ⟨some i,H1,I1, .int i t,q⟩
noncomputable def SlR (X:Cx) (r:V -> Option Int -> Option Int -> Hp -> VK -> Prop):Prop :=
 ∀ (pins:List (Addr × Obj)) (s:Shared) (σ:St) (H:Hp) (x:V) (v vl vu:Value) (lo hi:Option Int) (sl:Addr) (Q:VK),Inv X pins σ H s -> RelV x v -> s.heap.IsSliceOf sl vl vu .none -> IsPart vl lo -> IsPart vu hi -> r x lo hi H Q ->
  ∃ T id,typeLookup (.type T) "__getitem__" = pure (some (.builtin id)) /\ s.TypeIs v T /\ wpAny (model X.prog X.w) X.A (getItem v (.ref sl)) (EP X pins σ Q) X.xe s
theorem SlR.or {r r':V -> Option Int -> Option Int -> Hp -> VK -> Prop} (h:SlR X r) (h':SlR X r'):SlR X (fun x lo hi H Q=>r x lo hi H Q ∨ r' x lo hi H Q):=by
 intro pins s σ H x v vl vu lo hi sl Q I rx hs pl pu q
 rcases q with q | q
 ·exact h pins s σ H x v vl vu lo hi sl Q I rx hs pl pu q
 ·exact h' pins s σ H x v vl vu lo hi sl Q I rx hs pl pu q
noncomputable def tSl (r:V -> Option Int -> Option Int -> Hp -> VK -> Prop) (te:TE) (tl th:TO):TE:=fun σ H Q=>te σ H fun x H1=>tl σ H1 fun l H2=>th σ H2 fun u H3=>r x l u H3 Q
theorem uq {r:V -> Option Int -> Option Int -> Hp -> VK -> Prop} (hr:SlR X r) (he:PE X e te) (hl:PO X lo tl) (hu:PO X hi th):PE X (.Subscript e (.Slice lo hi none p2) pos) (tSl r te tl th):=by
 intro pins s σ H Q I h
 refine Subscript_ (thn (he pins s σ H _ I h) fun v s1 ⟨x,H1,I1,r1,q1⟩ => ?_)
 refine wpAny_Slice (thn (hl pins s1 σ H1 _ I1 q1) fun vl s2 ⟨l,H2,I2,pl,q2⟩=>thn (hu pins s2 σ H2 _ I2 q2) fun vu s3 ⟨u,H3,I3,pu,q3⟩ => ?_)
 rw [evalPart_none]
 refine wpAny_pure ?_
 have I4:Inv X pins σ H3 { s3 with heap:=s3.heap.push { cls := .type "slice",data := .fields #[vl,vu, .none] } }:=I3.kept (t':=s3.toks) fun b ob q=>Heap.get?_push_of_some _ q
 obtain ⟨T,id,hT,ht,hg⟩:=hr pins { s3 with heap:=s3.heap.push { cls := .type "slice",data := .fields #[vl,vu, .none] } } σ H3 x v vl vu l u s3.heap.objs.size Q I4 r1 (Heap.IsSliceOf.new ..) pl pu q3
 show wpAny (model X.prog X.w) X.A (subscriptTail e (.Slice lo hi none p2) v (.ref s3.heap.objs.size)) (EP X pins σ Q) X.xe { s3 with heap:=s3.heap.push { cls := .type "slice",data := .fields #[vl,vu, .none] } }
 exact tail_any (ops := [.ref s3.heap.objs.size,v]) ht hT hg (by with_unfolding_all rfl)
noncomputable def fk (xs:List V) (lo hi:Option Int):List V:=(xs.drop (HT.sIx xs.length 0 lo)).take (HT.sIx xs.length xs.length hi - HT.sIx xs.length 0 lo)
theorem gx (xs:List V) (lo hi:Option Int):(fk xs lo hi).length <= xs.length:=by
 unfold fk
 rw [List.length_take,List.length_drop]
 omega
noncomputable def BX (K:Frag):V -> Option Int -> Option Int -> Hp -> VK -> Prop:=fun x lo hi H Q => ∃ a xs,x = .ref a /\ SqT K H a xs /\
 ¬ (HT.sIx xs.length 0 lo = 0 /\ HT.sIx xs.length xs.length hi = xs.length) /\ ∀ p,H p = none -> Q (.ref p) (upd H p (.tup (fk xs lo hi)))
theorem sl_tup:SlR X (BX X.K):=by
 intro pins s σ H x v vl vu lo hi sl Q I rx hs pl pu h
 obtain ⟨a,xs,rfl,hx,hw,q⟩:=h
 cases rx
 obtain ⟨its,r,ht,hz⟩:=I.tuple hx
 have hlen:its.toArray.size = xs.length:=by rw [List.size_toArray];exact r.length.symm
 refine ⟨"tuple",_,PyProof.Rows.slot_tuple_getitem.lookup,ht.typeIs, ?_⟩
 refine HT.getItem_tuple_cut ht hs pl pu (by rw [hlen];exact hw) ?_ (by rw [hlen];exact hz)
 rw [hlen]
 refine ⟨.ref s.heap.objs.size,_,I.laid (t':=s.toks) (o := .tup (fk xs lo hi)) (fun b ob q=>Heap.get?_push_of_some _ q) (Nat.le_refl _) ?_,rfl,q _ (I.hok.fresh (Nat.le_refl _))⟩
 exact ⟨Nat.le_trans (gx xs lo hi) hz,_,(r.drop (HT.sIx xs.length 0 lo)).take (HT.sIx xs.length xs.length hi - HT.sIx xs.length 0 lo),IsTup.new _ _⟩
noncomputable def wq (K:Frag):R2:=fun x y H Q => ∃ a b xs ys,x = .ref a /\ y = .ref b /\ SqT K H a xs /\ SqT K H b ys /\ xs ≠ [] /\ xs.length + ys.length <= sizeLine /\
 (ys = [] -> Q (.ref a) H) /\ (ys ≠ [] -> ∀ p,H p = none -> Q (.ref p) (upd H p (.tup (xs ++ ys))))
theorem Vals.nil_iff {xs:List V} {us:List Value} (r:Vals xs us):us = [] ↔ xs = []:=by
 cases r with
 | nil=>simp
 | cons _ _=>simp
theorem op_catT:OpR X (binaryOp .Add) (wq X.K):=by
 intro pins s σ H x y v u Q I rx ry h
 obtain ⟨a,b,xs,ys,rfl,rfl,ha,hb,hx,hz,q1,q2⟩:=h
 cases rx
 cases ry
 obtain ⟨its,r1,p1,_⟩:=I.tuple ha
 obtain ⟨its2,r2,p2,_⟩:=I.tuple hb
 refine HT.cat_tup p1 p2 (fun z=>hx (r1.nil_iff.mp z)) (fun z=>⟨.ref a,H,I,rfl,q1 (r2.nil_iff.mp z)⟩) (fun z => ?_) (by rw [<- r1.length, <- r2.length];exact hz)
 refine ⟨.ref s.heap.objs.size,_,I.laid (t':=s.toks) (o := .tup (xs ++ ys)) (fun b ob q=>Heap.get?_push_of_some _ q) (Nat.le_refl _) ?_,rfl,q2 (fun w=>z (r2.nil_iff.mpr w)) _ (I.hok.fresh (Nat.le_refl _))⟩
 exact ⟨by rw [List.length_append];exact hz,_,r1.append r2,IsTup.new _ _⟩
end
end
section
noncomputable def ixN (n:Nat) (i:Int):Option Nat:=if 0 <= i then (if i < n then some i.toNat else none) else if -(n:Int) <= i then some (i + n).toNat else none
noncomputable def atI {α:Type} (xs:List α) (i:Int):Option α := (ixN xs.length i).bind fun j=>xs[j]?
theorem nY {n:Nat} {i:Int} {j:Nat} (h:ixN n i = some j):seqIndex? i n = some j /\ j < n /\ -(n:Int) <= i /\ i < n:=by
 unfold ixN at h
 by_cases h0 : 0 <= i
 ·rw [if_pos h0] at h
  by_cases h1:i < n
  ·rw [if_pos h1] at h
   have e:i.toNat = j:=Option.some.inj h
   exact ⟨by rw [seqIndex_of h0 h1,e],by omega,by omega,h1⟩
  ·rw [if_neg h1] at h;cases h
 ·rw [if_neg h0] at h
  by_cases h1 : -(n:Int) <= i
  ·rw [if_pos h1] at h
   have e:(i + n).toNat = j:=Option.some.inj h
   exact ⟨by rw [seqIndex_neg (by omega) h1,e],by omega,h1,by omega⟩
  ·rw [if_neg h1] at h;cases h
theorem nZ {α:Type} {xs:List α} {i:Int} {v : α} (h:atI xs i = some v):∃ j,seqIndex? i xs.length = some j /\ xs[j]? = some v /\ j < xs.length /\ -(xs.length:Int) <= i /\ i < xs.length:=by
 unfold atI at h
 cases e:ixN xs.length i with
 | none=>rw [e] at h;cases h
 | some j =>
   rw [e] at h
   obtain ⟨h1,h2,h3,h4⟩:=nY e
   exact ⟨j,h1,h,h2,h3,h4⟩
noncomputable def j7 (b:Expr):Prop := ∀ o i,subscripted b false o i = operate [o,i] (getItem o i)
noncomputable def IxR (X:Cx) (r:R2):Prop :=
 ∀ (value slice:Expr) (pins:List (Addr × Obj)) (s:Shared) (σ:St) (H:Hp) (x y:V) (v u:Value) (Q:VK),Inv X pins σ H s -> RelV x v -> RelV y u -> r x y H Q ->
  subscripted slice false v u = operate [v,u] (getItem v u) -> wpAny (model X.prog X.w) X.A (subscriptTail value slice v u) (EP X pins σ Q) X.xe s
noncomputable def MtR (X:Cx) (id:String) (r:V -> List V -> Hp -> VK -> Prop):Prop :=
 ∀ (pins:List (Addr × Obj)) (s:Shared) (σ:St) (H:Hp) (x:V) (xs:List V) (v:Value) (us:List Value) (Q:VK),Inv X pins σ H s -> RelV x v -> Vals xs us -> r x xs H Q ->
  wpAny (model X.prog X.w) X.A (call (.builtin id) (v :: us)) (EP X pins σ Q) X.xe s
section
variable {X:Cx} {a b:Expr} {ta tb:TE} {pos:Pos}
theorem IxR.or {r r':R2} (h:IxR X r) (h':IxR X r'):IxR X (fun x y H Q=>r x y H Q ∨ r' x y H Q):=by
 intro value slice pins s σ H x y v u Q I rx ry q hs
 rcases q with q | q
 ·exact h value slice pins s σ H x y v u Q I rx ry q hs
 ·exact h' value slice pins s σ H x y v u Q I rx ry q hs
theorem MtR.or {id:String} {r r':V -> List V -> Hp -> VK -> Prop} (h:MtR X id r) (h':MtR X id r'):MtR X id (fun x xs H Q=>r x xs H Q ∨ r' x xs H Q):=by
 intro pins s σ H x xs v us Q I rx rs q
 rcases q with q | q
 ·exact h pins s σ H x xs v us Q I rx rs q
 ·exact h' pins s σ H x xs v us Q I rx rs q
theorem B9 {r:R2} (hr:IxR X r) (ha:PE X a ta) (hb:PE X b tb) (hs:j7 b):PE X (.Subscript a b pos) (tOp r ta tb):=by
 intro pins s σ H Q I h
 exact Subscript_ (uf ha hb I h fun v u s2 x y H2 I2 rx ry q=>hr a b pins s2 σ H2 x y v u Q I2 rx ry q (hs _ _))
noncomputable def BY (K:Frag):R2:=fun x y H Q => ∃ p xs i v,x = .ref p /\ y = .int i /\ SqL K H p xs /\ atI xs i = some v /\ Q v H
noncomputable def BZ (K:Frag):R2:=fun x y H Q => ∃ p xs i v,x = .ref p /\ y = .int i /\ SqT K H p xs /\ atI xs i = some v /\ Q v H
theorem ix_list:IxR X (BY X.K):=by
 intro value slice pins s σ H x y v u Q I rx ry h hs
 obtain ⟨p,xs,i,z,rfl,rfl,hq,he,q⟩:=h
 cases rx
 obtain ⟨t,rfl⟩:=ry
 obtain ⟨its,r,pl,hz⟩:=I.list hq
 obtain ⟨j,h1,h2,h3,h4,h5⟩:=nZ he
 obtain ⟨w,ew,rw'⟩:=r.get h2
 have hl:=r.length
 have hn:=fj
 have fin:EP X pins σ Q w s:=⟨z,H,I,rw',q⟩
 by_cases h0 : 0 <= i
 ·have hj:i.toNat = j:=by
   rw [seqIndex_of h0 h5] at h1
   exact Option.some.inj h1
  exact item_listR pl.isList h0 (by omega) (by rw [hj];simpa using ew) fin hs
 ·have hj:(i + (its.toArray.size:Int)).toNat = j:=by
   rw [seqIndex_neg (by omega) h4] at h1
   rw [List.size_toArray, <- hl]
   exact Option.some.inj h1
  exact subscriptTail_builtinR (x:=w) pl.isList.typeIs slot_list_getitem.lookup
   (wpAny_getItem_list_neg (Q:=fun r s'=>r = w /\ EP X pins σ Q r s') pl.isList (by omega) (by rw [List.size_toArray] <;> omega) (by omega) (by rw [hj];simpa using ew) ⟨rfl,fin⟩) hs
theorem ix_tup:IxR X (BZ X.K):=by
 intro value slice pins s σ H x y v u Q I rx ry h hs
 obtain ⟨p,xs,i,z,rfl,rfl,hq,he,q⟩:=h
 cases rx
 obtain ⟨t,rfl⟩:=ry
 obtain ⟨its,r,pl,hz⟩:=I.tuple hq
 obtain ⟨j,h1,h2,h3,h4,h5⟩:=nZ he
 obtain ⟨w,ew,rw'⟩:=r.get h2
 have hl:=r.length
 have hn:=fj
 have fin:EP X pins σ Q w s:=⟨z,H,I,rw',q⟩
 exact subscriptTail_builtinR (x:=w) pl.typeIs slot_tuple_getitem.lookup
  (getItem_tuple (j:=j) (Q:=fun r s'=>r = w /\ EP X pins σ Q r s') pl (by omega) (by omega) (by rw [List.size_toArray, <- hl];exact h1) (by simpa using ew) ⟨rfl,fin⟩) hs
theorem pQ (its:List Value) (n j:Nat) (u:Value):Obj.mapSeq (·.setIfInBounds j u) { cls := .type "list",data := .seq its.toArray n } = { cls := .type "list",data := .seq (its.set j u).toArray n }:=by
 simp [Obj.mapSeq]
theorem Inv.lst {pins:List (Addr × Obj)} {σ:St} {H:Hp} {s:Shared} {p:Addr} {xs:List V} (I:Inv X pins σ H s) (h:H p = some (.lst xs)) :
 ∃ (its:List Value) (n:Nat),Vals xs its /\ s.heap.get? p = some { cls := .type "list",data := .seq its.toArray n } /\ xs.length <= sizeLine:=by
 obtain ⟨z,its,n,r,e⟩:=I.hok p _ h
 exact ⟨its,n,r,e,z⟩
theorem Inv.lstUpd {pins:List (Addr × Obj)} {σ:St} {H:Hp} {s:Shared} {p:Addr} {xs ys:List V} {its its':List Value} {n n':Nat} {f:Obj -> Obj} (I:Inv X pins σ H s) (h:H p = some (.lst xs))
 (ho:s.heap.get? p = some { cls := .type "list",data := .seq its.toArray n }) (hf:f { cls := .type "list",data := .seq its.toArray n } = { cls := .type "list",data := .seq its'.toArray n' }) (r:Vals ys its') (hz:ys.length <= sizeLine) (t:Nat) :
 Inv X pins σ (upd H p (.lst ys)) { s with heap:=s.heap.update p f,toks:=t }:=by
 have e:(s.heap.update p f).get? p = some { cls := .type "list",data := .seq its'.toArray n' }:=by
  rw [Heap.get?_update_self f ho (by rw [hf] <;> rfl),hf]
 refine I.write (x:=p) (e:=p) (by rw [h];trivial) (.inl rfl) (fun b u hb q=>(Heap.get?_update_other _ _ (Ne.symm hb)).trans q) ⟨_,e⟩ ?_
 exact ⟨hz,its',n',r,e⟩
noncomputable def wu:V -> V -> V -> Hp -> (Hp -> Prop) -> Prop:=fun o i v H Q => ∃ p xs k j,o = .ref p /\ i = .int k /\ H p = some (.lst xs) /\ ixN xs.length k = some j /\ Q (upd H p (.lst (xs.set j v)))
theorem ut:PSet X wu:=by
 intro pins s σ H o i v ov iv u Q I ro ri rv h
 obtain ⟨p,xs,k,j,rfl,rfl,hp,hj,q⟩:=h
 cases ro
 obtain ⟨t,rfl⟩:=ri
 obtain ⟨its,n,r,ho,hz⟩:=I.lst hp
 obtain ⟨h1,h2,h3,h4⟩:=nY hj
 have hl:=r.length
 have hn:=fj
 have I':Inv X pins σ (upd H p (.lst (xs.set j v))) { s with heap:=s.heap.update p (Obj.mapSeq (·.setIfInBounds j u)) } :=
  I.lstUpd hp ho (pQ its n j u) (r.set rv j) (by rw [List.length_set];exact hz) s.toks
 by_cases h0 : 0 <= k
 ·have hk:k.toNat = j:=by
   rw [seqIndex_of h0 h4] at h1
   exact Option.some.inj h1
  exact PySem.W.ki_setAt ho h0 (by omega) (by rw [List.size_toArray, <- hl];exact h4) (by rw [hk];exact ⟨_,I',q⟩)
 ·have hk:(k + (its.toArray.size:Int)).toNat = j:=by
   rw [seqIndex_neg (by omega) h3] at h1
   rw [List.size_toArray, <- hl]
   exact Option.some.inj h1
  exact PySem.W.ki_setBack ho (by omega) (by rw [List.size_toArray, <- hl];exact h3) (by omega) (by rw [hk];exact ⟨_,I',q⟩)
theorem kF (lo hi:Option Int) (n:Nat):(sliceBounds lo hi none n).1 = ((HT.sIx n 0 lo:Nat):Int) /\ (sliceBounds lo hi none n).2.1 = ((HT.sIx n n hi:Nat):Int) /\ (sliceBounds lo hi none n).2.2 = 1:=by
 refine ⟨?_, ?_,rfl⟩
 ·cases lo with
  | none=>simp [sliceBounds,HT.sIx]
  | some i =>
    simp only [sliceBounds,HT.sIx,Option.getD_none,show (1:Int) > 0 by decide,if_true]
    by_cases h:i < 0
    ·simp only [h,if_true] <;> omega
    ·simp only [h,if_false] <;> omega
 ·cases hi with
  | none=>simp [sliceBounds,HT.sIx]
  | some i =>
    simp only [sliceBounds,HT.sIx,Option.getD_none,show (1:Int) > 0 by decide,if_true]
    by_cases h:i < 0
    ·simp only [h,if_true] <;> omega
    ·simp only [h,if_false] <;> omega
theorem kl (its:List Value) (lo hi:Option Int):slicePick its.toArray lo hi none = ((its.drop (HT.sIx its.length 0 lo)).take (HT.sIx its.length its.length hi - HT.sIx its.length 0 lo)).toArray:=by
 obtain ⟨h1,h2,h3⟩:=kF lo hi its.toArray.size
 unfold slicePick
 rw [h1,h2,h3]
 simp only [sliceRange_one,pick_run,List.size_toArray] <;> rfl
noncomputable def C0 (K:Frag):V -> Option Int -> Option Int -> Hp -> VK -> Prop:=fun x lo hi H Q => ∃ a xs,x = .ref a /\ SqL K H a xs /\ ∀ p,H p = none -> Q (.ref p) (upd H p (.lst (fk xs lo hi)))
theorem sl_list:SlR X (C0 X.K):=by
 intro pins s σ H x v vl vu lo hi sl Q I rx hs pl pu h
 obtain ⟨a,xs,rfl,hx,q⟩:=h
 cases rx
 obtain ⟨its,r,ht,hz⟩:=I.list hx
 have hlen:=r.length
 refine ⟨"list",_,slot_list_getitem.lookup,ht.isList.typeIs, ?_⟩
 refine wpAny_getItem_list_slice ht.isList hs pl pu .none (by simp) ?_ (by rw [List.size_toArray] <;> omega)
 rw [kl, <- hlen]
 refine ⟨.ref s.heap.objs.size,_,I.laid (t':=s.toks) (o := .lst (fk xs lo hi)) (fun b ob q=>Heap.get?_push_of_some _ q) (Nat.le_refl _) ?_,rfl,q _ (I.hok.fresh (Nat.le_refl _))⟩
 exact ⟨Nat.le_trans (gx xs lo hi) hz,_,0,(r.drop (HT.sIx xs.length 0 lo)).take (HT.sIx xs.length xs.length hi - HT.sIx xs.length 0 lo),Heap.get?_push_size _ rfl⟩
theorem CallR.or {f:Value} {r r':List V -> Hp -> VK -> Prop} (h:CallR X f r) (h':CallR X f r'):CallR X f (fun xs H Q=>r xs H Q ∨ r' xs H Q):=by
 intro pins s σ H xs us Q I rs q
 rcases q with q | q
 ·exact h pins s σ H xs us Q I rs q
 ·exact h' pins s σ H xs us Q I rs q
theorem kG:CallR X (.type "list") (fun xs H Q => ∃ p ys,xs = [.ref p] /\ (SqL X.K H p ys ∨ SqT X.K H p ys) /\ ∀ l,H l = none -> Q (.ref l) (upd H l (.lst ys))):=by
 intro pins s σ H xs us Q I r h
 obtain ⟨p,ys,rfl,hq,q⟩:=h
 obtain ⟨u,rfl,rx⟩:=dD r
 cases rx
 have fin:∀ (its:List Value),Vals ys its -> ys.length <= sizeLine -> ∀ (h':Heap) (c':Nat),(∀ b o',s.heap.get? b = some o' -> h'.get? b = some o') ->
  h'.get? s.heap.objs.size = some { cls := .type "list",dict:=none,data := .seq its.toArray c',slots := #[] } -> EP X pins σ Q (.ref s.heap.objs.size) { s with heap:=h' }:=fun its r' hz h' c' kp e =>
  ⟨.ref s.heap.objs.size,_,I.laid (t':=s.toks) kp (Nat.le_refl _) (show ObjOk X.prog X.w _ h' _ (.lst ys) from ⟨hz,its,c',r',e⟩),rfl,q _ (I.hok.fresh (Nat.le_refl _))⟩
 rcases hq with hq | hq
 ·obtain ⟨its,r',pl,hz⟩:=I.list hq
  have hlen:=r'.length
  obtain ⟨o,ho,hc,n,hd⟩:=pl.isList
  exact call_list_seq p (.inl rfl) ho hc hd (fun h' c' kp e=>fin its r' hz h' c' kp e) (by simp only [List.size_toArray] <;> omega)
 ·obtain ⟨its,r',pl,hz⟩:=I.tuple hq
  have hlen:=r'.length
  obtain ⟨o,ho,hc,n,hd⟩:=pl
  exact call_list_seq p (.inr rfl) ho hc hd (fun h' c' kp e=>fin its r' hz h' c' kp e) (by simp only [List.size_toArray] <;> omega)
theorem km:CallR X (.type "tuple") (fun xs H Q => ∃ p ys,xs = [.ref p] /\ ((SqL X.K H p ys /\ ∀ l,H l = none -> Q (.ref l) (upd H l (.tup ys))) ∨ (SqT X.K H p ys /\ Q (.ref p) H))):=by
 intro pins s σ H xs us Q I r h
 obtain ⟨p,ys,rfl,h⟩:=h
 obtain ⟨u,rfl,rx⟩:=dD r
 cases rx
 rcases h with ⟨hq,q⟩ | ⟨hq,q⟩
 ·obtain ⟨its,r',pl,hz⟩:=I.list hq
  have hlen:=r'.length
  refine call_tuple_list pl.isList (fun h' kp => ?_) (by simp only [List.size_toArray] <;> omega)
  have I1:Inv X pins σ H { s with heap:=h' }:=I.kept (t':=s.toks) kp
  have I2:Inv X pins σ (upd H h'.objs.size (.tup ys)) { s with heap:=h'.push { cls := .type "tuple",data := .seq its.toArray } } :=
   I1.laid (t':=s.toks) (fun b o e=>Heap.get?_push_of_some _ e) (Nat.le_refl _) (show ObjOk X.prog X.w _ _ _ (.tup ys) from ⟨hz,its,r',IsTup.new _ _⟩)
  exact ⟨.ref h'.objs.size,_,I2,rfl,q _ (I1.hok.fresh (Nat.le_refl _))⟩
 ·obtain ⟨its,r',pl,hz⟩:=I.tuple hq
  exact call_tuple_same pl ⟨.ref p,H,I,rfl,q⟩
noncomputable def tyV (K:Frag) (T:String) (x:V) (H:Hp):Prop:=match x with
 | .str _=>T = "str"
 | .int _=>T = "int"
 | .ref p=>(T = "list" /\ ∃ xs,SqL K H p xs) ∨ (T = "tuple" /\ ∃ o,K.lookup p = some o /\ o.cls = .type "tuple" /\ o.dict = none) ∨
  (T = "dict" /\ ((∃ kvs,H p = some (.dK kvs)) ∨ ∃ kvs,H p = some (.dT kvs))) ∨ (T = "set" /\ ∃ S n,H p = some (.set S n))
 | _=>False
theorem rn {pins:List (Addr × Obj)} {σ:St} {H:Hp} {s:Shared} {T:String} {x:V} {v:Value} (I:Inv X pins σ H s) (r:RelV x v) (ty:tyV X.K T x H) :
 s.TypeIs v T /\ ∀ a,v = .ref a -> ∃ ob,s.heap.get? a = some ob /\ ob.dict = none:=by
 cases x with
 | str z =>
   obtain ⟨t,rfl⟩:=r
   cases (show T = "str" from ty)
   exact ⟨typeIs_str s z t,fun _ e=>nomatch e⟩
 | int i =>
   obtain ⟨t,rfl⟩:=r
   cases (show T = "int" from ty)
   exact ⟨typeIs_int s i t,fun _ e=>nomatch e⟩
 | ref p =>
   cases r
   rcases ty with ⟨rfl,xs,hq⟩ | ⟨rfl,o,hk,hc,hd⟩ | ⟨rfl,hk⟩ | ⟨rfl,S,n,hk⟩
   ·obtain ⟨its,_,pl,_⟩:=I.list hq
    refine ⟨pl.isList.typeIs,fun a e => ?_⟩
    cases e
    obtain ⟨o,n,e,c,hd,_⟩:=pl
    exact ⟨o,e,hd⟩
   ·refine ⟨⟨o,I.kIn p o hk,hc⟩,fun a e => ?_⟩
    cases e
    exact ⟨o,I.kIn _ o hk,hd⟩
   ·have z:∃ o,s.heap.get? p = some o /\ o.ExactDict:=by
     rcases hk with ⟨kvs,hk⟩ | ⟨kvs,hk⟩
     ·obtain ⟨_,_,_,_,o,_,_,e,ex,_⟩:=I.hok p _ hk
      exact ⟨o,e,ex⟩
     ·obtain ⟨_,_,_,_,o,_,_,e,ex,_⟩:=I.hok p _ hk
      exact ⟨o,e,ex⟩
    obtain ⟨o,e,ex⟩:=z
    refine ⟨⟨o,e,ex.1⟩,fun a e2 => ?_⟩
    cases e2
    exact ⟨o,e,ex.2.1⟩
   ·obtain ⟨o,_,_,_,e,ex,_⟩:=I.hok p _ hk
    refine ⟨⟨o,e,ex.1⟩,fun a e2 => ?_⟩
    cases e2
    exact ⟨o,e,ex.2.1⟩
 | _=>exact False.elim ty
noncomputable def zM (K:Frag) (T:String) (r:V -> List V -> Hp -> VK -> Prop) (to:TE):TE:=fun σ H Q=>to σ H fun x H1=>tyV K T x H1 /\ r x [] H1 Q
noncomputable def tBM (K:Frag) (T:String) (r:V -> List V -> Hp -> VK -> Prop) (to:TE) (t:TA):TE:=fun σ H Q=>to σ H fun x H1=>tyV K T x H1 /\ t σ H1 fun xs H2=>r x xs H2 Q
variable {o e:Expr} {es:List Expr} {to:TE} {t:TA} {name:Str} {apos cpos:Pos} {T id:String} {r:V -> List V -> Hp -> VK -> Prop}
theorem rp (pa:PlainAttrs T) (slot:Slot T name id) (hty:typeOf (.builtin id) = pure (.type "method_descriptor")) (hm:MtR X id r) (ho:PE X o to)
 (hbase:attributeBase o name X.env (eval o X.env) = eval o X.env:=by rfl) (hline:(apos.endLine == cpos.line) = true:=by rfl):PE X (.Call (.Attribute o name apos) [] [] cpos) (zM X.K T r to):=by
 intro pins s σ H Q I h
 refine wpAny_Call_method0_late hbase hline (thn (ho pins s σ H _ I h) fun v s1 ⟨x,H1,I1,r1,ty,q1⟩ => ?_)
 obtain ⟨h1,h2⟩:=rn I1 r1 ty
 exact ⟨T,id,pa,slot,hty,h1,h2,Calls.callWith_builtin rfl (PySem.evalArgs_none (hm pins s1 σ H1 x [] v [] Q I1 r1 .nil q1))⟩
theorem wv (pa:PlainAttrs T) (slot:Slot T name id) (hty:typeOf (.builtin id) = pure (.type "method_descriptor")) (hm:MtR X id r) (ho:PE X o to) (ha:PA X (e :: es) t)
 (hbase:attributeBase o name X.env (eval o X.env) = eval o X.env:=by rfl)
 (hfew:((backTo cpos (starEach (e :: es) X.env)).all (fun x => !x.1) && (backToKw cpos (keywordEach [] X.env)).all (fun x=>x.1.isSome)
   && decide ((e :: es).length + ([]:List Keyword).length + (if ([]:List Keyword).isEmpty then 0 else 1) < 30)) = true:=by rfl)
 (hline:(apos.endLine == cpos.line) = true:=by rfl) (hs:starEach (e :: es) X.env = (false,eval e X.env) :: starEach es X.env:=by rfl) (hplain:(backTo cpos (starEach es X.env)).any (·.1) = false:=by rfl) :
 PE X (.Call (.Attribute o name apos) (e :: es) [] cpos) (tBM X.K T r to t):=by
 intro pins s σ H Q I h
 refine wpAny_Call_method_late hbase hfew hline rfl (thn (ho pins s σ H _ I h) fun v s1 ⟨x,H1,I1,r1,ty,q1⟩ => ?_)
 obtain ⟨h1,h2⟩:=rn I1 r1 ty
 refine ⟨T,id,pa,slot,hty,h1,h2, ?_⟩
 have hA:=ha cpos pins s1 σ H1 _ I1 q1
 rw [hs] at hA ⊢
 refine Calls.callWith_builtin (by show (false || (backTo cpos (starEach es X.env)).any (·.1)) = false;rw [hplain] <;> rfl) (Calls.evalArgs_plain ?_)
 exact thn hA fun us s2 ⟨vs,H2,I2,r2,q2⟩=>hm pins s2 σ H2 x vs v us Q I2 r1 r2 q2
end
end
section
noncomputable def MtM (X:Cx) (id:String) (r:V -> List V -> Hp -> VK -> Prop):Prop :=
 ∀ (pins:List (Addr × Obj)) (s:Shared) (σ:St) (H:Hp) (x:V) (xs:List V) (v:Value) (us:List Value) (Q:VK),Inv X pins σ H s -> RelV x v -> Vals xs us -> r x xs H Q ->
  wpAny (model X.prog X.w) X.A (call (.builtin id) (v :: us)) (EP X pins σ Q) X.xe s
theorem Vals.one:∀ {x:V} {us:List Value},Vals [x] us -> ∃ u,us = [u] /\ RelV x u
 | _,_, .cons r .nil=>⟨_,rfl,r⟩
theorem Vals.zero:∀ {us:List Value},Vals [] us -> us = []
 | _, .nil=>rfl
theorem Vals.dropLast {xs:List V} {us:List Value} (h:Vals xs us):Vals xs.dropLast us.dropLast:=by
 induction h with
 | nil=>exact .nil
 | cons r t ih =>
   cases t with
   | nil=>exact .nil
   | cons q t'=>exact .cons r ih
theorem Vals.eraseIdx:∀ {xs:List V} {us:List Value} (i:Nat),Vals xs us -> Vals (xs.eraseIdx i) (us.eraseIdx i)
 | _,_,_, .nil => .nil
 | _,_,0, .cons _ t=>t
 | _,_,i + 1, .cons r t => .cons r (Vals.eraseIdx i t)
theorem Vals.reverse {xs:List V} {us:List Value} (h:Vals xs us):Vals xs.reverse us.reverse:=by
 induction h with
 | nil=>exact .nil
 | cons r t ih=>rw [List.reverse_cons,List.reverse_cons];exact Vals.append ih (.cons r .nil)
theorem Vals.rep {xs:List V} {us:List Value} (h:Vals xs us):∀ k:Nat,Vals (List.replicate k xs).flatten (List.replicate k us).flatten
 | 0 => .nil
 | k + 1=>by
   rw [List.replicate_succ,List.replicate_succ,List.flatten_cons,List.flatten_cons]
   exact Vals.append h (Vals.rep h k)
theorem pR {α:Type} (l:List α):l.eraseIdx (l.length - 1) = l.dropLast:=by
 induction l with
 | nil=>rfl
 | cons a r ih =>
   cases r with
   | nil=>rfl
   | cons b r =>
     have e:(a :: b :: r).length - 1 = ((b :: r).length - 1) + 1:=by
      have h1:(a :: b :: r).length = r.length + 2:=rfl
      have h2:(b :: r).length = r.length + 1:=rfl
      omega
     rw [e,List.eraseIdx_cons_succ,ih]
     all_goals rfl
theorem fo (its:List Value):∀ (k:Nat) (acc:List Value),
 List.foldl (fun x1 x2=>x1 ++ x2) acc.toArray (List.replicate k its.toArray) = (acc ++ (List.replicate k its).flatten).toArray
 | 0,acc=>by simp
 | k + 1,acc=>by
   have e:acc.toArray ++ its.toArray = (acc ++ its).toArray:=by simp
   have e2:(acc ++ its) ++ (List.replicate k its).flatten = acc ++ (List.replicate (k + 1) its).flatten:=by
    rw [List.replicate_succ,List.flatten_cons,List.append_assoc]
   rw [<- e2, <- fo its k (acc ++ its), <- e,List.replicate_succ,List.foldl_cons]
section
variable {X:Cx} {pins:List (Addr × Obj)} {σ:St} {H:Hp} {s:Shared} {l b:Addr} {xs ys zs:List V}
theorem Inv.lset {its its':List Value} {n:Nat} {f:Array Value -> Array Value} {t':Nat} (I:Inv X pins σ H s) (hH:H l = some (.lst xs))
 (e:s.heap.get? l = some { cls := .type "list",data := .seq its.toArray n }) (hf:f its.toArray = its'.toArray) (hv:Vals ys its') (hz:ys.length <= sizeLine) :
 Inv X pins σ (upd H l (.lst ys)) { s with heap:=s.heap.update l (Obj.mapSeq f),toks:=t' }:=by
 have q:=PySem.IsL.update e f
 rw [hf] at q
 refine I.write (x:=l) (e:=l) (by rw [hH];exact trivial) (.inl rfl) (fun b' u hb hu=>(Heap.get?_update_other s.heap (Obj.mapSeq f) (Ne.symm hb)).trans hu) ⟨_,q⟩ ?_
 exact ⟨hz,its',_,hv,q⟩
theorem Inv.lnew {its:List Value} {t':Nat} (I:Inv X pins σ H s) (hv:Vals ys its) (hz:ys.length <= sizeLine) :
 Inv X pins σ (upd H s.heap.objs.size (.lst ys)) { s with heap:=s.heap.push { cls := .type "list",data := .seq its.toArray },toks:=t' } :=
 I.laid (fun _ _ q=>Heap.get?_push_of_some _ q) (Nat.le_refl _) ⟨hz,its,0,hv,Heap.get?_push_size _ rfl⟩
theorem Inv.fresh (I:Inv X pins σ H s):H s.heap.objs.size = none:=I.hok.fresh (Nat.le_refl _)
theorem Inv.lstM (I:Inv X pins σ H s) (hH:H l = some (.lst xs)):xs.length <= sizeLine /\ ∃ (its:List Value) (n:Nat),Vals xs its /\ xs.length = its.length /\ s.heap.get? l = some { cls := .type "list",data := .seq its.toArray n }:=by
 obtain ⟨z,its,n,r,e⟩:=I.hok l _ hH
 exact ⟨z,its,n,r,r.length,e⟩
theorem kH {n:Nat} (h:n <= sizeLine):Builtin.List.listTooLong n = false:=by
 unfold Builtin.List.listTooLong
 exact decide_eq_false (by omega)
end
section
variable {X:Cx}
noncomputable def og:V -> List V -> Hp -> VK -> Prop:=fun x vs H Q => ∃ l xs y,x = .ref l /\ vs = [y] /\ H l = some (.lst xs) /\ xs.length < sizeLine /\ Q .non (upd H l (.lst (xs ++ [y])))
theorem jF:MtM X "list.append" og:=by
 intro pins s σ H x vs v us Q I rx rv h
 obtain ⟨l,xs,y,rfl,rfl,hH,hz,q⟩:=h
 cases rx
 obtain ⟨u,rfl,ru⟩:=rv.one
 obtain ⟨z,its,n,r,hl,e⟩:=I.lstM hH
 refine call_meets F.slot_list_append ⟨_,e,rfl⟩ F.entry_list_append (F.args_list_append_2 _ _) (PySem.list_append l its.toArray n u (by rw [List.size_toArray];omega)) ⟨e, ?_⟩
 refine ⟨.non,_,I.lset (its':=its ++ [u]) hH e (by simp) (r.append (.cons ru .nil)) ?_,rfl,q⟩
 rw [List.length_append,List.length_singleton]
 omega
noncomputable def xE:V -> List V -> Hp -> VK -> Prop:=fun x vs H Q => ∃ l b xs zs,x = .ref l /\ vs = [.ref b] /\ H l = some (.lst xs) /\ H b = some (.lst zs) /\ xs.length + zs.length <= sizeLine /\ Q .non (upd H l (.lst (xs ++ zs)))
theorem BH:MtM X "list.extend" xE:=by
 intro pins s σ H x vs v us Q I rx rv h
 obtain ⟨l,b,xs,zs,rfl,rfl,hH,hB,hz,q⟩:=h
 cases rx
 obtain ⟨u,rfl,ru⟩:=rv.one
 cases ru
 obtain ⟨z,its,n,r,hl,e⟩:=I.lstM hH
 obtain ⟨z2,its2,n2,r2,hl2,e2⟩:=I.lstM hB
 have hsz:its.toArray.size + its2.toArray.size <= sizeLine:=by rw [List.size_toArray,List.size_toArray];omega
 have hlong : ¬ (!its.toArray.isEmpty && Builtin.List.listTooLong (its.toArray.size + its2.toArray.size)) = true:=by
  rw [kH hsz,Bool.and_false]
  exact Bool.false_ne_true
 refine call_meets F.slot_list_extend ⟨_,e,rfl⟩ F.entry_list_extend (F.args_list_extend_2 _ _)
  (AutoSeq1.list_extend_list_list_0 l its.toArray n b its2.toArray n2 hlong (by rw [List.size_toArray];omega) (by omega)) ⟨e,e2, ?_⟩
 refine ⟨.non,_,I.lset (its':=its ++ its2) hH e (by simp) (r.append r2) ?_,rfl,q⟩
 rw [List.length_append]
 omega
noncomputable def C1:V -> List V -> Hp -> VK -> Prop:=fun x vs H Q => ∃ l xs y,x = .ref l /\ vs = [] /\ H l = some (.lst xs) /\ xs[xs.length - 1]? = some y /\ Q y (upd H l (.lst xs.dropLast))
theorem Cc:MtM X "list.pop" C1:=by
 intro pins s σ H x vs v us Q I rx rv h
 obtain ⟨l,xs,y,rfl,rfl,hH,hy,q⟩:=h
 cases rx
 have hus:=rv.zero
 subst hus
 obtain ⟨z,its,n,r,hl,e⟩:=I.lstM hH
 obtain ⟨u,hu,ru⟩:=r.get hy
 have hy':its.toArray[its.toArray.size - 1]? = some u:=by
  show its.toArray[its.length - 1]? = some u
  rw [<- Array.getElem?_toList, <- hl]
  exact hu
 refine call_meets F.slot_list_pop ⟨_,e,rfl⟩ F.entry_list_pop (F.args_list_pop_1 _) (MeetsSeq.list_pop_last l its.toArray n u hy' (by rw [List.size_toArray];omega)) ⟨e, ?_⟩
 refine ⟨y,_,I.lset (its':=its.dropLast) hH e ?_ r.dropLast ?_,ru,q⟩
 ·show its.toArray.eraseIdxIfInBounds (its.toArray.size - 1) = its.dropLast.toArray
  rw [List.size_toArray,List.eraseIdxIfInBounds_toArray,pR]
 ·rw [List.length_dropLast]
  omega
noncomputable def kI:V -> List V -> Hp -> VK -> Prop:=fun x vs H Q => ∃ l xs,x = .ref l /\ vs = [] /\ H l = some (.lst xs) /\ Q .non (upd H l (.lst xs.reverse))
theorem pS:MtM X "list.reverse" kI:=by
 intro pins s σ H x vs v us Q I rx rv h
 obtain ⟨l,xs,rfl,rfl,hH,q⟩:=h
 cases rx
 have hus:=rv.zero
 subst hus
 obtain ⟨z,its,n,r,hl,e⟩:=I.lstM hH
 refine call_meets F.slot_list_reverse ⟨_,e,rfl⟩ F.entry_list_reverse (F.args_list_reverse_1 _) (AutoSeq1.list_reverse_list_0 l its.toArray n (by rw [List.size_toArray];omega)) ⟨e, ?_⟩
 refine ⟨.non,_,I.lset (its':=its.reverse) hH e (by simp) r.reverse ?_,rfl,q⟩
 rw [List.length_reverse]
 omega
noncomputable def rq:V -> List V -> Hp -> VK -> Prop:=fun x vs H Q => ∃ l xs,x = .ref l /\ vs = [] /\ H l = some (.lst xs) /\ Q .non (upd H l (.lst []))
theorem uu:MtM X "list.clear" rq:=by
 intro pins s σ H x vs v us Q I rx rv h
 obtain ⟨l,xs,rfl,rfl,hH,q⟩:=h
 cases rx
 have hus:=rv.zero
 subst hus
 obtain ⟨z,its,n,r,hl,e⟩:=I.lstM hH
 refine call_meets F.slot_list_clear ⟨_,e,rfl⟩ F.entry_list_clear (F.args_list_clear_1 _) (AutoSeq1.list_clear_list_0 l its.toArray n (by rw [List.size_toArray];omega)) ⟨e, ?_⟩
 exact ⟨.non,_,I.lset (its' := []) (ys := []) hH e rfl .nil (Nat.zero_le _),rfl,q⟩
noncomputable def C2:R2:=fun x y H Q => ∃ l b xs zs,x = .ref l /\ y = .ref b /\ H l = some (.lst xs) /\ H b = some (.lst zs) /\ xs.length + zs.length <= sizeLine /\ ∀ p,H p = none -> Q (.ref p) (upd H p (.lst (xs ++ zs)))
theorem op_cat:OpR X (binaryOp .Add) C2:=by
 intro pins s σ H x y v u Q I rx ry h
 obtain ⟨l,b,xs,zs,rfl,rfl,hH,hB,hz,q⟩:=h
 cases rx
 cases ry
 obtain ⟨z,its,n,r,hl,e⟩:=I.lstM hH
 obtain ⟨z2,its2,n2,r2,hl2,e2⟩:=I.lstM hB
 refine PySem.P.add_list e e2 ?_ (by rw [List.size_toArray,List.size_toArray];omega)
 have ea:its.toArray ++ its2.toArray = (its ++ its2).toArray:=by simp
 rw [ea]
 exact ⟨.ref _,_,I.lnew (t':=s.toks) (r.append r2) (by rw [List.length_append];omega),rfl,q _ I.fresh⟩
noncomputable def C3:R2:=fun x y H Q => ∃ l k xs,x = .ref l /\ y = .int k /\ H l = some (.lst xs) /\ -(2 ^ 63) <= k /\ k < 2 ^ 63 /\ xs.length * k.toNat <= sizeLine /\
 ∀ p,H p = none -> Q (.ref p) (upd H p (.lst (List.replicate k.toNat xs).flatten))
theorem oh {α:Type} (xs:List α) (k:Nat):(List.replicate k xs).flatten.length = k * xs.length:=by
 induction k with
 | zero=>simp
 | succ k ih=>rw [List.replicate_succ,List.flatten_cons,List.length_append,ih,Nat.succ_mul,Nat.add_comm]
theorem op_rep:OpR X (binaryOp .Mult) C3:=by
 intro pins s σ H x y v u Q I rx ry h
 obtain ⟨l,k,xs,rfl,rfl,hH,h1,h2,hz,q⟩:=h
 cases rx
 obtain ⟨t,rfl⟩:=ry
 obtain ⟨z,its,n,r,hl,e⟩:=I.lstM hH
 have hlen:its.toArray.size * k.toNat <= sizeLine:=by rw [List.size_toArray, <- hl];exact hz
 have hcap : ¬ its.toArray.size * k.toNat > (2 ^ 63 - 1) / 8:=by
  have:(sizeLine:Nat) <= (2 ^ 63 - 1) / 8:=by decide
  omega
 have hfit : ¬ (!Builtin.List.listFitsIndex k) = true:=by
  rw [fitsIndex_both h1 h2]
  exact Bool.false_ne_true
 have hlong : ¬ Builtin.List.listTooLong (its.toArray.size * k.toNat) = true:=by
  rw [kH hlen]
  exact Bool.false_ne_true
 have hnew:List.foldl (fun x1 x2=>x1 ++ x2) #[] (List.replicate (if its.toArray.isEmpty = true then 0 else k.toNat) its.toArray) = (List.replicate k.toNat its).flatten.toArray:=by
  have f0:∀ m:Nat,List.foldl (fun x1 x2=>x1 ++ x2) #[] (List.replicate m its.toArray) = (List.replicate m its).flatten.toArray:=fun m=>by
   have:=fo its m []
   rw [List.nil_append] at this
   exact this
  rw [f0]
  cases its with
  | nil=>simp
  | cons a r'=>rw [if_neg (by simp)]
 refine wpAny_binaryOp_repeat_ref (T := "list") (U := "int") (by decide) ⟨_,e,rfl⟩ (fun s'=>typeIs_int s' k t) noFill_list_mul F.fills_int_mul F.slot_int_rmul repeat_list F.slot_int_index.lookup
  (call_meets F.slot_int_rmul (typeIs_int s k t) F.entry_int_rmul (F.args_int_rmul_2 _ _) (int___rmul___int_list k t l its.toArray n)
    ⟨e,rfl,⟨_,e,rfl⟩,call_meets F.slot_list_mul ⟨_,e,rfl⟩ F.entry_list_mul (F.args_list_mul_2 _ _) (AutoListH.list___mul___list_int_3 l its.toArray n k t hfit hcap hlong) ⟨e, ?_⟩⟩)
 rw [hnew]
 exact ⟨.ref _,_,I.lnew (t':=s.toks) (r.rep k.toNat) (by rw [oh,Nat.mul_comm];exact hz),rfl,q _ I.fresh⟩
end
end
end L2
namespace Att
open PySem PySem.W PySem.Calls PyProof.Rows
theorem i9 {P:Params} {h:Heap}:∀ (ns:List Int) (vs:List Value),WellAll P h vs (ns.map WData.int) -> IntsAre vs ns:=by
 intro ns
 induction ns with
 | nil =>
   intro vs w
   rw [List.map_nil] at w
   cases w
   exact .nil
 | cons n ns ih =>
   intro vs w
   rw [List.map_cons] at w
   cases w with
   | cons a b =>
     cases a
     exact .cons _ _ (ih _ b)
theorem rA {l:OpenLaw} {n:Nat} (hn:l.most = some n) {P:Params} {h:Heap} {args:List WData} {vals:List Value}
 (hpre:l.row.toRowW.claim.pre args = true) (hwl:WellAll P h vals args) :
 ∃ a vs ns,vals = [Value.ref a] /\ args = [WData.list (ns.map WData.int)] /\ h.get? a = some { cls := .type "list",data := .seq vs.toArray } /\ IntsAre vs ns /\ ns.length <= n:=by
 have hsh:WShape.hasAll [] args [.list .int] = true:=(pre_splitW hpre).1
 have hc:l.pre.holds [] { args:=args } = true:=(pre_splitW hpre).2
 obtain ⟨d,r,rfl,h1,h2⟩:=hasAllW_cons hsh
 obtain rfl:=hasAllW_nil h2
 obtain ⟨xs,rfl,h3⟩:=hasW_list h1
 obtain ⟨ns,rfl⟩:=items_int h3
 have hlen:ns.length <= n:=by
  unfold OpenLaw.pre at hc
  have h4:(WTm.not (.lt (.lit (.int (n:Int))) (.len (.arg 0)))).holds [] { args := [.list (ns.map .int)] } = true:=by
   have h4:=(holds_andW hc).1
   rw [hn] at h4
   exact h4
  have h5:=condW_of h4 (w_not (w_lt w_lit (w_len_list (w_arg rfl))))
  rw [List.length_map] at h5
  refine Nat.le_of_not_lt fun q => ?_
  have q':(n:Int) < ((ns.length:Nat):Int):=by omega
  first
   | (rw [decide_eq_true q'] at h5;exact absurd h5 (by decide))
   | (simp at h5;omega)
 cases hwl with
 | cons w1 w2 =>
   cases w2
   cases w1 with
   | list ho hall=>exact ⟨_,_,ns,rfl,rfl,ho,i9 ns _ hall,hlen⟩
theorem rB (l:OpenLaw) (args:List WData):l.row.toRowW.claim.post args (.bool true) args = true :=
 postW_of (r:=l.row.toRowW) (X:=(true == true))
  (show WShape.has [] (.bool true) .bool = true by first | rfl | decide | simp [WShape.has,WShape.arms,WShape.armsAll])
  (show (WTm.eq .res (.lit (.bool true))).value [] { args:=args,res:=some (.bool true),after:=args } = some (.bool (true == true)) from w_eq_bool (w_res rfl) w_lit) rfl
theorem attach_call {l:OpenLaw} {n:Nat} {q:Program} {loose:List Str} {XP:(Str -> Option Value) -> Heap -> Prop} {YP:World -> Heap -> Prop} {d:DefRec}
 (hn:l.most = some n) (hdf:d.params.defaults = [])
 (call:∀ (w:World) (s₀ s₁:Shared) (mg mb:Str -> Option Value) (fa:Addr) (o:Obj) (pm cd doc:Value) (a:Addr) (vs:List Value) (ns:List Int),
   Ground q loose [] XP w s₀ mg mb s₁.heap -> YP w s₁.heap ->
   s₁.heap.get? fa = some o -> o.data = .func (docDef d.name d.params d.body d.scope pm cd doc) -> s₁.heap.CodeRec cd d.name -> mg d.name = some (.ref fa) ->
   s₁.heap.get? a = some { cls := .type "list",data := .seq vs.toArray } -> IntsAre vs ns -> ns.length <= n -> s₁.gens = #[] ->
   codeAny (model l.prog w) callerA (.call (.ref fa) ⟨[.ref a],[]⟩) (fun r s'=>r = .ok (.ret (.bool true)) /\ OldK s₁.heap s'.heap /\ s'.os = s₁.os /\ AllBare s'.gens) s₁) :
 WalkO q loose XP YP l.row.toRowW d [] (fun f vs=>PySem.call f vs):=by
 intro w s₀ s₁ mg mb G Y fa o pm cd doc dV kV ho hd hcd hD hmg hg args vals as hpre hlay hrd hwl hlo
 obtain rfl:dV = .none:=Dflts.none hD hdf
 obtain rfl:kV = .none:=Dflts.noKw hD
 obtain ⟨a,vs,ns,rfl,rfl,hobj,hints,hlen⟩:=rA hn hpre hwl
 refine enter_call (codeAny_mono (call w s₀ s₁ mg mb fa o pm cd doc a vs ns G Y ho (fd_plain hd) hcd hmg hobj hints hlen hg) fun r s' hq => ?_)
 obtain ⟨rfl,h2,h3,h4⟩:=hq
 exact ⟨.inl ⟨.bool true, .bool true,[],rfl,fun _=>rfl, .bool true,rB l _,fun _=>⟨List.Pairwise.nil,fun _ hm=>(nomatch hm)⟩⟩,h2,h3,h4⟩
section
variable {prog:Program} {w:World} {A:Around} {E:Value -> Shared -> Prop} {s:Shared} {K:Frag}
noncomputable def Cd (h:Heap) (L d:Addr):List (Addr × Obj):=(List.range h.objs.size).filterMap fun a=>if a = L ∨ a = d then none else (h.get? a).map fun o=>(a,o)
end
end Att
namespace L2
open PySem PySem.Spec PyProof.Rows
section
theorem jG:∀ {vs:List Value} {ns:List Int},IntsAre vs ns -> Vals (ns.map V.int) vs
 | _,_, .nil => .nil
 | _,_, .cons n t h => .cons ⟨t,rfl⟩ (jG h)
noncomputable def pT (H:Hp):Prop := ∀ b,H b = none ∨ ∃ o xs,H b = some (.frz o (.lst xs))
theorem uw {P:Program} {w:World} {K:Frag} {mg mb:Str -> Option Value} {CX:CXT} {k:Nat} {fa a:Addr} {fd:FuncData} {x:Str} {sp:Sp} {s₁:Shared} {vs:List Value} {ns:List Int}
 (KX:K.In s₁.heap) (hns:s₁.heap.Ns mainGlobals mg) (hb:s₁.heap.Ns builtinsNs mb) (hbb:∀ x:Str,x ≠ "__name__" -> mb x = bootBuiltins x) (hlim:s₁.heap.NoLimit) (hg:s₁.gens = #[])
 (ha:s₁.heap.get? a = some { cls := .type "list",data := .seq vs.toArray }) (hi:IntsAre vs ns) (hl:ns.length <= sizeLine) (hr:Room k callerA)
 (F:∀ base:Heap,K.In base -> base.Ns mainGlobals mg -> FnOk P w K mg base CX k fa fd [x] sp) (hbind:∀ (s:Shared) (u:Value),BindsTo s fd ⟨[u],[]⟩ [(x,u)])
 (hsp:∀ H:Hp,pT H -> SqL K H a (ns.map V.int) -> sp [.ref a] H (fun v _=>v = .bl true) fun _ _ _=>False)
 (hCX:∀ H e s',CX [] H s₁ (fun _ _ _=>False) e s' -> False) :
 codeAny (model P w) callerA (.call (.ref fa) ⟨[.ref a],[]⟩) (fun r s'=>r = .ok (.ret (.bool true)) /\ OldK s₁.heap s'.heap /\ s'.os = s₁.os /\ AllBare s'.gens) s₁ := by
 have rv:=jG hi
 have lenV:=hi.length
 have core:∀ H:Hp,pT H -> SqL K H a (ns.map V.int) -> HOk P w H s₁.heap -> (∀ b,H b ≠ none -> b = a) -> (H a ≠ none -> K.lookup a = none) ->
  codeAny (model P w) callerA (.call (.ref fa) ⟨[.ref a],[]⟩) (fun r s'=>r = .ok (.ret (.bool true)) /\ OldK s₁.heap s'.heap /\ s'.os = s₁.os /\ AllBare s'.gens) s₁ := by
  intro H hO hS hok hA hK
  have base_of:∀ {b:Addr} {o:Obj},s₁.heap.get? b = some o -> H b = none -> (eK s₁.heap H).get? b = some o:=fun e n=>u8 e n
  have noA:∀ {b:Addr} {o:Obj} {es:Array DictEntry} {ep:Nat},s₁.heap.get? b = some o -> o.data = .dict es ep -> H b = none:=fun {b o es ep} e d=>by
   cases q:H b with
   | none=>rfl
   | some u =>
     have e':b = a:=hA b (by rw [q];simp)
     subst e'
     rw [ha] at e;cases e
     have d':Data.seq vs.toArray _ = Data.dict es ep:=d
     cases d'
  have nsK:∀ {b:Addr} {m:Str -> Option Value},s₁.heap.Ns b m -> (eK s₁.heap H).Ns b m:=fun {b m} ⟨o,es,ep,e,d,r⟩=>⟨o,es,ep,base_of e (noA e d),d,r⟩
  have hKb:K.In (eK s₁.heap H):=fun b o e=>base_of (KX b o e) (by
   cases q:H b with
   | none=>rfl
   | some u =>
     have e':b = a:=hA b (by rw [q];simp)
     subst e'
     rw [hK (by rw [q];simp)] at e;cases e)
  have hM:Mod K mg (eK s₁.heap H):=⟨hKb,nsK hns,⟨mb,nsK hb,hbb⟩,let ⟨mc,h1,h2⟩:=hlim; ⟨mc,nsK h1,h2⟩⟩
  have e0:Env0 P w K mg (eK s₁.heap H) callerA [] s₁ H:=⟨rfl,hM,fun b o e=>xm e,Nat.le_of_eq (qU _ _),trivial,fun b hb=>absurd (show b ∈ ([]:List Addr) from hb) (by simp),hok, .of_eq hg⟩
  refine codeAny_mono ((F _ hKb (nsK hns)).run callerA [] s₁ H ⟨[.ref a],[]⟩ [.ref a] [.ref a] _ _ hr e0 (hbind s₁ (.ref a)) (.cons rfl .nil) (hsp H hO hS)) fun r s' h => ?_
  cases r with
  | error e=>exact (hCX H e s' h).elim
  | ok fl =>
    cases fl with
    | next=>exact False.elim h
    | brk=>exact False.elim h
    | cont=>exact False.elim h
    | ret u =>
      obtain ⟨v,H',os,bare,un,hok',r',q⟩:=h
      have q':v = .bl true:=q
      subst q'
      obtain rfl:u = Value.bool true:=r'
      refine ⟨rfl,OldK.of_keep fun b o e => ?_,os,bare⟩
      cases q:H b with
      | none=>exact un.keep b o e q (by intro z;exact absurd (show b ∈ ([]:List Addr) from z) (by simp)) (by simp)
      | some u =>
        rcases hO b with z | ⟨ob,xs,z⟩
        ·rw [q] at z;cases z
        ·have z2:=un.frzs b ob _ z
         obtain ⟨e1,_⟩:=hok b _ z
         obtain ⟨e2,_⟩:=hok' b _ z2
         rw [e] at e1;cases e1
         exact e2
 cases hk:K.lookup a with
 | some o =>
   have e:=KX a o hk
   rw [ha] at e
   cases e
   refine core (fun _=>none) (fun _ => .inl rfl) (.inr ⟨_,vs.toArray,_,hk,rfl,rfl,rfl,by rw [List.size_toArray,lenV];exact hl,by simpa using rv⟩) (fun b u z=>by have z':(none:Option HO) = some u:=z;cases z') (fun b z=>absurd rfl z) fun z=>absurd rfl z
 | none =>
   refine core (fun b=>if b = a then some (.frz { cls := .type "list",data := .seq vs.toArray } (.lst (ns.map V.int))) else none) (fun b => ?_) (.inl (.inr ⟨{ cls := .type "list",data := .seq vs.toArray },if_pos rfl⟩)) (fun b u z => ?_) (fun b z => ?_) fun _=>hk
   ·by_cases hb:b = a
    ·exact .inr ⟨_,_,if_pos hb⟩
    ·exact .inl (if_neg hb)
   ·by_cases hb:b = a
    ·have z':=(if_pos hb).symm.trans z
     cases z'
     subst hb
     exact ⟨ha,by rw [List.length_map];exact hl,vs,_,rv,ha⟩
    ·have z':=(if_neg hb).symm.trans z
     cases z'
   ·by_cases hb:b = a
    ·exact hb
    ·exact absurd (if_neg hb) z
end
section
theorem walk_of {l:PySem.W.OpenLaw} {n k:Nat} {q:Program} {loose:List Str} {XP:(Str -> Option Value) -> Heap -> Prop} {YP:World -> Heap -> Prop} {d:DefRec} {K:Params -> Frag} {CX:World -> CXT} {sp:World -> Sp} {x:Str}
 (hn:l.most = some n) (hn2:n <= sizeLine) (hdf:d.params.defaults = []) (hr:Room k callerA)
 (hY:∀ (w:World) (h:Heap),YP w h -> (K w.params).In h)
 (F:∀ (w:World) (mg:Str -> Option Value) (fa:Addr) (h:Heap),(K w.params).In h -> h.Ns mainGlobals mg -> mg d.name = some (.ref fa) ->
   ∃ fd:FuncData,(∀ (s:Shared) (u:Value),BindsTo s fd ⟨[u],[]⟩ [(x,u)]) /\
    ∀ base:Heap,(K w.params).In base -> base.Ns mainGlobals mg -> FnOk l.prog w (K w.params) mg base (CX w) k fa fd [x] (sp w))
 (hsp:∀ (w:World) (H:Hp) (a:Addr) (ns:List Int),ns.length <= n -> pT H -> SqL (K w.params) H a (ns.map V.int) -> sp w [.ref a] H (fun v _=>v = .bl true) fun _ _ _=>False)
 (hCX:∀ (w:World) (H:Hp) (s:Shared) (e:Value) (s':Shared),CX w [] H s (fun _ _ _=>False) e s' -> False) :
 PySem.W.WalkO q loose XP YP l.row.toRowW d [] (fun f vs=>PySem.call f vs):=by
 refine Att.attach_call hn hdf fun w s₀ s₁ mg mb fa o pm cd doc a vs ns G Y ho hd hcd hmg hobj hints hlen hg => ?_
 have KX:=hY w _ Y
 obtain ⟨fd,hb,hF⟩:=F w mg fa _ KX G.T.g hmg
 exact uw KX G.T.g G.T.b G.T.builtins G.T.nolimit hg hobj hints (Nat.le_trans hlen hn2) hr hF hb (fun H hO hS=>hsp w H a ns hlen hO hS) fun H e s'=>hCX w H s₁ e s'
end
section
noncomputable def ao (s:Stmt):Arguments:=match s with
 | .FunctionDef _ a _ _ _ _ _ _ _ _=>a
 | _ => { posonlyargs := [],args := [],vararg:=none,kwonlyargs := [],kw_defaults := [],kwarg:=none,defaults := [] }
noncomputable def al (s:Stmt):List Stmt:=match s with
 | .FunctionDef _ _ b _ _ _ _ _ _ _=>b
 | _ => []
noncomputable def ag (s:Stmt):Scope:=match s with
 | .FunctionDef _ _ _ _ _ _ sc _ _ _=>sc
 | _ => { kind := .function,names := [],isGenerator:=false,isCoroutine:=false }
noncomputable abbrev CX0:CXT:=fun _ _ _ _ _ _=>False
noncomputable abbrev E0:XK:=fun _ _ _=>False
theorem ww {X:Cx}:i7 CX0 X E0:=fun _ _ _ _ _ _ _ h=>h.elim
structure Fun (K:Frag) (x qual:Str) (st:Stmt) (f:Addr) (fd:FuncData):Prop where
 ex:∃ (oc:Value) (od:Option Addr) (kV doc pm:Value) (an:Option Addr) (cdv ct:Value) (osl:Array (Option Value)),
  fd = PySem.W.fnOf x qual (ao st) (al st) (ag st) .none kV doc pm an cdv ct /\ K.lookup f = some ⟨oc,od, .func fd,osl⟩ /\ PySem.W.codeIn K cdv qual = true
 kp:PySem.W.keepIn K (.ref f) = true
section
variable {P:Program} {w:World} {K:Frag} {mg:Str -> Option Value} {base:Heap}
theorem Fun.ok {x qual:Str} {st:Stmt} {f:Addr} {fd:FuncData} {N ps:List Str} {k:Nat} {sp:Sp} (F:Fun K x qual st f fd) (S:fR N ps (ag st)) (len:∀ vs H Q E,sp vs H Q E -> vs.length = ps.length)
 (hbody:∀ (cdv:Value) (A:Around) (outer:List Env) (s:Shared) (H:Hp) (vs:List V) (Q:VK) (E:XK),Room k (A.deeper (envOfC qual (ag st) s.heap.objs.size f cdv)) -> sp vs H Q E ->
   ∃ t,PSs (gG CX0 P w K mg base N qual (ag st) f cdv A outer s H E).nox (al st) t /\ t { nx:=fun _ H'=>Q .non H',rt:=Q } (cJ N vs) H):FnOk P w K mg base CX0 (k + 1) f fd ps sp:=by
 obtain ⟨oc,od,kV,doc,pm,an,cdv,ct,osl,rfl,lk,hcd⟩:=F.ex
 refine B7 lk hcd S len fun A outer s H vs Q E hr hsp => ?_
 obtain ⟨t,h,q⟩:=hbody cdv A outer s H vs Q E hr hsp
 exact ⟨t,h.nox,q⟩
theorem Fun.binds {x qual:Str} {st:Stmt} {f:Addr} {fd:FuncData} {ps:List Str} (F:Fun K x qual st f fd)
 (h:∀ (kV doc pm:Value) (an:Option Addr) (cdv ct:Value) (us:List Value),us.length = ps.length -> bindArgs (PySem.W.fnOf x qual (ao st) (al st) (ag st) .none kV doc pm an cdv ct) ⟨us,[]⟩ = pure (ps.zip us)):Binds K fd ps []:=by
 obtain ⟨oc,od,kV,doc,pm,an,cdv,ct,osl,rfl,lk,hcd⟩:=F.ex
 exact .all (h kV doc pm an cdv ct)
theorem aC {x qual:Str} {st:Stmt} {f:Addr} {oc:Value} {od an:Option Addr} {osl:Array (Option Value)} {kV doc pm cdv ct:Value} (l:K.lookup f = some ⟨oc,od, .func (PySem.W.fnOf x qual (ao st) (al st) (ag st) .none kV doc pm an cdv ct),osl⟩)
 (c:PySem.W.codeIn K cdv qual = true) (k:PySem.W.keepIn K (.ref f) = true):Fun K x qual st f (PySem.W.fnOf x qual (ao st) (al st) (ag st) .none kV doc pm an cdv ct):=⟨⟨oc,od,kV,doc,pm,an,cdv,ct,osl,rfl,l,c⟩,k⟩
end
end
end L2
namespace HT
open PySem PySem.Spec PyProof.Rows
section
variable {prog:Program} {w:World} {A:Around} {E:Value -> Shared -> Prop} {s:Shared}
theorem getItem_tuple_whole {t sl:Addr} {items:Array Value} {vl vu:Value} {lo hi:Option Int} {Q:Value -> Shared -> Prop} (ht:IsTup s.heap t items) (hs:s.heap.IsSliceOf sl vl vu .none) (pl:IsPart vl lo) (pu:IsPart vu hi)
 (hw:sIx items.size 0 lo = 0 /\ sIx items.size items.size hi = items.size) (h:Q (.ref t) s):wpAny (model prog w) A (getItem (.ref t) (.ref sl)) Q E s:=by
 obtain ⟨os,hos,hcs,hds⟩:=id hs
 have hTs:s.TypeIs (.ref sl) "slice" := ⟨os,hos,hcs⟩
 unfold getItem
 try with_reducible refine wpAny_holding ?_
 first | refine wpAny_bind (wpAny_pure ?_) | skip
 refine wpAny_bind (wpAny_sequenceKey ht.typeIs (by decide) ?_)
 refine wpAny_bind (wpAny_callSpecial?_slot (name:=Str.ofString "__getitem__") ht.typeIs PyProof.Rows.slot_tuple_getitem
  (wpAny_call_entry PyProof.Rows.slot_tuple_getitem ht.typeIs entry_tuple_getitem ?_ (args_tuple_getitem _ _)))
 show wpAny _ _ (Builtin.Tuple.tupleItemsOf (.ref t) >>= _) _ _ s
 refine wpAny_bind (tupleItemsOf_ ht ?_)
 refine wpAny_bind (wpAny_typeOf hTs ?_)
 rw [if_pos (by decide)]
 refine wpAny_bind (dm hs pl pu ?_)
 have hno:(((sIx items.size 0 lo:Nat):Int) == 0 && (1:Int) == 1 && (sIx items.size items.size hi - sIx items.size 0 lo) == items.size) = true:=by
  rw [hw.1,hw.2];simp
 show wpAny _ _ (if (((sIx items.size 0 lo:Nat):Int) == 0 && (1:Int) == 1 && (sIx items.size items.size hi - sIx items.size 0 lo) == items.size) = true then _ else _) _ _ s
 rw [if_pos hno]
 refine wpAny_bind (m:=Builtin.Tuple.tupleIsExact (.ref t)) ?_
 unfold Builtin.Tuple.tupleIsExact
 refine wpAny_bind (wpAny_typeOf ht.typeIs (wpAny_pure ?_))
 show wpAny _ _ (if true = true then _ else _) _ _ s
 rw [if_pos rfl]
 exact wpAny_bind (wpAny_rule (wpAny_pure ⟨_,rfl,wpAny_pure h⟩))
end
end HT
namespace L2
open PySem PySem.Spec PyProof.Rows
section
section
variable {X:Cx}
noncomputable def C4 (K:Frag):V -> Option Int -> Option Int -> Hp -> VK -> Prop:=fun x lo hi H Q => ∃ a xs,x = .ref a /\ SqT K H a xs /\ (HT.sIx xs.length 0 lo = 0 /\ HT.sIx xs.length xs.length hi = xs.length) /\ Q x H
theorem uz:SlR X (C4 X.K):=by
 intro pins s σ H x v vl vu lo hi sl Q I rx hs pl pu h
 obtain ⟨a,xs,rfl,hx,hw,q⟩:=h
 cases rx
 obtain ⟨its,r,ht,hz⟩:=I.tuple hx
 have hlen:=r.length
 refine ⟨"tuple",_,slot_tuple_getitem.lookup,ht.typeIs, ?_⟩
 refine HT.getItem_tuple_whole ht hs pl pu (by rw [List.size_toArray, <- hlen];exact hw) ⟨.ref a,H,I,rfl,q⟩
end
end
section
section
variable {κ:Type} [DecidableEq κ]
noncomputable def bN (kvs:List (κ × V)) (k : κ):Option V:=(kvs.find? fun kv=>decide (kv.1 = k)).map (·.2)
noncomputable def bo (kvs:List (κ × V)) (k : κ) (v:V):List (κ × V) :=
 if (kvs.any fun kv=>decide (kv.1 = k)) = true then kvs.map (fun kv=>if kv.1 = k then (kv.1,v) else kv) else kvs ++ [(k,v)]
noncomputable def wx (kvs:List (κ × V)) (k : κ):List (κ × V):=kvs.filter fun kv=>decide (kv.1 ≠ k)
theorem eL {p : κ × V} {r:List (κ × V)} {k : κ} (e:p.1 = k):bN (p :: r) k = some p.2:=by simp [bN,List.find?_cons,e]
theorem eM {p : κ × V} {r:List (κ × V)} {k : κ} (e : ¬ p.1 = k):bN (p :: r) k = bN r k:=by simp [bN,List.find?_cons,e]
theorem kJ (k : κ):∀ kvs:List (κ × V),(kvs.any fun kv=>decide (kv.1 = k)) = (bN kvs k).isSome
 | [] => rfl
 | p :: r=>by
   rw [List.any_cons]
   by_cases e:p.1 = k
   ·simp only [eL e,decide_eq_true e,Bool.true_or,Option.isSome_some]
   ·rw [eM e,decide_eq_false e,Bool.false_or];exact kJ k r
theorem cK (kvs:List (κ × V)) (k : κ) (v:V):(bo kvs k v).length <= kvs.length + 1:=by
 unfold bo
 split
 ·rw [List.length_map];omega
 ·rw [List.length_append,List.length_cons,List.length_nil];omega
theorem RelO.isSome_eq {o:Option V} {u:Option Value} (r:RelO o u):o.isSome = u.isSome:=by
 cases o with
 | none=>cases u with
   | none=>rfl
   | some _=>exact (show False from r).elim
 | some _=>cases u with
   | none=>exact (show False from r).elim
   | some _=>rfl
theorem RelO.getD {o:Option V} {u:Option Value} {d:V} {d':Value} (r:RelO o u) (rd:RelV d d'):RelV (o.getD d) (u.getD d'):=by
 cases o with
 | none=>cases u with
   | none=>exact rd
   | some _=>exact (show False from r).elim
 | some _=>cases u with
   | none=>exact (show False from r).elim
   | some _=>exact r
theorem KV.val {kvs:List (κ × V)} {vs:List (κ × Value)} (r:KV kvs vs) (k : κ):RelO (bN kvs k) (valueAt vs k):=by
 unfold KV at r
 induction r with
 | nil=>exact True.intro
 | @cons p q ps qs h t ih =>
  obtain ⟨h1,h2⟩:=h
  by_cases e:p.1 = k
  ·have e':q.1 = k:=h1.symm.trans e
   have b:valueAt (q :: qs) k = some q.2:=by simp [valueAt,List.find?_cons,e']
   rw [eL e,b];exact h2
  ·have e' : ¬ q.1 = k:=fun z=>e (h1.trans z)
   have b:valueAt (q :: qs) k = valueAt qs k:=by simp [valueAt,List.find?_cons,e']
   rw [eM e,b];exact ih
theorem KV.any {kvs:List (κ × V)} {vs:List (κ × Value)} (r:KV kvs vs) (k : κ):(kvs.any fun kv=>decide (kv.1 = k)) = vs.any fun kv=>decide (kv.1 = k):=by
 unfold KV at r
 induction r with
 | nil=>rfl
 | cons h t ih=>rw [List.any_cons,List.any_cons,ih,h.1]
theorem KV.repl {kvs:List (κ × V)} {vs:List (κ × Value)} (r:KV kvs vs) (k : κ) {y:V} {u:Value} (ry:RelV y u) :
 KV (kvs.map fun kv=>if kv.1 = k then (kv.1,y) else kv) (vs.map fun kv=>if kv.1 = k then (kv.1,u) else kv):=by
 unfold KV at r ⊢
 induction r with
 | nil=>exact .nil
 | @cons p q ps qs h t ih =>
  rw [List.map_cons,List.map_cons]
  refine .cons ?_ ih
  obtain ⟨h1,h2⟩:=h
  by_cases e:p.1 = k
  ·rw [if_pos e,if_pos (h1.symm.trans e)];exact ⟨h1,ry⟩
  ·rw [if_neg e,if_neg (fun z=>e (h1.trans z))];exact ⟨h1,h2⟩
theorem KV.put {kvs:List (κ × V)} {vs:List (κ × Value)} (r:KV kvs vs) (k : κ) {y:V} {u:Value} (ry:RelV y u):KV (bo kvs k y) (stored vs k u):=by
 unfold bo stored
 rw [r.any k]
 by_cases e:(vs.any fun kv=>decide (kv.1 = k)) = true
 ·rw [if_pos e,if_pos e];exact r.repl k ry
 ·rw [if_neg e,if_neg e];exact Paired.snoc r ⟨rfl,ry⟩
theorem KV.drop {kvs:List (κ × V)} {vs:List (κ × Value)} (r:KV kvs vs) (k : κ):KV (wx kvs k) (without vs k):=by
 unfold KV at r ⊢
 unfold wx without
 induction r with
 | nil=>exact .nil
 | @cons p q ps qs h t ih =>
  obtain ⟨h1,h2⟩:=h
  rw [List.filter_cons,List.filter_cons]
  by_cases e:p.1 = k
  ·have a : ¬ decide (p.1 ≠ k) = true:=by simp [e]
   have b : ¬ decide (q.1 ≠ k) = true:=by simp [h1.symm.trans e]
   rw [if_neg a,if_neg b];exact ih
  ·have e' : ¬ q.1 = k:=fun z=>e (h1.trans z)
   have a:decide (p.1 ≠ k) = true:=by simp [e]
   have b:decide (q.1 ≠ k) = true:=by simp [e']
   rw [if_pos a,if_pos b];exact .cons ⟨h1,h2⟩ ih
theorem KV.length {kvs:List (κ × V)} {vs:List (κ × Value)} (r:KV kvs vs):kvs.length = vs.length:=Paired.length r
end
theorem ku {P:Program} {w:World} {k:Key} {u:Value} (r:RelV (kV k) u):(aG P w).is k u = true:=by
 cases k with
 | inl i=>obtain ⟨t,e⟩:=(show ∃ t,u = Value.int i t from r);subst e;exact nE P w i t
 | inr x=>obtain ⟨t,e⟩:=(show ∃ t,u = Value.str x t from r);subst e;exact nF P w x t
theorem jH {P:Program} {w:World}:∀ {ks:List Key} {us:List Value},Vals (ks.map kV) us -> ItemsAre (aG P w) ks us
 | [],_,r=>by rw [List.map_nil] at r;cases r;exact .nil
 | k :: ks,_,r=>by
   rw [List.map_cons] at r
   cases r with
   | cons h t=>exact .cons (ku h) (jH t)
noncomputable abbrev KT (H:Hp):List (List Key × V) -> List (List Key × Addr × Value) -> Prop:=Paired fun p q=>p.1 = q.1 /\ H q.2.1 = some (.tup (p.1.map kV)) /\ RelV p.2 q.2.2
theorem KT.val {H:Hp} {kvs:List (List Key × V)} {xs:List (List Key × Addr × Value)} (r:KT H kvs xs) (k:List Key):RelO (bN kvs k) ((atKey xs k).map (·.2)):=by
 induction r with
 | nil=>exact True.intro
 | @cons p q ps qs h t ih =>
  obtain ⟨h1,_,h2⟩:=h
  by_cases e:p.1 = k
  ·have e':q.1 = k:=h1.symm.trans e
   have b:atKey (q :: qs) k = some q.2:=by simp [atKey,List.find?_cons,e']
   rw [eL e,b];exact h2
  ·have e' : ¬ q.1 = k:=fun z=>e (h1.trans z)
   have b:atKey (q :: qs) k = atKey qs k:=by simp [atKey,List.find?_cons,e']
   rw [eM e,b];exact ih
theorem KT.repl {H:Hp} {kvs:List (List Key × V)} {xs:List (List Key × Addr × Value)} (r:KT H kvs xs) (k:List Key) {y:V} {u:Value} (ry:RelV y u) :
 KT H (kvs.map fun kv=>if kv.1 = k then (kv.1,y) else kv) (xs.map (putAt k u)):=by
 induction r with
 | nil=>exact .nil
 | @cons p q ps qs h t ih =>
  rw [List.map_cons,List.map_cons]
  refine .cons ?_ ih
  obtain ⟨h1,h2,h3⟩:=h
  unfold putAt
  by_cases e:p.1 = k
  ·rw [if_pos e,if_pos (h1.symm.trans e)];exact ⟨h1,h2,ry⟩
  ·rw [if_neg e,if_neg (fun z=>e (h1.trans z))];exact ⟨h1,h2,h3⟩
theorem KT.put {H:Hp} {kvs:List (List Key × V)} {xs:List (List Key × Addr × Value)} (r:KT H kvs xs) (k:List Key) {b:Addr} {y:V} {u:Value} (hb:H b = some (.tup (k.map kV))) (ry:RelV y u) :
 KT H (bo kvs k y) (storedH xs k b u):=by
 have e:(kvs.any fun kv=>decide (kv.1 = k)) = (atKey xs k).isSome:=by
  rw [kJ,(r.val k).isSome_eq,Option.isSome_map]
 unfold bo storedH
 rw [e]
 by_cases q:(atKey xs k).isSome = true
 ·rw [if_pos q,if_pos q];exact r.repl k ry
 ·rw [if_neg q,if_neg q];exact Paired.snoc r ⟨rfl,hb,ry⟩
theorem KT.keeps {H H':Hp} {kvs:List (List Key × V)} {xs:List (List Key × Addr × Value)} (r:KT H kvs xs) (ht:∀ b ys,H b = some (.tup ys) -> H' b = some (.tup ys)):KT H' kvs xs :=
 Paired.mapP r fun _ _ z=>⟨z.1,ht _ _ z.2.1,z.2.2⟩
section
variable {P:Program} {w:World} {H:Hp} {h:Heap} {a:Addr}
theorem wy {u:HO} (ok:HOk P w H h) (e:Rd H a u):ObjOk P w H h a u:=e.ok ok
theorem kw {kvs:List (Key × V)} (ok:HOk P w H h) (e:Rd H a (.dK kvs)):kvs.length <= sizeLine /\ (a == sysModules) = false /\ ∃ vs,KV kvs vs /\ h.DictOf (aG P w) a vs :=
 show ObjOk P w H h a (.dK kvs) from wy ok e
theorem Ba {kvs:List (Key × V)} (ok:HOk P w H h) (e:H a = some (.dK kvs)):kvs.length <= sizeLine /\ (a == sysModules) = false /\ ∃ vs,KV kvs vs /\ h.DictOf (aG P w) a vs:=kw ok (.inl e)
theorem fq {ks:List Key} (ok:HOk P w H h) (e:H a = some (.tup (ks.map kV))):(tupleKind (aG P w)).is h ks a:=by
 obtain ⟨_,its,r,o,h1,h2,n,h3⟩:=(show ObjOk P w H h a (.tup (ks.map kV)) from ok a _ e)
 exact ⟨o,its.toArray,n,h1,h2,h3,by simpa using jH r⟩
theorem dF {kvs:List (List Key × V)} (ok:HOk P w H h) (e:Rd H a (.dT kvs)):kvs.length <= sizeLine /\ (a == sysModules) = false /\
 ∃ xs,KT H kvs xs /\ h.DictOfH (tupleKind (aG P w)) a xs:=by
 obtain ⟨z,y,xs,r,o,es,ep,h1,h2,h3,h4,h5⟩:=(show ObjOk P w H h a (.dT kvs) from wy ok e)
 refine ⟨z,y,xs,r,o,es,ep,h1,h2,h3,h4,fun x hx => ?_,h5⟩
 have all:∀ {l:List (List Key × V)} {m:List (List Key × Addr × Value)},KT H l m -> ∀ x ∈ m,(tupleKind (aG P w)).is h x.1 x.2.1:=by
  intro l m q
  induction q with
  | nil=>intro x hx;exact nomatch hx
  | @cons p q ps qs hq t ih =>
   intro x hx
   rcases List.mem_cons.mp hx with e | hx
   ·subst e
    exact fq ok (by rw [<- hq.1];exact hq.2.1)
   ·exact ih x hx
 exact all r x hx
theorem wz {kvs:List (List Key × V)} (ok:HOk P w H h) (e:H a = some (.dT kvs)):kvs.length <= sizeLine /\ (a == sysModules) = false /\
 ∃ xs,KT H kvs xs /\ h.DictOfH (tupleKind (aG P w)) a xs:=dF ok (.inl e)
end
noncomputable def DGet (H:Hp) (a:Addr) (y:V) (r:Option V):Prop :=
 (∃ kvs k,Rd H a (.dK kvs) /\ y = kV k /\ r = bN kvs k) ∨ ∃ kvs k b,Rd H a (.dT kvs) /\ y = .ref b /\ H b = some (.tup (k.map kV)) /\ r = bN kvs k
noncomputable def DPut (H:Hp) (a:Addr) (y v:V) (H':Hp):Prop :=
 (∃ kvs k,H a = some (.dK kvs) /\ y = kV k /\ kvs.length < sizeLine /\ H' = upd H a (.dK (bo kvs k v))) ∨
 ∃ kvs k b,H a = some (.dT kvs) /\ y = .ref b /\ H b = some (.tup (k.map kV)) /\ kvs.length < sizeLine /\ H' = upd H a (.dT (bo kvs k v))
theorem DGet.k {H:Hp} {a:Addr} {kvs:List (Key × V)} {k:Key} (e:H a = some (.dK kvs)):DGet H a (kV k) (bN kvs k) := .inl ⟨kvs,k, .inl e,rfl,rfl⟩
theorem DGet.t {H:Hp} {a b:Addr} {kvs:List (List Key × V)} {k:List Key} (e:H a = some (.dT kvs)) (eb:H b = some (.tup (k.map kV))):DGet H a (.ref b) (bN kvs k) := .inr ⟨kvs,k,b, .inl e,rfl,eb,rfl⟩
theorem DPut.k {H:Hp} {a:Addr} {kvs:List (Key × V)} {k:Key} {v:V} (e:H a = some (.dK kvs)) (hl:kvs.length < sizeLine):DPut H a (kV k) v (upd H a (.dK (bo kvs k v))) := .inl ⟨kvs,k,e,rfl,hl,rfl⟩
theorem DPut.t {H:Hp} {a b:Addr} {kvs:List (List Key × V)} {k:List Key} {v:V} (e:H a = some (.dT kvs)) (eb:H b = some (.tup (k.map kV))) (hl:kvs.length < sizeLine) :
 DPut H a (.ref b) v (upd H a (.dT (bo kvs k v))) := .inr ⟨kvs,k,b,e,rfl,eb,hl,rfl⟩
section
variable {X:Cx} {pins:List (Addr × Obj)} {σ:St} {H:Hp} {s:Shared} {a:Addr} {y v:V} {u r:Value} {o:Option V} {A:Around} {E:Value -> Shared -> Prop}
theorem Inv.big (I:Inv X pins σ H s):sysModules < s.heap.objs.size:=by
 have h:mainGlobals < s.heap.objs.size:=(I.mod.glob.keeps I.bk).lt
 exact Nat.lt_trans (by decide) h
theorem rC {Q:Value -> Shared -> Prop} (hu:A.units + 1 < cLine) (I:Inv X pins σ H s) (g:DGet H a y (some v)) (ry:RelV y u) (h:∀ w' s',Inv X pins σ H s' -> RelV v w' -> Q w' s') :
 wpAny (model X.prog X.w) A (getItem (.ref a) u) Q E s:=by
 rcases g with ⟨kvs,k,e,ey,l⟩ | ⟨kvs,k,b,e,ey,eb,l⟩
 ·subst ey
  obtain ⟨z,hd,vs,rel,dd⟩:=kw I.hok e
  obtain ⟨w',hw,rw'⟩:=RelO.some_of (v:=v) (o:=valueAt vs k) (by rw [l];exact rel.val k)
  exact wpAny_getItem_of (ku ry) dd.mapOf hw (h w' _ (I.tok _) rw')
 ·subst ey
  cases (show u = Value.ref b from ry)
  obtain ⟨z,hd,xs,rel,dd⟩:=dF I.hok e
  obtain ⟨w',hw,rw'⟩:=RelO.some_of (v:=v) (o:=(atKey xs k).map (·.2)) (by rw [l];exact rel.val k)
  obtain ⟨p,hp,hp2⟩:=Option.map_eq_some_iff.mp hw
  refine wpAny_getItem_heap (tupleKind_room_in1 hu) (fq I.hok eb) dd hp ?_
  rw [hp2]
  exact h w' _ (I.tok _) rw'
theorem j8 {h':Heap} {t':Nat} {ob:HO} (I:Inv X pins σ H s) (mu:Mut (H a)) (hs:Heap.SameBut a s.heap h') (he:∃ q,h'.get? a = some q) (new:ObjOk X.prog X.w (upd H a ob) h' a ob) :
 Inv X pins σ (upd H a ob) { s with heap:=h',toks:=t' } :=
 I.write (x:=a) (e:=a) mu (.inl rfl) (fun b q hb z=>(hs.2 b hb).trans z) he new
theorem zN {P:Program} {w:World} {H':Hp} {h':Heap} {kvs:List (Key × V)} {vs:List (Key × Value)} (z:kvs.length <= sizeLine) (hd:(a == sysModules) = false) (rel:KV kvs vs) (dd:h'.DictOf (aG P w) a vs) :
 ObjOk P w H' h' a (.dK kvs):=⟨z,hd,vs,rel,dd⟩
theorem rD {H':Hp} {Q:Unit -> Shared -> Prop} (hu:A.units + 1 < cLine) (I:Inv X pins σ H s) (g:DPut H a y v H') (ry:RelV y u) (rv:RelV v r) (h:∀ s',Inv X pins σ H' s' -> Q () s') :
 wpAny (model X.prog X.w) A (setItem (.ref a) u r) Q E s:=by
 rcases g with ⟨kvs,k,e,ey,l,eH⟩ | ⟨kvs,k,b,e,ey,eb,l,eH⟩
 ·subst ey eH
  obtain ⟨z,hd,vs,rel,dd⟩:=Ba I.hok e
  have hz:vs.length <= sizeLine:=by rw [<- rel.length];exact z
  have hl:(bo kvs k v).length <= sizeLine:=by have:=cK kvs k v;omega
  refine wpAny_setItem_pairs (hsz:=hz) (ku ry) dd fun h' dd' hs=>h _ ?_
  have he:∃ q,h'.get? a = some q:=let ⟨q,_,_,hq,_⟩:=dd'; ⟨q,hq⟩
  exact j8 I (by rw [e];exact True.intro) hs he (zN hl hd (rel.put k rv) dd')
 ·subst ey eH
  cases (show u = Value.ref b from ry)
  obtain ⟨z,hd,xs,rel,dd⟩:=wz I.hok e
  have hz:xs.length <= sizeLine:=by rw [<- Paired.length rel];exact z
  have hl:(bo kvs k v).length <= sizeLine:=by have:=cK kvs k v;omega
  refine wpAny_setItem_heap (hsz:=hz) (tupleKind_room_in1 hu) (fq I.hok eb) dd fun h' dd' hs=>h _ ?_
  obtain ⟨q,es,ep,hq,h2,h3,h4,_,h5⟩:=dd'
  refine j8 I (by rw [e];exact True.intro) hs ⟨q,hq⟩ ⟨hl,hd,_,(rel.put k eb rv).keeps fun c ys ec => ?_,q,es,ep,hq,h2,h3,h4,h5⟩
  rw [ai (wk ec e (fun z=>nomatch z))]
  exact ec
end
theorem uA {P:Program} {w:World} {H:Hp} (h:Heap) (hb:sysModules < h.objs.size):ObjOk P w H (h.push { cls := .type "dict",data := .dict #[] }) h.objs.size (.dK []) :=
 ⟨Nat.zero_le _,beq_eq_false_iff_ne.mpr (Ne.symm (Nat.ne_of_lt hb)),[], .nil,Heap.DictOf.new h⟩
theorem kK {P:Program} {w:World} {H:Hp} (h:Heap) (hb:sysModules < h.objs.size):ObjOk P w H (h.push { cls := .type "dict",data := .dict #[] }) h.objs.size (.dT []) :=
 ⟨Nat.zero_le _,beq_eq_false_iff_ne.mpr (Ne.symm (Nat.ne_of_lt hb)),[], .nil,_, #[],0,Heap.get?_push_size _ rfl,⟨rfl,rfl,rfl⟩,rfl,rfl,List.nodup_nil⟩
noncomputable def zO:TE:=fun _ H Q => ∀ p,H p = none -> Q (.ref p) (upd H p (.dK []))
noncomputable def zP:TE:=fun _ H Q => ∀ p,H p = none -> Q (.ref p) (upd H p (.dT []))
section
variable {X:Cx} {pos:Pos}
theorem uB:PE X (.Dict [] [] pos) zO:=fun pins s σ H Q I h =>
 wpAny_Dict_empty ⟨.ref s.heap.objs.size,_,I.laid (a:=s.heap.objs.size) (o := .dK []) (t':=s.toks) (fun _ _ q=>Heap.get?_push_of_some _ q) (Nat.le_refl _) (uA s.heap I.big),rfl,h _ (I.hok.fresh (Nat.le_refl _))⟩
theorem uC:PE X (.Dict [] [] pos) zP:=fun pins s σ H Q I h =>
 wpAny_Dict_empty ⟨.ref s.heap.objs.size,_,I.laid (a:=s.heap.objs.size) (o := .dT []) (t':=s.toks) (fun _ _ q=>Heap.get?_push_of_some _ q) (Nat.le_refl _) (kK s.heap I.big),rfl,h _ (I.hok.fresh (Nat.le_refl _))⟩
end
structure M1 (X:Cx) (o:Expr) (m:Str) (apos:Pos) (e:Expr) (cpos:Pos):Prop where
 base:attributeBase o m X.env (eval o X.env) = eval o X.env
 few:((backTo cpos (starEach [e] X.env)).all (fun x => !x.1) && (backToKw cpos (keywordEach [] X.env)).all (fun x=>x.1.isSome)
  && decide (([e]:List Expr).length + ([]:List Keyword).length + (if ([]:List Keyword).isEmpty then 0 else 1) < 30)) = true
 line:(apos.endLine == cpos.line) = true
 trees:backTo cpos (starEach [e] X.env) = [(false,eval e X.env)]
structure M2 (X:Cx) (o:Expr) (m:Str) (apos:Pos) (e f:Expr) (cpos:Pos):Prop where
 base:attributeBase o m X.env (eval o X.env) = eval o X.env
 few:((backTo cpos (starEach [e,f] X.env)).all (fun x => !x.1) && (backToKw cpos (keywordEach [] X.env)).all (fun x=>x.1.isSome)
  && decide (([e,f]:List Expr).length + ([]:List Keyword).length + (if ([]:List Keyword).isEmpty then 0 else 1) < 30)) = true
 line:(apos.endLine == cpos.line) = true
 trees:backTo cpos (starEach [e,f] X.env) = [(false,eval e X.env),(false,eval f X.env)]
noncomputable def IsD (H:Hp) (a:Addr):Prop:=(∃ kvs,Rd H a (.dK kvs)) ∨ ∃ kvs,Rd H a (.dT kvs)
theorem ic {X:Cx} {pins:List (Addr × Obj)} {σ:St} {H:Hp} {s:Shared} {a:Addr} (I:Inv X pins σ H s) (d:IsD H a) :
 s.TypeIs (.ref a) "dict" /\ (∀ b,Value.ref a = .ref b -> ∃ ob,s.heap.get? b = some ob /\ ob.dict = none) /\ (a == sysModules) = false:=by
 rcases d with ⟨kvs,e⟩ | ⟨kvs,e⟩
 ·obtain ⟨_,hd,vs,_,dd⟩:=kw I.hok e
  refine ⟨dd.typeIs,fun b q => ?_,hd⟩
  cases q
  obtain ⟨ob,_,_,h1,h2,_⟩:=dd
  exact ⟨ob,h1,h2.2.1⟩
 ·obtain ⟨_,hd,xs,_,dd⟩:=dF I.hok e
  refine ⟨dd.typeIs,fun b q => ?_,hd⟩
  cases q
  obtain ⟨ob,_,_,h1,h2,_⟩:=dd
  exact ⟨ob,h1,h2.2.1⟩
section
variable {X:Cx} {pins:List (Addr × Obj)} {σ:St} {H:Hp} {s:Shared} {a:Addr} {y d:V} {u r:Value} {o:Option V} {A:Around} {E:Value -> Shared -> Prop}
theorem zQ {Q:Value -> Shared -> Prop} (hu:A.units + 1 < cLine) (I:Inv X pins σ H s) (g:DGet H a y o) (ry:RelV y u) (rd:RelV d r) (h:∀ w' s',Inv X pins σ H s' -> RelV (o.getD d) w' -> Q w' s') :
 wpAny (model X.prog X.w) A (call (.builtin "dict.get") [.ref a,u,r]) Q E s:=by
 rcases g with ⟨kvs,k,e,ey,l⟩ | ⟨kvs,k,b,e,ey,eb,l⟩
 ·subst ey
  obtain ⟨z,hd,vs,rel,dd⟩:=kw I.hok e
  refine call_meetsIn PySem.F.slot_dict_get dd.typeIs PySem.F.entry_dict_get (PySem.F.args_dict_get_3 _ _ _) (meets_dict_get_default (aG X.prog X.w) a (ku ry) hd r) ⟨_,dd.mapOf,h _ _ (I.tok _) ?_⟩
  rw [l]
  exact (rel.val k).getD rd
 ·subst ey
  cases (show u = Value.ref b from ry)
  obtain ⟨z,hd,xs,rel,dd⟩:=dF I.hok e
  refine call_meetsIn PySem.F.slot_dict_get dd.typeIs PySem.F.entry_dict_get (PySem.F.args_dict_get_3 _ _ _) (meetsH_dict_get_default (tupleKind (aG X.prog X.w)) a b hd r) ⟨tupleKind_room_in1 hu,k,xs,fq I.hok eb,dd,h _ _ (I.tok _) ?_⟩
  rw [l]
  exact (rel.val k).getD rd
end
noncomputable def zR (td ty tx:TE):TE:=fun σ H Q=>td σ H fun x H1 => ∃ a,x = .ref a /\ IsD H1 a /\ ty σ H1 fun y H2=>tx σ H2 fun z H3 => ∃ o,DGet H3 a y o /\ Q (o.getD z) H3
section
variable {X:Cx} {o e f:Expr} {apos cpos:Pos} {td ty tx:TE}
theorem uD (hu:X.A.units + 1 < cLine) (ho:PE X o td) (he:PE X e ty) (hf:PE X f tx) (m:M2 X o "get" apos e f cpos):PE X (.Call (.Attribute o "get" apos) [e,f] [] cpos) (zR td ty tx):=by
 intro pins s σ H Q I h
 refine wpAny_Call_method m.base m.few m.line PySem.F.plainAttrs_dict PySem.F.slot_dict_get PySem.F.type_dict_get (thn (ho pins s σ H _ I h) fun u s1 ⟨x,H1,I1,rx,a,ex,d,q1⟩ => ?_)
 subst ex
 obtain rfl:u = Value.ref a:=rx
 obtain ⟨t1,t2,_⟩:=ic I1 d
 refine ⟨t1,t2, ?_⟩
 rw [m.trees]
 refine Calls.callWith_builtin rfl (Calls.evalArgs_plain (Calls.spliced_cons (thn (he pins s1 σ H1 _ I1 q1) fun iv s2 ⟨y,H2,I2,ry,q2⟩ =>
  Calls.spliced_cons (thn (hf pins s2 σ H2 _ I2 q2) fun fv s3 ⟨z,H3,I3,rz,ov,g,q3⟩=>Calls.spliced_nil ?_))))
 exact zQ hu I3 g ry rz fun w' s4 I4 rw'=>⟨_,H3,I4,rw',q3⟩
end
end
section
noncomputable def be (elt:Expr) (gens:List Comprehension) (scope:Scope) (pos:Pos) (d:Nat) (acc:Value) (env:Env) (k:Sem Fin):Sem Fin :=
 match gens[d + 1]? with
 | some g'=>eval g'.iter env >>= fun x=>standAt g'.iter.pos >>= fun _=>foldedSetIterable g'.iter env x >>= fun x=>holding [x] (pyIter x) >>= fun it' =>
    runOwn (.compStart (.ListComp elt gens scope pos) (d + 1) it' acc env) env >>= fun _=>k
 | none=>(eval elt env >>= fun x=>call (.builtin "list.append") [acc,x] >>= fun _=>pure ()) >>= fun _=>k
noncomputable def bp (ifs:List Expr) (env:Env):Sem Bool :=
 forIn ifs true fun c r=>if r = true then do let ok <- isTrue c env (eval c env);pure (ForInStep.yield ok) else pure (ForInStep.yield r)
theorem kL (elt target iter:Expr) (ifs:List Expr) (gens:List Comprehension) (scope:Scope) (pos:Pos) (d:Nat) (it acc:Value) (env:Env)
 (hd:gens[d]? = some ⟨target,iter,ifs,0⟩) (ha:∀ g',gens[d + 1]? = some g' -> g'.is_async = 0) :
 compTurn (.ListComp elt gens scope pos) d it acc env = (standAt iter.pos >>= fun _=>pyNext it >>= fun r=>match r with
  | none=>pure (.done .next)
  | some v=>letOwnedTupleGo target it v >>= fun _=>assign target env v >>= fun _=>bp ifs env >>= fun ok =>
    (if ok = true then be elt gens scope pos d acc env (again (.compLoop (.ListComp elt gens scope pos) d it acc env)) else again (.compLoop (.ListComp elt gens scope pos) d it acc env))):=by
 unfold compTurn
 simp only [hd]
 unfold be bp
 cases hn:gens[d + 1]? with
 | none=>rfl
 | some g' =>
   obtain ⟨t',i',f',a'⟩:=g'
   have e:a' = 0:=ha _ hn
   subst e
   rfl
noncomputable abbrev TC:=St -> Hp -> (St -> Hp -> Prop) -> Prop
noncomputable def cv (J:It) (g:TG) (tb:TC) (N:St -> Hp -> Prop) (σ:St) (H:Hp):Prop :=
 ∃ W:Nat -> Nat -> St -> Hp -> Prop,(∃ m,W 0 m σ H) /\ ∀ i m σ H,W i m σ H ->
  (J.stop i H /\ N σ H) ∨ (J.go i H /\ ∃ N':St -> Hp -> Prop,(∀ σ' H',N' σ' H' -> ∃ m',m' < m /\ W (i + 1) m' σ' H') /\ ∀ x H',J.yld i H x H' -> g x σ H' fun σ2 H2=>tb σ2 H2 N')
noncomputable def PB (X:Cx) (F:Sem Fin -> Sem Fin) (t:TC):Prop :=
 ∀ (pins:List (Addr × Obj)) (s:Shared) (σ:St) (H:Hp) (N:St -> Hp -> Prop) (k:Sem Fin) (Q:Fin -> Shared -> Prop) (E:Value -> Shared -> Prop),Inv X pins σ H s -> t σ H N ->
  (∀ s' σ' H',Inv X pins σ' H' s' -> N σ' H' -> wpAny (model X.prog X.w) X.A k Q E s') -> wpAny (model X.prog X.w) X.A (F k) Q E s
section
variable {X:Cx}
theorem nox {α:Type} {m:Sem α} {Q : α -> Shared -> Prop} {E:Value -> Shared -> Prop} {s:Shared} (hx:∀ e s,X.xe e s -> False) (h:wpAny (model X.prog X.w) X.A m Q X.xe s):wpAny (model X.prog X.w) X.A m Q E s :=
 wpAny_mono h (fun _ _ q=>q) fun e s' q=>(hx e s' q).elim
noncomputable def ie (ts:List TT) (tb:TC):TC:=match ts with
 | [] => tb
 | t :: r=>fun σ H N=>t σ H fun b H1=>if b = true then ie r tb σ H1 N else N σ H1
theorem ig {env:Env} {M:Model} {A:Around} {Q:Bool -> Shared -> Prop} {E:Value -> Shared -> Prop} {s:Shared} (h:Q false s):∀ ifs:List Expr,
 wpAny M A (forIn ifs false fun c r=>if r = true then do let ok <- isTrue c env (eval c env);pure (ForInStep.yield ok) else pure (ForInStep.yield r)) Q E s
 | [] => wpAny_pure h
 | c :: r=>by
   rw [List.forIn_cons]
   simp only [Bool.false_eq_true,if_false]
   exact wpAny_bind (wpAny_pure (ig h r))
theorem kM (hx:∀ e s,X.xe e s -> False) {tb:TC} {N:St -> Hp -> Prop}:∀ {ifs:List Expr} {ts:List TT},Paired (fun c t=>PT X c t) ifs ts ->
 ∀ (pins:List (Addr × Obj)) (s:Shared) (σ:St) (H:Hp) (E:Value -> Shared -> Prop),Inv X pins σ H s -> ie ts tb σ H N ->
 wpAny (model X.prog X.w) X.A (bp ifs X.env) (fun ok s' => ∃ H',Inv X pins σ H' s' /\ if ok = true then tb σ H' N else N σ H') E s
 | _,_, .nil=>fun pins s σ H E I h=>wpAny_pure ⟨H,I,by rw [if_pos rfl];exact h⟩
 | c :: ifs,_, .cons (b:=t) hc hr=>by
   intro pins s σ H E I h
   have ih:=kM hx hr (tb:=tb) (N:=N) pins
   unfold bp at ih ⊢
   rw [List.forIn_cons]
   simp only [if_true]
   refine wpAny_bind (wpAny_bind (nox hx (thn (hc pins s σ H _ I h) fun b s1 ⟨H1,I1,q1⟩=>wpAny_pure ?_)))
   cases b with
   | false =>
     rw [if_neg Bool.false_ne_true] at q1
     exact ig ⟨H1,I1,by rw [if_neg Bool.false_ne_true];exact q1⟩ ifs
   | true =>
     rw [if_pos rfl] at q1
     exact ih s1 σ H1 E I1 q1
theorem uE (hx:∀ e s,X.xe e s -> False) {F:Sem Fin -> Sem Fin} {tb:TC} (hb:PB X F tb) {ifs:List Expr} {ts:List TT} (hp:Paired (fun c t=>PT X c t) ifs ts) :
 PB X (fun k=>bp ifs X.env >>= fun ok=>if ok = true then F k else k) (ie ts tb):=by
 intro pins s σ H N k Q E I h hk
 refine wpAny_bind (thn (kM hx hp pins s σ H E I h) fun ok s1 ⟨H1,I1,q1⟩ => ?_)
 cases ok with
 | false =>
   rw [if_neg Bool.false_ne_true] at q1 ⊢
   exact hk s1 σ H1 I1 q1
 | true =>
   rw [if_pos rfl] at q1 ⊢
   exact hb pins s1 σ H1 N k Q E I1 q1 hk
noncomputable def wB (p:Addr) (te:TE):TC:=fun σ H N=>te σ H fun x H1 => ∃ xs,H1 p = some (.lst xs) /\ xs.length < sizeLine /\ N σ (upd H1 p (.lst (xs ++ [x])))
theorem j9 (hx:∀ e s,X.xe e s -> False) {elt:Expr} {gens:List Comprehension} {scope:Scope} {pos:Pos} {d:Nat} {p:Addr} {te:TE} (he:PE X elt te) (hd:gens[d + 1]? = none) :
 PB X (be elt gens scope pos d (.ref p) X.env) (wB p te):=by
 intro pins s σ H N k Q E I h hk
 unfold be
 rw [hd]
 refine wpAny_bind (wpAny_bind (nox hx (thn (he pins s σ H _ I h) fun u s1 ⟨x,H1,I1,r1,xs,e1,l1,q1⟩ => ?_)))
 refine wpAny_bind (nox hx (thn (jF (X:=X) pins s1 σ H1 (.ref p) [x] (.ref p) [u] (fun _ H2=>N σ H2) I1 rfl (.cons r1 .nil) ⟨p,xs,x,rfl,rfl,e1,l1,q1⟩) fun v s2 ⟨_,H2,I2,_,q2⟩ => ?_))
 exact wpAny_pure (hk s2 σ H2 I2 q2)
theorem jI (hx:∀ e s,X.xe e s -> False) (hc:X.calm = true) {elt target iter:Expr} {ifs:List Expr} {gens:List Comprehension} {scope:Scope} {pos:Pos} {d:Nat} {acc:Value}
 (hd:gens[d]? = some ⟨target,iter,ifs,0⟩) (ha:∀ g',gens[d + 1]? = some g' -> g'.is_async = 0) {g:TG} (hg:PG X target g) {tb:TC}
 (hb:PB X (fun k=>bp ifs X.env >>= fun ok=>if ok = true then be elt gens scope pos d acc X.env k else k) tb)
 {pins:List (Addr × Obj)} {s:Shared} {σ:St} {H:Hp} {N:St -> Hp -> Prop} {it:Addr} {fp:List Addr} {tn:Nat -> Heap -> Prop} {J:It} (I:Inv X pins σ H s) (T:fi X.prog X.w X.K target J fp it tn)
 (t0:tn 0 s.heap) (f2:∀ b ∈ fp,bW X pins H b) (h:cv J g tb N σ H) :
 codeAny (model X.prog X.w) X.A (.compLoop (.ListComp elt gens scope pos) d (.ref it) acc X.env) (fun r s'=>match r with | .ok _ => ∃ σ' H',Inv X pins σ' H' s' /\ N σ' H' | .error _=>False) s:=by
 obtain ⟨W,⟨m0,w0⟩,turn⟩:=h
 have stat:∀ {H':Hp},(∀ b ∈ fp,H' b = none) -> ∀ b ∈ fp,bW X pins H' b:=fun hn b hb=>⟨hn b hb,(f2 b hb).2⟩
 refine codeAny_loop rfl (fun n s' => ∃ i σ' H',Inv X pins σ' H' s' /\ tn i s'.heap /\ (∀ b ∈ fp,H' b = none) /\ W i n σ' H') ?_ m0 ⟨0, σ,H,I,t0,fun b hb=>(f2 b hb).1,w0⟩
 rintro n s3 ⟨i, σ3,H3,I3,st3,fr3,w3⟩
 show wpAny _ _ ((compTurn (.ListComp elt gens scope pos) d (.ref it) acc X.env).onRaise (fun x=>do noteFrame x X.env;theTreesLotGoes x)) _ _ s3
 refine wpAny_noted ?_
 rw [kL elt target iter ifs gens scope pos d (.ref it) acc X.env hd ha]
 refine wpAny_bind (wpAny_standAt (wpAny_bind ?_))
 show wpAny (model X.prog X.w) X.A _ _ _ s3
 rcases turn i n σ3 H3 w3 with ⟨stop,qn⟩ | ⟨go,N',hN,step⟩
 ·refine thn (T.done X rfl rfl rfl hc i pins s3 σ3 H3 _ I3 (stat fr3) st3 stop) fun r s4 ⟨hr,I4⟩ => ?_
  subst hr
  exact wpAny_pure ⟨σ3,H3,I4,qn⟩
 ·refine thn (T.item X rfl rfl rfl hc i pins s3 σ3 H3 _ I3 (stat fr3) st3 go) fun r s4 ⟨u,hr,h4⟩ => ?_
  subst hr
  refine wpAny_bind (thn h4 fun _ s5 ⟨x,H5,I5,r5,y5,st5,fr5⟩ => ?_)
  have I5':=I5.pinned (stat fr5) (T.obj _ _ st5)
  refine wpAny_bind (nox hx (thn (hg _ s5 σ3 H5 x u _ I5' r5 (step x H5 y5)) fun _ s6 ⟨σ6,H6,I6,q6⟩ => ?_))
  refine hb _ s6 σ6 H6 N' (again (.compLoop (.ListComp elt gens scope pos) d (.ref it) acc X.env)) _ _ I6 q6 fun s7 σ7 H7 I7 n7 => ?_
  obtain ⟨m',hm,w7⟩:=hN σ7 H7 n7
  refine wpAny_pure ⟨rfl,m',hm,i + 1, σ7,H7,I7.unpinned,T.keep _ _ _ st5 fun b hb o e=>(I7.pin (b,o) (List.mem_append_right _ (List.mem_append_right _ (cU hb e)))).1,fun b hb => ?_,w7⟩
  obtain ⟨o,e,dd⟩:=T.obj _ _ st5 b hb
  exact (I7.pin (b,o) (List.mem_append_right _ (List.mem_append_right _ (cU hb e)))).2.1
theorem ii {elt target iter:Expr} {ifs:List Expr} {gens:List Comprehension} {scope:Scope} {pos:Pos} {d:Nat} {it acc:Value} {env:Env} {prog:Program} {w:World} {A:Around} {R:Result -> Shared -> Prop} {s:Shared}
 (hd:gens[d]? = some ⟨target,iter,ifs,0⟩)
 (h0:codeAny (model prog w) A (.compLoop (.ListComp elt gens scope pos) d it acc env) R s)
 (h:wpAny (model prog w) A (pyIter it) (fun it' s'=>codeAny (model prog w) A (.compLoop (.ListComp elt gens scope pos) d it' acc env) R s')
   (notedBy (model prog w) A env fun x s'=>R (.error x) s') s) :
 codeAny (model prog w) A (.compStart (.ListComp elt gens scope pos) d it acc env) R s:=by
 refine codeAny_of_tree ?_
 show wpAny _ _ ((compStart (.ListComp elt gens scope pos) d it acc env).onRaise (fun x=>do noteFrame x env;standAt theWindowsPlace)) _ _ s
 refine wpAny_notedAt ?_
 unfold compStart
 have hc:(clausesOf (.ListComp elt gens scope pos))[d]? = some ⟨target,iter,ifs,0⟩:=hd
 rw [hc]
 show wpAny _ _ (ask >>= _) _ _ s
 refine wpAny_bind (wpAny_askSetting (wpAny_ite ?_))
 split
 ·first
   | exact wpAny_bind (wpAny_pure (wpAny_pure (And.intro rfl h0)))
   | exact wpAny_pure (And.intro rfl h0)
 ·first
   | exact wpAny_bind (wpAny_rule (wpAny_bind (wpAny_standAt (wpAny_bind (wpAny_mono h (fun it' s' h'=>wpAny_pure (And.intro rfl h')) fun _ _ x=>x)))))
   | (refine wpAny_bind (wpAny_rule ?_);show wpAny _ _ (standAt iter.pos >>= _) _ _ s;exact wpAny_bind (wpAny_standAt (wpAny_bind (wpAny_mono h (fun it' s' h'=>wpAny_pure (And.intro rfl h')) fun _ _ x=>x))))
theorem jJ (hx:∀ e s,X.xe e s -> False) (hc:X.calm = true) {elt target iter:Expr} {ifs:List Expr} {gens:List Comprehension} {scope:Scope} {pos:Pos} {d:Nat} {acc:Value}
 (hd:gens[d + 1]? = some ⟨target,iter,ifs,0⟩) (ha:∀ g',gens[d + 1 + 1]? = some g' -> g'.is_async = 0) {wi:TI} (hi:PI X target iter wi) {g:TG} (hg:PG X target g) {tb:TC}
 (hb:PB X (fun k=>bp ifs X.env >>= fun ok=>if ok = true then be elt gens scope pos (d + 1) acc X.env k else k) tb)
 (hs:∀ x,foldedSetIterable iter X.env x = pure x) :
 PB X (be elt gens scope pos d acc X.env) (fun σ H N=>wi σ H fun J H1=>cv J g tb N σ H1):=by
 intro pins s σ H N k Q E I h hk
 unfold be
 rw [hd]
 refine wpAny_bind (nox hx (thn (hi pins s σ H _ I h) fun v s1 h1 => ?_))
 refine wpAny_bind (wpAny_standAt (wpAny_bind (wpAny_of_eq (hs v) ?_)))
 refine wpAny_bind (wpAny_holding (nox hx (thn h1 fun itv s2 h2 => ?_)))
 obtain ⟨it,fp,tn,J,H2,e,I2,T,st2,f2,hw⟩:=h2
 subst e
 have loop:=jI (acc:=acc) hx hc hd ha hg hb I2 T st2 f2 hw
 refine wpAny_bind (wpAny_runOwn (codeAny_mono (ii (R:=fun r s'=>match r with | .ok _ => ∃ σ' H',Inv X pins σ' H' s' /\ N σ' H' | .error _=>False) hd loop (T.self _ 0 _ _ _ st2 loop)) fun r s3 hr => ?_))
 cases r with
 | error e=>exact hr.elim
 | ok f =>
   obtain ⟨σ3,H3,I3,n3⟩:=hr
   exact hk s3 σ3 H3 I3 n3
noncomputable def aT (cells:List (Str × Addr)):List (Str × NameKind) -> List (Str × Addr) -> List (Str × Addr)
 | [],acc=>acc
 | (n,k) :: r,acc=>if k == .free then (match cells.lookup n with | some c=>aT cells r ((n,c) :: acc) | none=>aT cells r acc) else aT cells r acc
theorem gy {env:Env}:∀ (names:List (Str × NameKind)) (acc:List (Str × Addr)),(∀ x ∈ names,x.2 = .free -> (env.cells.lookup x.1).isSome = true) ->
 (forIn names acc fun (x:Str × NameKind) (r:List (Str × Addr))=>(match x with | (name,kind)=>if (kind == NameKind.free) = true then do let c <- cellOf env name;pure (ForInStep.yield ((name,c) :: r)) else pure (ForInStep.yield r):Sem (ForInStep (List (Str × Addr))))) = (pure (aT env.cells names acc):Sem (List (Str × Addr)))
 | [],acc,_=>rfl
 | (n,k) :: r,acc,h=>by
  rw [List.forIn_cons]
  have ih:=fun acc'=>gy r acc' fun x hx=>h x (List.mem_cons_of_mem _ hx)
  unfold aT
  by_cases hk:(k == NameKind.free) = true
  ·obtain ⟨c,hc⟩:=Option.isSome_iff_exists.mp (h (n,k) List.mem_cons_self (beq_iff_eq.mp hk))
   have hc':env.cells.lookup n = some c:=hc
   have e1:cellOf env n = pure c:=by unfold cellOf;rw [hc']
   simp only [hk,if_true,e1,hc',pure_bind]
   exact ih _
  ·simp only [hk,if_false,pure_bind]
   exact ih _
theorem ik {scope:Scope} {env:Env} (h:∀ x ∈ scope.names,x.2 = .free -> (env.cells.lookup x.1).isSome = true):closureFor scope env = pure (aT env.cells scope.names []):=by
 unfold closureFor
 have e:=gy (env:=env) scope.names [] h
 simp only [bind_pure]
 exact e
theorem cV {cells:List (Str × Addr)} {y:Str} {c:Addr}:∀ {names:List (Str × NameKind)} {acc:List (Str × Addr)},(y,c) ∈ aT cells names acc -> (y,c) ∈ acc ∨ (cells.lookup y = some c /\ (y,NameKind.free) ∈ names)
 | [],acc,h => .inl h
 | (n,k) :: r,acc,h=>by
  unfold aT at h
  by_cases hk:(k == NameKind.free) = true
  ·rw [if_pos hk] at h
   have hk':k = .free:=beq_iff_eq.mp hk
   subst hk'
   cases hl:cells.lookup n with
   | none =>
     rw [hl] at h
     rcases cV h with z | ⟨z1,z2⟩
     ·exact .inl z
     ·exact .inr ⟨z1,List.mem_cons_of_mem _ z2⟩
   | some c' =>
     rw [hl] at h
     rcases cV h with z | ⟨z1,z2⟩
     ·rcases List.mem_cons.mp z with e | z
      ·cases e
       exact .inr ⟨hl,List.mem_cons_self⟩
      ·exact .inl z
     ·exact .inr ⟨z1,List.mem_cons_of_mem _ z2⟩
  ·rw [if_neg hk] at h
   rcases cV h with z | ⟨z1,z2⟩
   ·exact .inl z
   ·exact .inr ⟨z1,List.mem_cons_of_mem _ z2⟩
theorem cW {cells:List (Str × Addr)} {y:Str} {c:Addr} (hc:cells.lookup y = some c):∀ {names:List (Str × NameKind)} {acc:List (Str × Addr)},((y,c) ∈ acc ∨ (y,NameKind.free) ∈ names) -> (y,c) ∈ aT cells names acc
 | [],acc,h=>by
  rcases h with h | h
  ·exact h
  ·simp at h
 | (n,k) :: r,acc,h=>by
  unfold aT
  by_cases hk:(k == NameKind.free) = true
  ·rw [if_pos hk]
   have hk':k = .free:=beq_iff_eq.mp hk
   subst hk'
   cases hl:cells.lookup n with
   | none =>
     refine cW hc ?_
     rcases h with h | h
     ·exact .inl h
     ·rcases List.mem_cons.mp h with e | h
      ·cases e;rw [hl] at hc;cases hc
      ·exact .inr h
   | some c' =>
     refine cW hc ?_
     rcases h with h | h
     ·exact .inl (List.mem_cons_of_mem _ h)
     ·rcases List.mem_cons.mp h with e | h
      ·cases e;rw [hl] at hc;cases hc;exact .inl List.mem_cons_self
      ·exact .inr h
  ·rw [if_neg hk]
   refine cW hc ?_
   rcases h with h | h
   ·exact .inl h
   ·rcases List.mem_cons.mp h with e | h
    ·cases e;exact absurd rfl hk
    ·exact .inr h
theorem cR:∀ (names:List (Str × NameKind)) (n:Nat) (acc acc':List (Str × Addr)),cellsFrom n names (acc ++ acc') = cellsFrom n names acc ++ acc'
 | [],_,_,_=>rfl
 | (x,k) :: r,n,acc,acc'=>by
  unfold cellsFrom
  by_cases hk:(k == NameKind.cell) = true
  ·rw [if_pos hk,if_pos hk]
   exact cR r (n + 1) ((x,n) :: acc) acc'
  ·rw [if_neg hk,if_neg hk]
   exact cR r n acc acc'
theorem cS:∀ {names:List (Str × NameKind)} {n:Nat} {acc:List (Str × Addr)} {y:Str} {c:Addr},(y,c) ∈ cellsFrom n names acc -> (y,c) ∈ acc ∨ (n <= c /\ (y,NameKind.cell) ∈ names)
 | [],_,_,_,_,h => .inl h
 | (x,k) :: r,n,acc,y,c,h=>by
  unfold cellsFrom at h
  by_cases hk:(k == NameKind.cell) = true
  ·rw [if_pos hk] at h
   have hk':k = .cell:=beq_iff_eq.mp hk
   subst hk'
   rcases cS h with z | ⟨z1,z2⟩
   ·rcases List.mem_cons.mp z with e | z
    ·cases e;exact .inr ⟨Nat.le_refl _,List.mem_cons_self⟩
    ·exact .inl z
   ·exact .inr ⟨Nat.le_of_succ_le z1,List.mem_cons_of_mem _ z2⟩
  ·rw [if_neg hk] at h
   rcases cS h with z | ⟨z1,z2⟩
   ·exact .inl z
   ·exact .inr ⟨z1,List.mem_cons_of_mem _ z2⟩
structure bf (sc osc:Scope) (oN N':List Str) (fr:List (Option Nat)):Prop where
 kind:sc.kind = .function
 nd:(sc.names.map (·.1)).Nodup
 ndN:N'.Nodup
 free:∀ x ∈ sc.names,x.2 = .free -> osc.names.lookup x.1 = some .cell ∨ osc.names.lookup x.1 = some .free
 len:fr.length = N'.length
 fr:∀ (i j:Nat) (x:Str),N'[i]? = some x -> fr[i]? = some (some j) -> oN[j]? = some x /\ (x,NameKind.free) ∈ sc.names
noncomputable def inh (fr:List (Option Nat)) (σ:St):St:=fr.map fun o=>o.bind fun j=>(σ[j]?).join
noncomputable def bg (X:Cx) (sc:Scope) (L:Addr):Env :=
 { scope:=relabel sc X.env,locals:=L,globals:=X.env.globals,cells:=cellsFrom (L + 1) sc.names (aT X.env.cells sc.names []),qual:=X.env.qual,func:=none,code:=X.env.code,frame:=X.env.frame,builtins:=X.env.builtins }
noncomputable def aH (X:Cx) (sc:Scope) (N':List Str) (s:Shared) (H:Hp) (fp:List Addr):Cx :=
 { X with N:=N',s₀ := s,H₀ := H,env:=bg X sc s.heap.objs.size,outer:=X.stack,stack:=X.stack,ex:=fp,fn:=fun x=>sc.names.lookup x == some .cell,pn := [],xe:=fun _ _=>False }
theorem aS:∀ {l:List (Str × NameKind)} {x:Str} {k:NameKind},(l.map (·.1)).Nodup -> (x,k) ∈ l -> l.lookup x = some k
 | (y,k') :: r,x,k,nd,h=>by
  have nd':(y :: r.map (·.1)).Nodup:=nd
  obtain ⟨n1,n2⟩:=List.nodup_cons.mp nd'
  rw [List.lookup_cons]
  rcases List.mem_cons.mp h with e | hm
  ·cases e;simp
  ·have hne:(x == y) = false:=by
    refine beq_eq_false_iff_ne.mpr fun e => ?_
    subst e
    exact n1 (List.mem_map.mpr ⟨(x,k),hm,rfl⟩)
   rw [hne]
   exact aS n2 hm
theorem cw {env:Env}:∀ {names:List (Str × NameKind)} {x:Str},
 (names.map fun (n,k)=>if (k == NameKind.free && env.scope.kind == .function && env.kindOf n == some .cell) then (n,NameKind.cell) else (n,k)).lookup x =
   (names.lookup x).map fun k=>if (k == NameKind.free && env.scope.kind == .function && env.kindOf x == some .cell) then NameKind.cell else k
 | [],_=>rfl
 | (n,k) :: r,x=>by
  have ih:=cw (env:=env) (names:=r) (x:=x)
  show List.lookup x ((if (k == NameKind.free && env.scope.kind == .function && env.kindOf n == some .cell) = true then (n,NameKind.cell) else (n,k)) :: _) = _
  rw [List.lookup_cons (a:=x) (b:=k)]
  by_cases hx:x = n
  ·subst hx
   simp only [beq_self_eq_true]
   show _ = some (if (k == NameKind.free && env.scope.kind == .function && env.kindOf x == some .cell) = true then NameKind.cell else k)
   by_cases hc:(k == NameKind.free && env.scope.kind == .function && env.kindOf x == some .cell) = true
   ·rw [if_pos hc,if_pos hc,List.lookup_cons];simp only [beq_self_eq_true]
   ·rw [if_neg hc,if_neg hc,List.lookup_cons];simp only [beq_self_eq_true]
  ·have hb:(x == n) = false:=beq_eq_false_iff_ne.mpr hx
   rw [hb]
   by_cases hc:(k == NameKind.free && env.scope.kind == .function && env.kindOf n == some .cell) = true
   ·rw [if_pos hc,List.lookup_cons,hb];exact ih
   ·rw [if_neg hc,List.lookup_cons,hb];exact ih
section
variable {pins:List (Addr × Obj)} {σ:St} {H:Hp} {s:Shared} {sc:Scope} {N':List Str} {fr:List (Option Nat)} {fp:List Addr}
theorem fu (I:Inv X pins σ H s) (B:bf sc X.env.scope X.N N' fr):∀ x ∈ sc.names,x.2 = .free -> (X.env.cells.lookup x.1).isSome = true:=fun x hx e=>by
 obtain ⟨c,hc⟩:=I.ok.has x.1 (B.free x hx e)
 rw [hc];rfl
theorem rE (I:Inv X pins σ H s) (f2:∀ b ∈ fp,bW X pins H b) (hfo:∀ b ∈ fp,b < s.heap.objs.size) (B:bf sc X.env.scope X.N N' fr) :
 Inv (aH X sc N' s H fp) [] (inh fr σ) H { s with heap:=pushCells (s.heap.push { cls := .type "dict",data := .dict #[] }) sc.names }:=by
 have hkp:∀ b o,s.heap.get? b = some o -> (pushCells (s.heap.push { cls := .type "dict",data := .dict #[] }) sc.names).get? b = some o:=fun b o e=>pushCells_keeps _ _ b o (Heap.get?_push_of_some _ e)
 have ok:=cellsFrom_ok sc.names (s.heap.push { cls := .type "dict",data := .dict #[] }) (s.heap.objs.size + 1) [] ⟨fun _ _ hm=>(nomatch hm),List.Pairwise.nil⟩ (by rw [Heap.size_push];exact Nat.le_refl _)
 rw [Heap.size_push] at ok
 have capp:cellsFrom (s.heap.objs.size + 1) sc.names (aT X.env.cells sc.names []) = cellsFrom (s.heap.objs.size + 1) sc.names [] ++ aT X.env.cells sc.names []:=cR sc.names _ [] _
 have cof:∀ x c,(bg X sc s.heap.objs.size).cells.lookup x = some c -> ((x,c) ∈ cellsFrom (s.heap.objs.size + 1) sc.names [] /\ s.heap.objs.size < c) ∨ (X.env.cells.lookup x = some c /\ (x,NameKind.free) ∈ sc.names):=fun x c e=>by
  have m:=PySem.mem_of_lookup e
  have m':(x,c) ∈ cellsFrom (s.heap.objs.size + 1) sc.names (aT X.env.cells sc.names []):=m
  rw [capp] at m'
  rcases List.mem_append.mp m' with z | z
  ·exact .inl ⟨z,(ok.empty x c z).2⟩
  ·rcases cV z with q | q
   ·simp at q
   ·exact .inr q
 have cOld:∀ x c,X.env.cells.lookup x = some c -> c < s.heap.objs.size:=fun x c e=>by
  obtain ⟨v,q⟩:=I.cell x c e
  exact q.lt
 have kindF:∀ x,(x,NameKind.free) ∈ sc.names -> (bg X sc s.heap.objs.size).kindOf x = some .cell ∨ (bg X sc s.heap.objs.size).kindOf x = some .free:=fun x hx=>by
  have e1:sc.names.lookup x = some .free:=aS B.nd hx
  have e2:(bg X sc s.heap.objs.size).kindOf x = _:=cw (env:=X.env) (names:=sc.names) (x:=x)
  rw [e1] at e2
  rw [e2]
  by_cases hc:(NameKind.free == NameKind.free && X.env.scope.kind == .function && X.env.kindOf x == some .cell) = true
  ·exact .inl (by simp only [Option.map_some,if_pos hc])
  ·exact .inr (by simp only [Option.map_some,if_neg hc])
 have cellF:∀ x c,(x,NameKind.free) ∈ sc.names -> X.env.cells.lookup x = some c -> (bg X sc s.heap.objs.size).cells.lookup x = some c:=fun x c hx hc=>by
  have m:=cW (acc := []) hc (.inr hx)
  have m2:(x,c) ∈ (bg X sc s.heap.objs.size).cells:=by
   show (x,c) ∈ cellsFrom (s.heap.objs.size + 1) sc.names (aT X.env.cells sc.names [])
   rw [capp]
   exact List.mem_append_right _ m
  cases hl:(bg X sc s.heap.objs.size).cells.lookup x with
  | none =>
    exfalso
    have:∀ {l:List (Str × Addr)},(x,c) ∈ l -> l.lookup x = none -> False:=by
     intro l
     induction l with
     | nil=>intro h;simp at h
     | cons a r ih =>
       intro h e
       obtain ⟨y,d⟩:=a
       rw [List.lookup_cons] at e
       rcases List.mem_cons.mp h with z | z
       ·cases z;simp at e
       ·by_cases hxy:(x == y) = true
        ·rw [hxy] at e;cases e
        ·simp only [Bool.not_eq_true] at hxy
         rw [hxy] at e
         exact ih z e
    exact this m2 hl
  | some c' =>
    rcases cof x c' hl with ⟨z,_⟩ | ⟨z,_⟩
    ·rcases cS z with q | ⟨_,q⟩
     ·simp at q
     ·have a1:=aS B.nd hx
      have a2:=aS B.nd q
      rw [a1] at a2;cases a2
    ·rw [hc] at z;rw [z]
 have kindC:∀ x,(bg X sc s.heap.objs.size).kindOf x = some .cell -> (x,NameKind.cell) ∈ sc.names ∨ (x,NameKind.free) ∈ sc.names:=fun x e=>by
  have e2:(bg X sc s.heap.objs.size).kindOf x = _:=cw (env:=X.env) (names:=sc.names) (x:=x)
  rw [e2] at e
  cases hl:sc.names.lookup x with
  | none=>rw [hl] at e;cases e
  | some k =>
    rw [hl] at e
    have m:=PySem.mem_of_lookup hl
    cases k with
    | cell=>exact .inl m
    | free=>exact .inr m
    | «local» => simp at e
    | globalImplicit=>simp at e
    | globalExplicit=>simp at e
 have kindFr:∀ x,(bg X sc s.heap.objs.size).kindOf x = some .free -> (x,NameKind.free) ∈ sc.names:=fun x e=>by
  have e2:(bg X sc s.heap.objs.size).kindOf x = _:=cw (env:=X.env) (names:=sc.names) (x:=x)
  rw [e2] at e
  cases hl:sc.names.lookup x with
  | none=>rw [hl] at e;cases e
  | some k =>
    rw [hl] at e
    have m:=PySem.mem_of_lookup hl
    cases k with
    | free=>exact m
    | cell=>simp at e
    | «local» => simp at e
    | globalImplicit=>simp at e
    | globalExplicit=>simp at e
 refine ⟨⟨I.ok.mod,B.kind,I.ok.glob,I.ok.blt,Nat.le_refl _,fun y z c h1 h2 => ?_,fun y hy => ?_,fun y c hf h => ?_,I.ok.hd,I.ok.frames, .inl rfl,fun b hb=>⟨?_,fun x c e => ?_⟩,fun b o e=>I.bs b o e, ?_,fun b o e hb => ?_,fun b hb => ?_,I.stack,I.stkFree⟩,
  rfl,I.bare,Un.kept hkp,⟨_,(Heap.Ns.new s.heap (.type "dict")).keeps (pushCells_keeps _ _),fun i x v h1 h2 h3 => ?_⟩,fun y c h => ?_,I.hok.fresh (Nat.le_refl _),fun y c h => ?_,fun p hp=>absurd (show p ∈ ([]:List (Addr × Obj)) from hp) (by simp),I.hok.kept hkp, ?_⟩
 ·rcases cof y c h1 with ⟨a1,a2⟩ | ⟨a1,a2⟩
  ·rcases cof z c h2 with ⟨b1,b2⟩ | ⟨b1,b2⟩
   ·exact name_of_addr ok.apart a1 b1
   ·exact absurd (cOld z c b1) (Nat.not_lt.mpr (Nat.le_of_lt a2))
  ·rcases cof z c h2 with ⟨b1,b2⟩ | ⟨b1,b2⟩
   ·exact absurd (cOld y c a1) (Nat.not_lt.mpr (Nat.le_of_lt b2))
   ·exact I.ok.inj y z c a1 b1
 ·have hy':(y,NameKind.cell) ∈ sc.names ∨ (y,NameKind.free) ∈ sc.names:=by
   rcases hy with hy | hy
   ·exact kindC y hy
   ·exact .inr (kindFr y hy)
  rcases hy' with q | q
  ·exact Option.isSome_iff_exists.mp (PySem.W.cellsFrom_some sc.names _ _ (.inl (aS B.nd q)))
  ·obtain ⟨c,hc⟩:=Option.isSome_iff_exists.mp (fu I B _ q rfl)
   exact ⟨c,cellF y c q hc⟩
 ·have hf':(sc.names.lookup y == some .cell) = true:=hf
  have hf2:sc.names.lookup y = some .cell:=by simpa using hf'
  rcases cof y c h with ⟨_,a2⟩ | ⟨_,a2⟩
  ·exact Nat.le_of_lt a2
  ·rw [aS B.nd a2] at hf2;cases hf2
 ·exact Nat.ne_of_lt (hfo b hb)
 ·rcases cof x c e with ⟨_,a2⟩ | ⟨a1,_⟩
  ·exact Nat.ne_of_gt (Nat.lt_trans (hfo b hb) a2)
  ·exact (f2 b hb).2.2.2.2.1 x c a1
 ·exact Nat.le_trans I.ok.bsz I.sz
 ·obtain ⟨f0,f1,f3,f4,f5,f6⟩:=f2 b hb
  rcases f4 with z | z
  ·exact I.ok.noex b o e z
  ·exact absurd (Nat.lt_of_lt_of_le (Nat.lt_of_lt_of_le (Heap.lt_size e) I.ok.bsz) z) (Nat.lt_irrefl _)
 ·obtain ⟨f0,f1,f3,f4,f5,f6⟩:=f2 b hb
  exact fun z=>(List.mem_cons.mp (I.stkSub b z)).elim f1 f3
 ·have hi:∃ j,fr[i]? = some (some j) /\ σ[j]? = some (some v):=by
   unfold inh at h2
   rw [List.getElem?_map] at h2
   cases e:fr[i]? with
   | none=>rw [e] at h2;cases h2
   | some o =>
     rw [e] at h2
     cases o with
     | none=>cases h2
     | some j =>
       refine ⟨j,rfl, ?_⟩
       have h2':some ((σ[j]?).join) = some (some v):=h2
       cases e' : σ[j]? with
       | none=>rw [e'] at h2';cases h2'
       | some w=>rw [e'] at h2';cases h2';rfl
  obtain ⟨j,e1,e2⟩:=hi
  obtain ⟨n1,n2⟩:=B.fr i j x h1 e1
  obtain ⟨m,hn,hl⟩:=I.loc
  have hv:Vis X.env.scope x := .inr (B.free (x, .free) n2 rfl)
  obtain ⟨u,ru,lk⟩:=hl j x v n1 e2 hv
  refine ⟨u,ru, .inr ⟨kindF x n2, ?_⟩⟩
  rcases lk with ⟨k1,_⟩ | ⟨_,c,hc,hcell⟩
  ·have k1':X.env.scope.names.lookup x = some .local:=k1
   rcases B.free (x, .free) n2 rfl with z | z
   ·rw [k1'] at z;cases z
   ·rw [k1'] at z;cases z
  ·exact ⟨c,cellF x c n2 hc,hcell.keeps hkp⟩
 ·rcases cof y c h with ⟨a1,a2⟩ | ⟨a1,a2⟩
  ·exact ⟨_,(ok.empty y c a1).1⟩
  ·obtain ⟨v,q⟩:=I.cell y c a1
   exact ⟨v,q.keeps hkp⟩
 ·rcases cof y c h with ⟨a1,a2⟩ | ⟨a1,a2⟩
  ·exact I.hok.fresh (Nat.le_of_lt a2)
  ·exact I.freeC y c a1
 ·show (inh fr σ).length = N'.length
  unfold inh
  rw [List.length_map]
  exact B.len
theorem jK {σ':St} {H':Hp} {s':Shared} {h':Heap} (I:Inv X pins σ H s) (f2:∀ b ∈ fp,bW X pins H b) (J:Inv (aH X sc N' s H fp) [] σ' H' s') (hs:Heap.SameBut s.heap.objs.size s'.heap h') :
 Inv X pins σ H' { s' with heap:=h' }:=by
 have u:Un (frs X.stack) fp H H' s.heap s'.heap:=J.base
 have ne:∀ b o,s.heap.get? b = some o -> b ≠ s.heap.objs.size:=fun b o e=>Nat.ne_of_lt (Heap.lt_size e)
 refine I.call' (s' := { s' with heap:=h' }) (ch:=fp) J.os ⟨fun b o e n hb hx => ?_,fun b o e n hb hx => ?_,u.free,fun b o e hx => ?_,u.tups,u.frzs,u.tbls⟩ (fun b v e => ?_) J.bare fun b hb => ?_
 ·exact (hs.2 b (ne b o e)).trans (u.keep b o e n hb hx)
 ·obtain ⟨sl,q⟩:=u.slot b o e n hb hx
  exact ⟨sl,(hs.2 b (ne b o e)).trans q⟩
 ·obtain ⟨o',q⟩:=u.there b o e hx
  exact ⟨o',(hs.2 b (ne b o e)).trans q⟩
 ·refine (J.hok b v e).stay (fun c w hc q=>(hs.2 c ?_).trans q) (fun _ q=>q) fun _ _ q=>q
  have fr:H' s.heap.objs.size = none:=J.free
  rcases hc with z | z
  ·rw [z];intro z2;rw [z2,fr] at e;cases e
  ·intro z2;rw [z2,fr] at z;cases z
 ·obtain ⟨f0,f1,f3,f4,f5,f6⟩:=f2 b hb
  exact ⟨f4,f1,f5,f6⟩
theorem kn {Q:Env -> Shared -> Prop} {E:Value -> Shared -> Prop} {M:Model} {A:Around}
 (h:Q { scope:=sc,locals:=s.heap.objs.size,globals:=X.env.globals,cells:=cellsFrom (s.heap.objs.size + 1) sc.names (aT X.env.cells sc.names []),qual:=X.env.qual,func:=none,code:=X.env.code,frame:=X.env.frame,builtins:=X.env.builtins }
   { s with heap:=pushCells (s.heap.push { cls := .type "dict",data := .dict #[] }) sc.names }) :
 wpAny M A (newFunctionEnv sc X.env.globals (aT X.env.cells sc.names []) [] X.env.qual none .none (some X.env)) Q E s:=by
 simp only [newFunctionEnv,Option.isSome_some,if_true]
 refine wpAny_bind (wpAny_alloc ?_)
 refine wpAny_bind (wpAny_layCells _ (fun name kind cells=>by cases hkc:kind == NameKind.cell <;> simp [hkc]) _ _ _ _ ?_)
 rw [show ({ s with heap:=s.heap.push { cls := .type "dict",data := .dict #[] } }:Shared).heap.objs.size = s.heap.objs.size + 1 from Heap.size_push ..]
 exact wpAny_bind (wpAny_pure (wpAny_pure h))
theorem kN (hc:X.calm = true) {elt target iter:Expr} {ifs:List Expr} {rest:List Comprehension} {pos:Pos} {E:Value -> Shared -> Prop}
 (hx:∀ e s,X.xe e s -> False) (B:bf sc X.env.scope X.N N' fr) (ha:∀ g',rest[0]? = some g' -> g'.is_async = 0) {wi:TI} (hi:PI X target iter wi) {g:TG} {tb:Addr -> TC}
 (hg:∀ s H fp,PG (aH X sc N' s H fp) target g)
 (hb:∀ s H fp p,PB (aH X sc N' s H fp) (fun k=>bp ifs (aH X sc N' s H fp).env >>= fun ok=>if ok = true then be elt (⟨target,iter,ifs,0⟩ :: rest) sc pos 0 (.ref p) (aH X sc N' s H fp).env k else k) (tb p))
 {Nn:Addr -> St -> Hp -> Prop} {RR:Value -> Addr -> Result -> Shared -> Prop} (I:Inv X pins σ H s)
 (h:wi σ H fun J H1 => ∀ p,H1 p = none -> cv J g (tb p) (Nn p) (inh fr σ) (upd H1 p (.lst [])))
 (hR:∀ p fp s3 H3 s' σ' H' f,Inv X pins σ H3 s3 -> (∀ b ∈ fp,bW X pins H3 b) -> Inv (aH X sc N' s3 H3 fp) [] σ' H' s' -> Nn p σ' H' -> RR (.ref p) s3.heap.objs.size (.ok f) s') :
 wpAny (model X.prog X.w) X.A (eval iter X.env) (fun x s₁ => wpAny (model X.prog X.w) X.A (pyIter x) (fun it s₂ => wpAny (model X.prog X.w) X.A (newList []) (fun acc s₃ =>
  wpAny (model X.prog X.w) X.A (newFunctionEnv sc X.env.globals (aT X.env.cells sc.names []) [] X.env.qual none .none (some X.env)) (fun cenv s₄ =>
   codeAny (model X.prog X.w) X.A (.compStart (.ListComp elt (⟨target,iter,ifs,0⟩ :: rest) sc pos) 0 it acc { cenv with scope:=relabel sc X.env }) (RR acc cenv.locals) s₄) E s₃) E s₂) E s₁) E s:=by
 refine nox hx (thn (hi pins s σ H _ I h) fun v s1 h1=>nox hx (thn h1 fun itv s2 h2 => ?_))
 obtain ⟨it,fp,tn,J,H2,e,I2,T,st2,f2,hw⟩:=h2
 subst e
 have hf:H2 s2.heap.objs.size = none:=I2.hok.fresh (Nat.le_refl _)
 refine wpAny_newList ?_
 have I3:Inv X pins σ (upd H2 s2.heap.objs.size (.lst [])) { s2 with heap:=s2.heap.push { cls := .type "list",dict:=none,data := .seq ([]:List Value).toArray } } :=
  I2.laid (t':=s2.toks) (fun b u e=>Heap.get?_push_of_some _ e) (Nat.le_refl _) ⟨Nat.zero_le _,[],0, .nil,Heap.get?_push_size _ rfl⟩
 have fneq:∀ b ∈ fp,b ≠ s2.heap.objs.size:=fun b hb z=>by
  obtain ⟨o,e,_⟩:=T.obj _ _ st2 b hb
  exact absurd (Heap.lt_size e) (by rw [z];exact Nat.lt_irrefl _)
 have f3:∀ b ∈ fp,bW X pins (upd H2 s2.heap.objs.size (.lst [])) b:=fun b hb=>⟨by rw [ai (fneq b hb)];exact (f2 b hb).1,(f2 b hb).2⟩
 have hfo:∀ b ∈ fp,b < (s2.heap.push { cls := .type "list",dict:=none,data := .seq ([]:List Value).toArray }).objs.size:=fun b hb=>by
  obtain ⟨o,e,_⟩:=T.obj _ _ st2 b hb
  rw [Heap.size_push]
  exact Nat.lt_succ_of_lt (Heap.lt_size e)
 have st3:tn 0 (s2.heap.push { cls := .type "list",dict:=none,data := .seq ([]:List Value).toArray }):=T.keep _ _ _ st2 fun b _ o e=>Heap.get?_push_of_some _ e
 refine kn ?_
 have J4:=rE (N':=N') I3 f3 hfo B
 have st4:=T.keep _ (h':=pushCells (({ s2 with heap:=s2.heap.push { cls := .type "list",dict:=none,data := .seq ([]:List Value).toArray } }:Shared).heap.push { cls := .type "dict",data := .dict #[] }) sc.names) _ st3 fun b _ o e=>pushCells_keeps _ _ b o (Heap.get?_push_of_some _ e)
 have f4:∀ b ∈ fp,bW (aH X sc N' { s2 with heap:=s2.heap.push { cls := .type "list",dict:=none,data := .seq ([]:List Value).toArray } } (upd H2 s2.heap.objs.size (.lst [])) fp) [] (upd H2 s2.heap.objs.size (.lst [])) b:=fun b hb =>
  ⟨(f3 b hb).1,(J4.ok.exf b hb).1,J4.ok.exfs b hb, .inl hb,(J4.ok.exf b hb).2,fun p hp=>absurd (show p ∈ ([]:List (Addr × Obj)) from hp) (by simp)⟩
 have loop:=jI (X:=aH X sc N' { s2 with heap:=s2.heap.push { cls := .type "list",dict:=none,data := .seq ([]:List Value).toArray } } (upd H2 s2.heap.objs.size (.lst [])) fp) (fun _ _ z=>z) hc
  (elt:=elt) (pos:=pos) (scope:=sc) (gens:=⟨target,iter,ifs,0⟩ :: rest) (d := 0) (acc := .ref s2.heap.objs.size) rfl (fun g' e=>ha g' (by simpa using e)) (hg _ _ _) (hb _ _ _ _) J4 T st4 f4 (hw _ hf)
 refine codeAny_mono (ii (R:=fun r s'=>match r with | .ok _ => ∃ σ' H',Inv (aH X sc N' { s2 with heap:=s2.heap.push { cls := .type "list",dict:=none,data := .seq ([]:List Value).toArray } } (upd H2 s2.heap.objs.size (.lst [])) fp) [] σ' H' s' /\ Nn s2.heap.objs.size σ' H' | .error _=>False)
  (gens:=⟨target,iter,ifs,0⟩ :: rest) (d := 0) rfl loop (T.self _ 0 _ _ _ st4 loop)) fun r s5 hr => ?_
 cases r with
 | error e=>exact hr.elim
 | ok f =>
   obtain ⟨σ5,H5,I5,n5⟩:=hr
   exact hR _ fp _ _ s5 σ5 H5 f I3 f3 I5 n5
noncomputable def pU (wi:TI) (g:TG) (tb:Addr -> TC) (fr:List (Option Nat)):TE:=fun σ H Q=>wi σ H fun J H1 => ∀ p,H1 p = none -> cv J g (tb p) (fun _ H2=>Q (.ref p) H2) (inh fr σ) (upd H1 p (.lst []))
theorem jL (B:bf sc X.env.scope X.N N' fr):∀ x ∈ sc.names,x.2 = .local -> sc.names.lookup x.1 = some .local:=fun x hx e=>by
 obtain ⟨n,k⟩:=x
 have e':k = .local:=e
 subst e'
 exact aS B.nd hx
theorem gA (hc:X.calm = true) {elt target iter:Expr} {ifs:List Expr} {rest:List Comprehension} {pos:Pos}
 (hx:∀ e s,X.xe e s -> False) (B:bf sc X.env.scope X.N N' fr) (ha:∀ g',rest[0]? = some g' -> g'.is_async = 0) {wi:TI} (hi:PI X target iter wi) {g:TG} {tb:Addr -> TC}
 (hg:∀ s H fp,PG (aH X sc N' s H fp) target g)
 (hb:∀ s H fp p,PB (aH X sc N' s H fp) (fun k=>bp ifs (aH X sc N' s H fp).env >>= fun ok=>if ok = true then be elt (⟨target,iter,ifs,0⟩ :: rest) sc pos 0 (.ref p) (aH X sc N' s H fp).env k else k) (tb p))
 (hs:∀ x,foldedSetIterable iter X.env x = pure x) :
 PE X (.ListComp elt (⟨target,iter,ifs,0⟩ :: rest) sc pos) (pU wi g tb fr):=by
 intro pins s σ H Q I h
 rw [eval_ListComp]
 refine wpAny_comprehension_free (use:=none) rfl hs (ik (fu I B)) B.kind (jL B) (kN (Nn:=fun p _ H2=>Q (.ref p) H2) (RR:=fun acc C=>compPost (model X.prog X.w) X.A X.xe none (EP X pins σ Q) acc C) hc hx B ha hi hg hb I h ?_)
 intro p fp s3 H3 s' σ' H' f I3 f3 J q
 obtain ⟨m,hn,_⟩:=J.loc
 exact ⟨m,hn,fun h' hs'=>⟨.ref p,H',jK I3 f3 J hs',rfl,q⟩⟩
theorem im (hc:X.calm = true) {elt target iter:Expr} {ifs:List Expr} {rest:List Comprehension} {pos pos' spos:Pos} {x:Str} {i:Nat}
 (hx:∀ e s,X.xe e s -> False) (B:bf sc X.env.scope X.N N' fr) (ha:∀ g',rest[0]? = some g' -> g'.is_async = 0) {wi:TI} (hi:PI X target iter wi) {g:TG} {tb:Addr -> TC}
 (hg:∀ s H fp,PG (aH X sc N' s H fp) target g)
 (hb:∀ s H fp p,PB (aH X sc N' s H fp) (fun k=>bp ifs (aH X sc N' s H fp).env >>= fun ok=>if ok = true then be elt (⟨target,iter,ifs,0⟩ :: rest) sc pos 0 (.ref p) (aH X sc N' s H fp).env k else k) (tb p))
 (hs:∀ x,foldedSetIterable iter X.env x = pure x) (hgx:PG X (.Name x pos') (i3 i))
 (hsw:swapsWith (.ListComp elt (⟨target,iter,ifs,0⟩ :: rest) sc pos) (some (.Name x pos')) spos.line X.env = pure true) :
 PS X (.Assign [.Name x pos'] (.ListComp elt (⟨target,iter,ifs,0⟩ :: rest) sc pos) spos) (pJ (pU wi g tb fr) (i3 i)):=by
 intro pins s σ H D I h
 rw [exec_Assign_Name_used _ _ _ _ hsw]
 refine wpAny_bind (wpAny_standAt (wpAny_bind ?_))
 show wpAny _ X.A (do let _ <- comprehension (.ListComp elt (⟨target,iter,ifs,0⟩ :: rest) sc pos) sc X.env _ (newList []) false (eval iter X.env) (some (assign (.Name x pos') X.env))) _ _ s
 refine wpAny_bind (wpAny_mono (wpAny_comprehension_free (use:=some (assign (.Name x pos') X.env)) (Q:=fun _ s'=>SP X pins D .next s') rfl hs (ik (fu I B)) B.kind (jL B)
  (kN (Nn:=fun p _ H2=>D.nx (σ.set i (some (.ref p))) H2) (RR:=fun acc C=>compPost (model X.prog X.w) X.A X.xe (some (assign (.Name x pos') X.env)) (fun _ s'=>SP X pins D .next s') acc C) hc hx B ha hi hg hb I h ?_)) (fun _ s' hq=>wpAny_pure (wpAny_pure hq)) fun _ _ e=>e)
 intro p fp s3 H3 s' σ' H' f I3 f3 J q
 obtain ⟨m,⟨o,es,ep,ho,hd,hk,hm⟩,_⟩:=J.loc
 have I4:Inv X pins σ H' s':=jK (h':=s'.heap) I3 f3 J ⟨rfl,fun _ _=>rfl⟩
 have hL:(aH X sc N' s3 H3 fp).env.locals = s3.heap.objs.size:=rfl
 rw [hL] at ho
 have fr0:H' s3.heap.objs.size = none:=J.free
 have neL:s3.heap.objs.size ≠ X.env.locals:=Nat.ne_of_gt I3.lt
 have nfs:s3.heap.objs.size ∉ X.fs:=I3.nofs (Nat.le_refl _)
 have I5:Inv X (pins ++ [(s3.heap.objs.size,o)]) σ H' s':=I4.pins_of fun pr hp=>by
  rcases List.mem_append.mp hp with z | z
  ·exact I4.pin pr (List.mem_append_right _ z)
  ·have e:pr = (s3.heap.objs.size,o):=by simpa using z
   subst e
   exact ⟨ho,fr0,neL,nfs,fun v z=>by rw [hd] at z;cases z⟩
 show wpAny _ X.A (assign (.Name x pos') X.env (.ref p)) _ _ _
 refine thn (hgx _ s' σ H' (.ref p) (.ref p) D.nx I5 rfl q) fun _ s6 ⟨σ6,H6,I6,q6⟩ => ?_
 obtain ⟨ho6,fr6,_⟩:=I6.pin (s3.heap.objs.size,o) (List.mem_append_right _ (List.mem_append_right _ (by simp)))
 refine ⟨m,⟨o,es,ep,ho6,hd,hk,hm⟩,fun h' hs'=>⟨σ6,H6, ?_,q6⟩⟩
 refine (I6.unpinned).turned (t':=s6.toks) (it:=s3.heap.objs.size) (fun b o hb e=>(hs'.2 b hb).trans e) fr6 neL (.inr I3.sz) (fun y c e z => ?_) fun pr hp z => ?_
 ·obtain ⟨v,q⟩:=I3.cell y c e
  exact absurd q.lt (by rw [z];exact Nat.lt_irrefl _)
 ·exact absurd (Heap.lt_size (I3.pin pr hp).1) (by rw [z];exact Nat.lt_irrefl _)
end
end
end
end L2
namespace L2
namespace Zp
open PySem PySem.Spec PyProof.Rows
noncomputable def At (t:Bool) (h:Heap) (i l:Addr) (k:Nat):Prop:=match t with | true=>h.IsTupleIter i l k | false=>h.IsListIter i l k
noncomputable def Sq (t:Bool) (h:Heap) (l:Addr) (xs:Array Value):Prop:=match t with | true=>h.IsTuple l xs | false=>h.IsList l xs
theorem At.up {t:Bool} {h h':Heap} {i l:Addr} {k:Nat} (x:At t h i l k) (e:∀ o,h.get? i = some o -> h'.get? i = some o):At t h' i l k:=by
 cases t <;> (obtain ⟨o,ho,r⟩:=x;exact ⟨o,e o ho,r⟩)
theorem Sq.up {t:Bool} {h h':Heap} {l:Addr} {xs:Array Value} (x:Sq t h l xs) (e:∀ o,h.get? l = some o -> h'.get? l = some o):Sq t h' l xs:=by
 cases t <;> (obtain ⟨o,ho,r⟩:=x;exact ⟨o,e o ho,r⟩)
theorem At.lt {t:Bool} {h:Heap} {i l:Addr} {k:Nat} (x:At t h i l k):∃ o,h.get? i = some o /\ ∀ v,o.data ≠ .cell v:=by
 cases t <;> (obtain ⟨o,ho,hc,hd⟩:=x;exact ⟨o,ho,fun v z=>by rw [hd] at z;cases z⟩)
section
variable {prog:Program} {w:World} {A:Around} {E:Value -> Shared -> Prop} {s:Shared}
open Builtin.SmallTypes in
theorem uF {i l:Addr} {k:Nat} {xs:Array Value} {x:Value} {Q:Value -> Shared -> Prop} (hi:s.heap.IsTupleIter i l k) (hl:s.heap.IsTuple l xs) (hx:xs[k]? = some x)
 (q:∀ h',h'.IsTupleIter i l (k + 1) -> Heap.SameBut i s.heap h' -> Q x { s with heap:=h' }):wpAny (model prog w) A (nextOf (.ref i)) Q E s:=by
 obtain ⟨ob,hob,hcl,hda⟩:=id hi
 obtain ⟨oq,hoq,_,nq,hdq⟩:=hl
 unfold nextOf
 refine wpAny_bind (wpAny_callSpecial?_slot (name:=Str.ofString "__next__") hi.typeIs F.slot_tuple_iterator_next (wpAny_call_entry F.slot_tuple_iterator_next hi.typeIs F.entry_tuple_iterator_next ?_ (F.args_tuple_iterator_next_1 _)))
 refine wpAny_bind (m:=field (.ref i) 0) (wpAny_field hob hda (x := .ref l) rfl ?_)
 refine (if_neg (c:=(Value.ref l == Value.none) = true) Bool.false_ne_true) ▸ ?_
 refine wpAny_bind (m:=field (.ref i) 1) (wpAny_field hob hda (x := .int k 0) rfl ?_)
 refine wpAny_bind (m:=seqItems? (.ref l)) (wpAny_seqItems hoq hdq ?_)
 simp only [Int.toNat_natCast,hx]
 refine wpAny_bind (wpAny_setField hob hda (by simp) (wpAny_pure ⟨x,rfl,wpAny_pure (q _ ⟨_,Heap.get?_update_self _ hob (Obj.isFreed_of_fields (Obj.data_mapFields hda _)),(Obj.cls_mapFields ..).trans hcl, ?_⟩ (Heap.SameBut.update ..))⟩))
 rw [Obj.data_mapFields hda];simp [rawInt]
open Builtin.SmallTypes in
theorem xF {i l:Addr} {k:Nat} {xs:Array Value} {Q:Value -> Shared -> Prop} (hn:A.handled = none) (hi:s.heap.IsTupleIter i l k) (hl:s.heap.IsTuple l xs) (hx:xs[k]? = none)
 (q:∀ h' e,Heap.ExtBut i s.heap h' -> (∃ o,h'.get? e = some o /\ o.cls = .type "StopIteration") -> E (.ref e) { s with heap:=h' }):wpAny (model prog w) A (nextOf (.ref i)) Q E s:=by
 obtain ⟨ob,hob,hcl,hda⟩:=id hi
 obtain ⟨oq,hoq,_,nq,hdq⟩:=hl
 unfold nextOf
 refine wpAny_bind (wpAny_callSpecial?_slot (name:=Str.ofString "__next__") hi.typeIs F.slot_tuple_iterator_next (wpAny_call_entry F.slot_tuple_iterator_next hi.typeIs F.entry_tuple_iterator_next ?_ (F.args_tuple_iterator_next_1 _)))
 refine wpAny_bind (m:=field (.ref i) 0) (wpAny_field hob hda (x := .ref l) rfl ?_)
 refine (if_neg (c:=(Value.ref l == Value.none) = true) Bool.false_ne_true) ▸ ?_
 refine wpAny_bind (m:=field (.ref i) 1) (wpAny_field hob hda (x := .int k 0) rfl ?_)
 refine wpAny_bind (m:=seqItems? (.ref l)) (wpAny_seqItems hoq hdq ?_)
 simp only [Int.toNat_natCast,hx]
 refine wpAny_bind (wpAny_rule (wpAny_bind (wpAny_setField hob hda (by simp) ?_)))
 refine wpAny_bind (m:=newExc (.type "StopIteration") []) ?_
 simp only [newExc,newTuple]
 refine wpAny_bind (wpAny_newObj_type ?_ (by size_fits))
 refine wpAny_bind (m:=firstArgMember _ _) (wpAny_of_eq (a:=Value.none) (by first | rfl | (simp only [firstArgMember];rfl)) (wpAny_newObj_type ?_ (by size_fits)))
 simp only [raiseNew]
 refine wpAny_bind (wpAny_handled ?_)
 first | rw [show A.in1.handled = none from hn] | rw [hn]
 exact wpAny_bind (wpAny_pure (wpAny_throw (q _ _ (((Heap.SameBut.update ..).extBut.push _).push _) ⟨_,Heap.get?_push_size _ rfl,rfl⟩)))
open Builtin.SmallTypes in
theorem nx_item {t:Bool} {i l:Addr} {k:Nat} {xs:Array Value} {x:Value} {Q:Value -> Shared -> Prop} (hi:At t s.heap i l k) (hl:Sq t s.heap l xs) (hx:xs[k]? = some x)
 (q:∀ h',At t h' i l (k + 1) -> Heap.SameBut i s.heap h' -> Q x { s with heap:=h' }):wpAny (model prog w) A (nextOf (.ref i)) Q E s:=by
 cases t with
 | true=>exact uF hi hl hx q
 | false=>exact wpAny_nextOf_list_item hi hl hx q
open Builtin.SmallTypes in
theorem nx_end {t:Bool} {i l:Addr} {k:Nat} {xs:Array Value} {Q:Value -> Shared -> Prop} (hn:A.handled = none) (hi:At t s.heap i l k) (hl:Sq t s.heap l xs) (hx:xs[k]? = none)
 (q:∀ h' e,Heap.ExtBut i s.heap h' -> (∃ o,h'.get? e = some o /\ o.cls = .type "StopIteration") -> E (.ref e) { s with heap:=h' }):wpAny (model prog w) A (nextOf (.ref i)) Q E s:=by
 cases t with
 | true=>exact xF hn hi hl hx q
 | false=>exact wpAny_nextOf_list_end hn hi hl hx q
open Builtin.SmallTypes in
theorem zS {z T O i j a b:Addr} {t u:Bool} {k:Nat} {xs ys:Array Value} {x y p r:Value} {Q:Value -> Shared -> Prop} (D:ZipApart z T O i j a b)
 (hz:IsZip s.heap z T O .none) (hT:IsPair s.heap T (.ref i) (.ref j)) (hO:IsPair s.heap O p r)
 (hi:At t s.heap i a k) (hj:At u s.heap j b k) (ha:Sq t s.heap a xs) (hb:Sq u s.heap b ys) (hx:xs[k]? = some x) (hy:ys[k]? = some y)
 (q:∀ h',IsZip h' z T O (rawInt s.heap.objs.size) -> IsPair h' O x y -> At t h' i a (k + 1) -> At u h' j b (k + 1) -> IsPair h' s.heap.objs.size x y ->
   (∀ c o,c ≠ z -> c ≠ O -> c ≠ i -> c ≠ j -> s.heap.get? c = some o -> h'.get? c = some o) -> Q (.ref s.heap.objs.size) { s with heap:=h' }) :
 wpAny (model prog w) A (Builtin.«zip.__next__» ⟨[.ref z],[]⟩) (fun fin s' => ∃ v,fin = .done (.ret v) /\ Q v s') E s:=by
 refine wpAny_bind (m:=field (.ref z) 2) (wpAny_field hz rfl (x := .bool false) rfl ?_)
 refine wpAny_bind (m:=field (.ref z) 3) (wpAny_field hz rfl (x := .ref T) rfl ?_)
 refine wpAny_bind (wpAny_seqItems hT rfl ?_)
 refine wpAny_bind (m:=ownedTupleIsFree (.ref z)) ?_
 unfold ownedTupleIsFree
 refine wpAny_bind (wpAny_field hz rfl (x := .none) rfl (wpAny_pure ?_))
 simp only [if_true]
 refine wpAny_bind (wpAny_rule (wpAny_bind (wpAny_field hz rfl (x := .ref O) rfl (wpAny_bind (wpAny_setField_rec hz (by simp) fun g1 z1 s1 => ?_)))))
 have Z1:IsZip g1 z T O .ellipsis:=z1
 clear z1
 refine wpAny_bind ?_
 simp only [List.zipIdx_cons,List.zipIdx_nil,List.forIn_cons,List.forIn_nil]
 refine wpAny_bind (wpAny_bind (wpAny_onRaise (wpAny_bind (m:=nextOf (.ref i)) ?_)))
 refine nx_item (hi.up fun o e=>s1.extBut _ o D.i1z e) (ha.up fun o e=>s1.extBut _ o D.l1z e) hx fun g2 hi2 s2=>wpAny_pure ?_
 have O2:IsPair g2 O p r:=s2.extBut _ _ D.TOi1 (s1.extBut _ _ D.TOz hO)
 refine wpAny_bind (wpAny_seqItems O2 rfl (wpAny_bind (wpAny_updateSeq_pair O2 fun g3 o3 s3 => ?_)))
 have O3:IsPair g3 O x r:=o3
 clear o3
 refine wpAny_bind (wpAny_letGo (wpAny_pure (wpAny_bind (wpAny_bind (wpAny_onRaise (wpAny_bind (m:=nextOf (.ref j)) ?_))))))
 refine nx_item (hj.up fun o e=>s3.extBut _ o D.TOi2.symm (s2.extBut _ o D.i12.symm (s1.extBut _ o D.i2z e))) (hb.up fun o e=>s3.extBut _ o D.l2TO (s2.extBut _ o D.l2i1 (s1.extBut _ o D.l2z e))) hy fun g4 hj4 s4=>wpAny_pure ?_
 have O4:IsPair g4 O x r:=s4.extBut _ _ D.TOi2 O3
 refine wpAny_bind (wpAny_seqItems O4 rfl (wpAny_bind (wpAny_updateSeq_pair O4 fun g5 o5 s5 => ?_)))
 have O5:IsPair g5 O x y:=o5
 clear o5
 refine wpAny_bind (wpAny_letGo (wpAny_pure (wpAny_pure (wpAny_bind (wpAny_seqItems O5 rfl (wpAny_bind (wpAny_newTuple ?_)))))))
 have sz:g5.objs.size = s.heap.objs.size:=by rw [s5.1,s4.1,s3.1,s2.1,s1.1]
 have k5:∀ c o,c ≠ z -> c ≠ O -> c ≠ i -> c ≠ j -> s.heap.get? c = some o -> g5.get? c = some o:=fun c o c1 c2 c3 c4 e =>
  s5.extBut _ _ c2 (s4.extBut _ _ c4 (s3.extBut _ _ c2 (s2.extBut _ _ c3 (s1.extBut _ _ c1 e))))
 have Z5:IsZip g5 z T O .ellipsis:=s5.extBut _ _ D.TOz.symm (s4.extBut _ _ D.i2z.symm (s3.extBut _ _ D.TOz.symm (s2.extBut _ _ D.i1z.symm Z1)))
 have I5:At t g5 i a (k + 1):=hi2.up fun o e=>s5.extBut _ o D.TOi1.symm (s4.extBut _ o D.i12 (s3.extBut _ o D.TOi1.symm e))
 have J5:At u g5 j b (k + 1):=hj4.up fun o e=>s5.extBut _ o D.TOi2.symm e
 have zl:z < g5.objs.size:=Heap.lt_size Z5
 refine wpAny_bind (m:=ownedTupleHandOut (.ref z) (.ref g5.objs.size)) ?_
 unfold ownedTupleHandOut
 refine wpAny_bind (wpAny_setField_rec (Heap.get?_push_of_some _ Z5) (by simp) fun g7 z7 s7 => ?_)
 have Z7:IsZip g7 z T O (rawInt g5.objs.size):=z7
 clear z7
 refine wpAny_setField_rec Z7 (by simp) fun g8 z8 s8 => ?_
 have Z8:IsZip g8 z T O (rawInt g5.objs.size):=z8
 clear z8
 have up:∀ c o,c ≠ z -> g5.get? c = some o -> g8.get? c = some o:=fun c o c1 e=>s8.extBut _ _ c1 (s7.extBut _ _ c1 (Heap.get?_push_of_some _ e))
 have P8:IsPair g8 g5.objs.size x y:=s8.extBut _ _ (Nat.ne_of_gt zl) (s7.extBut _ _ (Nat.ne_of_gt zl) (Heap.get?_push_size _ rfl))
 rw [sz] at Z8 P8
 refine wpAny_pure ⟨_,rfl, ?_⟩
 show Q (.ref g5.objs.size) _
 rw [sz]
 exact q g8 Z8 (up _ _ D.TOz O5) (I5.up fun o e=>up _ o D.i1z e) (J5.up fun o e=>up _ o D.i2z e) P8 fun c o c1 c2 c3 c4 e=>up c o c1 (k5 c o c1 c2 c3 c4 e)
open Builtin.SmallTypes in
theorem Bb {z T O i j a b:Addr} {t u:Bool} {k:Nat} {xs ys:Array Value} {p r:Value} {Q:Fin -> Shared -> Prop} (hn:A.handled = none) (D:ZipApart z T O i j a b)
 (hz:IsZip s.heap z T O .none) (hT:IsPair s.heap T (.ref i) (.ref j)) (hO:IsPair s.heap O p r)
 (hi:At t s.heap i a k) (hj:At u s.heap j b k) (ha:Sq t s.heap a xs) (hb:Sq u s.heap b ys) (hend:xs[k]? = none ∨ ys[k]? = none)
 (q:∀ h' e,(∀ c o,c ≠ z -> c ≠ O -> c ≠ i -> c ≠ j -> s.heap.get? c = some o -> h'.get? c = some o) -> (∃ o,h'.get? e = some o /\ o.cls = .type "StopIteration") -> E (.ref e) { s with heap:=h' }) :
 wpAny (model prog w) A (Builtin.«zip.__next__» ⟨[.ref z],[]⟩) Q E s:=by
 refine wpAny_bind (m:=field (.ref z) 2) (wpAny_field hz rfl (x := .bool false) rfl ?_)
 refine wpAny_bind (m:=field (.ref z) 3) (wpAny_field hz rfl (x := .ref T) rfl ?_)
 refine wpAny_bind (wpAny_seqItems hT rfl ?_)
 refine wpAny_bind (m:=ownedTupleIsFree (.ref z)) ?_
 unfold ownedTupleIsFree
 refine wpAny_bind (wpAny_field hz rfl (x := .none) rfl (wpAny_pure ?_))
 simp only [if_true]
 refine wpAny_bind (wpAny_rule (wpAny_bind (wpAny_field hz rfl (x := .ref O) rfl (wpAny_bind (wpAny_setField_rec hz (by simp) fun g1 z1 s1 => ?_)))))
 have Z1:IsZip g1 z T O .ellipsis:=z1
 clear z1
 refine wpAny_bind ?_
 simp only [List.zipIdx_cons,List.zipIdx_nil,List.forIn_cons,List.forIn_nil]
 refine wpAny_bind (wpAny_bind (wpAny_onRaise (wpAny_bind (m:=nextOf (.ref i)) ?_)))
 have hi1:At t g1 i a k:=hi.up fun o e=>s1.extBut _ o D.i1z e
 have ha1:Sq t g1 a xs:=ha.up fun o e=>s1.extBut _ o D.l1z e
 cases hx:xs[k]? with
 | none =>
   refine nx_end hn hi1 ha1 hx fun g2 e s2 he => ?_
   obtain ⟨oe,hoe,hce⟩:=he
   have Z2:IsZip g2 z T O .ellipsis:=s2 _ _ D.i1z.symm Z1
   have ez:e ≠ z:=fun x=>by subst x;rw [Z2] at hoe;cases hoe;simp at hce
   exact wpAny_setField_rec Z2 (by simp) fun g3 _ s3=>q g3 e (fun c o c1 _ c3 _ x=>s3.extBut _ _ c1 (s2 _ _ c3 (s1.extBut _ _ c1 x))) ⟨oe,s3.extBut _ _ ez hoe,hce⟩
 | some x =>
   have hy:ys[k]? = none:=hend.elim (fun z=>by rw [hx] at z;cases z) id
   refine nx_item hi1 ha1 hx fun g2 hi2 s2=>wpAny_pure ?_
   have O2:IsPair g2 O p r:=s2.extBut _ _ D.TOi1 (s1.extBut _ _ D.TOz hO)
   refine wpAny_bind (wpAny_seqItems O2 rfl (wpAny_bind (wpAny_updateSeq_pair O2 fun g3 o3 s3 => ?_)))
   refine wpAny_bind (wpAny_letGo (wpAny_pure (wpAny_bind (wpAny_bind (wpAny_onRaise (wpAny_bind (m:=nextOf (.ref j)) ?_))))))
   refine nx_end hn (hj.up fun o e=>s3.extBut _ o D.TOi2.symm (s2.extBut _ o D.i12.symm (s1.extBut _ o D.i2z e))) (hb.up fun o e=>s3.extBut _ o D.l2TO (s2.extBut _ o D.l2i1 (s1.extBut _ o D.l2z e))) hy fun g4 e s4 he => ?_
   obtain ⟨oe,hoe,hce⟩:=he
   have Z4:IsZip g4 z T O .ellipsis:=s4 _ _ D.i2z.symm (s3.extBut _ _ D.TOz.symm (s2.extBut _ _ D.i1z.symm Z1))
   have ez:e ≠ z:=fun x=>by subst x;rw [Z4] at hoe;cases hoe;simp at hce
   exact wpAny_setField_rec Z4 (by simp) fun g5 _ s5=>q g5 e (fun c o c1 c2 c3 c4 x=>s5.extBut _ _ c1 (s4 _ _ c4 (s3.extBut _ _ c2 (s2.extBut _ _ c3 (s1.extBut _ _ c1 x))))) ⟨oe,s5.extBut _ _ ez hoe,hce⟩
theorem nxt_item {z T O i j a b:Addr} {t u:Bool} {k:Nat} {xs ys:Array Value} {x y p r:Value} {Q:Option Value -> Shared -> Prop} (D:ZipApart z T O i j a b)
 (hz:IsZip s.heap z T O .none) (hT:IsPair s.heap T (.ref i) (.ref j)) (hO:IsPair s.heap O p r)
 (hi:At t s.heap i a k) (hj:At u s.heap j b k) (ha:Sq t s.heap a xs) (hb:Sq u s.heap b ys) (hx:xs[k]? = some x) (hy:ys[k]? = some y)
 (q:∀ h',IsZip h' z T O (rawInt s.heap.objs.size) -> IsPair h' O x y -> At t h' i a (k + 1) -> At u h' j b (k + 1) -> IsPair h' s.heap.objs.size x y ->
   (∀ c o,c ≠ z -> c ≠ O -> c ≠ i -> c ≠ j -> s.heap.get? c = some o -> h'.get? c = some o) -> Q (some (.ref s.heap.objs.size)) { s with heap:=h' }) :
 wpAny (model prog w) A (pyNext (.ref z)) Q E s:=by
 have ty:s.TypeIs (.ref z) "zip" := ⟨_,hz,rfl⟩
 unfold pyNext
 exact wpAny_bind (wpAny_attempt (wpAny_callSpecial?_slot (name:=Str.ofString "__next__") ty F.slot_zip_next (wpAny_call_entry F.slot_zip_next ty F.entry_zip_next
  (zS D hz hT hO hi hj ha hb hx hy fun h' a1 a2 a3 a4 a5 a6=>wpAny_pure (q h' a1 a2 a3 a4 a5 a6)) (F.args_zip_next_1 _))))
theorem nxt_end {z T O i j a b:Addr} {t u:Bool} {k:Nat} {xs ys:Array Value} {p r:Value} {Q:Option Value -> Shared -> Prop} (hn:A.handled = none) (D:ZipApart z T O i j a b)
 (hz:IsZip s.heap z T O .none) (hT:IsPair s.heap T (.ref i) (.ref j)) (hO:IsPair s.heap O p r)
 (hi:At t s.heap i a k) (hj:At u s.heap j b k) (ha:Sq t s.heap a xs) (hb:Sq u s.heap b ys) (hend:xs[k]? = none ∨ ys[k]? = none)
 (q:∀ h',(∀ c o,c ≠ z -> c ≠ O -> c ≠ i -> c ≠ j -> s.heap.get? c = some o -> h'.get? c = some o) -> Q none { s with heap:=h' }):wpAny (model prog w) A (pyNext (.ref z)) Q E s:=by
 have ty:s.TypeIs (.ref z) "zip" := ⟨_,hz,rfl⟩
 unfold pyNext
 refine wpAny_bind (wpAny_attempt (wpAny_callSpecial?_slot (name:=Str.ofString "__next__") ty F.slot_zip_next (wpAny_call_entry F.slot_zip_next ty F.entry_zip_next
  (Bb hn D hz hT hO hi hj ha hb hend fun h' e hk he => ?_) (F.args_zip_next_1 _))))
 obtain ⟨o,ho,hc⟩:=he
 exact wpAny_bind (wpAny_isInstance (T := "StopIteration") (b:=true) ⟨o,ho,hc⟩ isSubtype_stop (wpAny_pure (q _ hk)))
noncomputable def itO (t:Bool) (l:Addr):Obj:=match t with | true => { cls := .type "tuple_iterator",data := .fields #[.ref l, .int 0 0] } | false => { cls := .type "list_iterator",data := .fields #[.ref l, .int 0 0] }
noncomputable def zH1 (h:Heap) (t:Bool) (a:Addr):Heap:=h.push (itO t a)
noncomputable def zH2 (h:Heap) (t u:Bool) (a b:Addr):Heap:=(zH1 h t a).push (itO u b)
noncomputable def zH3 (h:Heap) (t u:Bool) (a b:Addr):Heap:=(zH2 h t u a b).push { cls := .type "tuple",data := .seq #[.ref h.objs.size, .ref (zH1 h t a).objs.size] }
noncomputable def zH4 (h:Heap) (t u:Bool) (a b:Addr):Heap:=(zH3 h t u a b).push { cls := .type "tuple",data := .seq #[.none, .none] }
noncomputable def zH5 (h:Heap) (t u:Bool) (a b:Addr):Heap:=(zH4 h t u a b).push { cls := .type "zip",data := .fields #[.none, .bool false, .bool false, .ref (zH2 h t u a b).objs.size, .ref (zH3 h t u a b).objs.size] }
theorem rF (t u:Bool) (a b:Addr) (xs ys:Array Value) :
 Meets (Builtin.«zip.__new__» ⟨[.type "zip", .ref a, .ref b],[]⟩) (fun _ R s=>Sq t s.heap a xs /\ Sq u s.heap b ys /\ R (.ok (.ret (.ref (zH4 s.heap t u a b).objs.size))) { s with heap:=zH5 s.heap t u a b }) :=
 .of_wp fun prog w A R s h=>by
  obtain ⟨hp,g,d,tk,os⟩:=s;obtain ⟨ha,hb,h⟩:=h
  have hs:=sub_zip
  cases t <;> cases u
  ·have e1:Heap.IsList (Shared.heap ⟨hp,g,d,tk,os⟩) a xs:=ha
   have e2:Heap.IsList (Shared.heap ⟨hp.push { cls := .type "list_iterator",data := .fields #[.ref a, .int 0 0] },g,d,tk,os⟩) b ys:=Heap.IsList.push hb _
   wp_walk using wpAny_pyIter_list e1,wpAny_pyIter_list e2
   exact ⟨_,rfl,h⟩
  ·have e1:Heap.IsList (Shared.heap ⟨hp,g,d,tk,os⟩) a xs:=ha
   have e2:Heap.IsTuple (Shared.heap ⟨hp.push { cls := .type "list_iterator",data := .fields #[.ref a, .int 0 0] },g,d,tk,os⟩) b ys:=Heap.IsTuple.push hb _
   wp_walk using wpAny_pyIter_list e1,wpAny_pyIter_tuple e2
   exact ⟨_,rfl,h⟩
  ·have e1:Heap.IsTuple (Shared.heap ⟨hp,g,d,tk,os⟩) a xs:=ha
   have e2:Heap.IsList (Shared.heap ⟨hp.push { cls := .type "tuple_iterator",data := .fields #[.ref a, .int 0 0] },g,d,tk,os⟩) b ys:=Heap.IsList.push hb _
   wp_walk using wpAny_pyIter_tuple e1,wpAny_pyIter_list e2
   exact ⟨_,rfl,h⟩
  ·have e1:Heap.IsTuple (Shared.heap ⟨hp,g,d,tk,os⟩) a xs:=ha
   have e2:Heap.IsTuple (Shared.heap ⟨hp.push { cls := .type "tuple_iterator",data := .fields #[.ref a, .int 0 0] },g,d,tk,os⟩) b ys:=Heap.IsTuple.push hb _
   wp_walk using wpAny_pyIter_tuple e1,wpAny_pyIter_tuple e2
   exact ⟨_,rfl,h⟩
theorem at_new {t:Bool} {h:Heap} {i l:Addr} (e:h.get? i = some (itO t l)):At t h i l 0:=by
 cases t <;> exact ⟨_,e,rfl,rfl⟩
theorem call_zip {t u:Bool} {a b:Addr} {xs ys:Array Value} {Q:Value -> Shared -> Prop} (ha:Sq t s.heap a xs) (hb:Sq u s.heap b ys)
 (q:∀ h',IsZip h' (s.heap.objs.size + 4) (s.heap.objs.size + 2) (s.heap.objs.size + 3) .none -> IsPair h' (s.heap.objs.size + 2) (.ref s.heap.objs.size) (.ref (s.heap.objs.size + 1)) ->
   IsPair h' (s.heap.objs.size + 3) .none .none -> At t h' s.heap.objs.size a 0 -> At u h' (s.heap.objs.size + 1) b 0 -> h'.objs.size = s.heap.objs.size + 5 ->
   (∀ c o,s.heap.get? c = some o -> h'.get? c = some o) -> Q (.ref (s.heap.objs.size + 4)) { s with heap:=h' }) :
 wpAny (model prog w) A (call (.type "zip") [.ref a, .ref b]) Q E s:=by
 refine callType_new F.called_zip (by decide) (F.typeCall_zip_2 _ _) (F.newCall_zip_2 _ _) (fun obj=>F.args_object_init_3 obj _ _) F.entry_zip_new (rF t u a b xs ys) ⟨ha,hb, ?_⟩
 have z1:(zH1 s.heap t a).objs.size = s.heap.objs.size + 1:=Heap.size_push ..
 have z2:(zH2 s.heap t u a b).objs.size = s.heap.objs.size + 2:=by unfold zH2;rw [Heap.size_push,z1]
 have z3:(zH3 s.heap t u a b).objs.size = s.heap.objs.size + 3:=by unfold zH3;rw [Heap.size_push,z2]
 have z4:(zH4 s.heap t u a b).objs.size = s.heap.objs.size + 4:=by unfold zH4;rw [Heap.size_push,z3]
 have z5:(zH5 s.heap t u a b).objs.size = s.heap.objs.size + 5:=by unfold zH5;rw [Heap.size_push,z4]
 have k5:∀ {c o},(zH4 s.heap t u a b).get? c = some o -> (zH5 s.heap t u a b).get? c = some o:=fun e=>Heap.get?_push_of_some _ e
 have k4:∀ {c o},(zH3 s.heap t u a b).get? c = some o -> (zH4 s.heap t u a b).get? c = some o:=fun e=>Heap.get?_push_of_some _ e
 have k3:∀ {c o},(zH2 s.heap t u a b).get? c = some o -> (zH3 s.heap t u a b).get? c = some o:=fun e=>Heap.get?_push_of_some _ e
 have k2:∀ {c o},(zH1 s.heap t a).get? c = some o -> (zH2 s.heap t u a b).get? c = some o:=fun e=>Heap.get?_push_of_some _ e
 have k1:∀ {c o},s.heap.get? c = some o -> (zH1 s.heap t a).get? c = some o:=fun e=>Heap.get?_push_of_some _ e
 have f:∀ t l,(itO t l).isFreed = false:=fun t l=>by cases t <;> rfl
 have g5:(zH5 s.heap t u a b).get? (zH4 s.heap t u a b).objs.size = some _:=Heap.get?_push_size _ rfl
 have g4:(zH5 s.heap t u a b).get? (zH3 s.heap t u a b).objs.size = some _:=k5 (Heap.get?_push_size _ rfl)
 have g3:(zH5 s.heap t u a b).get? (zH2 s.heap t u a b).objs.size = some _:=k5 (k4 (Heap.get?_push_size _ rfl))
 have g2:(zH5 s.heap t u a b).get? (zH1 s.heap t a).objs.size = some _:=k5 (k4 (k3 (Heap.get?_push_size _ (f u b))))
 have g1:(zH5 s.heap t u a b).get? s.heap.objs.size = some _:=k5 (k4 (k3 (k2 (Heap.get?_push_size _ (f t a)))))
 show _ /\ _
 rw [z2,z3,z4] at g5
 rw [z1,z2] at g3
 rw [z3] at g4
 rw [z1] at g2
 rw [z4]
 exact ⟨⟨_,g5,rfl⟩,q _ g5 g3 g4 (at_new g1) (at_new g2) z5 fun c o x=>k5 (k4 (k3 (k2 (k1 x))))⟩
end
end Zp
end L2
namespace L2
open PySem PySem.Spec PyProof.Rows
section
section
variable {X:Cx} {pins:List (Addr × Obj)} {σ:St} {H:Hp} {s:Shared} {h':Heap}
theorem Inv.turnedL {t':Nat} {fp:List Addr} (I:Inv X pins σ H s) (hf:∀ b ∈ fp,bW X pins H b) (k:∀ b o,b ∉ fp -> s.heap.get? b = some o -> h'.get? b = some o):Inv X pins σ H { s with heap:=h',toks:=t' }:=by
 have nit:∀ b u,H b = some u -> b ∉ fp:=fun b u e z=>by rw [(hf b z).1] at e;cases e
 refine I.step (g':=s.gens) (d':=s.drawn) (ch:=fp) (fun b hb => ?_) (fun b o _ _ hc e _=>k b o hc e) (fun b o _ _ hc e _=>⟨o.slots,k b o hc e⟩) (fun _ _ _ _ n=>n)
  (fun b o hc e=>⟨o,k b o hc e⟩) (fun _ _ e=>e) (fun _ _ _ e=>e) (fun b ps e=>⟨#[],by rw [e];simp⟩) (fun m hm => ?_) (fun b u e => ?_) I.bare
 ·obtain ⟨_,f1,_,f3,f4,f5⟩:=hf b hb
  exact ⟨f3,f1,f4,f5⟩
 ·obtain ⟨o,es,ep,ho,r⟩:=hm
  exact ⟨o,es,ep,k _ o (fun z=>(hf _ z).2.1 rfl) ho,r⟩
 ·refine (I.hok b u e).stay (fun c v hc q=>k c v ?_ q) (fun _ q=>q) fun _ _ q=>q
  rcases hc with z | z
  ·rw [z];exact nit b u e
  ·exact nit c _ z
end
noncomputable def SqV (K:Frag) (t:Bool) (H:Hp) (a:Addr) (xs:List V):Prop:=match t with | true=>SqT K H a xs | false=>SqL K H a xs
theorem Inv.sqv {X:Cx} {pins:List (Addr × Obj)} {σ:St} {H:Hp} {s:Shared} {t:Bool} {a:Addr} {xs:List V} (I:Inv X pins σ H s) (h:SqV X.K t H a xs):∃ its:List Value,Vals xs its /\ Zp.Sq t s.heap a its.toArray:=by
 cases t with
 | true=>obtain ⟨its,r,p,_⟩:=I.tuple h;exact ⟨its,r,p⟩
 | false=>obtain ⟨its,r,p,_⟩:=I.list h;exact ⟨its,r,p.isList⟩
theorem Inv.sqv_inj {X:Cx} {pins:List (Addr × Obj)} {σ:St} {H:Hp} {s:Shared} {t:Bool} {a:Addr} {xs ys:List V} (I:Inv X pins σ H s) (h:SqV X.K t H a xs) (h':SqV X.K t H a ys):xs = ys:=by
 cases t with
 | true=>exact I.tuple_inj h h'
 | false=>exact I.list_inj h h'
noncomputable def Itz (K:Frag) (t u:Bool) (a b:Addr):It :=
 ⟨fun i H => ∃ xs ys x y,SqV K t H a xs /\ SqV K u H b ys /\ xs[i]? = some x /\ ys[i]? = some y,
  fun i H v H' => ∃ p x y,H p = none /\ v = .ref p /\ H' = upd H p (.tup [x,y]) /\ ∀ xs ys,SqV K t H a xs -> SqV K u H b ys -> xs[i]? = some x /\ ys[i]? = some y,
  fun i H => ∃ xs ys,SqV K t H a xs /\ SqV K u H b ys /\ (xs.length <= i ∨ ys.length <= i)⟩
theorem uG {P:Program} {w:World} {K:Frag} {elts:List Expr} {cx} {pos:Pos} {t u:Bool} {z T O i j a b:Addr} (D:ZipApart z T O i j a b) :
 fi P w K (.Tuple elts cx pos) (Itz K t u a b) [z,T,O,i,j] z (fun k h=>IsZip h z T O .none /\ IsPair h T (.ref i) (.ref j) /\ (∃ p r,IsPair h O p r) /\ Zp.At t h i a k /\ Zp.At u h j b k) where
 mem:=by simp
 obj:=fun k h ⟨hz,hT,⟨p,r,hO⟩,hi,hj⟩ c hc=>by
  simp only [List.mem_cons,List.not_mem_nil,or_false] at hc
  rcases hc with rfl | rfl | rfl | rfl | rfl
  ·exact ⟨_,hz,fun v e=>by cases e⟩
  ·exact ⟨_,hT,fun v e=>by cases e⟩
  ·exact ⟨_,hO,fun v e=>by cases e⟩
  ·exact hi.lt
  ·exact hj.lt
 keep:=fun k h h' ⟨hz,hT,⟨p,r,hO⟩,hi,hj⟩ kk=>⟨kk z (by simp) _ hz,kk T (by simp) _ hT,⟨p,r,kk O (by simp) _ hO⟩,hi.up fun o e=>kk i (by simp) o e,hj.up fun o e=>kk j (by simp) o e⟩
 item:=by
  intro X hP hw hK hc k pins s σ H E I hf st hg
  subst hP hw hK
  obtain ⟨hz,hT,⟨p,r,hO⟩,hi,hj⟩:=st
  obtain ⟨xs,ys,x,y,qx,qy,ex,ey⟩:=hg
  obtain ⟨is,rx,px⟩:=I.sqv qx
  obtain ⟨js,ry,py⟩:=I.sqv qy
  obtain ⟨ux,hux,rux⟩:=rx.get ex
  obtain ⟨uy,huy,ruy⟩:=ry.get ey
  refine Zp.nxt_item D hz hT hO hi hj px py (by simpa using hux) (by simpa using huy) fun h1 z1 o1 i1 j1 p1 k1=>⟨_,rfl, ?_⟩
  refine wpAny_letOwnedTupleGo_zip (s := { s with heap:=h1 }) z1 fun h2 z2 s2 => ?_
  have lt:∀ {c o},s.heap.get? c = some o -> c ≠ s.heap.objs.size:=fun e=>Nat.ne_of_lt (Heap.lt_size e)
  have nz:s.heap.objs.size ≠ z:=(lt hz).symm
  have hi0:∃ o,s.heap.get? i = some o:=hi.lt.imp fun _ h=>h.1
  have hj0:∃ o,s.heap.get? j = some o:=hj.lt.imp fun _ h=>h.1
  have up:∀ c o,c ≠ z -> h1.get? c = some o -> h2.get? c = some o:=fun c o n e=>s2.extBut _ _ n e
  have IL:Inv X pins σ (upd H s.heap.objs.size (.tup [x,y])) { s with heap:=s.heap.push { cls := .type "tuple",data := .seq #[ux,uy] },toks:=s.toks } :=
   I.laid (fun b o e=>Heap.get?_push_of_some _ e) (Nat.le_refl _) ⟨by rw [sizeLine_eq];simp,[ux,uy], .cons rux (.cons ruy .nil),IsTup.new _ _⟩
  have fr:∀ c ∈ [z,T,O,i,j],c ≠ s.heap.objs.size:=fun c hc=>by
   simp only [List.mem_cons,List.not_mem_nil,or_false] at hc
   rcases hc with rfl | rfl | rfl | rfl | rfl
   ·exact lt hz
   ·exact lt hT
   ·exact lt hO
   ·obtain ⟨o,e⟩:=hi0;exact lt e
   ·obtain ⟨o,e⟩:=hj0;exact lt e
  have un:∀ c ∈ [z,T,O,i,j],upd H s.heap.objs.size (.tup [x,y]) c = none:=fun c hc=>by
   rw [ai (fr c hc)];exact (hf c hc).1
  have kk:∀ c o,c ∉ [z,T,O,i,j] -> (s.heap.push { cls := .type "tuple",data := .seq #[ux,uy] }).get? c = some o -> h2.get? c = some o:=fun c o hc e=>by
   simp only [List.mem_cons,List.not_mem_nil,or_false,not_or] at hc
   rcases Heap.get?_push_cases e with ⟨rfl,rfl⟩ | e
   ·exact up _ _ nz p1
   ·exact up _ _ hc.1 (k1 c o hc.1 hc.2.2.1 hc.2.2.2.1 hc.2.2.2.2 e)
  have I2:Inv X pins σ (upd H s.heap.objs.size (.tup [x,y])) { s with heap:=h2,toks:=s.toks } :=
   (Inv.turnedL (s := { s with heap:=s.heap.push { cls := .type "tuple",data := .seq #[ux,uy] },toks:=s.toks }) (h':=h2) (t':=s.toks) (fp := [z,T,O,i,j]) IL (fun c hc=>⟨un c hc,(hf c hc).2⟩) kk)
  refine ⟨.ref s.heap.objs.size,_,I2,rfl,⟨_,x,y,I.hok.fresh (Nat.le_refl _),rfl,rfl,fun xs' ys' q1 q2 => ?_⟩,⟨z2,up _ _ D.TIz (k1 _ _ D.TIz D.TITO D.TIi1 D.TIi2 hT),⟨_,_,up _ _ D.TOz o1⟩,i1.up fun o e=>up _ o D.i1z e,j1.up fun o e=>up _ o D.i2z e⟩,un⟩
  rw [I.sqv_inj q1 qx,I.sqv_inj q2 qy];exact ⟨ex,ey⟩
 done:=by
  intro X hP hw hK hc k pins s σ H E I hf st hg
  subst hP hw hK
  obtain ⟨hz,hT,⟨p,r,hO⟩,hi,hj⟩:=st
  obtain ⟨xs,ys,qx,qy,hend⟩:=hg
  obtain ⟨is,rx,px⟩:=I.sqv qx
  obtain ⟨js,ry,py⟩:=I.sqv qy
  have lx:=rx.length
  have ly:=ry.length
  refine Zp.nxt_end (I.ok.hd hc) D hz hT hO hi hj px py (hend.imp (fun e=>by simp;omega) (fun e=>by simp;omega)) fun h1 k1=>⟨rfl,I.turnedL (t':=s.toks) hf fun c o hc e => ?_⟩
  simp only [List.mem_cons,List.not_mem_nil,or_false,not_or] at hc
  exact k1 c o hc.1 hc.2.2.1 hc.2.2.2.1 hc.2.2.2.2 e
 self:=fun A k s Q E st h=>wpAny_pyIter_zip st.1 h
section
variable {X:Cx}
noncomputable def C5 (K:Frag) (ta:TA):TI:=fun σ H R=>ta σ H fun vs H1 => ∃ a b t u xs ys,vs = [.ref a, .ref b] /\ SqV K t H1 a xs /\ SqV K u H1 b ys /\ R (Itz K t u a b) H1
theorem zT {elts:List Expr} {cx} {pos p pos':Pos} {a b:Expr} {ta:TA} (hg:Gl X "zip") (hm:X.mg "zip" = none) (ha:PA X [a,b] ta) (hs:starEach [a,b] X.env = [(false,eval a X.env),(false,eval b X.env)]) (hs2:starEach [b] X.env = [(false,eval b X.env)]) :
 PI X (.Tuple elts cx pos) (.Call (.Name "zip" p) [a,b] [] pos') (C5 X.K ta):=by
 intro pins s σ H R I h
 refine Call_ (dU I hg hm (u := .type "zip") (by decide +kernel) (PyProof.Rows.callWith_type1 (thn (ha pos' pins s σ H _ I h) fun us s1 ⟨vs,H1,I1,r1,q1⟩ => ?_) (by rw [hs,hs2]) (by rw [hs2];rfl)))
 obtain ⟨a',b',t,u,xs,ys,rfl,qx,qy,q⟩:=q1
 cases r1 with
 | cons r rr =>
   cases rr with
   | cons r' rr =>
     cases rr
     cases r
     cases r'
     obtain ⟨is,rx,px⟩:=I1.sqv qx
     obtain ⟨js,ry,py⟩:=I1.sqv qy
     refine Zp.call_zip px py fun h1 z1 t1 o1 i1 j1 sz k1 => ?_
     refine wpAny_pyIter_zip z1 ?_
     have la:a' < s1.heap.objs.size:=by cases t <;> (obtain ⟨o,e,_⟩:=px;exact Heap.lt_size e)
     have lb:b' < s1.heap.objs.size:=by cases u <;> (obtain ⟨o,e,_⟩:=py;exact Heap.lt_size e)
     have D:ZipApart (s1.heap.objs.size + 4) (s1.heap.objs.size + 2) (s1.heap.objs.size + 3) s1.heap.objs.size (s1.heap.objs.size + 1) a' b':=by constructor <;> (intro e;subst_vars;first | omega | (simp only [Addr] at *;omega))
     refine ⟨_,_,_,_,H1,rfl,I1.kept (t':=s1.toks) k1,uG (t:=t) (u:=u) D,⟨z1,t1,⟨_,_,o1⟩,i1,j1⟩,fun c hc => ?_,q⟩
     have hle:s1.heap.objs.size <= c:=by
      simp only [List.mem_cons,List.not_mem_nil,or_false] at hc
      rcases hc with rfl | rfl | rfl | rfl | rfl <;> omega
     exact I1.fpOk hle (I1.hok.fresh hle)
end
end
end L2
namespace L2
namespace En
open PySem PySem.Spec PyProof.Rows
section
variable {prog:Program} {w:World} {A:Around} {E:Value -> Shared -> Prop} {s:Shared}
open Builtin.SmallTypes Zp in
theorem zU {z i a:Addr} {t:Bool} {k:Nat} {xs:Array Value} {x old:Value} {Q:Value -> Shared -> Prop} (hz:IsEnum s.heap z i k old) (hi:At t s.heap i a k) (ha:Sq t s.heap a xs) (hx:xs[k]? = some x) (hne:z ≠ i)
 (q:∀ h',IsEnumOut h' z i ((k:Int) + 1) x s.heap.objs.size -> At t h' i a (k + 1) -> h'.get? s.heap.objs.size = some { cls := .type "tuple",data := .seq #[.int k s.toks,x] } ->
   (∀ b o,b ≠ z -> b ≠ i -> s.heap.get? b = some o -> h'.get? b = some o) -> Q (.ref s.heap.objs.size) { s with heap:=h',toks:=s.toks + 1 }) :
 wpAny (model prog w) A (Builtin.«enumerate.__next__» ⟨[.ref z],[]⟩) (fun fin s' => ∃ v,fin = .done (.ret v) /\ Q v s') E s:=by
 obtain ⟨hp,g,d,tk,os⟩:=s
 refine wpAny_bind (m:=field (.ref z) 2) (wpAny_field hz rfl (x := .ref i) rfl (wpAny_bind (nx_item hi ha hx fun g1 i1 s1 => ?_)))
 have S1:Heap.SameBut i hp g1:=s1
 clear s1
 have Z1:IsEnum g1 z i k old:=(S1.2 z hne).trans hz
 refine wpAny_bind (m:=field (.ref z) 3) (wpAny_field (s:=⟨g1,g,d,tk,os⟩) Z1 rfl (x:=rawInt k) rfl ?_)
 refine wpAny_bind (m:=field (.ref z) 4) (wpAny_field (s:=⟨g1,g,d,tk,os⟩) Z1 rfl (x := .none) rfl ?_)
 refine wpAny_bind (m:=mkInt k) (wpAny_mkInt ?_)
 refine wpAny_bind (m:=setField (.ref z) 3 (rawInt ((k:Int) + 1))) (wpAny_setField_rec (s:=⟨g1,g,d,tk + 1,os⟩) Z1 (by simp) fun g2 z2 s2 => ?_)
 have S2:Heap.SameBut z g1 g2:=s2
 have Z2:IsEnum g2 z i ((k:Int) + 1) old:=z2
 clear s2 z2
 refine wpAny_bind (m:=setField (.ref z) 4 .none) (wpAny_setField_rec (s:=⟨g2,g,d,tk + 1,os⟩) Z2 (by simp) fun g3 z3 s3 => ?_)
 have S3:Heap.SameBut z g2 g3:=s3
 have Z3:IsEnum g3 z i ((k:Int) + 1) old:=z3
 clear s3 z3
 refine wpAny_bind (m:=newTuple [.int k tk,x]) (wpAny_newTuple ?_)
 have Z4:IsEnum (g3.push { cls := .type "tuple",data := .seq #[.int k tk,x] }) z i ((k:Int) + 1) old:=Heap.get?_push_of_some _ Z3
 have sz:g3.objs.size = hp.objs.size:=by rw [S3.1,S2.1,S1.1]
 have zl:z < hp.objs.size:=Heap.lt_size hz
 have T4:(g3.push { cls := .type "tuple",data := .seq #[.int k tk,x] }).get? hp.objs.size = some { cls := .type "tuple",data := .seq #[.int k tk,x] }:=by rw [<- sz];exact Heap.get?_push_size _ rfl
 have K4:∀ b o,b ≠ z -> b ≠ i -> hp.get? b = some o -> (g3.push { cls := .type "tuple",data := .seq #[.int k tk,x] }).get? b = some o:=fun b o bz bi e =>
  Heap.get?_push_of_some _ (S3.extBut b o bz (S2.extBut b o bz (S1.extBut b o bi e)))
 have I4:At t (g3.push { cls := .type "tuple",data := .seq #[.int k tk,x] }) i a (k + 1):=i1.up fun o e=>Heap.get?_push_of_some _ (S3.extBut i o hne.symm (S2.extBut i o hne.symm e))
 rw [sz]
 generalize g3.push { cls := .type "tuple",data := .seq #[.int k tk,x] } = g4 at Z4 T4 K4 I4
 refine wpAny_bind (m:=ownedTupleIsFree (.ref z)) ?_
 unfold ownedTupleIsFree
 refine wpAny_bind (wpAny_field (s:=⟨g4,g,d,tk + 1,os⟩) Z4 rfl (x := .none) rfl (wpAny_pure ?_))
 simp only [if_true]
 refine wpAny_bind (wpAny_rule (wpAny_bind (wpAny_field (s:=⟨g4,g,d,tk + 1,os⟩) Z4 rfl (x:=old) rfl (wpAny_bind (wpAny_setField_rec (s:=⟨g4,g,d,tk + 1,os⟩) Z4 (by simp) fun g5 z5 s5 => ?_)))))
 have S5:Heap.SameBut z g4 g5:=s5
 have Z5:IsEnum g5 z i ((k:Int) + 1) x:=z5
 clear s5 z5
 refine wpAny_bind (m:=ownedTupleHandOut (.ref z) (.ref hp.objs.size)) ?_
 unfold ownedTupleHandOut
 refine wpAny_bind (wpAny_setField_rec (s:=⟨g5,g,d,tk + 1,os⟩) Z5 (by simp) fun g6 z6 s6 => ?_)
 have S6:Heap.SameBut z g5 g6:=s6
 have Z6:IsEnumOut g6 z i ((k:Int) + 1) x hp.objs.size:=z6
 clear s6 z6
 refine wpAny_setField_rec (s:=⟨g6,g,d,tk + 1,os⟩) Z6 (by simp) fun g7 z7 s7 => ?_
 have S7:Heap.SameBut z g6 g7:=s7
 have Z7:IsEnumOut g7 z i ((k:Int) + 1) x hp.objs.size:=z7
 clear s7 z7
 have up:∀ b o,b ≠ z -> g4.get? b = some o -> g7.get? b = some o:=fun b o bz e=>S7.extBut b o bz (S6.extBut b o bz (S5.extBut b o bz e))
 exact wpAny_bind (wpAny_letGo (wpAny_pure ⟨_,rfl,q g7 Z7 (I4.up fun o e=>up i o hne.symm e) (up _ _ (Nat.ne_of_gt zl) T4) fun b o bz bi e=>up b o bz (K4 b o bz bi e)⟩))
theorem nxt_item {z i a:Addr} {t:Bool} {k:Nat} {xs:Array Value} {x old:Value} {Q:Option Value -> Shared -> Prop} (hz:IsEnum s.heap z i k old) (hi:Zp.At t s.heap i a k) (ha:Zp.Sq t s.heap a xs) (hx:xs[k]? = some x) (hne:z ≠ i)
 (q:∀ h',IsEnumOut h' z i ((k:Int) + 1) x s.heap.objs.size -> Zp.At t h' i a (k + 1) -> h'.get? s.heap.objs.size = some { cls := .type "tuple",data := .seq #[.int k s.toks,x] } ->
   (∀ b o,b ≠ z -> b ≠ i -> s.heap.get? b = some o -> h'.get? b = some o) -> Q (some (.ref s.heap.objs.size)) { s with heap:=h',toks:=s.toks + 1 }) :
 wpAny (model prog w) A (pyNext (.ref z)) Q E s:=by
 have ty:s.TypeIs (.ref z) "enumerate" := ⟨_,hz,rfl⟩
 unfold pyNext
 exact wpAny_bind (wpAny_attempt (wpAny_callSpecial?_slot (name:=Str.ofString "__next__") ty F.slot_enumerate_next (wpAny_call_entry F.slot_enumerate_next ty F.entry_enumerate_next
  (zU hz hi ha hx hne fun h' a1 a2 a3 a4=>wpAny_pure (q h' a1 a2 a3 a4)) (F.args_enumerate_next_1 _))))
theorem nxt_end {z i a:Addr} {t:Bool} {k:Nat} {xs:Array Value} {old:Value} {Q:Option Value -> Shared -> Prop} (hn:A.handled = none) (hz:IsEnum s.heap z i k old) (hi:Zp.At t s.heap i a k) (ha:Zp.Sq t s.heap a xs) (hx:xs[k]? = none)
 (q:∀ h',Heap.ExtBut i s.heap h' -> Q none { s with heap:=h' }):wpAny (model prog w) A (pyNext (.ref z)) Q E s:=by
 have ty:s.TypeIs (.ref z) "enumerate" := ⟨_,hz,rfl⟩
 unfold pyNext
 refine wpAny_bind (wpAny_attempt (wpAny_callSpecial?_slot (name:=Str.ofString "__next__") ty F.slot_enumerate_next (wpAny_call_entry F.slot_enumerate_next ty F.entry_enumerate_next ?_ (F.args_enumerate_next_1 _))))
 refine wpAny_bind (m:=field (.ref z) 2) (wpAny_field hz rfl (x := .ref i) rfl (wpAny_bind (Zp.nx_end hn hi ha hx fun h' x he hs => ?_)))
 obtain ⟨o,ho,hc⟩:=hs
 exact wpAny_bind (wpAny_isInstance (T := "StopIteration") (b:=true) ⟨o,ho,hc⟩ isSubtype_stop (wpAny_pure (q _ he)))
open AutoSeq1 (wpAny_loadPart') in
theorem xG (l:Addr) (items:Array Value) (n:Nat) (dct:Option Addr) (sl:Array (Option Value)) :
 Meets (Builtin.«enumerate.__new__» ⟨[.type "enumerate", .ref l],[]⟩) (fun _ R s=>s.heap.get? l = some { cls := .type "tuple",dict:=dct,data := .seq items n,slots:=sl } /\
  R (.ok (.ret (.ref (s.heap.push (Zp.itO true l)).objs.size))) { s with heap:=(s.heap.push (Zp.itO true l)).push { cls := .type "enumerate",data := .fields #[.none, .bool false, .ref s.heap.objs.size,rawInt 0, .none, .none] } }) :=
 .of_wp fun prog w A R s h=>by
  obtain ⟨hp,g,d,tk,os⟩:=s;obtain ⟨hl,h⟩:=h
  have hsub:=sub_enumerate
  have hT:Heap.IsTuple (Shared.heap ⟨hp,g,d,tk,os⟩) l items:=⟨_,hl,rfl,n,rfl⟩
  wp_walk using wpAny_loadPart' hl
  refine wpAny_stack_any fun st=>wpAny_pure ?_
  split
  ·rename_i c _ _ _ _ _
   cases (c == Value.type "enumerate") <;> (wp_walk using wpAny_loadPart' hl,wpAny_pyIter_tuple hT;exact ⟨_,rfl,h⟩)
  ·wp_walk using wpAny_loadPart' hl,wpAny_pyIter_tuple hT
   exact ⟨_,rfl,h⟩
theorem call_enum {t:Bool} {l:Addr} {items:Array Value} {Q:Value -> Shared -> Prop} (hL:Zp.Sq t s.heap l items)
 (q:∀ h',IsEnum h' (s.heap.objs.size + 1) s.heap.objs.size 0 .none -> Zp.At t h' s.heap.objs.size l 0 -> (∀ b o,s.heap.get? b = some o -> h'.get? b = some o) -> Q (.ref (s.heap.objs.size + 1)) { s with heap:=h' }) :
 wpAny (model prog w) A (call (.type "enumerate") [.ref l]) Q E s:=by
 cases t with
 | false=>exact call_enumerate_list hL fun h' a b _ k=>q h' a b k
 | true =>
   obtain ⟨⟨c,dct,dt,sl⟩,hl,hc,n,hd⟩:=hL
   have hc':c = .type "tuple" := hc
   have hd':dt = .seq items n:=hd
   subst hc' hd'
   refine callType_new F.called_enumerate (by decide) (F.typeCall_enumerate_1 _) (F.newCall_enumerate_1 _) (fun obj=>F.args_object_init_2 obj _) F.entry_enumerate_new (xG l items n dct sl) ⟨hl, ?_⟩
   have z1:(s.heap.push (Zp.itO true l)).objs.size = s.heap.objs.size + 1:=Heap.size_push ..
   have e:((s.heap.push (Zp.itO true l)).push { cls := .type "enumerate",data := .fields #[.none, .bool false, .ref s.heap.objs.size,rawInt 0, .none, .none] }).get? (s.heap.push (Zp.itO true l)).objs.size = some _:=Heap.get?_push_size _ rfl
   rw [z1] at e
   show _ /\ _
   rw [z1]
   exact ⟨⟨_,e,rfl⟩,q _ e (Zp.at_new (Heap.get?_push_of_some _ (Heap.get?_push_size _ rfl))) fun b o x=>Heap.get?_push_of_some _ (Heap.get?_push_of_some _ x)⟩
end
end En
open PySem PySem.Spec PyProof.Rows
noncomputable def Ite (K:Frag) (t:Bool) (a:Addr):It :=
 ⟨fun i H => ∃ xs x,SqV K t H a xs /\ xs[i]? = some x,
  fun i H v H' => ∃ p x,H p = none /\ v = .ref p /\ H' = upd H p (.tup [.int (i:Nat),x]) /\ ∀ xs,SqV K t H a xs -> xs[i]? = some x,
  fun i H => ∃ xs,SqV K t H a xs /\ xs.length <= i⟩
theorem rG {P:Program} {w:World} {K:Frag} {elts:List Expr} {cx} {pos:Pos} {t:Bool} {z i a:Addr} (hzi:z ≠ i) :
 fi P w K (.Tuple elts cx pos) (Ite K t a) [z,i] z (fun k h=>(∃ old,IsEnum h z i k old) /\ Zp.At t h i a k) where
 mem:=by simp
 obj:=fun k h ⟨⟨old,hz⟩,hi⟩ c hc=>by
  simp only [List.mem_cons,List.not_mem_nil,or_false] at hc
  rcases hc with rfl | rfl
  ·exact ⟨_,hz,fun v e=>by cases e⟩
  ·exact hi.lt
 keep:=fun k h h' ⟨⟨old,hz⟩,hi⟩ kk=>⟨⟨old,kk z (by simp) _ hz⟩,hi.up fun o e=>kk i (by simp) o e⟩
 item:=by
  intro X hP hw hK hc k pins s σ H E I hf st hg
  subst hP hw hK
  obtain ⟨⟨old,hz⟩,hi⟩:=st
  obtain ⟨xs,x,qx,ex⟩:=hg
  obtain ⟨is,rx,px⟩:=I.sqv qx
  obtain ⟨ux,hux,rux⟩:=rx.get ex
  refine En.nxt_item hz hi px (by simpa using hux) hzi fun h1 z1 i1 p1 k1=>⟨_,rfl, ?_⟩
  refine wpAny_letOwnedTupleGo_enum (s := { s with heap:=h1,toks:=s.toks + 1 }) z1 fun h2 z2 s2 => ?_
  have lt:∀ {c o},s.heap.get? c = some o -> c ≠ s.heap.objs.size:=fun e=>Nat.ne_of_lt (Heap.lt_size e)
  have nz:s.heap.objs.size ≠ z:=(lt hz).symm
  have hi0:∃ o,s.heap.get? i = some o:=hi.lt.imp fun _ h=>h.1
  have up:∀ c o,c ≠ z -> h1.get? c = some o -> h2.get? c = some o:=fun c o n e=>s2.extBut _ _ n e
  have IL:Inv X pins σ (upd H s.heap.objs.size (.tup [.int (k:Nat),x])) { s with heap:=s.heap.push { cls := .type "tuple",data := .seq #[.int k s.toks,ux] },toks:=s.toks + 1 } :=
   I.laid (fun b o e=>Heap.get?_push_of_some _ e) (Nat.le_refl _) ⟨by rw [sizeLine_eq];simp,[.int k s.toks,ux], .cons ⟨_,rfl⟩ (.cons rux .nil),IsTup.new _ _⟩
  have fr:∀ c ∈ [z,i],c ≠ s.heap.objs.size:=fun c hc=>by
   simp only [List.mem_cons,List.not_mem_nil,or_false] at hc
   rcases hc with rfl | rfl
   ·exact lt hz
   ·obtain ⟨o,e⟩:=hi0;exact lt e
  have un:∀ c ∈ [z,i],upd H s.heap.objs.size (.tup [.int (k:Nat),x]) c = none:=fun c hc=>by
   rw [ai (fr c hc)];exact (hf c hc).1
  have kk:∀ c o,c ∉ [z,i] -> (s.heap.push { cls := .type "tuple",data := .seq #[.int k s.toks,ux] }).get? c = some o -> h2.get? c = some o:=fun c o hc e=>by
   simp only [List.mem_cons,List.not_mem_nil,or_false,not_or] at hc
   rcases Heap.get?_push_cases e with ⟨rfl,rfl⟩ | e
   ·exact up _ _ nz p1
   ·exact up _ _ hc.1 (k1 c o hc.1 hc.2 e)
  have I2:Inv X pins σ (upd H s.heap.objs.size (.tup [.int (k:Nat),x])) { s with heap:=h2,toks:=s.toks + 1 } :=
   Inv.turnedL (s := { s with heap:=s.heap.push { cls := .type "tuple",data := .seq #[.int k s.toks,ux] },toks:=s.toks + 1 }) (h':=h2) (t':=s.toks + 1) (fp := [z,i]) IL (fun c hc=>⟨un c hc,(hf c hc).2⟩) kk
  refine ⟨.ref s.heap.objs.size,_,I2,rfl,⟨_,x,I.hok.fresh (Nat.le_refl _),rfl,rfl,fun xs' q1 => ?_⟩,⟨⟨ux,by simpa using z2⟩,i1.up fun o e=>up _ o hzi.symm e⟩,un⟩
  rw [I.sqv_inj q1 qx];exact ex
 done:=by
  intro X hP hw hK hc k pins s σ H E I hf st hg
  subst hP hw hK
  obtain ⟨⟨old,hz⟩,hi⟩:=st
  obtain ⟨xs,qx,hend⟩:=hg
  obtain ⟨is,rx,px⟩:=I.sqv qx
  have lx:=rx.length
  refine En.nxt_end (I.ok.hd hc) hz hi px (by simp;omega) fun h1 k1=>⟨rfl,I.turnedL (t':=s.toks) hf fun c o hc e => ?_⟩
  simp only [List.mem_cons,List.not_mem_nil,or_false,not_or] at hc
  exact k1 c o hc.2 e
 self:=fun A k s Q E ⟨⟨old,hz⟩,_⟩ h=>wpAny_pyIter_enum hz h
section
variable {X:Cx}
noncomputable def Bc (K:Frag) (ta:TA):TI:=fun σ H R=>ta σ H fun vs H1 => ∃ a t xs,vs = [.ref a] /\ SqV K t H1 a xs /\ R (Ite K t a) H1
theorem xH {elts:List Expr} {cx} {pos p pos':Pos} {a:Expr} {ta:TA} (hg:Gl X "enumerate") (hm:X.mg "enumerate" = none) (ha:PA X [a] ta) (hs:starEach [a] X.env = [(false,eval a X.env)]) :
 PI X (.Tuple elts cx pos) (.Call (.Name "enumerate" p) [a] [] pos') (Bc X.K ta):=by
 intro pins s σ H R I h
 refine Call_ (dU I hg hm (u := .type "enumerate") boot_enumerate (PyProof.Rows.callWith_type1 (thn (ha pos' pins s σ H _ I h) fun us s1 ⟨vs,H1,I1,r1,q1⟩ => ?_) hs rfl))
 obtain ⟨a',t,xs,rfl,qx,q⟩:=q1
 cases r1 with
 | cons r rr =>
   cases rr
   cases r
   obtain ⟨is,rx,px⟩:=I1.sqv qx
   refine En.call_enum px fun h1 z1 i1 k1 => ?_
   refine wpAny_pyIter_enum z1 ?_
   refine ⟨_,_,_,_,H1,rfl,I1.kept (t':=s1.toks) k1,rG (t:=t) (a:=a') (by simp),⟨⟨_,z1⟩,i1⟩,fun c hc => ?_,q⟩
   have hle:s1.heap.objs.size <= c:=by
    simp only [List.mem_cons,List.not_mem_nil,or_false] at hc
    rcases hc with rfl | rfl <;> omega
   exact I1.fpOk hle (I1.hok.fresh hle)
end
end L2
namespace L2
namespace Rv
open PySem PySem.Spec PyProof.Rows
section
variable {prog:Program} {w:World} {A:Around} {E:Value -> Shared -> Prop} {s:Shared}
theorem aJ:typeLookup (.type "list_reverseiterator") "__length_hint__" = pure (some (.builtin "list_reverseiterator.__length_hint__")):=by rw [typeLookup_type,builtinLookup_eq_fast];kernel_rfl
end
end Rv
open PySem PySem.Spec PyProof.Rows
end L2
namespace L2
namespace Mi
open PySem PySem.Spec PyProof.Rows
section
inductive D where
 | non | bl (b:Bool) | int (i:Int) | str (x:Str) | tup (ds:List D) | con (ds:List D) | ref (a:Addr)
inductive O where
 | lst (ds:List D)
 | dct (t:Bool) (kvs:List (D × D))
 | fdc (kvs:List (D × D))
noncomputable abbrev Mem:=Addr -> Option O
noncomputable def fz:Option O -> Bool
 | some (.lst _)=>false
 | some (.dct _ _)=>false
 | _=>true
noncomputable abbrev au:=List (Option D)
noncomputable def aj (M:Mem) (a:Addr) (o:O):Mem:=fun b=>if b = a then some o else M b
theorem af {M:Mem} {a:Addr} {o:O}:aj M a o a = some o:=by unfold aj;rw [if_pos rfl]
theorem aU {M:Mem} {a b:Addr} {o:O} (h:b ≠ a):aj M a o b = M b:=by unfold aj;rw [if_neg h]
noncomputable def SqF (K:Frag) (H:Hp) (a:Addr) (xs:List V):Prop :=
 (∃ o,H a = some (.frz o (.lst xs))) ∨
  ∃ (o:Obj) (its:Array Value) (n:Nat),K.lookup a = some o /\ o.cls = .type "list" /\ o.dict = none /\ o.data = .seq its n /\ its.size <= sizeLine /\ Vals xs its.toList
theorem SqF.sq {K:Frag} {H:Hp} {a:Addr} {xs:List V} (h:SqF K H a xs):SqL K H a xs:=by
 rcases h with ⟨o,h⟩ | h
 ·exact .inl (.inr ⟨o,h⟩)
 ·exact .inr h
mutual
noncomputable def RD (K:Frag) (H:Hp):D -> V -> Prop
 | .non,v=>v = .non
 | .bl b,v=>v = .bl b
 | .int i,v=>v = .int i
 | .str x,v=>v = .str x
 | .tup ds,v => ∃ a vs,v = .ref a /\ H a = some (.tup vs) /\ RDs K H ds vs
 | .con ds,v => ∃ a vs,v = .ref a /\ SqF K H a vs /\ RDs K H ds vs
 | .ref a,v=>v = .ref a
noncomputable def RDs (K:Frag) (H:Hp):List D -> List V -> Prop
 | [],vs=>vs = []
 | d :: ds,vs => ∃ v r,vs = v :: r /\ RD K H d v /\ RDs K H ds r
end
structure Stab (H H':Hp):Prop where
 tup:∀ a xs,H a = some (.tup xs) -> H' a = some (.tup xs)
 frz:∀ a o u,H a = some (.frz o u) -> H' a = some (.frz o u)
theorem Stab.sqF {K:Frag} {H H':Hp} (st:Stab H H') {a:Addr} {xs:List V} (h:SqF K H a xs):SqF K H' a xs:=by
 rcases h with ⟨o,h⟩ | h
 ·exact .inl ⟨o,st.frz _ _ _ h⟩
 ·exact .inr h
mutual
theorem RD.mono {K:Frag} {H H':Hp} (st:Stab H H'):∀ {d:D} {v:V},RD K H d v -> RD K H' d v
 | .non,_,h=>h
 | .bl _,_,h=>h
 | .int _,_,h=>h
 | .str _,_,h=>h
 | .tup ds,v,h=>by
  unfold RD at h ⊢
  obtain ⟨a,vs,e,q,r⟩:=h
  exact ⟨a,vs,e,st.tup _ _ q,RDs.mono st r⟩
 | .con ds,v,h=>by
  unfold RD at h ⊢
  obtain ⟨a,vs,e,q,r⟩:=h
  exact ⟨a,vs,e,st.sqF q,RDs.mono st r⟩
 | .ref _,_,h=>h
theorem RDs.mono {K:Frag} {H H':Hp} (st:Stab H H'):∀ {ds:List D} {vs:List V},RDs K H ds vs -> RDs K H' ds vs
 | [],_,h=>h
 | d :: ds,vs,h=>by
   unfold RDs at h ⊢
   obtain ⟨v,r,e,h1,h2⟩:=h
   exact ⟨v,r,e,RD.mono st h1,RDs.mono st h2⟩
end
section
variable {K:Frag} {H H':Hp}
theorem RD.int_iff {i:Int} {v:V}:RD K H (.int i) v ↔ v = .int i:=by unfold RD;exact Iff.rfl
theorem RD.bl_iff {b:Bool} {v:V}:RD K H (.bl b) v ↔ v = .bl b:=by unfold RD;exact Iff.rfl
theorem RD.non_iff {v:V}:RD K H .non v ↔ v = .non:=by unfold RD;exact Iff.rfl
theorem RD.str_iff {x:Str} {v:V}:RD K H (.str x) v ↔ v = .str x:=by unfold RD;exact Iff.rfl
theorem RD.ref_iff {a:Addr} {v:V}:RD K H (.ref a) v ↔ v = .ref a:=by unfold RD;exact Iff.rfl
theorem RD.tup_iff {ds:List D} {v:V}:RD K H (.tup ds) v ↔ ∃ a vs,v = .ref a /\ H a = some (.tup vs) /\ RDs K H ds vs:=by rw [RD]
theorem RD.con_iff {ds:List D} {v:V}:RD K H (.con ds) v ↔ ∃ a vs,v = .ref a /\ SqF K H a vs /\ RDs K H ds vs:=by rw [RD]
theorem RDs.nil_iff {vs:List V}:RDs K H [] vs ↔ vs = []:=by rw [RDs]
theorem RDs.cons_iff {d:D} {ds:List D} {vs:List V}:RDs K H (d :: ds) vs ↔ ∃ v r,vs = v :: r /\ RD K H d v /\ RDs K H ds r:=by rw [RDs]
theorem RDs.nil:RDs K H [] []:=RDs.nil_iff.mpr rfl
theorem RDs.cons {d:D} {ds:List D} {v:V} {vs:List V} (h:RD K H d v) (r:RDs K H ds vs):RDs K H (d :: ds) (v :: vs):=RDs.cons_iff.mpr ⟨v,vs,rfl,h,r⟩
theorem RDs.length:∀ {ds:List D} {vs:List V},RDs K H ds vs -> vs.length = ds.length
 | [],_,h=>by rw [RDs.nil_iff.mp h];rfl
 | d :: ds,_,h=>by
   obtain ⟨v,r,rfl,_,h2⟩:=RDs.cons_iff.mp h
   simp [RDs.length h2]
theorem RDs.get:∀ {ds:List D} {vs:List V} {i:Nat} {d:D},RDs K H ds vs -> ds[i]? = some d -> ∃ v,vs[i]? = some v /\ RD K H d v
 | [],_,_,_,_,e=>by simp at e
 | d :: ds,_,0,d',h,e=>by
   obtain ⟨v,r,rfl,h1,h2⟩:=RDs.cons_iff.mp h
   simp at e;subst e
   exact ⟨v,rfl,h1⟩
 | d :: ds,_,i + 1,d',h,e=>by
   obtain ⟨v,r,rfl,h1,h2⟩:=RDs.cons_iff.mp h
   obtain ⟨u,q1,q2⟩:=RDs.get (i:=i) (d:=d') h2 (by simpa using e)
   exact ⟨u,by simpa using q1,q2⟩
theorem RDs.getV {ds:List D} {vs:List V} {i:Nat} {v:V} (h:RDs K H ds vs) (e:vs[i]? = some v):∃ d,ds[i]? = some d /\ RD K H d v:=by
 have hl:=h.length
 have hi:i < vs.length:=(List.getElem?_eq_some_iff.mp e).1
 obtain ⟨d,hd⟩:∃ d,ds[i]? = some d:=⟨ds[i]'(by omega),List.getElem?_eq_getElem (by omega)⟩
 obtain ⟨u,q1,q2⟩:=h.get hd
 rw [e] at q1;cases q1
 exact ⟨d,hd,q2⟩
theorem RDs.append:∀ {ds es:List D} {vs us:List V},RDs K H ds vs -> RDs K H es us -> RDs K H (ds ++ es) (vs ++ us)
 | [],_,_,_,h,q=>by rw [RDs.nil_iff.mp h];exact q
 | d :: ds,_,_,_,h,q=>by
   obtain ⟨v,r,rfl,h1,h2⟩:=RDs.cons_iff.mp h
   exact RDs.cons h1 (RDs.append h2 q)
theorem RDs.take:∀ {ds:List D} {vs:List V} (n:Nat),RDs K H ds vs -> RDs K H (ds.take n) (vs.take n)
 | [],_,n,h=>by rw [RDs.nil_iff.mp h];simp;exact RDs.nil
 | _ :: _,_,0,h=>by simp;exact RDs.nil
 | d :: ds,_,n + 1,h=>by
   obtain ⟨v,r,rfl,h1,h2⟩:=RDs.cons_iff.mp h
   exact RDs.cons h1 (RDs.take n h2)
theorem RDs.drop:∀ {ds:List D} {vs:List V} (n:Nat),RDs K H ds vs -> RDs K H (ds.drop n) (vs.drop n)
 | [],_,n,h=>by rw [RDs.nil_iff.mp h];simp;exact RDs.nil
 | d :: ds,_,0,h=>h
 | d :: ds,_,n + 1,h=>by
   obtain ⟨v,r,rfl,h1,h2⟩:=RDs.cons_iff.mp h
   exact RDs.drop n h2
theorem RDs.set:∀ {ds:List D} {vs:List V} (n:Nat) {d:D} {v:V},RD K H d v -> RDs K H ds vs -> RDs K H (ds.set n d) (vs.set n v)
 | [],_,n,_,_,_,h=>by rw [RDs.nil_iff.mp h];exact RDs.nil
 | d :: ds,_,0,_,_,q,h=>by
   obtain ⟨v,r,rfl,h1,h2⟩:=RDs.cons_iff.mp h
   exact RDs.cons q h2
 | d :: ds,_,n + 1,_,_,q,h=>by
   obtain ⟨v,r,rfl,h1,h2⟩:=RDs.cons_iff.mp h
   exact RDs.cons h1 (RDs.set n q h2)
theorem RDs.reverse {ds:List D} {vs:List V} (h:RDs K H ds vs):RDs K H ds.reverse vs.reverse:=by
 induction ds generalizing vs with
 | nil=>rw [RDs.nil_iff.mp h];exact RDs.nil
 | cons d ds ih =>
   obtain ⟨v,r,rfl,h1,h2⟩:=RDs.cons_iff.mp h
   rw [List.reverse_cons,List.reverse_cons]
   exact (ih h2).append (RDs.cons h1 RDs.nil)
theorem RDs.rep {ds:List D} {vs:List V} (h:RDs K H ds vs):∀ k:Nat,RDs K H (List.replicate k ds).flatten (List.replicate k vs).flatten
 | 0=>RDs.nil
 | k + 1=>by
   rw [List.replicate_succ,List.replicate_succ,List.flatten_cons,List.flatten_cons]
   exact h.append (h.rep k)
theorem RDs.ints:∀ (ns:List Int),RDs K H (ns.map D.int) (ns.map V.int)
 | [] => RDs.nil
 | n :: ns=>RDs.cons (RD.int_iff.mpr rfl) (RDs.ints ns)
end
mutual
noncomputable def D.eqb:D -> D -> Bool
 | .non, .non=>true
 | .bl a, .bl b=>a == b
 | .int a, .int b=>decide (a = b)
 | .str a, .str b=>decide (a = b)
 | .tup a, .tup b=>D.eqbs a b
 | .con a, .con b=>D.eqbs a b
 | .ref a, .ref b=>decide (a = b)
 | _,_=>false
noncomputable def D.eqbs:List D -> List D -> Bool
 | [],[] => true
 | a :: r,b :: s=>D.eqb a b && D.eqbs r s
 | _,_=>false
end
mutual
theorem D.eqb_eq:∀ (a b:D),D.eqb a b = true -> a = b
 | .non, .non,_=>rfl
 | .bl a, .bl b,h=>by simp [D.eqb] at h;rw [h]
 | .int a, .int b,h=>by simp [D.eqb] at h;rw [h]
 | .str a, .str b,h=>by simp [D.eqb] at h;rw [h]
 | .tup a, .tup b,h=>by simp [D.eqb] at h;rw [D.eqbs_eq a b h]
 | .con a, .con b,h=>by simp [D.eqb] at h;rw [D.eqbs_eq a b h]
 | .ref a, .ref b,h=>by simp [D.eqb] at h;rw [h]
 | .non, .bl _,h=>by simp [D.eqb] at h
 | .non, .int _,h=>by simp [D.eqb] at h
 | .non, .str _,h=>by simp [D.eqb] at h
 | .non, .tup _,h=>by simp [D.eqb] at h
 | .non, .con _,h=>by simp [D.eqb] at h
 | .non, .ref _,h=>by simp [D.eqb] at h
 | .bl _, .non,h=>by simp [D.eqb] at h
 | .bl _, .int _,h=>by simp [D.eqb] at h
 | .bl _, .str _,h=>by simp [D.eqb] at h
 | .bl _, .tup _,h=>by simp [D.eqb] at h
 | .bl _, .con _,h=>by simp [D.eqb] at h
 | .bl _, .ref _,h=>by simp [D.eqb] at h
 | .int _, .non,h=>by simp [D.eqb] at h
 | .int _, .bl _,h=>by simp [D.eqb] at h
 | .int _, .str _,h=>by simp [D.eqb] at h
 | .int _, .tup _,h=>by simp [D.eqb] at h
 | .int _, .con _,h=>by simp [D.eqb] at h
 | .int _, .ref _,h=>by simp [D.eqb] at h
 | .str _, .non,h=>by simp [D.eqb] at h
 | .str _, .bl _,h=>by simp [D.eqb] at h
 | .str _, .int _,h=>by simp [D.eqb] at h
 | .str _, .tup _,h=>by simp [D.eqb] at h
 | .str _, .con _,h=>by simp [D.eqb] at h
 | .str _, .ref _,h=>by simp [D.eqb] at h
 | .tup _, .non,h=>by simp [D.eqb] at h
 | .tup _, .bl _,h=>by simp [D.eqb] at h
 | .tup _, .int _,h=>by simp [D.eqb] at h
 | .tup _, .str _,h=>by simp [D.eqb] at h
 | .tup _, .con _,h=>by simp [D.eqb] at h
 | .tup _, .ref _,h=>by simp [D.eqb] at h
 | .con _, .non,h=>by simp [D.eqb] at h
 | .con _, .bl _,h=>by simp [D.eqb] at h
 | .con _, .int _,h=>by simp [D.eqb] at h
 | .con _, .str _,h=>by simp [D.eqb] at h
 | .con _, .tup _,h=>by simp [D.eqb] at h
 | .con _, .ref _,h=>by simp [D.eqb] at h
 | .ref _, .non,h=>by simp [D.eqb] at h
 | .ref _, .bl _,h=>by simp [D.eqb] at h
 | .ref _, .int _,h=>by simp [D.eqb] at h
 | .ref _, .str _,h=>by simp [D.eqb] at h
 | .ref _, .tup _,h=>by simp [D.eqb] at h
 | .ref _, .con _,h=>by simp [D.eqb] at h
theorem D.eqbs_eq:∀ (a b:List D),D.eqbs a b = true -> a = b
 | [],[],_=>rfl
 | a :: r,b :: s,h=>by
   simp [D.eqbs] at h
   rw [D.eqb_eq a b h.1,D.eqbs_eq r s h.2]
 | [],_ :: _,h=>by simp [D.eqbs] at h
 | _ :: _,[],h=>by simp [D.eqbs] at h
end
mutual
theorem D.eqb_refl:∀ (a:D),D.eqb a a = true
 | .non=>rfl
 | .bl _=>by simp [D.eqb]
 | .int _=>by simp [D.eqb]
 | .str _=>by simp [D.eqb]
 | .tup a=>by simp [D.eqb,D.eqbs_refl a]
 | .con a=>by simp [D.eqb,D.eqbs_refl a]
 | .ref _=>by simp [D.eqb]
theorem D.eqbs_refl:∀ (a:List D),D.eqbs a a = true
 | [] => rfl
 | a :: r=>by simp [D.eqbs,D.eqb_refl a,D.eqbs_refl r]
end
noncomputable instance:DecidableEq D:=fun a b=>if h:D.eqb a b = true then isTrue (D.eqb_eq a b h) else isFalse fun e=>h (by rw [e];exact D.eqb_refl b)
noncomputable def RKey:D -> Key -> Prop
 | .int i,k=>k = .inl i
 | .str x,k=>k = .inr x
 | _,_=>False
noncomputable def RKeys:D -> List Key -> Prop
 | .tup ds,ks=>Paired RKey ds ks
 | _,_=>False
noncomputable def dget (kvs:List (D × D)) (k:D):Option D:=(kvs.find? fun p=>decide (p.1 = k)).map (·.2)
noncomputable def cj (kvs:List (D × D)) (k v:D):List (D × D):=if (kvs.any fun p=>decide (p.1 = k)) = true then kvs.map (fun p=>if p.1 = k then (p.1,v) else p) else kvs ++ [(k,v)]
noncomputable def eN:D -> Bool
 | .int _=>true
 | .str _=>true
 | _=>false
noncomputable def bZ:D -> Bool
 | .tup ds=>ds.all eN
 | _=>false
noncomputable def fS (t:Bool) (k:D):Bool:=if t then bZ k else eN k
theorem kP {k:D} (h:eN k = true):∃ q,RKey k q:=by
 cases k <;> first | (simp [eN] at h;done) | exact ⟨_,rfl⟩
theorem oi:∀ {ds:List D},ds.all eN = true -> ∃ ks,Paired RKey ds ks
 | [],_=>⟨[], .nil⟩
 | d :: ds,h=>by
   simp only [List.all_cons,Bool.and_eq_true] at h
   obtain ⟨k,hk⟩:=kP h.1
   obtain ⟨ks,hs⟩:=oi h.2
   exact ⟨k :: ks, .cons hk hs⟩
theorem ja {k:D} (h:bZ k = true):∃ q,RKeys k q:=by
 cases k <;> first | (simp [bZ] at h;done) | exact oi h
noncomputable def RO (K:Frag) (H:Hp) (a:Addr):O -> Prop
 | .lst ds => ∃ vs,H a = some (.lst vs) /\ RDs K H ds vs
 | .dct false kvs => ∃ ps,H a = some (.dK ps) /\ Paired (fun (p:D × D) (q:Key × V)=>RKey p.1 q.1 /\ RD K H p.2 q.2) kvs ps
 | .dct true kvs => ∃ ps,H a = some (.dT ps) /\ Paired (fun (p:D × D) (q:List Key × V)=>RKeys p.1 q.1 /\ RD K H p.2 q.2) kvs ps
 | .fdc kvs => ∃ o ps,H a = some (.frz o (.dT ps)) /\ Paired (fun (p:D × D) (q:List Key × V)=>RKeys p.1 q.1 /\ RD K H p.2 q.2) kvs ps
noncomputable def RM (K:Frag) (M:Mem) (H:Hp):Prop := ∀ a o,M a = some o -> RO K H a o
noncomputable def RS (K:Frag) (H:Hp) (σ:St) (ρ:au):Prop := σ.length = ρ.length /\ ∀ (i:Nat) (d:D), ρ[i]? = some (some d) -> ∃ v, σ[i]? = some (some v) /\ RD K H d v
structure Ext (M:Mem) (H:Hp) (M':Mem) (H':Hp):Prop where
 kp:∀ a o,fz (M a) = true -> H a = some o -> H' a = some o
 nw:∀ a o,fz (M a) = true -> H a = some o -> M' a = M a
section
variable {K:Frag} {M M' M'':Mem} {H H' H'':Hp}
theorem Ext.keep (x:Ext M H M' H') (a:Addr) (o:HO) (n:M a = none) (e:H a = some o):H' a = some o:=x.kp a o (by rw [n];rfl) e
theorem Ext.new (x:Ext M H M' H') (a:Addr) (o:HO) (n:M a = none) (e:H a = some o):M' a = none:=(x.nw a o (by rw [n];rfl) e).trans n
theorem Ext.refl:Ext M H M H:=⟨fun _ _ _ h=>h,fun _ _ _ _=>rfl⟩
theorem Ext.trans (a:Ext M H M' H') (b:Ext M' H' M'' H''):Ext M H M'' H'' :=
 ⟨fun c o n h=>b.kp c o (by rw [a.nw c o n h];exact n) (a.kp c o n h),fun c o n h=>(b.nw c o (by rw [a.nw c o n h];exact n) (a.kp c o n h)).trans (a.nw c o n h)⟩
theorem RM.mut (r:RM K M H) {a:Addr} {o:O} (h:M a = some o):∃ ho,H a = some ho /\ (∀ xs,ho ≠ .tup xs) /\ (fz (some o) = false -> Mut (some ho) /\ ∀ ob u,ho ≠ .frz ob u):=by
 have q:=r a o h
 cases o with
 | lst ds =>
   obtain ⟨vs,e,_⟩:=q
   exact ⟨_,e,fun _ z=>(by cases z),fun _=>⟨trivial,fun _ _ z=>(by cases z)⟩⟩
 | dct t kvs =>
   cases t with
   | false=>obtain ⟨ps,e,_⟩:=q;exact ⟨_,e,fun _ z=>(by cases z),fun _=>⟨trivial,fun _ _ z=>(by cases z)⟩⟩
   | true=>obtain ⟨ps,e,_⟩:=q;exact ⟨_,e,fun _ z=>(by cases z),fun _=>⟨trivial,fun _ _ z=>(by cases z)⟩⟩
 | fdc kvs=>obtain ⟨ob,ps,e,_⟩:=q;exact ⟨_,e,fun _ z=>(by cases z),fun z=>(by cases z)⟩
theorem RM.fzT (r:RM K M H) {a:Addr} {xs:List V} (e:H a = some (.tup xs)):M a = none:=by
 cases q:M a with
 | none=>rfl
 | some o =>
   obtain ⟨ho,q1,q2,_⟩:=r.mut q
   rw [e] at q1;cases q1
   exact absurd rfl (q2 xs)
theorem RM.fzF (r:RM K M H) {a:Addr} {ob:Obj} {u:HO} (e:H a = some (.frz ob u)):fz (M a) = true:=by
 cases q:M a with
 | none=>rfl
 | some o =>
   obtain ⟨ho,q1,_,q2⟩:=r.mut q
   rw [e] at q1;cases q1
   cases z:fz (some o) with
   | true=>rfl
   | false=>exact absurd rfl ((q2 z).2 ob u)
theorem RM.out (r:RM K M H) {a:Addr} (h:H a = none):M a = none:=by
 cases e:M a with
 | none=>rfl
 | some o =>
   obtain ⟨ho,q,_⟩:=r.mut e
   rw [h] at q;cases q
theorem Ext.stab (r:RM K M H) (x:Ext M H M' H'):Stab H H' where
 tup:=fun a xs e=>x.keep a _ (r.fzT e) e
 frz:=fun a o u e=>x.kp a _ (r.fzF e) e
theorem RS.mono (st:Stab H H') {σ:St} {ρ:au} (h:RS K H σ ρ):RS K H' σ ρ :=
 ⟨h.1,fun i d e=>let ⟨v,q,r⟩:=h.2 i d e; ⟨v,q,r.mono st⟩⟩
theorem RS.set {σ:St} {ρ:au} (h:RS K H σ ρ) (i:Nat) {d:D} {v:V} (r:RD K H d v):RS K H (σ.set i (some v)) (ρ.set i (some d)):=by
 refine ⟨by simp [h.1],fun j e q => ?_⟩
 by_cases hij:i = j
 ·subst hij
  have hi:i < ρ.length:=by
   have:=(List.getElem?_eq_some_iff.mp q).1
   simpa using this
  rw [List.getElem?_set_self hi] at q
  cases q
  exact ⟨v,by rw [List.getElem?_set_self (by rw [h.1];exact hi)],r⟩
 ·rw [List.getElem?_set_ne hij] at q ⊢
  exact h.2 j e q
noncomputable def jb (fr:List (Option Nat)) (ρ:au):au:=fr.map fun o=>o.bind fun j=>(ρ[j]?).join
theorem RS.inh {σ:St} {ρ:au} (h:RS K H σ ρ) (fr:List (Option Nat)):RS K H (inh fr σ) (jb fr ρ):=by
 refine ⟨by simp [L2.inh,jb],fun i d e => ?_⟩
 unfold jb at e
 unfold L2.inh
 rw [List.getElem?_map] at e ⊢
 cases q:fr[i]? with
 | none=>rw [q] at e;cases e
 | some o =>
   rw [q] at e
   cases o with
   | none=>cases e
   | some j =>
     have e':some ((ρ[j]?).join) = some (some d):=e
     cases q' : ρ[j]? with
     | none=>rw [q'] at e';cases e'
     | some w =>
       rw [q'] at e'
       cases e'
       obtain ⟨v,v1,v2⟩:=h.2 j d q'
       exact ⟨v,by simp [v1],v2⟩
theorem RO.mono (st:Stab H H') {a:Addr} {o:O} (h:RO K H a o) (e:∀ ho,H a = some ho -> H' a = some ho):RO K H' a o:=by
 cases o with
 | lst ds=>obtain ⟨vs,q,r⟩:=h;exact ⟨vs,e _ q,r.mono st⟩
 | dct t kvs =>
   cases t with
   | false=>obtain ⟨ps,q,r⟩:=h;exact ⟨ps,e _ q,Paired.mapP r fun _ _ z=>⟨z.1,z.2.mono st⟩⟩
   | true=>obtain ⟨ps,q,r⟩:=h;exact ⟨ps,e _ q,Paired.mapP r fun _ _ z=>⟨z.1,z.2.mono st⟩⟩
 | fdc kvs=>obtain ⟨ob,ps,q,r⟩:=h;exact ⟨ob,ps,e _ q,Paired.mapP r fun _ _ z=>⟨z.1,z.2.mono st⟩⟩
theorem RM.new {p:Addr} {ho:HO} (r:RM K M H) (n:H p = none):RM K M (upd H p ho):=fun a o e=>by
 have ne:a ≠ p:=fun z=>by subst z;obtain ⟨_,q,_⟩:=r.mut e;rw [n] at q;cases q
 refine (r a o e).mono ⟨fun b xs q => ?_,fun b o u q => ?_⟩ fun ho' q=>by rw [ai ne];exact q
 ·rw [ai (aW q n)];exact q
 ·rw [ai (aW q n)];exact q
theorem Ext.new' {p:Addr} {ho:HO} (n:H p = none):Ext M H M (upd H p ho):=⟨fun a o _ e=>by rw [ai (aW e n)];exact e,fun _ _ _ _=>rfl⟩
theorem RM.lay {p:Addr} {ho:HO} {o:O} (r:RM K M H) (n:H p = none) (h:RO K (upd H p ho) p o):RM K (aj M p o) (upd H p ho):=fun a o' e=>by
 by_cases z:a = p
 ·subst z;rw [af] at e;cases e;exact h
 ·rw [aU z] at e;exact r.new n a o' e
theorem Ext.lay {p:Addr} {ho:HO} {o:O} (n:H p = none):Ext M H (aj M p o) (upd H p ho) :=
 ⟨fun a u _ e=>by rw [ai (aW e n)];exact e,fun a u m e=>by rw [aU (aW e n)]⟩
theorem RM.put {p:Addr} {ho:HO} {o o0:O} (r:RM K M H) (m:M p = some o0) (h:RO K (upd H p ho) p o) (w:fz (some o0) = false:=by rfl):RM K (aj M p o) (upd H p ho):=fun a o' e=>by
 by_cases z:a = p
 ·subst z;rw [af] at e;cases e;exact h
 ·rw [aU z] at e
  obtain ⟨hp,q1,q2,q3⟩:=r.mut m
  refine (r a o' e).mono ⟨fun b xs q => ?_,fun b o u q => ?_⟩ fun ho' q=>by rw [ai z];exact q
  ·rw [ai (fun z=>by subst z;rw [q1] at q;cases q;exact q2 xs rfl)];exact q
  ·rw [ai (fun z=>by subst z;rw [q1] at q;cases q;exact (q3 w).2 o u rfl)];exact q
theorem Ext.put {p:Addr} {ho:HO} {o o0:O} (m:M p = some o0) (w:fz (some o0) = false:=by rfl):Ext M H (aj M p o) (upd H p ho) :=
 ⟨fun a u n e=>by rw [ai (fun z=>by subst z;rw [m,w] at n;cases n)];exact e,fun a u n e=>aU (fun z=>by subst z;rw [m,w] at n;cases n)⟩
theorem RM.stabPut {p:Addr} {ho:HO} {o0:O} (r:RM K M H) (m:M p = some o0) (w:fz (some o0) = false:=by rfl):Stab H (upd H p ho):=(Ext.put (o:=o0) (ho:=ho) m w).stab r
end
noncomputable abbrev QD:=D -> Mem -> Prop
noncomputable abbrev TEd:=au -> Mem -> QD -> Prop
noncomputable abbrev TTd:=au -> Mem -> (Bool -> Mem -> Prop) -> Prop
noncomputable abbrev TAd:=au -> Mem -> (List D -> Mem -> Prop) -> Prop
structure br where
 nx:au -> Mem -> Prop
 rt:QD
 bk:au -> Mem -> Prop:=fun _ _=>False
 ct:au -> Mem -> Prop:=fun _ _=>False
noncomputable abbrev TSd:=br -> au -> Mem -> Prop
noncomputable def ad (T:TEd):Prop := ∀ ρ M Q Q',(∀ d M',Q d M' -> Q' d M') -> T ρ M Q -> T ρ M Q'
noncomputable def aE (T:TTd):Prop := ∀ ρ M Q Q',(∀ d M',Q d M' -> Q' d M') -> T ρ M Q -> T ρ M Q'
noncomputable def bq (T:TAd):Prop := ∀ ρ M Q Q',(∀ d M',Q d M' -> Q' d M') -> T ρ M Q -> T ρ M Q'
structure LeD (a b:br):Prop where
 nx:∀ ρ M,a.nx ρ M -> b.nx ρ M
 rt:∀ d M,a.rt d M -> b.rt d M
 bk:∀ ρ M,a.bk ρ M -> b.bk ρ M
 ct:∀ ρ M,a.ct ρ M -> b.ct ρ M
noncomputable def aI (T:TSd):Prop := ∀ a b ρ M,LeD a b -> T a ρ M -> T b ρ M
noncomputable def KE' (K:Frag) (M:Mem) (H:Hp) (Q:VK):QD:=fun d M' => ∀ v H',Ext M H M' H' -> RM K M' H' -> RD K H' d v -> Q v H'
noncomputable def KT' (K:Frag) (M:Mem) (H:Hp) (Q:Bool -> Hp -> Prop):Bool -> Mem -> Prop:=fun b M' => ∀ H',Ext M H M' H' -> RM K M' H' -> Q b H'
noncomputable def KA' (K:Frag) (M:Mem) (H:Hp) (Q:List V -> Hp -> Prop):List D -> Mem -> Prop:=fun ds M' => ∀ vs H',Ext M H M' H' -> RM K M' H' -> RDs K H' ds vs -> Q vs H'
noncomputable def lE (K:Frag) (T:TEd):TE:=fun σ H Q => ∃ ρ M,RS K H σ ρ /\ RM K M H /\ T ρ M (KE' K M H Q)
noncomputable def lT (K:Frag) (T:TTd):TT:=fun σ H Q => ∃ ρ M,RS K H σ ρ /\ RM K M H /\ T ρ M (KT' K M H Q)
noncomputable def lA (K:Frag) (T:TAd):TA:=fun σ H Q => ∃ ρ M,RS K H σ ρ /\ RM K M H /\ T ρ M (KA' K M H Q)
structure Link (K:Frag) (M:Mem) (H:Hp) (a:br) (b:bB):Prop where
 nx:∀ ρ M' σ H',Ext M H M' H' -> RS K H' σ ρ -> RM K M' H' -> a.nx ρ M' -> b.nx σ H'
 rt:∀ d M' v H',Ext M H M' H' -> RM K M' H' -> RD K H' d v -> a.rt d M' -> b.rt v H'
 bk:∀ ρ M' σ H',Ext M H M' H' -> RS K H' σ ρ -> RM K M' H' -> a.bk ρ M' -> b.bk σ H'
 ct:∀ ρ M' σ H',Ext M H M' H' -> RS K H' σ ρ -> RM K M' H' -> a.ct ρ M' -> b.ct σ H'
noncomputable def lS (K:Frag) (T:TSd):TS:=fun D σ H => ∃ ρ M A,RS K H σ ρ /\ RM K M H /\ Link K M H A D /\ T A ρ M
theorem Link.ext {K:Frag} {M M':Mem} {H H':Hp} {a:br} {b:bB} (l:Link K M H a b) (x:Ext M H M' H'):Link K M' H' a b :=
 ⟨fun ρ M2 σ H2 y=>l.nx ρ M2 σ H2 (x.trans y),fun d M2 v H2 y=>l.rt d M2 v H2 (x.trans y),fun ρ M2 σ H2 y=>l.bk ρ M2 σ H2 (x.trans y),fun ρ M2 σ H2 y=>l.ct ρ M2 σ H2 (x.trans y)⟩
theorem PE.imp {X:Cx} {e:Expr} {t t':TE} (h:PE X e t) (i:∀ σ H Q,t' σ H Q -> t σ H Q):PE X e t':=fun pins s σ H Q I q=>h pins s σ H Q I (i _ _ _ q)
theorem PT.imp {X:Cx} {e:Expr} {t t':TT} (h:PT X e t) (i:∀ σ H Q,t' σ H Q -> t σ H Q):PT X e t':=fun pins s σ H Q I q=>h pins s σ H Q I (i _ _ _ q)
theorem PW.imp {X:Cx} {e:Expr} {t t':TT} (h:PW X e t) (i:∀ σ H Q,t' σ H Q -> t σ H Q):PW X e t':=fun wh pins s σ H Q I q=>h wh pins s σ H Q I (i _ _ _ q)
theorem PA.imp {X:Cx} {e:List Expr} {t t':TA} (h:PA X e t) (i:∀ σ H Q,t' σ H Q -> t σ H Q):PA X e t':=fun p pins s σ H Q I q=>h p pins s σ H Q I (i _ _ _ q)
theorem PS.imp {X:Cx} {e:Stmt} {t t':TS} (h:PS X e t) (i:∀ D σ H,t' D σ H -> t D σ H):PS X e t':=fun pins s σ H D I q=>h pins s σ H D I (i _ _ _ q)
theorem PSs.imp {X:Cx} {e:List Stmt} {t t':TS} (h:PSs X e t) (i:∀ D σ H,t' D σ H -> t D σ H):PSs X e t':=fun pins s σ H D I q=>h pins s σ H D I (i _ _ _ q)
end
section
theorem KE'.ext {K:Frag} {M M2 M':Mem} {H H2:Hp} {Q:VK} {d:D} (x:Ext M H M2 H2) (h:KE' K M H Q d M'):KE' K M2 H2 Q d M':=fun v H' y=>h v H' (x.trans y)
theorem KT'.ext {K:Frag} {M M2 M':Mem} {H H2:Hp} {Q:Bool -> Hp -> Prop} {d:Bool} (x:Ext M H M2 H2) (h:KT' K M H Q d M'):KT' K M2 H2 Q d M':=fun H' y=>h H' (x.trans y)
theorem KA'.ext {K:Frag} {M M2 M':Mem} {H H2:Hp} {Q:List V -> Hp -> Prop} {d:List D} (x:Ext M H M2 H2) (h:KA' K M H Q d M'):KA' K M2 H2 Q d M':=fun v H' y=>h v H' (x.trans y)
noncomputable abbrev R2d:=D -> D -> Mem -> QD -> Prop
noncomputable abbrev R1d:=D -> Mem -> QD -> Prop
noncomputable abbrev RAd:=List D -> Mem -> QD -> Prop
noncomputable def aX (r:R2d):Prop := ∀ x y M Q Q',(∀ d M',Q d M' -> Q' d M') -> r x y M Q -> r x y M Q'
noncomputable def pV (r:R1d):Prop := ∀ x M Q Q',(∀ d M',Q d M' -> Q' d M') -> r x M Q -> r x M Q'
noncomputable def aZ (r:RAd):Prop := ∀ x M Q Q',(∀ d M',Q d M' -> Q' d M') -> r x M Q -> r x M Q'
noncomputable def l2 (K:Frag) (rd:R2d):R2:=fun v u H Q => ∃ x y M,RM K M H /\ RD K H x v /\ RD K H y u /\ rd x y M (KE' K M H Q)
noncomputable def l1 (K:Frag) (rd:R1d):V -> Hp -> VK -> Prop:=fun v H Q => ∃ x M,RM K M H /\ RD K H x v /\ rd x M (KE' K M H Q)
noncomputable def lR (K:Frag) (rd:RAd):List V -> Hp -> VK -> Prop:=fun vs H Q => ∃ ds M,RM K M H /\ RDs K H ds vs /\ rd ds M (KE' K M H Q)
noncomputable def lMt (K:Frag) (rd:D -> List D -> Mem -> QD -> Prop):V -> List V -> Hp -> VK -> Prop:=fun v vs H Q => ∃ x ds M,RM K M H /\ RD K H x v /\ RDs K H ds vs /\ rd x ds M (KE' K M H Q)
noncomputable def ck (i:Nat):TEd:=fun ρ M Q => ∃ d, ρ[i]? = some (some d) /\ Q d M
noncomputable def wC (d:D):TEd:=fun _ M Q=>Q d M
noncomputable def wOp (rd:R2d) (ta tb:TEd):TEd:=fun ρ M Q=>ta ρ M fun x M1=>tb ρ M1 fun y M2=>rd x y M2 Q
noncomputable def wUn (rd:R1d) (ta:TEd):TEd:=fun ρ M Q=>ta ρ M fun x M1=>rd x M1 Q
noncomputable def bx:TAd:=fun _ M Q=>Q [] M
noncomputable def aK (ta:TEd) (tr:TAd):TAd:=fun ρ M Q=>ta ρ M fun x M1=>tr ρ M1 fun xs M2=>Q (x :: xs) M2
noncomputable def wAr (rd:RAd) (t:TAd):TEd:=fun ρ M Q=>t ρ M fun ds M1=>rd ds M1 Q
theorem uH {i:Nat}:ad (ck i):=fun _ _ _ _ h ⟨d,e,q⟩=>⟨d,e,h _ _ q⟩
theorem rH {d:D}:ad (wC d):=fun _ _ _ _ h q=>h _ _ q
theorem dW {rd:R2d} {ta tb:TEd} (hr:aX rd) (ha:ad ta) (hb:ad tb):ad (wOp rd ta tb):=fun ρ M Q Q' h q =>
 ha _ _ _ _ (fun x M1 q1=>hb _ _ _ _ (fun y M2 q2=>hr _ _ _ _ _ h q2) q1) q
theorem xI {rd:R1d} {ta:TEd} (hr:pV rd) (ha:ad ta):ad (wUn rd ta):=fun ρ M Q Q' h q=>ha _ _ _ _ (fun x M1 q1=>hr _ _ _ _ h q1) q
theorem aw:bq bx:=fun _ _ _ _ h q=>h _ _ q
theorem ar {ta:TEd} {tr:TAd} (ha:ad ta) (hr:bq tr):bq (aK ta tr):=fun ρ M Q Q' h q =>
 ha _ _ _ _ (fun x M1 q1=>hr _ _ _ _ (fun xs M2 q2=>h _ _ q2) q1) q
theorem fT {rd:RAd} {t:TAd} (hr:aZ rd) (ht:bq t):ad (wAr rd t):=fun ρ M Q Q' h q=>ht _ _ _ _ (fun ds M1 q1=>hr _ _ _ _ h q1) q
section
variable {X:Cx} {a b:Expr} {ta tb:TEd} {pos:Pos}
theorem zV {i:Nat} {x:Str} (hN:X.N[i]? = some x) (hv:Vis X.env.scope x) (hd:(x == ("__debug__":Str)) = false) (hcd:(x == ("__classdict__":Str)) = false):PE X (.Name x pos) (lE X.K (ck i)):=by
 refine PE.imp (zj hN hv hd hcd) fun σ H Q h => ?_
 obtain ⟨ρ,M,rs,rm,d,e,q⟩:=h
 obtain ⟨v,hv,rd⟩:=rs.2 i d e
 exact ⟨v,hv,q v H Ext.refl rm rd⟩
theorem zW {i:Int} {j:Nat}:PE X (.Constant (.int i) j pos) (lE X.K (wC (.int i))) :=
 PE.imp zk fun σ H Q ⟨ρ,M,rs,rm,q⟩=>q _ H Ext.refl rm (RD.int_iff.mpr rfl)
theorem Bd {i:Bool} {j:Nat}:PE X (.Constant (.bool i) j pos) (lE X.K (wC (.bl i))) :=
 PE.imp AV fun σ H Q ⟨ρ,M,rs,rm,q⟩=>q _ H Ext.refl rm (RD.bl_iff.mpr rfl)
theorem fU {K:Frag} {rd:R2d} (hr:aX rd) (ma:ad ta) (mb:ad tb) (σ:St) (H:Hp) (Q:VK) (h:lE K (wOp rd ta tb) σ H Q):tOp (l2 K rd) (lE K ta) (lE K tb) σ H Q:=by
 obtain ⟨ρ,M,rs,rm,q⟩:=h
 refine ⟨ρ,M,rs,rm,ma _ _ _ _ (fun x M1 q1 v H1 x1 rm1 rd1 => ?_) q⟩
 refine ⟨ρ,M1,rs.mono (x1.stab rm),rm1,mb _ _ _ _ (fun y M2 q2 u H2 x2 rm2 rd2 => ?_) q1⟩
 exact ⟨x,y,M2,rm2,rd1.mono (x2.stab rm1),rd2,hr _ _ _ _ _ (fun d M' k=>k.ext (x1.trans x2)) q2⟩
theorem Be {op:Operator} {rd:R2d} (ho:OpR X (binaryOp op) (l2 X.K rd)) (hr:aX rd) (ma:ad ta) (mb:ad tb) (ha:PE X a (lE X.K ta)) (hb:PE X b (lE X.K tb)):PE X (.BinOp a op b pos) (lE X.K (wOp rd ta tb)) :=
 PE.imp (B2 ho ha hb) (fU hr ma mb)
theorem zX {op:CmpOp} {rd:R2d} (ho:OpR X (compareOp op) (l2 X.K rd)) (hr:aX rd) (ma:ad ta) (mb:ad tb) (ha:PE X a (lE X.K ta)) (hb:PE X b (lE X.K tb)) (hm:behindInMarks op b = false) :
 PE X (.Compare a [op] [b] pos) (lE X.K (wOp rd ta tb)):=PE.imp (xw ho ha hb hm) (fU hr ma mb)
noncomputable def gH (t:TEd):TTd:=fun ρ M Q=>t ρ M fun x M1 => ∃ k,x = .bl k /\ Q k M1
theorem uI {t:TEd} (h:ad t):aE (gH t):=fun ρ M Q Q' i q=>h _ _ _ _ (fun x M1 ⟨k,e,q1⟩=>⟨k,e,i _ _ q1⟩) q
theorem uJ {K:Frag} {t:TEd} (m:ad t) (σ:St) (H:Hp) (Q:Bool -> Hp -> Prop) (h:lT K (gH t) σ H Q):wn (lE K t) σ H Q:=by
 obtain ⟨ρ,M,rs,rm,q⟩:=h
 refine ⟨ρ,M,rs,rm,m _ _ _ _ (fun x M1 ⟨k,e,q1⟩ v H1 x1 rm1 rd1 => ?_) q⟩
 subst e
 exact ⟨k,RD.bl_iff.mp rd1,q1 H1 x1 rm1⟩
theorem zY {op:CmpOp} {rd:R2d} (ho:OpR X (compareOp op) (l2 X.K rd)) (hr:aX rd) (ma:ad ta) (mb:ad tb) (ha:PE X a (lE X.K ta)) (hb:PE X b (lE X.K tb)) (hm:behindInMarks op b = false) :
 PT X (.Compare a [op] [b] pos) (lT X.K (gH (wOp rd ta tb))) :=
 PT.imp (xx ho ha hb hm) fun σ H Q h=>by
  have h1:=uJ (dW hr ma mb) σ H Q h
  exact fU hr ma mb σ H _ h1
theorem Bf {op:UnaryOp} {rd:R1d} (ho:UnR X (unaryOp op) (l1 X.K rd)) (hr:pV rd) (ma:ad ta) (ha:PE X a (lE X.K ta)):PE X (.UnaryOp op a pos) (lE X.K (wUn rd ta)) :=
 PE.imp (B3 ho ha) fun σ H Q ⟨ρ,M,rs,rm,q⟩=>⟨ρ,M,rs,rm,ma _ _ _ _ (fun x M1 q1 v H1 x1 rm1 rd1=>⟨x,M1,rm1,rd1,hr _ _ _ _ (fun d M' k=>k.ext x1) q1⟩) q⟩
theorem Bg {rd:R2d} (ho:IxR X (l2 X.K rd)) (hr:aX rd) (ma:ad ta) (mb:ad tb) (ha:PE X a (lE X.K ta)) (hb:PE X b (lE X.K tb)) (hs:j7 b):PE X (.Subscript a b pos) (lE X.K (wOp rd ta tb)) :=
 PE.imp (B9 ho ha hb hs) (fU hr ma mb)
theorem dq:PA X [] (lA X.K bx):=PA.imp i6 fun σ H Q ⟨ρ,M,rs,rm,q⟩=>q _ H Ext.refl rm RDs.nil
theorem rJ {K:Frag} {tr:TAd} (ma:ad ta) (mr:bq tr) (σ:St) (H:Hp) (Q:List V -> Hp -> Prop) (h:lA K (aK ta tr) σ H Q):wo (lE K ta) (lA K tr) σ H Q:=by
 obtain ⟨ρ,M,rs,rm,q⟩:=h
 refine ⟨ρ,M,rs,rm,ma _ _ _ _ (fun x M1 q1 v H1 x1 rm1 rd1 => ?_) q⟩
 refine ⟨ρ,M1,rs.mono (x1.stab rm),rm1,mr _ _ _ _ (fun xs M2 q2 vs H2 x2 rm2 rd2 => ?_) q1⟩
 exact q2 (v :: vs) H2 (x1.trans x2) rm2 (RDs.cons (rd1.mono (x2.stab rm1)) rd2)
theorem bI {e:Expr} {es:List Expr} {tr:TAd} (ma:ad ta) (mr:bq tr) (ha:PE X e (lE X.K ta)) (hr:PA X es (lA X.K tr)) (hs:starEach (e :: es) X.env = (false,eval e X.env) :: starEach es X.env) :
 PA X (e :: es) (lA X.K (aK ta tr)):=PA.imp (cB ha hr hs) (rJ ma mr)
theorem bJ {K:Frag} {rd:RAd} {t:TAd} (hr:aZ rd) (mt:bq t) (σ:St) (H:Hp) (Q:VK) (h:lE K (wAr rd t) σ H Q):tCB (lR K rd) (lA K t) σ H Q:=by
 obtain ⟨ρ,M,rs,rm,q⟩:=h
 exact ⟨ρ,M,rs,rm,mt _ _ _ _ (fun ds M1 q1 vs H1 x1 rm1 rd1=>⟨ds,M1,rm1,rd1,hr _ _ _ _ (fun d M' k=>k.ext x1) q1⟩) q⟩
noncomputable def kQ:RAd:=fun ds M Q=>ds.length <= sizeLine /\ Q (.tup ds) M
noncomputable def kR:RAd:=fun ds M Q=>ds.length <= sizeLine /\ ∀ p,M p = none -> Q (.ref p) (aj M p (.lst ds))
theorem rK:aZ kQ:=fun _ _ _ _ h ⟨z,q⟩=>⟨z,h _ _ q⟩
theorem rL:aZ kR:=fun _ _ _ _ h ⟨z,q⟩=>⟨z,fun p n=>h _ _ (q p n)⟩
theorem de {K:Frag} {M:Mem} {H:Hp} {Q:VK} {ds:List D} {vs:List V} {p:Addr} (rm:RM K M H) (rd:RDs K H ds vs) (q:KE' K M H Q (.tup ds) M) (n:H p = none):Q (.ref p) (upd H p (.tup vs)):=by
 have x:Ext M H M (upd H p (.tup vs)):=Ext.new' n
 exact q (.ref p) _ x (rm.new n) (RD.tup_iff.mpr ⟨p,vs,rfl,av,rd.mono (x.stab rm)⟩)
theorem cC {K:Frag} {M:Mem} {H:Hp} {Q:VK} {ds:List D} {vs:List V} {p:Addr} (rm:RM K M H) (rd:RDs K H ds vs) (q:∀ p,M p = none -> KE' K M H Q (.ref p) (aj M p (.lst ds))) (n:H p = none):Q (.ref p) (upd H p (.lst vs)):=by
 have x:Ext M H (aj M p (.lst ds)) (upd H p (.lst vs)):=Ext.lay n
 have x0:Ext M H M (upd H p (.lst vs)):=Ext.new' n
 exact q p (rm.out n) (.ref p) _ x (rm.lay n ⟨vs,av,rd.mono (x0.stab rm)⟩) (RD.ref_iff.mpr rfl)
theorem zZ {es:List Expr} {t:TAd} {k:Nat} (mt:bq t) (h:PA X es (lA X.K t)):PE X (.Tuple es k pos) (lE X.K (wAr kQ t)) :=
 PE.imp (rh h) fun σ H Q ⟨ρ,M,rs,rm,q⟩=>⟨ρ,M,rs,rm,mt _ _ _ _ (fun ds M1 ⟨z,q1⟩ vs H1 x1 rm1 rd1=>⟨by rw [rd1.length];exact z,fun p n=>de rm1 rd1 (q1.ext x1) n⟩) q⟩
theorem A0 {es:List Expr} {t:TAd} (mt:bq t) (h:PA X es (lA X.K t)):PE X (.List es pos) (lE X.K (wAr kR t)) :=
 PE.imp (zK h) fun σ H Q ⟨ρ,M,rs,rm,q⟩=>⟨ρ,M,rs,rm,mt _ _ _ _ (fun ds M1 ⟨z,q1⟩ vs H1 x1 rm1 rd1=>⟨by rw [rd1.length];exact z,fun p n=>cC rm1 rd1 (fun p' n'=>(q1 p' n').ext x1) n⟩) q⟩
end
end
end Mi
end L2
namespace L2
open PySem PySem.Spec PyProof.Rows
namespace Mi
end Mi
end L2
namespace L2
open PySem PySem.Spec PyProof.Rows
section
theorem gI:fillsNumberSlot (.type "tuple") "mul" = pure false :=
 PyProof.Rows.fillsNumberSlot_seq (id := "tuple.__mul__") (r:=some (.builtin "tuple.__rmul__")) F.slot_tuple_mul.lookup (by decide +kernel) F.slot_tuple_rmul.lookup (by decide +kernel)
theorem kS:seqRepeat? (.type "tuple") = pure (some (.builtin "tuple.__mul__")):=by
 unfold seqRepeat?
 rw [PyProof.Rows.seqSlot_of (T := "tuple") (name := "__mul__") (id := "tuple.__mul__") F.slot_tuple_mul.lookup (by decide +kernel),PyProof.Rows.seqSlot_of (T := "tuple") (name := "__rmul__") (id := "tuple.__rmul__") F.slot_tuple_rmul.lookup (by decide +kernel)]
 rfl
theorem jc (a:Int) (t:Tok) (l:Addr) (items:Array Value) (n:Nat) (d:Option Addr) (sl:Array (Option Value)) :
 Meets (Builtin.«int.__rmul__» ⟨[.int a t, .ref l],[]⟩) (fun _ R s=>s.heap.get? l = some { cls := .type "tuple",dict:=d,data := .seq items n,slots:=sl } /\ R (.ok (.ret Value.notImplemented)) s) :=
 .of_wp fun prog w A R s h=>by obtain ⟨hp,g,d,tk,os⟩:=s;obtain ⟨hl,h⟩:=h;wp_walk;exact ⟨_,rfl,h⟩
open AutoSeq1 (wpAny_loadPart') in
theorem rM (l:Addr) (items:Array Value) (n:Nat) (dd:Option Addr) (sl:Array (Option Value)) (x:Int) (u:Tok) (h1 : -(2 ^ 63) <= x) (h2:x < 2 ^ 63) (hz:items.size * x.toNat <= sizeLine) :
 Meets (Builtin.«tuple.__mul__» ⟨[.ref l, .int x u],[]⟩) (fun _ R s=>s.heap.get? l = some { cls := .type "tuple",dict:=dd,data := .seq items n,slots:=sl } /\
  (if items.isEmpty || x == 1 then R (.ok (.ret (.ref l))) s else R (.ok (.ret (.ref s.heap.objs.size))) { s with heap:=s.heap.push { cls := .type "tuple",data := .seq ((List.replicate x.toNat items).foldl (· ++ ·) #[]) } })) :=
 .of_wp fun prog w A R s h=>by
  obtain ⟨hp,g,d,tk,os⟩:=s;obtain ⟨hl,h⟩:=h
  have f1:=AutoSeq1.idx_int
  have c0:(decide (x < -(2 ^ 63)) || decide (x ≥ 2 ^ 63)) = false:=by
   rw [decide_eq_false (by omega),decide_eq_false (by omega)];rfl
  wp_walk using wpAny_loadPart' hl
  refine wpAny_ite_false (decide_eq_false (by rw [c0];decide)) ?_
  dsimp only
  by_cases e1:(items.isEmpty || x == 1) = true
  ·rw [if_pos e1] at h
   wp_walk using wpAny_loadPart' hl
   exact ⟨_,rfl,h⟩
  ·rw [if_neg e1] at h
   wp_walk using wpAny_loadPart' hl
   simp only [Bool.or_eq_true,not_or] at e1
   by_cases e2:x <= 0
   ·have e3:(decide (x <= 0) || items.isEmpty) = true:=by rw [decide_eq_true e2];rfl
    rw [if_pos e3]
    have e4:x.toNat = 0:=by omega
    rw [e4] at h
    wp_walk
    exact ⟨_,rfl,h⟩
   ·have e3 : ¬ (decide (x <= 0) || items.isEmpty) = true:=by simp;exact ⟨by omega,by simpa using e1.1⟩
    rw [if_neg e3]
    have hx:((items.size:Nat):Int) * x = ((items.size * x.toNat:Nat):Int):=by
     rw [Int.natCast_mul,Int.toNat_of_nonneg (by omega)]
    have hs:sizeLine = 16777216:=sizeLine_eq
    have e5 : ¬ ((items.size:Nat):Int) * x > (2 ^ 63 - 1) / 8:=by rw [hx];omega
    rw [if_neg e5]
    have e6 : ¬ Builtin.Tuple.tupleTooMany (((items.size:Nat):Int) * x) = true:=by
     rw [hx];unfold Builtin.Tuple.tupleTooMany
     intro h6;have h7:=of_decide_eq_true h6;omega
    rw [if_neg e6]
    wp_walk
    have hsz:((List.replicate x.toNat items).foldl (· ++ ·) #[]).size <= sizeLine:=by
     have:∀ (k:Nat) (a:Array Value),((List.replicate k items).foldl (· ++ ·) a).size = a.size + items.size * k:=by
      intro k;induction k with
      | zero=>intro a;simp
      | succ k ih=>intro a;rw [List.replicate_succ,List.foldl_cons,ih,Array.size_append,Nat.mul_succ];omega
     rw [this];simpa using hz
    refine wpAny_ite_false (decide_eq_false (Nat.not_lt.mpr hsz)) ?_
    wp_walk
    exact ⟨_,rfl,h⟩
end
section
section
variable {X:Cx}
noncomputable def wD (K:Frag):R2:=fun x y H Q => ∃ l k xs,x = .ref l /\ y = .int k /\ SqT K H l xs /\ -(2 ^ 63) <= k /\ k < 2 ^ 63 /\ xs.length * k.toNat <= sizeLine /\
 ((xs = [] ∨ k = 1) -> Q (.ref l) H) /\ (¬ (xs = [] ∨ k = 1) -> ∀ p,H p = none -> Q (.ref p) (upd H p (.tup (List.replicate k.toNat xs).flatten)))
theorem xJ:OpR X (binaryOp .Mult) (wD X.K):=by
 intro pins s σ H x y v u Q I rx ry h
 obtain ⟨l,k,xs,rfl,rfl,hH,h1,h2,hz,q1,q2⟩:=h
 cases rx
 obtain ⟨t,rfl⟩:=ry
 obtain ⟨its,r,p1,_⟩:=I.tuple hH
 have hl:=r.length
 obtain ⟨⟨cls,dd,dat,sl⟩,e,hc,n,hd⟩:=p1
 dsimp only at hc hd
 subst hc hd
 have hlen:its.toArray.size * k.toNat <= sizeLine:=by rw [List.size_toArray, <- hl];exact hz
 have f0:∀ m:Nat,List.foldl (fun x1 x2=>x1 ++ x2) #[] (List.replicate m its.toArray) = (List.replicate m its).flatten.toArray:=fun m=>by
  have:=fo its m []
  rw [List.nil_append] at this
  exact this
 refine wpAny_binaryOp_repeat_ref (T := "tuple") (U := "int") (by decide) ⟨_,e,rfl⟩ (fun s'=>typeIs_int s' k t) gI F.fills_int_mul F.slot_int_rmul kS F.slot_int_index.lookup
  (call_meets F.slot_int_rmul (typeIs_int s k t) F.entry_int_rmul (F.args_int_rmul_2 _ _) (jc k t l its.toArray n dd sl)
    ⟨e,rfl,⟨_,e,rfl⟩,call_meets F.slot_tuple_mul ⟨_,e,rfl⟩ F.entry_tuple_mul (F.args_tuple_mul_2 _ _) (rM l its.toArray n dd sl k t h1 h2 hlen) ⟨e, ?_⟩⟩)
 have hi:(its.toArray.isEmpty || k == 1) = true ↔ (xs = [] ∨ k = 1):=by
  rw [<- r.nil_iff];simp
 split
 ·next c=>exact ⟨.ref l,H,I,rfl,q1 (hi.mp c)⟩
 ·next c =>
  rw [f0]
  refine ⟨.ref s.heap.objs.size,_,I.laid (t':=s.toks) (o := .tup (List.replicate k.toNat xs).flatten) (fun b ob q=>Heap.get?_push_of_some _ q) (Nat.le_refl _) ?_,rfl,q2 (fun z=>c (hi.mpr z)) _ (I.hok.fresh (Nat.le_refl _))⟩
  exact ⟨by rw [oh,Nat.mul_comm];exact hz,_,r.rep k.toNat,IsTup.new _ _⟩
end
end
section
section
variable {X:Cx}
theorem xK:OpR X (binaryOp .Add) (fun x y H Q => ∃ a b ys,x = .ref a /\ y = .ref b /\ SqT X.K H a [] /\ SqT X.K H b ys /\ Q (.ref b) H):=by
 intro pins s σ H x y v u Q I rx ry h
 obtain ⟨a,b,ys,rfl,rfl,ha,hb,q⟩:=h
 cases rx
 cases ry
 obtain ⟨its,r1,p1,_⟩:=I.tuple ha
 obtain ⟨its2,r2,p2,_⟩:=I.tuple hb
 have e0:its = []:=r1.nil_iff.mpr rfl
 obtain ⟨⟨cls,dd,data,sl⟩,ho,hc,n,hd⟩:=id p1
 obtain ⟨⟨cls2,dd2,data2,sl2⟩,ho2,hc2,n2,hd2⟩:=id p2
 simp only at hc hd hc2 hd2
 subst hc hd hc2 hd2
 exact concat_meets ⟨_,ho,rfl⟩ ⟨_,ho2,rfl⟩ noFill_tuple_add seq_tuple_add PySem.F.slot_tuple_add PySem.F.entry_tuple_add (PySem.F.args_tuple_add_2 _ _)
  (tuple_addW0 a b its.toArray its2.toArray n n2 dd dd2 sl sl2 (by simp [e0])) ⟨ho,ho2,⟨.ref b,H,I,rfl,q⟩⟩
end
end
end L2
namespace L2
namespace Mi
open PySem PySem.Spec PyProof.Rows
section
noncomputable def MulOk (i j:Int):Prop:=(-(2 ^ 64) < i /\ i < 2 ^ 64) ∨ (-(2 ^ 64) < j /\ j < 2 ^ 64) ∨ (Builtin.Int.intBits i <= 2 ^ 20 /\ Builtin.Int.intBits j <= 2 ^ 20)
theorem MulOk.ok {i j:Int} (h:MulOk i j):IntMulOk i j:=by
 rcases h with h | h | h
 ·exact IntMulOk.of_left (intBits_le_64 h.1 h.2)
 ·exact IntMulOk.of_right (intBits_le_64 h.1 h.2)
 ·exact IntMulOk.of_bits h.1 h.2
noncomputable def gJ:R2d
 | .int i, .int j,M,Q=>Q (.int (i + j)) M
 | .tup a, .tup b,M,Q=>(a ≠ [] ∨ True) /\ a.length + b.length <= sizeLine /\ Q (.tup (a ++ b)) M
 | .ref a, .ref b,M,Q => ∃ xs ys,M a = some (.lst xs) /\ M b = some (.lst ys) /\ xs.length + ys.length <= sizeLine /\ ∀ p,M p = none -> Q (.ref p) (aj M p (.lst (xs ++ ys)))
 | .str x, .str y,M,Q=>x.length + y.length <= sizeLine /\ Q (.str (x ++ y)) M
 | _,_,_,_=>False
noncomputable def jd:R2d
 | .int i, .int j,M,Q=>Q (.int (i - j)) M
 | _,_,_,_=>False
noncomputable def je:R2d
 | .int i, .int j,M,Q=>MulOk i j /\ Q (.int (i * j)) M
 | .ref a, .int k,M,Q => ∃ xs,M a = some (.lst xs) /\ -(2 ^ 63) <= k /\ k < 2 ^ 63 /\ xs.length * k.toNat <= sizeLine /\ ∀ p,M p = none -> Q (.ref p) (aj M p (.lst (List.replicate k.toNat xs).flatten))
 | .tup ds, .int k,M,Q => -(2 ^ 63) <= k /\ k < 2 ^ 63 /\ ds.length * k.toNat <= sizeLine /\ Q (.tup (List.replicate k.toNat ds).flatten) M
 | _,_,_,_=>False
noncomputable def kx:R2d
 | .int i, .int j,M,Q => 0 < j /\ j < 2 ^ 256 /\ Q (.int (i / j)) M
 | _,_,_,_=>False
noncomputable def pW:R2d
 | .int i, .int j,M,Q => 0 < j /\ Q (.int (i % j)) M
 | _,_,_,_=>False
noncomputable def pX:R2d
 | .int i, .int j,M,Q => 0 <= j /\ j <= 1000000 /\ i.natAbs < 2 ^ 64 /\ Q (.int (i ^ j.toNat)) M
 | _,_,_,_=>False
theorem uK:aX gJ:=by
 intro x y M Q Q' h q
 cases x <;> cases y <;> first
  | exact q.elim
  | exact h _ _ q
  | exact ⟨q.1,h _ _ q.2⟩
  | exact ⟨q.1,q.2.1,h _ _ q.2.2⟩
  | (obtain ⟨xs,ys,e1,e2,z,q⟩:=q;exact ⟨xs,ys,e1,e2,z,fun p n=>h _ _ (q p n)⟩)
theorem uL:aX jd:=by
 intro x y M Q Q' h q
 cases x <;> cases y <;> first | exact q.elim | exact h _ _ q
theorem uM:aX je:=by
 intro x y M Q Q' h q
 cases x <;> cases y <;> first
  | exact q.elim
  | exact ⟨q.1,h _ _ q.2⟩
  | exact ⟨q.1,q.2.1,q.2.2.1,h _ _ q.2.2.2⟩
  | (obtain ⟨xs,e1,z1,z2,z3,q⟩:=q;exact ⟨xs,e1,z1,z2,z3,fun p n=>h _ _ (q p n)⟩)
theorem rN:aX kx:=by
 intro x y M Q Q' h q
 cases x <;> cases y <;> first | exact q.elim | exact ⟨q.1,q.2.1,h _ _ q.2.2⟩
theorem uN:aX pW:=by
 intro x y M Q Q' h q
 cases x <;> cases y <;> first | exact q.elim | exact ⟨q.1,h _ _ q.2⟩
theorem uO:aX pX:=by
 intro x y M Q Q' h q
 cases x <;> cases y <;> first | exact q.elim | exact ⟨q.1,q.2.1,q.2.2.1,h _ _ q.2.2.2⟩
section
variable {X:Cx}
theorem OpR.of {f:Value -> Value -> Sem Value} {r r':R2} (h:OpR X f r) (i:∀ v u H Q,r' v u H Q -> r v u H Q):OpR X f r':=fun pins s σ H x y v u Q I rx ry q=>h pins s σ H x y v u Q I rx ry (i _ _ _ _ q)
theorem IxR.of {r r':R2} (h:IxR X r) (i:∀ v u H Q,r' v u H Q -> r v u H Q):IxR X r':=fun a b pins s σ H x y v u Q I rx ry q=>h a b pins s σ H x y v u Q I rx ry (i _ _ _ _ q)
theorem CallR.of {f:Value} {r r':List V -> Hp -> VK -> Prop} (h:CallR X f r) (i:∀ vs H Q,r' vs H Q -> r vs H Q):CallR X f r':=fun pins s σ H xs us Q I rx q=>h pins s σ H xs us Q I rx (i _ _ _ q)
theorem Bh {K:Frag} {M:Mem} {H:Hp} {Q:VK} {a b:List D} {v u:V} (rm:RM K M H) (rx:RD K H (.tup a) v) (ry:RD K H (.tup b) u) (q:gJ (.tup a) (.tup b) M (KE' K M H Q)):wq K v u H Q ∨ ∃ a b ys,v = .ref a /\ u = .ref b /\ SqT K H a [] /\ SqT K H b ys /\ Q (.ref b) H:=by
 obtain ⟨a',vs,rfl,ha,r1⟩:=RD.tup_iff.mp rx
 obtain ⟨b',us,rfl,hb,r2⟩:=RD.tup_iff.mp ry
 obtain ⟨_,z2,q⟩:=q
 have l1:=r1.length
 have l2:=r2.length
 by_cases z1:a = []
 ·subst z1
  have:vs = []:=RDs.nil_iff.mp r1
  subst this
  exact .inr ⟨a',b',us,rfl,rfl,SqT.of ha,SqT.of hb,q _ H Ext.refl rm ry⟩
 refine .inl ⟨a',b',vs,us,rfl,rfl,SqT.of ha,SqT.of hb,fun e=>z1 (List.length_eq_zero_iff.mp (by rw [<- l1,e];rfl)),by omega,fun e => ?_,fun _ p n=>de rm (r1.append r2) q n⟩
 have eb:b = []:=List.length_eq_zero_iff.mp (by rw [<- l2,e];rfl)
 subst eb
 rw [List.append_nil] at q
 exact q _ H Ext.refl rm rx
theorem uP:OpR X (binaryOp .Add) (l2 X.K gJ):=by
 refine OpR.of (op_add.or ((op_catT.or xK).or (op_cat.or pN))) fun v u H Q h => ?_
 obtain ⟨x,y,M,rm,rx,ry,q⟩:=h
 cases x <;> cases y <;> first
  | exact q.elim
  | (cases RD.int_iff.mp rx;cases RD.int_iff.mp ry;exact .inl ⟨_,_,rfl,rfl,q _ H Ext.refl rm (RD.int_iff.mpr rfl)⟩)
  | exact .inr (.inl (Bh rm rx ry q))
  | (cases RD.ref_iff.mp rx;cases RD.ref_iff.mp ry
     obtain ⟨xs,ys,e1,e2,z,q⟩:=q
     obtain ⟨vs,h1,r1⟩:=rm _ _ e1
     obtain ⟨us,h2,r2⟩:=rm _ _ e2
     have l1:=r1.length
     have l2:=r2.length
     refine .inr (.inr (.inl ⟨_,_,vs,us,rfl,rfl,h1,h2,by omega,fun p n=>cC rm (r1.append r2) q n⟩)))
  | (cases RD.str_iff.mp rx;cases RD.str_iff.mp ry;exact .inr (.inr (.inr ⟨_,_,rfl,rfl,q.1,q.2 _ H Ext.refl rm (RD.str_iff.mpr rfl)⟩)))
theorem uQ:OpR X (binaryOp .Sub) (l2 X.K jd):=by
 refine OpR.of zE fun v u H Q h => ?_
 obtain ⟨x,y,M,rm,rx,ry,q⟩:=h
 cases x <;> cases y <;> first
  | exact q.elim
  | (cases RD.int_iff.mp rx;cases RD.int_iff.mp ry;exact ⟨_,_,rfl,rfl,q _ H Ext.refl rm (RD.int_iff.mpr rfl)⟩)
theorem op_mul_i:OpR X (binaryOp .Mult) (rI MulOk fun i j => .int (i * j)):=opI fun _ _ _ _ _ _ _ hc q=>mul_int q hc.ok
theorem Bi {K:Frag} {M:Mem} {H:Hp} {Q:VK} {a:List D} {k:Int} {v u:V} (rm:RM K M H) (rx:RD K H (.tup a) v) (ry:RD K H (.int k) u) (q:je (.tup a) (.int k) M (KE' K M H Q)):wD K v u H Q:=by
 obtain ⟨a',vs,rfl,ha,r1⟩:=RD.tup_iff.mp rx
 cases RD.int_iff.mp ry
 obtain ⟨z1,z2,z3,q⟩:=q
 have l1:=r1.length
 refine ⟨a',k,vs,rfl,rfl,SqT.of ha,z1,z2,by rw [l1];exact z3,fun e => ?_,fun _ p n=>de rm (r1.rep _) q n⟩
 have ea:(List.replicate k.toNat a).flatten = a:=by
  rcases e with e | e
  ·have:a = []:=List.length_eq_zero_iff.mp (by rw [<- l1,e];rfl)
   subst this;simp
  ·subst e;simp
 rw [ea] at q
 exact q _ H Ext.refl rm rx
theorem uR:OpR X (binaryOp .Mult) (l2 X.K je):=by
 refine OpR.of (op_mul_i.or (op_rep.or xJ)) fun v u H Q h => ?_
 obtain ⟨x,y,M,rm,rx,ry,q⟩:=h
 cases x <;> cases y <;> first
  | exact q.elim
  | (cases RD.int_iff.mp rx;cases RD.int_iff.mp ry;exact .inl ⟨_,_,rfl,rfl,q.1,q.2 _ H Ext.refl rm (RD.int_iff.mpr rfl)⟩)
  | (cases RD.ref_iff.mp rx;cases RD.int_iff.mp ry
     obtain ⟨xs,e1,z1,z2,z3,q⟩:=q
     obtain ⟨vs,h1,r1⟩:=rm _ _ e1
     have l1:=r1.length
     exact .inr (.inl ⟨_,_,vs,rfl,rfl,h1,z1,z2,by rw [l1];exact z3,fun p n=>cC rm (r1.rep _) q n⟩))
  | exact .inr (.inr (Bi rm rx ry q))
theorem uS:OpR X (binaryOp .FloorDiv) (rI (fun _ j => 0 < j /\ j < 2 ^ 256) fun i j => .int (i / j)):=L2.opI fun i j _ _ _ _ _ hc q=>by
 have h1:(0:Int) < j:=hc.1
 have h2:j < 2 ^ 256:=hc.2
 have h3:j.natAbs.log2 < 256:=(Nat.log2_lt (by omega)).mpr (by omega)
 exact floordiv_int (by omega) (by rw [Int.fdiv_eq_ediv_of_nonneg i (by omega)];exact q) (.inl (PyProof.noPylong_of_log2 (by omega)))
theorem rO:OpR X (binaryOp .FloorDiv) (l2 X.K kx):=by
 refine OpR.of uS fun v u H Q h => ?_
 obtain ⟨x,y,M,rm,rx,ry,q⟩:=h
 cases x <;> cases y <;> first
  | exact q.elim
  | (cases RD.int_iff.mp rx;cases RD.int_iff.mp ry;exact ⟨_,_,rfl,rfl,⟨q.1,q.2.1⟩,q.2.2 _ H Ext.refl rm (RD.int_iff.mpr rfl)⟩)
theorem uT:OpR X (binaryOp .Mod) (l2 X.K pW):=by
 refine OpR.of zF fun v u H Q h => ?_
 obtain ⟨x,y,M,rm,rx,ry,q⟩:=h
 cases x <;> cases y <;> first
  | exact q.elim
  | (cases RD.int_iff.mp rx;cases RD.int_iff.mp ry;exact ⟨_,_,rfl,rfl,q.1,q.2 _ H Ext.refl rm (RD.int_iff.mpr rfl)⟩)
theorem uU:OpR X (binaryOp .Pow) (l2 X.K pX):=by
 refine OpR.of zG fun v u H Q h => ?_
 obtain ⟨x,y,M,rm,rx,ry,q⟩:=h
 cases x <;> cases y <;> first
  | exact q.elim
  | (cases RD.int_iff.mp rx;cases RD.int_iff.mp ry;exact ⟨_,_,rfl,rfl,⟨q.1,q.2.1,q.2.2.1⟩,q.2.2.2 _ H Ext.refl rm (RD.int_iff.mpr rfl)⟩)
noncomputable def pY:R1d
 | .int i,M,Q=>Q (.int (-i)) M
 | _,_,_=>False
theorem kT:pV pY:=by
 intro x M Q Q' h q
 cases x <;> first | exact q.elim | exact h _ _ q
theorem UnR.of {f:Value -> Sem Value} {r r':V -> Hp -> VK -> Prop} (h:UnR X f r) (i:∀ v H Q,r' v H Q -> r v H Q):UnR X f r':=fun pins s σ H x v Q I rx q=>h pins s σ H x v Q I rx (i _ _ _ q)
theorem uV:UnR X (unaryOp .USub) (l1 X.K pY):=by
 refine UnR.of zH fun v H Q h => ?_
 obtain ⟨x,M,rm,rx,q⟩:=h
 cases x <;> first
  | exact q.elim
  | (cases RD.int_iff.mp rx;exact ⟨_,rfl,q _ H Ext.refl rm (RD.int_iff.mpr rfl)⟩)
noncomputable def aF {α β:Type} (f : α -> Option β):List α -> Option (List β)
 | [] => some []
 | x :: xs=>(f x).bind fun y=>(aF f xs).map (y :: ·)
noncomputable def rb:Nat -> Mem -> D -> Option PyData
 | _,_, .non=>some .none
 | _,_, .bl b=>some (.bool b)
 | _,_, .int i=>some (.int i)
 | _,_, .str x=>if PyData.strOk x = true then some (.str x) else none
 | n + 1,M, .tup ds=>(aF (rb n M) ds).map PyData.tuple
 | n + 1,M, .con ds=>(aF (rb n M) ds).map PyData.list
 | n + 1,M, .ref a=>match M a with
   | some (.lst ds)=>(aF (rb n M) ds).map PyData.list
   | _=>none
 | 0,_, .tup _=>none
 | 0,_, .con _=>none
 | 0,_, .ref _=>none
theorem cX {n:Nat} {M:Mem} (ih:∀ d p,rb n M d = some p -> p.depth <= n /\ p.canLay0 = true):∀ {ds:List D} {ps:List PyData},aF (rb n M) ds = some ps -> PyData.depthAll ps <= n /\ PyData.canLayAll0 ps = true
 | [],ps,h=>by
  simp [aF] at h;subst h
  exact ⟨Nat.zero_le _,rfl⟩
 | d :: ds,ps,h=>by
   simp only [aF] at h
   cases e1:rb n M d with
   | none=>rw [e1] at h;cases h
   | some p =>
     rw [e1] at h
     cases e2:aF (rb n M) ds with
     | none=>simp [e2] at h
     | some qs =>
       simp [e2] at h
       subst h
       obtain ⟨a1,a2⟩:=ih d p e1
       obtain ⟨b1,b2⟩:=cX ih e2
       refine ⟨?_, ?_⟩
       ·show max p.depth (PyData.depthAll qs) <= n
        omega
       ·show (p.canLay0 && PyData.canLayAll0 qs) = true
        rw [a2,b2];rfl
theorem cm {M:Mem}:∀ (n:Nat) (d:D) (p:PyData),rb n M d = some p -> p.depth <= n /\ p.canLay0 = true
 | n, .non,p,h=>by simp [rb] at h;subst h;exact ⟨Nat.zero_le _,rfl⟩
 | n, .bl b,p,h=>by simp [rb] at h;subst h;exact ⟨Nat.zero_le _,rfl⟩
 | n, .int b,p,h=>by simp [rb] at h;subst h;exact ⟨Nat.zero_le _,rfl⟩
 | n, .str x,p,h=>by
   simp [rb] at h
   obtain ⟨h1,h2⟩:=h
   subst h2;exact ⟨Nat.zero_le _,h1⟩
 | 0, .tup _,p,h=>by simp [rb] at h
 | 0, .con _,p,h=>by simp [rb] at h
 | 0, .ref _,p,h=>by simp [rb] at h
 | n + 1, .tup ds,p,h=>by
   simp only [rb] at h
   cases e:aF (rb n M) ds with
   | none=>rw [e] at h;cases h
   | some ps =>
     rw [e] at h;cases h
     obtain ⟨a,b⟩:=cX (cm n) e
     exact ⟨Nat.succ_le_succ a,b⟩
 | n + 1, .con ds,p,h=>by
   simp only [rb] at h
   cases e:aF (rb n M) ds with
   | none=>rw [e] at h;cases h
   | some ps =>
     rw [e] at h;cases h
     obtain ⟨a,b⟩:=cX (cm n) e
     exact ⟨Nat.succ_le_succ a,b⟩
 | n + 1, .ref a,p,h=>by
   simp only [rb] at h
   cases e0:M a with
   | none=>rw [e0] at h;cases h
   | some o =>
     rw [e0] at h
     cases o with
     | dct _ _=>cases h
     | fdc _=>cases h
     | lst ds =>
       simp only at h
       cases e:aF (rb n M) ds with
       | none=>rw [e] at h;cases h
       | some ps =>
         rw [e] at h;cases h
         obtain ⟨a,b⟩:=cX (cm n) e
         exact ⟨Nat.succ_le_succ a,b⟩
theorem cY {K:Frag} {H:Hp} {n:Nat} {M:Mem} {h:Heap} (ih:∀ d p v u,rb n M d = some p -> RD K H d v -> RelV v u -> ∃ as,Reads h u p as) :
 ∀ {ds:List D} {ps:List PyData} {vs:List V} {us:List Value},aF (rb n M) ds = some ps -> RDs K H ds vs -> Vals vs us -> ∃ as,ReadsAll h us ps as
 | [],ps,vs,us,hm,r,rv=>by
  simp [aF] at hm;subst hm
  rw [RDs.nil_iff.mp r] at rv
  cases rv
  exact ⟨_, .nil⟩
 | d :: ds,ps,vs,us,hm,r,rv=>by
   obtain ⟨v,vr,rfl,r1,r2⟩:=RDs.cons_iff.mp r
   cases rv with
   | cons q1 q2 =>
     simp only [aF] at hm
     cases e1:rb n M d with
     | none=>rw [e1] at hm;cases hm
     | some p =>
       rw [e1] at hm
       cases e2:aF (rb n M) ds with
       | none=>simp [e2] at hm
       | some qs =>
         simp [e2] at hm
         subst hm
         obtain ⟨as,ra⟩:=ih d p v _ e1 r1 q1
         obtain ⟨bs,rbs⟩:=cY ih e2 r2 q2
         exact ⟨_, .cons ra rbs⟩
theorem bR {pins:List (Addr × Obj)} {σ:St} {H:Hp} {s:Shared} {M:Mem} (I:Inv X pins σ H s) (rm:RM X.K M H):∀ (n:Nat) (d:D) (p:PyData) (v:V) (u:Value),rb n M d = some p -> RD X.K H d v -> RelV v u -> ∃ as,Reads s.heap u p as
 | n, .non,p,v,u,h,r,q=>by simp [rb] at h;subst h;cases RD.non_iff.mp r;cases q;exact ⟨_, .none⟩
 | n, .bl b,p,v,u,h,r,q=>by simp [rb] at h;subst h;cases RD.bl_iff.mp r;cases q;exact ⟨_, .bool b⟩
 | n, .int b,p,v,u,h,r,q=>by simp [rb] at h;subst h;cases RD.int_iff.mp r;obtain ⟨t,rfl⟩:=q;exact ⟨_, .int b t⟩
 | n, .str x,p,v,u,h,r,q=>by
   simp [rb] at h
   obtain ⟨_,h2⟩:=h
   subst h2;cases RD.str_iff.mp r;obtain ⟨t,rfl⟩:=q;exact ⟨_, .str x t⟩
 | 0, .tup _,p,_,_,h,_,_=>by simp [rb] at h
 | 0, .con _,p,_,_,h,_,_=>by simp [rb] at h
 | 0, .ref _,p,_,_,h,_,_=>by simp [rb] at h
 | n + 1, .tup ds,p,v,u,h,r,q=>by
   simp only [rb] at h
   cases e:aF (rb n M) ds with
   | none=>rw [e] at h;cases h
   | some ps =>
     rw [e] at h;cases h
     obtain ⟨a,vs,rfl,ha,rs⟩:=RD.tup_iff.mp r
     cases q
     obtain ⟨its,rv,⟨o,ho,hc,k,hd⟩,_⟩:=I.tuple (SqT.of ha)
     obtain ⟨as,ra⟩:=cY (bR I rm n) e rs rv
     exact ⟨_, .tuple ho hc hd (by simpa using ra)⟩
 | n + 1, .con ds,p,v,u,h,r,q=>by
   simp only [rb] at h
   cases e:aF (rb n M) ds with
   | none=>rw [e] at h;cases h
   | some ps =>
     rw [e] at h;cases h
     obtain ⟨a,vs,rfl,ha,rs⟩:=RD.con_iff.mp r
     cases q
     obtain ⟨its,rv,⟨o,k,ho,hc,_,hd⟩,_⟩:=I.list ha.sq
     obtain ⟨as,ra⟩:=cY (bR I rm n) e rs rv
     exact ⟨_, .list ho hc hd (by simpa using ra)⟩
 | n + 1, .ref a,p,v,u,h,r,q=>by
   simp only [rb] at h
   cases e0:M a with
   | none=>rw [e0] at h;cases h
   | some o =>
     rw [e0] at h
     cases o with
     | dct _ _=>cases h
     | fdc _=>cases h
     | lst ds =>
       simp only at h
       cases e:aF (rb n M) ds with
       | none=>rw [e] at h;cases h
       | some ps =>
         rw [e] at h;cases h
         cases RD.ref_iff.mp r
         cases q
         obtain ⟨vs,ha,rs⟩:=rm _ _ e0
         obtain ⟨its,rv,⟨o,k,ho,hc,_,hd⟩,_⟩:=I.list (SqL.of ha)
         obtain ⟨as,ra⟩:=cY (bR I rm n) e rs rv
         exact ⟨_, .list ho hc hd (by simpa using ra)⟩
noncomputable def wEq:R2d:=fun x y M Q => ∃ p q,rb 16 M x = some p /\ rb 16 M y = some q /\ Q (.bl (PyData.eqv p q)) M
noncomputable def wNe:R2d:=fun x y M Q => ∃ p q,rb 16 M x = some p /\ rb 16 M y = some q /\ Q (.bl (!PyData.eqv p q)) M
theorem xL:aX wEq:=fun _ _ _ _ _ h ⟨p,q,a,b,c⟩=>⟨p,q,a,b,h _ _ c⟩
theorem xM:aX wNe:=fun _ _ _ _ _ h ⟨p,q,a,b,c⟩=>⟨p,q,a,b,h _ _ c⟩
theorem xN (hu:X.A.units + 16 < cLine):OpR X (compareOp .Eq) (l2 X.K wEq):=by
 intro pins s σ H x y v u Q I rx ry h
 obtain ⟨d,e,M,rm,rd,re,p,q,hp,hq,k⟩:=h
 obtain ⟨as,ra⟩:=bR I rm _ _ _ _ _ hp rd rx
 obtain ⟨bs,rb'⟩:=bR I rm _ _ _ _ _ hq re ry
 obtain ⟨p1,p2⟩:=cm _ _ _ hp
 obtain ⟨q1,q2⟩:=cm _ _ _ hq
 exact SeqAt.compareEq_reads ra rb' p2 q2 (by omega) ⟨.bl _,H,I,rfl,k _ H Ext.refl rm (RD.bl_iff.mpr rfl)⟩
theorem xO (hu:X.A.units + 16 < cLine):OpR X (compareOp .NotEq) (l2 X.K wNe):=by
 intro pins s σ H x y v u Q I rx ry h
 obtain ⟨d,e,M,rm,rd,re,p,q,hp,hq,k⟩:=h
 obtain ⟨as,ra⟩:=bR I rm _ _ _ _ _ hp rd rx
 obtain ⟨bs,rb'⟩:=bR I rm _ _ _ _ _ hq re ry
 obtain ⟨p1,p2⟩:=cm _ _ _ hp
 obtain ⟨q1,q2⟩:=cm _ _ _ hq
 exact SeqAt.compareNe_reads ra rb' p2 q2 (by omega) ⟨.bl _,H,I,rfl,k _ H Ext.refl rm (RD.bl_iff.mpr rfl)⟩
noncomputable def wLt:R2d
 | .int i, .int j,M,Q=>Q (.bl (decide (i < j))) M
 | _,_,_,_=>False
noncomputable def wLe:R2d
 | .int i, .int j,M,Q=>Q (.bl (decide (i <= j))) M
 | _,_,_,_=>False
noncomputable def wGt:R2d
 | .int i, .int j,M,Q=>Q (.bl (decide (j < i))) M
 | _,_,_,_=>False
noncomputable def wGe:R2d
 | .int i, .int j,M,Q=>Q (.bl (decide (j <= i))) M
 | _,_,_,_=>False
theorem xP:aX wLt:=by
 intro x y M Q Q' h q
 cases x <;> cases y <;> first | exact q.elim | exact h _ _ q
theorem xQ:aX wGt:=by
 intro x y M Q Q' h q
 cases x <;> cases y <;> first | exact q.elim | exact h _ _ q
theorem xR:aX wGe:=by
 intro x y M Q Q' h q
 cases x <;> cases y <;> first | exact q.elim | exact h _ _ q
theorem xS:OpR X (compareOp .Lt) (l2 X.K wLt):=by
 refine OpR.of B4 fun v u H Q h => ?_
 obtain ⟨x,y,M,rm,rx,ry,q⟩:=h
 cases x <;> cases y <;> first
  | exact q.elim
  | (cases RD.int_iff.mp rx;cases RD.int_iff.mp ry;exact ⟨_,_,rfl,rfl,q _ H Ext.refl rm (RD.bl_iff.mpr rfl)⟩)
theorem xT:OpR X (compareOp .Gt) (l2 X.K wGt):=by
 refine OpR.of B5 fun v u H Q h => ?_
 obtain ⟨x,y,M,rm,rx,ry,q⟩:=h
 cases x <;> cases y <;> first
  | exact q.elim
  | (cases RD.int_iff.mp rx;cases RD.int_iff.mp ry;exact ⟨_,_,rfl,rfl,q _ H Ext.refl rm (RD.bl_iff.mpr rfl)⟩)
theorem xU:OpR X (compareOp .GtE) (l2 X.K wGe):=by
 refine OpR.of B6 fun v u H Q h => ?_
 obtain ⟨x,y,M,rm,rx,ry,q⟩:=h
 cases x <;> cases y <;> first
  | exact q.elim
  | (cases RD.int_iff.mp rx;cases RD.int_iff.mp ry;exact ⟨_,_,rfl,rfl,q _ H Ext.refl rm (RD.bl_iff.mpr rfl)⟩)
end
end
section
noncomputable def wIx:R2d:=fun x y M Q=>match x with
 | .tup ds => ∃ i d,y = .int i /\ atI ds i = some d /\ Q d M
 | .con ds => ∃ i d,y = .int i /\ atI ds i = some d /\ Q d M
 | .ref a=>(∃ ds i d,M a = some (.lst ds) /\ y = .int i /\ atI ds i = some d /\ Q d M) ∨ (∃ t kvs d,M a = some (.dct t kvs) /\ fS t y = true /\ dget kvs y = some d /\ Q d M) ∨ ∃ kvs d,M a = some (.fdc kvs) /\ bZ y = true /\ dget kvs y = some d /\ Q d M
 | _=>False
theorem oj:aX wIx:=by
 intro x y M Q Q' h q
 cases x with
 | tup ds=>obtain ⟨i,d,e,e2,q⟩:=q;exact ⟨i,d,e,e2,h _ _ q⟩
 | con ds=>obtain ⟨i,d,e,e2,q⟩:=q;exact ⟨i,d,e,e2,h _ _ q⟩
 | ref a =>
   rcases q with ⟨ds,i,d,e1,e2,e3,q⟩ | ⟨t,kvs,d,e1,e2,e3,q⟩ | ⟨kvs,d,e1,e2,e3,q⟩
   ·exact .inl ⟨ds,i,d,e1,e2,e3,h _ _ q⟩
   ·exact .inr (.inl ⟨t,kvs,d,e1,e2,e3,h _ _ q⟩)
   ·exact .inr (.inr ⟨kvs,d,e1,e2,e3,h _ _ q⟩)
 | _=>exact q.elim
theorem kU {K:Frag} {H:Hp} {ds:List D} {vs:List V} {i:Int} {d:D} (r:RDs K H ds vs) (e:atI ds i = some d):∃ v,atI vs i = some v /\ RD K H d v:=by
 unfold atI at e ⊢
 rw [r.length]
 cases q:ixN ds.length i with
 | none=>rw [q] at e;cases e
 | some j =>
   rw [q] at e
   exact r.get e
theorem jf {K:Frag} {H:Hp} {k:D} {q:Key} {v:V} (r:RKey k q) (h:RD K H k v):v = kV q:=by
 cases k <;> first
  | exact r.elim
  | (cases (show q = _ from r);first | exact RD.int_iff.mp h | exact RD.str_iff.mp h)
theorem eO {K:Frag} {H:Hp}:∀ {ds:List D} {ks:List Key} {vs:List V},Paired RKey ds ks -> RDs K H ds vs -> vs = ks.map kV
 | _,_,vs, .nil,h=>by rw [RDs.nil_iff.mp h];rfl
 | _,_,vs, .cons r t,h=>by
   obtain ⟨v,vr,rfl,h1,h2⟩:=RDs.cons_iff.mp h
   rw [jf r h1,eO t h2];rfl
theorem RKey.inj {d e:D} {k:Key} (a:RKey d k) (b:RKey e k):d = e:=by
 cases d <;> first
  | exact a.elim
  | (cases e <;> first | exact b.elim | (cases (show k = _ from a);injection (show _ = _ from b) with z;rw [z]) | (cases (show k = _ from a);cases (show _ = _ from b)))
theorem RKeysP.inj:∀ {d e:List D} {k:List Key},Paired RKey d k -> Paired RKey e k -> d = e
 | _,_,_, .nil, .nil=>rfl
 | _,_,_, .cons r t, .cons r' t'=>by rw [r.inj r',RKeysP.inj t t']
theorem RKeys.inj {d e:D} {k:List Key} (a:RKeys d k) (b:RKeys e k):d = e:=by
 cases d <;> first
  | exact a.elim
  | (cases e <;> first | exact b.elim | exact congrArg D.tup (RKeysP.inj a b))
theorem RKey.fun {d:D} {k k':Key} (a:RKey d k) (b:RKey d k'):k = k':=by
 cases d <;> first
  | exact a.elim
  | (cases (show k = _ from a);cases (show k' = _ from b);rfl)
theorem RKeysP.fun:∀ {d:List D} {k k':List Key},Paired RKey d k -> Paired RKey d k' -> k = k'
 | _,_,_, .nil, .nil=>rfl
 | _,_,_, .cons r t, .cons r' t'=>by rw [r.fun r',RKeysP.fun t t']
theorem RKeys.fun {d:D} {k k':List Key} (a:RKeys d k) (b:RKeys d k'):k = k':=by
 cases d <;> first
  | exact a.elim
  | exact RKeysP.fun a b
section
variable {κ:Type} [DecidableEq κ] {K:Frag} {H:Hp} {RK:D -> κ -> Prop} (inj:∀ {d e:D} {k : κ},RK d k -> RK e k -> d = e) (fn:∀ {d:D} {k k' : κ},RK d k -> RK d k' -> k = k')
include inj fn
theorem eP {k:D} {q : κ} (hk:RK k q):∀ {kvs:List (D × D)} {ps:List (κ × V)},Paired (fun p r=>RK p.1 r.1 /\ RD K H p.2 r.2) kvs ps ->
 (∀ d,dget kvs k = some d -> ∃ v,bN ps q = some v /\ RD K H d v) /\ (dget kvs k = none -> bN ps q = none)
 | _,_, .nil=>⟨fun d e=>by simp [dget] at e,fun _=>rfl⟩
 | _,_, .cons (a:=p) (b:=r) (l₂ := ps) hr t=>by
   obtain ⟨ih1,ih2⟩:=eP hk t
   by_cases e:p.1 = k
   ·have e':r.1 = q:=by
     have h1:=hr.1
     rw [e] at h1
     exact fn h1 hk
    refine ⟨fun d he => ?_,fun he => ?_⟩
    ·simp [dget,List.find?_cons,e] at he
     subst he
     exact ⟨r.2,eL e',hr.2⟩
    ·simp [dget,List.find?_cons,e] at he
   ·have e' : ¬ r.1 = q:=fun z=>e (by
     have h1:=hr.1
     rw [z] at h1
     exact inj h1 hk)
    have eq1:∀ l:List (D × D),dget (p :: l) k = dget l k:=fun l=>by simp [dget,List.find?_cons,e]
    have eq2:bN (r :: ps) q = bN ps q:=eM e'
    refine ⟨fun d he => ?_,fun he => ?_⟩
    ·rw [eq1] at he
     rw [eq2]
     exact ih1 d he
    ·rw [eq1] at he
     rw [eq2]
     exact ih2 he
end
section
variable {X:Cx}
theorem rP {K:Frag} {H:Hp} {a:Addr} {ps:List (List Key × V)} {kvs:List (D × D)} {k:D} {v:V} (hp:Rd H a (.dT ps)) (pr:Paired (fun (p:D × D) (q:List Key × V)=>RKeys p.1 q.1 /\ RD K H p.2 q.2) kvs ps) (ok:bZ k = true) (rk:RD K H k v) :
 ∃ o,DGet H a v o /\ (∀ d,dget kvs k = some d -> ∃ w,o = some w /\ RD K H d w) /\ (dget kvs k = none -> o = none):=by
 obtain ⟨q,hq⟩:=ja ok
 obtain ⟨g1,g2⟩:=eP (RK:=RKeys) RKeys.inj RKeys.fun hq pr
 refine ⟨bN ps q, ?_,g1,g2⟩
 cases k <;> first
  | exact hq.elim
  | (obtain ⟨b,us,rfl,hb,ru⟩:=RD.tup_iff.mp rk
     rw [eO hq ru] at hb
     exact .inr ⟨ps,q,b,hp,rfl,hb,rfl⟩)
theorem on {K:Frag} {M:Mem} {H:Hp} {a:Addr} {t:Bool} {kvs:List (D × D)} {k:D} {v:V} (rm:RM K M H) (e:M a = some (.dct t kvs)) (ok:fS t k = true) (rk:RD K H k v) :
 ∃ o,DGet H a v o /\ (∀ d,dget kvs k = some d -> ∃ w,o = some w /\ RD K H d w) /\ (dget kvs k = none -> o = none):=by
 have ro:=rm a _ e
 cases t with
 | false =>
   obtain ⟨ps,hp,pr⟩:=ro
   obtain ⟨q,hq⟩:=kP (show eN k = true from ok)
   obtain ⟨g1,g2⟩:=eP (RK:=RKey) RKey.inj RKey.fun hq pr
   refine ⟨bN ps q, ?_,g1,g2⟩
   rw [jf hq rk]
   exact DGet.k hp
 | true =>
   obtain ⟨ps,hp,pr⟩:=ro
   exact rP (.inl hp) pr ok rk
theorem xV (hu:X.A.units + 1 < cLine):IxR X (fun x y H Q => ∃ a v,x = .ref a /\ DGet H a y (some v) /\ Q v H):=by
 intro value slice pins s σ H x y v u Q I rx ry h hs
 obtain ⟨a,w,rfl,g,q⟩:=h
 cases rx
 have hd:IsD H a:=by
  rcases g with ⟨kvs,k,e,_⟩ | ⟨kvs,k,b,e,_⟩
  ·exact .inl ⟨kvs,e⟩
  ·exact .inr ⟨kvs,e⟩
 obtain ⟨ht,_⟩:=ic I hd
 exact tail_any ht PySem.F.slot_dict_getitem.lookup (rC hu I g ry fun w' s' I' r'=>⟨w,H,I',r',q⟩) hs
theorem C6 (hu:X.A.units + 1 < cLine):IxR X (l2 X.K wIx):=by
 refine IxR.of (ix_list.or (ix_tup.or (xV hu))) fun v u H Q h => ?_
 obtain ⟨x,y,M,rm,rx,ry,q⟩:=h
 cases x with
 | tup ds =>
   obtain ⟨i,d,rfl,e,q⟩:=q
   obtain ⟨a,vs,rfl,ha,rs⟩:=RD.tup_iff.mp rx
   cases RD.int_iff.mp ry
   obtain ⟨w,hw,rw'⟩:=kU rs e
   exact .inr (.inl ⟨a,vs,i,w,rfl,rfl,SqT.of ha,hw,q w H Ext.refl rm rw'⟩)
 | con ds =>
   obtain ⟨i,d,rfl,e,q⟩:=q
   obtain ⟨a,vs,rfl,ha,rs⟩:=RD.con_iff.mp rx
   cases RD.int_iff.mp ry
   obtain ⟨w,hw,rw'⟩:=kU rs e
   exact .inl ⟨a,vs,i,w,rfl,rfl,ha.sq,hw,q w H Ext.refl rm rw'⟩
 | ref a =>
   cases RD.ref_iff.mp rx
   rcases q with ⟨ds,i,d,e1,rfl,e3,q⟩ | ⟨t,kvs,d,e1,e2,e3,q⟩ | ⟨kvs,d,e1,e2,e3,q⟩
   ·cases RD.int_iff.mp ry
    obtain ⟨vs,ha,rs⟩:=rm _ _ e1
    obtain ⟨w,hw,rw'⟩:=kU rs e3
    exact .inl ⟨a,vs,i,w,rfl,rfl,SqL.of ha,hw,q w H Ext.refl rm rw'⟩
   ·obtain ⟨o,g,g1,_⟩:=on rm e1 e2 ry
    obtain ⟨w,rfl,rw'⟩:=g1 d e3
    exact .inr (.inr ⟨a,w,rfl,g,q w H Ext.refl rm rw'⟩)
   ·obtain ⟨ob,ps,hp,pr⟩:=rm _ _ e1
    obtain ⟨o,g,g1,_⟩:=rP (.inr ⟨ob,hp⟩) pr e2 ry
    obtain ⟨w,rfl,rw'⟩:=g1 d e3
    exact .inr (.inr ⟨a,w,rfl,g,q w H Ext.refl rm rw'⟩)
 | _=>exact q.elim
noncomputable def gK (M:Mem):D -> Option Nat
 | .tup ds=>some ds.length
 | .con ds=>some ds.length
 | .ref a=>match M a with
  | some (.lst ds)=>some ds.length
  | _=>none
 | _=>none
noncomputable def eQ:RAd:=fun xs M Q => ∃ x n,xs = [x] /\ gK M x = some n /\ Q (.int n) M
theorem kW:aZ eQ:=fun _ _ _ _ h ⟨x,n,e,l,q⟩=>⟨x,n,e,l,h _ _ q⟩
theorem RDs.one {K:Frag} {H:Hp} {d:D} {vs:List V} (h:RDs K H [d] vs):∃ v,vs = [v] /\ RD K H d v:=by
 obtain ⟨v,r,rfl,h1,h2⟩:=RDs.cons_iff.mp h
 rw [RDs.nil_iff.mp h2]
 exact ⟨v,rfl,h1⟩
theorem RDs.two {K:Frag} {H:Hp} {d e:D} {vs:List V} (h:RDs K H [d,e] vs):∃ v u,vs = [v,u] /\ RD K H d v /\ RD K H e u:=by
 obtain ⟨v,r,rfl,h1,h2⟩:=RDs.cons_iff.mp h
 obtain ⟨u,rfl,h3⟩:=RDs.one h2
 exact ⟨v,u,rfl,h1,h3⟩
theorem pZ:CallR X (.builtin "len") (lR X.K eQ):=by
 refine CallR.of uk fun vs H Q h => ?_
 obtain ⟨ds,M,rm,rs,x,n,rfl,l,q⟩:=h
 obtain ⟨v,rfl,r⟩:=rs.one
 refine ⟨v,n,rfl, ?_,q _ H Ext.refl rm (RD.int_iff.mpr rfl)⟩
 cases x with
 | tup ds =>
   cases l
   obtain ⟨a,us,rfl,ha,ru⟩:=RD.tup_iff.mp r
   exact .inr ⟨us,SqT.of ha,ru.length.symm⟩
 | con ds =>
   cases l
   obtain ⟨a,us,rfl,ha,ru⟩:=RD.con_iff.mp r
   exact .inl ⟨us,ha.sq,ru.length.symm⟩
 | ref a =>
   cases RD.ref_iff.mp r
   simp only [gK] at l
   cases e:M a with
   | none=>rw [e] at l;cases l
   | some o =>
     rw [e] at l
     cases o with
     | dct _ _=>cases l
     | fdc _=>cases l
     | lst ds =>
       cases l
       obtain ⟨us,ha,ru⟩:=rm _ _ e
       exact .inl ⟨us,SqL.of ha,ru.length.symm⟩
 | _=>cases l
noncomputable def kX:RAd:=fun xs M Q => ∃ i,xs = [.int i] /\ Q (.int (if i < 0 then -i else i)) M
noncomputable def ky:RAd:=fun xs M Q => ∃ i j,xs = [.int i, .int j] /\ Q (.int (if j < i then j else i)) M
noncomputable def kY:RAd:=fun xs M Q=>(∃ i,xs = [.int i] /\ Q (.int i) M) ∨ ∃ k,xs = [.bl k] /\ Q (.int (if k then 1 else 0)) M
theorem kZ:aZ kX:=fun _ _ _ _ h ⟨i,e,q⟩=>⟨i,e,h _ _ q⟩
theorem jM:aZ ky:=fun _ _ _ _ h ⟨i,j,e,q⟩=>⟨i,j,e,h _ _ q⟩
theorem lc:aZ kY:=fun _ _ _ _ h q=>q.elim (fun ⟨i,e,q⟩ => .inl ⟨i,e,h _ _ q⟩) fun ⟨i,e,q⟩ => .inr ⟨i,e,h _ _ q⟩
theorem q0:CallR X (.builtin "abs") (lR X.K kX):=by
 refine CallR.of uj fun vs H Q h => ?_
 obtain ⟨ds,M,rm,rs,i,rfl,q⟩:=h
 obtain ⟨v,rfl,r⟩:=rs.one
 cases RD.int_iff.mp r
 exact ⟨i,rfl,q _ H Ext.refl rm (RD.int_iff.mpr rfl)⟩
theorem nH (hc:X.calm = true):CallR X (.builtin "min") (lR X.K ky):=by
 refine CallR.of (r8 hc) fun vs H Q h => ?_
 obtain ⟨ds,M,rm,rs,i,j,rfl,q⟩:=h
 obtain ⟨v,u,rfl,r1,r2⟩:=rs.two
 cases RD.int_iff.mp r1
 cases RD.int_iff.mp r2
 exact ⟨i,j,rfl,q _ H Ext.refl rm (RD.int_iff.mpr rfl)⟩
theorem q8:CallR X (.type "int") (lR X.K kY):=by
 refine CallR.of r9 fun vs H Q h => ?_
 obtain ⟨ds,M,rm,rs,⟨i,rfl,q⟩ | ⟨i,rfl,q⟩⟩:=h
 ·obtain ⟨v,rfl,r⟩:=rs.one
  cases RD.int_iff.mp r
  exact .inl ⟨i,rfl,q _ H Ext.refl rm (RD.int_iff.mpr rfl)⟩
 ·obtain ⟨v,rfl,r⟩:=rs.one
  cases RD.bl_iff.mp r
  exact .inr ⟨i,rfl,q _ H Ext.refl rm (RD.int_iff.mpr rfl)⟩
noncomputable def ax (M:Mem):D -> Option (List D)
 | .tup ds=>some ds
 | .con ds=>some ds
 | .ref a=>match M a with
  | some (.lst ds)=>some ds
  | _=>none
 | _=>none
theorem rQ {K:Frag} {M:Mem} {H:Hp} {x:D} {ds:List D} {v:V} (rm:RM K M H) (r:RD K H x v) (e:ax M x = some ds):∃ p vs,v = .ref p /\ (SqL K H p vs ∨ SqT K H p vs) /\ RDs K H ds vs:=by
 cases x with
 | tup es =>
   cases e
   obtain ⟨a,us,rfl,ha,ru⟩:=RD.tup_iff.mp r
   exact ⟨a,us,rfl, .inr (SqT.of ha),ru⟩
 | con es =>
   cases e
   obtain ⟨a,us,rfl,ha,ru⟩:=RD.con_iff.mp r
   exact ⟨a,us,rfl, .inl ha.sq,ru⟩
 | ref a =>
   cases RD.ref_iff.mp r
   simp only [ax] at e
   cases e0:M a with
   | none=>rw [e0] at e;cases e
   | some o =>
     rw [e0] at e
     cases o with
     | dct _ _=>cases e
     | fdc _=>cases e
     | lst es =>
       cases e
       obtain ⟨us,ha,ru⟩:=rm _ _ e0
       exact ⟨a,us,rfl, .inl (SqL.of ha),ru⟩
 | _=>cases e
noncomputable def q9:RAd:=fun xs M Q => ∃ x ds,xs = [x] /\ ax M x = some ds /\ ∀ p,M p = none -> Q (.ref p) (aj M p (.lst ds))
noncomputable def lf:RAd:=fun xs M Q => ∃ x ds,xs = [x] /\ ax M x = some ds /\ Q (.tup ds) M
theorem jN:aZ q9:=fun _ _ _ _ h ⟨x,ds,e,l,q⟩=>⟨x,ds,e,l,fun p n=>h _ _ (q p n)⟩
theorem io:aZ lf:=fun _ _ _ _ h ⟨x,ds,e,l,q⟩=>⟨x,ds,e,l,h _ _ q⟩
theorem nI:CallR X (.type "list") (lR X.K q9):=by
 refine CallR.of kG fun vs H Q h => ?_
 obtain ⟨ds,M,rm,rs,x,es,rfl,l,q⟩:=h
 obtain ⟨v,rfl,r⟩:=rs.one
 obtain ⟨p,us,rfl,sq,ru⟩:=rQ rm r l
 exact ⟨p,us,rfl,sq,fun l' n=>cC rm ru q n⟩
theorem lg:CallR X (.type "tuple") (lR X.K lf):=by
 refine CallR.of km fun vs H Q h => ?_
 obtain ⟨ds,M,rm,rs,x,es,rfl,l,q⟩:=h
 obtain ⟨v,rfl,r⟩:=rs.one
 cases x with
 | tup ds' =>
   cases l
   obtain ⟨a,us,rfl,ha,ru⟩:=RD.tup_iff.mp r
   exact ⟨a,us,rfl, .inr ⟨SqT.of ha,q _ H Ext.refl rm r⟩⟩
 | con ds' =>
   cases l
   obtain ⟨a,us,rfl,ha,ru⟩:=RD.con_iff.mp r
   exact ⟨a,us,rfl, .inl ⟨ha.sq,fun l' n=>de rm ru q n⟩⟩
 | ref a =>
   cases RD.ref_iff.mp r
   simp only [ax] at l
   cases e0:M a with
   | none=>rw [e0] at l;cases l
   | some o =>
     rw [e0] at l
     cases o with
     | dct _ _=>cases l
     | fdc _=>cases l
     | lst es' =>
       cases l
       obtain ⟨us,ha,ru⟩:=rm _ _ e0
       exact ⟨a,us,rfl, .inl ⟨SqL.of ha,fun l' n=>de rm ru q n⟩⟩
 | _=>cases l
end
end
section
section
variable {X:Cx}
noncomputable def uW (M:Mem):D -> Option Bool
 | .non=>some false
 | .bl b=>some b
 | .int i=>some (i != 0)
 | .tup ds=>some (!ds.isEmpty)
 | .con ds=>some (!ds.isEmpty)
 | .ref a=>match M a with
  | some (.lst ds)=>some (!ds.isEmpty)
  | _=>none
 | _=>none
noncomputable def lh (t:TEd):TTd:=fun ρ M Q=>t ρ M fun x M1 => ∃ b,uW M1 x = some b /\ Q b M1
theorem uX {t:TEd} (h:ad t):aE (lh t):=fun ρ M Q Q' i q=>h _ _ _ _ (fun x M1 ⟨k,e,q1⟩=>⟨k,e,i _ _ q1⟩) q
theorem A1 {K:Frag} {M:Mem} {H:Hp} {x:D} {b:Bool} {v:V} (rm:RM K M H) (r:RD K H x v) (e:uW M x = some b):uh K v H b:=by
 have emp:∀ {ds:List D} {vs:List V},RDs K H ds vs -> (!ds.isEmpty) = !vs.isEmpty:=fun {ds vs} h=>by
  have l:=h.length
  cases ds <;> cases vs <;> first | rfl | (simp at l)
 cases x with
 | non=>cases e;cases RD.non_iff.mp r;rfl
 | bl k=>cases e;cases RD.bl_iff.mp r;rfl
 | int i=>cases e;cases RD.int_iff.mp r;rfl
 | tup ds =>
   cases e
   obtain ⟨a,vs,rfl,ha,rs⟩:=RD.tup_iff.mp r
   exact .inr (.inl ⟨vs,SqT.of ha,emp rs⟩)
 | con ds =>
   cases e
   obtain ⟨a,vs,rfl,ha,rs⟩:=RD.con_iff.mp r
   exact .inl ⟨vs,ha.sq,emp rs⟩
 | ref a =>
   cases RD.ref_iff.mp r
   simp only [uW] at e
   cases e0:M a with
   | none=>rw [e0] at e;cases e
   | some o =>
     rw [e0] at e
     cases o with
     | dct _ _=>cases e
     | fdc _=>cases e
     | lst ds =>
       cases e
       obtain ⟨vs,ha,rs⟩:=rm _ _ e0
       exact .inl ⟨vs,SqL.of ha,emp rs⟩
 | str _=>cases e
variable {a b:Expr} {ta tb:TEd} {pos:Pos}
theorem A2 (m:ad ta) (ha:PE X a (lE X.K ta)) (he:∀ whole,isTrue a X.env whole = (do let v <- whole;standAt a.pos;holding [v] (truthy v))):PT X a (lT X.K (lh ta)):=by
 refine PT.imp (ui ha he) fun σ H Q h => ?_
 obtain ⟨ρ,M,rs,rm,q⟩:=h
 exact ⟨ρ,M,rs,rm,m _ _ _ _ (fun x M1 ⟨k,e,q1⟩ v H1 x1 rm1 rd1=>⟨k,A1 rm1 rd1 e,q1 H1 x1 rm1⟩) q⟩
noncomputable def iq (t:TTd):TTd:=fun ρ M Q=>t ρ M fun c M1=>Q (!c) M1
theorem rR {t:TTd} (h:aE t):aE (iq t):=fun ρ M Q Q' i q=>h _ _ _ _ (fun c M1 q1=>i _ _ q1) q
theorem A3 {tA:TTd} (m:aE tA) (ha:PT X a (lT X.K tA)):PT X (.UnaryOp .Not a pos) (lT X.K (iq tA)):=by
 refine PT.imp (zo ha) fun σ H Q h => ?_
 obtain ⟨ρ,M,rs,rm,q⟩:=h
 exact ⟨ρ,M,rs,rm,m _ _ _ _ (fun c M1 q1=>q1) q⟩
noncomputable def ir (t u:TTd):TTd:=fun ρ M Q=>t ρ M fun c M1=>if c = true then u ρ M1 Q else Q false M1
noncomputable def lj (t u:TTd):TTd:=fun ρ M Q=>t ρ M fun c M1=>if c = true then Q true M1 else u ρ M1 Q
theorem rS {t u:TTd} (h:aE t) (k:aE u):aE (ir t u):=fun ρ M Q Q' i q=>h _ _ _ _ (fun c M1 q1=>by
 cases c with
 | true=>rw [if_pos rfl] at q1 ⊢;exact k _ _ _ _ i q1
 | false=>rw [if_neg Bool.false_ne_true] at q1 ⊢;exact i _ _ q1) q
theorem uY {t u:TTd} (h:aE t) (k:aE u):aE (lj t u):=fun ρ M Q Q' i q=>h _ _ _ _ (fun c M1 q1=>by
 cases c with
 | true=>rw [if_pos rfl] at q1 ⊢;exact i _ _ q1
 | false=>rw [if_neg Bool.false_ne_true] at q1 ⊢;exact k _ _ _ _ i q1) q
theorem xW {tA:TTd} (ha:PT X a (lT X.K tA)):PW X (.BoolOp .And [a] pos) (lT X.K tA):=xq ha
theorem A4 {tA:TTd} (ha:PT X a (lT X.K tA)):PW X (.BoolOp .Or [a] pos) (lT X.K tA):=zm ha
theorem A5 {tA tB:TTd} {rest:List Expr} (mA:aE tA) (mB:aE tB) (ha:PT X a (lT X.K tA)) (hb:PW X (.BoolOp .And (b :: rest) pos) (lT X.K tB)):PW X (.BoolOp .And (a :: b :: rest) pos) (lT X.K (ir tA tB)):=by
 refine PW.imp (zn ha hb) fun σ H Q h => ?_
 obtain ⟨ρ,M,rs,rm,q⟩:=h
 refine ⟨ρ,M,rs,rm,mA _ _ _ _ (fun c M1 q1 H1 x1 rm1 => ?_) q⟩
 cases c with
 | true=>rw [if_pos rfl] at q1 ⊢;exact ⟨ρ,M1,rs.mono (x1.stab rm),rm1,mB _ _ _ _ (fun d M2 k=>k.ext x1) q1⟩
 | false=>rw [if_neg Bool.false_ne_true] at q1 ⊢;exact q1 H1 x1 rm1
theorem Bj {tA tB:TTd} {rest:List Expr} (mA:aE tA) (mB:aE tB) (ha:PT X a (lT X.K tA)) (hb:PW X (.BoolOp .Or (b :: rest) pos) (lT X.K tB)):PW X (.BoolOp .Or (a :: b :: rest) pos) (lT X.K (lj tA tB)):=by
 refine PW.imp (AW ha hb) fun σ H Q h => ?_
 obtain ⟨ρ,M,rs,rm,q⟩:=h
 refine ⟨ρ,M,rs,rm,mA _ _ _ _ (fun c M1 q1 H1 x1 rm1 => ?_) q⟩
 cases c with
 | true=>rw [if_pos rfl] at q1 ⊢;exact q1 H1 x1 rm1
 | false=>rw [if_neg Bool.false_ne_true] at q1 ⊢;exact ⟨ρ,M1,rs.mono (x1.stab rm),rm1,mB _ _ _ _ (fun d M2 k=>k.ext x1) q1⟩
noncomputable def iu (ta tb:TEd):TEd:=fun ρ M Q=>ta ρ M fun x M1 => ∃ c,x = .bl c /\ if c = true then tb ρ M1 Q else Q (.bl false) M1
noncomputable def A6 (ta tb:TEd):TEd:=fun ρ M Q=>ta ρ M fun x M1 => ∃ c,x = .bl c /\ if c = true then Q (.bl true) M1 else tb ρ M1 Q
noncomputable def iw (ta:TEd):TEd:=fun ρ M Q=>ta ρ M fun x M1 => ∃ c,x = .bl c /\ Q (.bl (!c)) M1
theorem rT (h:ad ta) (k:ad tb):ad (iu ta tb):=fun ρ M Q Q' i q=>h _ _ _ _ (fun x M1 ⟨c,e,q1⟩=>⟨c,e,by
 cases c with
 | true=>rw [if_pos rfl] at q1 ⊢;exact k _ _ _ _ i q1
 | false=>rw [if_neg Bool.false_ne_true] at q1 ⊢;exact i _ _ q1⟩) q
theorem rV (h:ad ta):ad (iw ta):=fun ρ M Q Q' i q=>h _ _ _ _ (fun x M1 ⟨c,e,q1⟩=>⟨c,e,i _ _ q1⟩) q
theorem A7 {op:BoolOp} {t:TEd} (h:PE X a (lE X.K t)):PE X (.BoolOp op [a] pos) (lE X.K t):=zp h
theorem A8 {rest:List Expr} (ma:ad ta) (mb:ad tb) (ha:PE X a (lE X.K ta)) (hb:PE X (.BoolOp .And (b :: rest) pos) (lE X.K tb)):PE X (.BoolOp .And (a :: b :: rest) pos) (lE X.K (iu ta tb)):=by
 refine PE.imp (zq ha hb) fun σ H Q h => ?_
 obtain ⟨ρ,M,rs,rm,q⟩:=h
 refine ⟨ρ,M,rs,rm,ma _ _ _ _ (fun x M1 ⟨c,e,q1⟩ v H1 x1 rm1 rd1 => ?_) q⟩
 subst e
 refine ⟨c,RD.bl_iff.mp rd1, ?_⟩
 cases c with
 | true=>rw [if_pos rfl] at q1 ⊢;exact ⟨ρ,M1,rs.mono (x1.stab rm),rm1,mb _ _ _ _ (fun d M2 k=>k.ext x1) q1⟩
 | false=>rw [if_neg Bool.false_ne_true] at q1 ⊢;exact q1 _ H1 x1 rm1 (RD.bl_iff.mpr rfl)
theorem A9 (ma:ad ta) (ha:PE X a (lE X.K ta)):PE X (.UnaryOp .Not a pos) (lE X.K (iw ta)):=by
 refine PE.imp (zr ha) fun σ H Q h => ?_
 obtain ⟨ρ,M,rs,rm,q⟩:=h
 refine ⟨ρ,M,rs,rm,ma _ _ _ _ (fun x M1 ⟨c,e,q1⟩ v H1 x1 rm1 rd1 => ?_) q⟩
 subst e
 exact ⟨c,RD.bl_iff.mp rd1,q1 _ H1 x1 rm1 (RD.bl_iff.mpr rfl)⟩
noncomputable def wIf (t:TTd) (ta tb:TEd):TEd:=fun ρ M Q=>t ρ M fun c M1=>if c = true then ta ρ M1 Q else tb ρ M1 Q
theorem xX {t:TTd} (h:aE t) (ha:ad ta) (hb:ad tb):ad (wIf t ta tb):=fun ρ M Q Q' i q=>h _ _ _ _ (fun c M1 q1=>by
 cases c with
 | true=>rw [if_pos rfl] at q1 ⊢;exact ha _ _ _ _ i q1
 | false=>rw [if_neg Bool.false_ne_true] at q1 ⊢;exact hb _ _ _ _ i q1) q
theorem Bk {c:Expr} {t:TTd} (mt:aE t) (ma:ad ta) (mb:ad tb) (hc:PT X c (lT X.K t)) (ha:PE X a (lE X.K ta)) (hb:PE X b (lE X.K tb)):PE X (.IfExp c a b pos) (lE X.K (wIf t ta tb)):=by
 refine PE.imp (u9 hc ha hb) fun σ H Q h => ?_
 obtain ⟨ρ,M,rs,rm,q⟩:=h
 refine ⟨ρ,M,rs,rm,mt _ _ _ _ (fun x M1 q1 H1 x1 rm1 => ?_) q⟩
 cases x with
 | true=>rw [if_pos rfl] at q1 ⊢;exact ⟨ρ,M1,rs.mono (x1.stab rm),rm1,ma _ _ _ _ (fun d M2 k=>k.ext x1) q1⟩
 | false=>rw [if_neg Bool.false_ne_true] at q1 ⊢;exact ⟨ρ,M1,rs.mono (x1.stab rm),rm1,mb _ _ _ _ (fun d M2 k=>k.ext x1) q1⟩
noncomputable def gL (xs:List D) (lo hi:Option Int):List D:=(xs.drop (HT.sIx xs.length 0 lo)).take (HT.sIx xs.length xs.length hi - HT.sIx xs.length 0 lo)
theorem ll {K:Frag} {H:Hp} {ds:List D} {vs:List V} (r:RDs K H ds vs) (lo hi:Option Int):RDs K H (gL ds lo hi) (fk vs lo hi):=by
 unfold gL fk
 rw [r.length]
 exact (r.drop _).take _
noncomputable abbrev TOd:=au -> Mem -> (Option Int -> Mem -> Prop) -> Prop
noncomputable def eR (T:TOd):Prop := ∀ ρ M Q Q',(∀ d M',Q d M' -> Q' d M') -> T ρ M Q -> T ρ M Q'
noncomputable def dX:TOd:=fun _ M Q=>Q none M
noncomputable def iy (t:TEd):TOd:=fun ρ M Q=>t ρ M fun x M1 => ∃ i,x = .int i /\ Q (some i) M1
theorem nJ:eR dX:=fun _ _ _ _ h q=>h _ _ q
theorem rW (h:ad ta):eR (iy ta):=fun ρ M Q Q' i q=>h _ _ _ _ (fun x M1 ⟨c,e,q1⟩=>⟨c,e,i _ _ q1⟩) q
noncomputable def lO (K:Frag) (T:TOd):TO:=fun σ H Q => ∃ ρ M,RS K H σ ρ /\ RM K M H /\ T ρ M (fun o M' => ∀ H',Ext M H M' H' -> RM K M' H' -> Q o H')
theorem xY:PO X none (lO X.K dX):=fun pins s σ H Q I h=>by
 obtain ⟨ρ,M,rs,rm,q⟩:=h
 exact xC pins s σ H Q I (q H Ext.refl rm)
theorem xZ {e:Expr} (m:ad ta) (h:PE X e (lE X.K ta)):PO X (some e) (lO X.K (iy ta)):=fun pins s σ H Q I hq=>by
 obtain ⟨ρ,M,rs,rm,q⟩:=hq
 refine xD h pins s σ H Q I ⟨ρ,M,rs,rm,m _ _ _ _ (fun x M1 ⟨i,e,q1⟩ v H1 x1 rm1 rd1 => ?_) q⟩
 subst e
 exact ⟨i,RD.int_iff.mp rd1,q1 H1 x1 rm1⟩
noncomputable def dr:D -> Option Int -> Option Int -> Mem -> QD -> Prop:=fun x lo hi M Q=>match x with
 | .tup ds=>Q (.tup (gL ds lo hi)) M
 | .ref a => ∃ ds,M a = some (.lst ds) /\ ∀ p,M p = none -> Q (.ref p) (aj M p (.lst (gL ds lo hi)))
 | .con ds => ∀ p,M p = none -> Q (.ref p) (aj M p (.lst (gL ds lo hi)))
 | _=>False
noncomputable def wSl (te:TEd) (tl th:TOd):TEd:=fun ρ M Q=>te ρ M fun x M1=>tl ρ M1 fun l M2=>th ρ M2 fun u M3=>dr x l u M3 Q
theorem qa {x:D} {lo hi:Option Int} {M:Mem} {Q Q':QD} (h:∀ d M',Q d M' -> Q' d M') (q:dr x lo hi M Q):dr x lo hi M Q':=by
 cases x with
 | tup ds=>exact h _ _ q
 | ref a=>obtain ⟨ds,e,q⟩:=q;exact ⟨ds,e,fun p n=>h _ _ (q p n)⟩
 | con ds=>exact fun p n=>h _ _ (q p n)
 | _=>exact q.elim
theorem y4 {tl th:TOd} (m:ad ta) (ml:eR tl) (mh:eR th):ad (wSl ta tl th):=fun ρ M Q Q' i q =>
 m _ _ _ _ (fun x M1 q1=>ml _ _ _ _ (fun l M2 q2=>mh _ _ _ _ (fun u M3 q3=>qa i q3) q2) q1) q
theorem Bl {e:Expr} {lo hi:Option Expr} {tl th:TOd} {p2:Pos} (m:ad ta) (ml:eR tl) (mh:eR th) (he:PE X e (lE X.K ta)) (hl:PO X lo (lO X.K tl)) (hu:PO X hi (lO X.K th)) :
 PE X (.Subscript e (.Slice lo hi none p2) pos) (lE X.K (wSl ta tl th)):=by
 refine PE.imp (uq (sl_tup.or (sl_list.or uz)) he hl hu) fun σ H Q h => ?_
 obtain ⟨ρ,M,rs,rm,q⟩:=h
 refine ⟨ρ,M,rs,rm,m _ _ _ _ (fun x M1 q1 v H1 x1 rm1 rd1 => ?_) q⟩
 refine ⟨ρ,M1,rs.mono (x1.stab rm),rm1,ml _ _ _ _ (fun l M2 q2 H2 x2 rm2 => ?_) q1⟩
 refine ⟨ρ,M2,(rs.mono (x1.stab rm)).mono (x2.stab rm1),rm2,mh _ _ _ _ (fun u M3 q3 H3 x3 rm3 => ?_) q2⟩
 have x13:=x1.trans (x2.trans x3)
 have rd3:=(rd1.mono (x2.stab rm1)).mono (x3.stab rm2)
 cases x with
 | tup ds =>
   obtain ⟨a,vs,rfl,ha,r⟩:=RD.tup_iff.mp rd3
   by_cases hw:HT.sIx vs.length 0 l = 0 /\ HT.sIx vs.length vs.length u = vs.length
   ·refine .inr (.inr ⟨a,vs,rfl,SqT.of ha,hw, ?_⟩)
    have e:gL ds l u = ds:=by
     unfold gL
     rw [<- r.length,hw.1,hw.2,r.length];simp
    simp only [dr] at q3
    rw [e] at q3
    exact q3.ext x13 _ H3 Ext.refl rm3 rd3
   ·simp only [dr] at q3
    exact .inl ⟨a,vs,rfl,SqT.of ha,hw,fun p n=>de rm3 (ll r l u) (q3.ext x13) n⟩
 | ref a =>
   cases RD.ref_iff.mp rd3
   obtain ⟨ds,e,q3⟩:=q3
   obtain ⟨vs,ha,r⟩:=rm3 _ _ e
   exact .inr (.inl ⟨a,vs,rfl,SqL.of ha,fun p n=>cC rm3 (ll r l u) (fun p' n'=>(q3 p' n').ext x13) n⟩)
 | con ds =>
   obtain ⟨a,vs,rfl,ha,r⟩:=RD.con_iff.mp rd3
   exact .inr (.inl ⟨a,vs,rfl,ha.sq,fun p n=>cC rm3 (ll r l u) (fun p' n'=>(q3 p' n').ext x13) n⟩)
 | _=>exact q3.elim
end
end
section
section
variable {X:Cx}
noncomputable def tyN (M:Mem):D -> Option String
 | .non=>some "NoneType"
 | .bl _=>some "bool"
 | .int _=>some "int"
 | .str _=>some "str"
 | .tup _=>some "tuple"
 | .ref a=>match M a with
  | some (.lst _)=>some "list"
  | some (.dct _ _)=>some "dict"
  | _=>none
 | .con _=>none
noncomputable def du (T t:String):Bool:=t == T || (t == "bool" && T == "int")
theorem wF {K:Frag} {M:Mem} {H:Hp} {x:D} {t:String} {v:V} (rm:RM K M H) (r:RD K H x v) (e:tyN M x = some t):bX K H v (.type t):=by
 cases x with
 | non=>cases e;cases RD.non_iff.mp r;exact .non
 | bl k=>cases e;cases RD.bl_iff.mp r;exact .bl k
 | int i=>cases e;cases RD.int_iff.mp r;exact .int i
 | str i=>cases e;cases RD.str_iff.mp r;exact .str i
 | tup ds =>
   cases e
   obtain ⟨a,vs,rfl,ha,rs⟩:=RD.tup_iff.mp r
   exact .tup ha
 | con ds=>cases e
 | ref a =>
   cases RD.ref_iff.mp r
   simp only [tyN] at e
   cases e0:M a with
   | none=>rw [e0] at e;cases e
   | some o =>
     rw [e0] at e
     cases o with
     | lst ds =>
       cases e
       obtain ⟨vs,ha,rs⟩:=rm _ _ e0
       exact .lst ha
     | dct t kvs =>
       cases e
       have ro:=rm _ _ e0
       cases t with
       | false=>obtain ⟨ps,ha,_⟩:=ro;exact .dK ha
       | true=>obtain ⟨ps,ha,_⟩:=ro;exact .dT ha
     | fdc kvs=>cases e
noncomputable def cq:List String := ["NoneType", "bool", "int", "str", "tuple", "list", "dict"]
theorem jg (K:Frag):∀ T ∈ ["bool", "int", "str", "tuple", "list", "dict"], ∀ t ∈ cq,PySem.W.kitOne K (.type t) (.type T) = some (du T t):=by
 intro T hT t ht
 simp only [cq,List.mem_cons,List.not_mem_nil,or_false] at hT ht
 rcases hT with rfl | rfl | rfl | rfl | rfl | rfl <;> rcases ht with rfl | rfl | rfl | rfl | rfl | rfl | rfl <;> rfl
noncomputable def iz (T:String) (ta:TEd):TEd:=fun ρ M Q=>ta ρ M fun x M1 => ∃ t,tyN M1 x = some t /\ Q (.bl (du T t)) M1
theorem rX {T:String} {ta:TEd} (h:ad ta):ad (iz T ta):=fun ρ M Q Q' i q=>h _ _ _ _ (fun x M1 ⟨t,e,q1⟩=>⟨t,e,i _ _ q1⟩) q
theorem oo {M:Mem} {x:D} {t:String} (e:tyN M x = some t):t ∈ cq:=by
 cases x with
 | ref a =>
   simp only [tyN] at e
   cases e0:M a with
   | none=>rw [e0] at e;cases e
   | some o=>rw [e0] at e;cases o <;> cases e <;> simp [cq]
 | con _=>cases e
 | _=>cases e;simp [cq]
theorem rY (T:String) (hT:T ∈ ["bool", "int", "str", "tuple", "list", "dict"]):CallR X (.builtin "isinstance") (fun vs H Q => ∃ v t,vs = [v, .ty T] /\ bX X.K H v (.type t) /\ t ∈ cq /\ Q (.bl (du T t)) H):=by
 intro pins s σ H xs us Q I r h
 obtain ⟨v,t,rfl,ty,ht,q⟩:=h
 obtain ⟨u,c,rfl,ru,rc⟩:=kr r
 cases rc
 exact rg I ru ty (jg X.K T hT t ht) fun tk=>⟨.bl _,H,I.tok tk,rfl,q⟩
theorem y7 {e:Expr} {ta:TEd} {T:String} {y:Str} {p p2 pos:Pos} (hT:T ∈ ["bool", "int", "str", "tuple", "list", "dict"]) (m:ad ta) (he:PE X e (lE X.K ta)) (hg:Gl X "isinstance") (hm:X.mg "isinstance" = none)
 (hg2:Gl X y) (hm2:X.mg y = none) (hv:bootBuiltins y = some (.type T)) (hn:y ≠ "__name__") (hdb:(y == ("__debug__":Str)) = false)
 (hs:starEach [e, .Name y p2] X.env = (false,eval e X.env) :: starEach [.Name y p2] X.env) (hpl:(backTo pos (starEach [.Name y p2] X.env)).any (·.1) = false) :
 PE X (.Call (.Name "isinstance" p) [e, .Name y p2] [] pos) (lE X.K (iz T ta)):=by
 have h2:PE X (.Name y p2) (tC (.ty T)):=j6 hg2 hm2 hv rfl hn hdb
 refine PE.imp (ci (rY T hT) hg hm (by decide +kernel) (cB he (cB h2 i6 rfl) hs) (by decide) (by decide) hs hpl) fun σ H Q h => ?_
 obtain ⟨ρ,M,rs,rm,q⟩:=h
 exact ⟨ρ,M,rs,rm,m _ _ _ _ (fun x M1 ⟨t,e,q1⟩ v H1 x1 rm1 rd1=>⟨v,t,rfl,wF rm1 rd1 e,oo e,q1 _ H1 x1 rm1 (RD.bl_iff.mpr rfl)⟩) q⟩
noncomputable def wBM (rd:D -> List D -> Mem -> QD -> Prop) (to:TEd) (t:TAd):TEd:=fun ρ M Q=>to ρ M fun x M1=>(∃ a xs,x = .ref a /\ M1 a = some (.lst xs)) /\ t ρ M1 fun ds M2=>rd x ds M2 Q
noncomputable def cZ (rd:D -> List D -> Mem -> QD -> Prop):Prop := ∀ x ds M Q Q',(∀ d M',Q d M' -> Q' d M') -> rd x ds M Q -> rd x ds M Q'
theorem jh {rd:D -> List D -> Mem -> QD -> Prop} {to:TEd} {t:TAd} (hr:cZ rd) (mo:ad to) (mt:bq t):ad (wBM rd to t):=fun ρ M Q Q' i q =>
 mo _ _ _ _ (fun x M1 ⟨e,q1⟩=>⟨e,mt _ _ _ _ (fun ds M2 q2=>hr _ _ _ _ _ i q2) q1⟩) q
theorem wG {K:Frag} {M:Mem} {H:Hp} {x:D} {v:V} (rm:RM K M H) (r:RD K H x v) (h:∃ a xs,x = .ref a /\ M a = some (.lst xs)):tyV K "list" v H:=by
 obtain ⟨a,xs,rfl,e⟩:=h
 cases RD.ref_iff.mp r
 obtain ⟨vs,ha,_⟩:=rm _ _ e
 exact .inl ⟨rfl,vs,SqL.of ha⟩
theorem ot {K:Frag} {rd:D -> List D -> Mem -> QD -> Prop} {r:V -> List V -> Hp -> VK -> Prop} {to:TEd} {t:TAd} (hr:cZ rd) (mo:ad to) (mt:bq t)
 (hh:∀ v vs H Q,lMt K rd v vs H Q -> r v vs H Q) (σ:St) (H:Hp) (Q:VK) (h:lE K (wBM rd to t) σ H Q):tBM K "list" r (lE K to) (lA K t) σ H Q:=by
 obtain ⟨ρ,M,rs,rm,q⟩:=h
 refine ⟨ρ,M,rs,rm,mo _ _ _ _ (fun x M1 ⟨e,q1⟩ v H1 x1 rm1 rd1=>⟨wG rm1 rd1 e, ?_⟩) q⟩
 refine ⟨ρ,M1,rs.mono (x1.stab rm),rm1,mt _ _ _ _ (fun ds M2 q2 vs H2 x2 rm2 rd2 => ?_) q1⟩
 exact hh v vs H2 Q ⟨x,ds,M2,rm2,rd1.mono (x2.stab rm1),rd2,hr _ _ _ _ _ (fun d M' k=>k.ext (x1.trans x2)) q2⟩
theorem lm {K:Frag} {rd:D -> List D -> Mem -> QD -> Prop} {r:V -> List V -> Hp -> VK -> Prop} {to:TEd} (hr:cZ rd) (mo:ad to)
 (hh:∀ v vs H Q,lMt K rd v vs H Q -> r v vs H Q) (σ:St) (H:Hp) (Q:VK) (h:lE K (wBM rd to bx) σ H Q):zM K "list" r (lE K to) σ H Q:=by
 obtain ⟨ρ,M,rs,rm,q⟩:=h
 refine ⟨ρ,M,rs,rm,mo _ _ _ _ (fun x M1 ⟨e,q1⟩ v H1 x1 rm1 rd1=>⟨wG rm1 rd1 e, ?_⟩) q⟩
 exact hh v [] H1 Q ⟨x,[],M1,rm1,rd1,RDs.nil,hr _ _ _ _ _ (fun d M' k=>k.ext x1) q1⟩
noncomputable def ji:D -> List D -> Mem -> QD -> Prop:=fun x ds M Q => ∃ a xs y,x = .ref a /\ ds = [y] /\ M a = some (.lst xs) /\ xs.length < sizeLine /\ Q .non (aj M a (.lst (xs ++ [y])))
noncomputable def ln:D -> List D -> Mem -> QD -> Prop:=fun x ds M Q => ∃ a xs,x = .ref a /\ ds = [] /\ M a = some (.lst xs) /\ Q .non (aj M a (.lst []))
noncomputable def gM:D -> List D -> Mem -> QD -> Prop:=fun x ds M Q => ∃ a xs,x = .ref a /\ ds = [] /\ M a = some (.lst xs) /\ Q .non (aj M a (.lst xs.reverse))
theorem gB:cZ ji:=fun _ _ _ _ _ h ⟨a,xs,y,e1,e2,e3,z,q⟩=>⟨a,xs,y,e1,e2,e3,z,h _ _ q⟩
theorem iA:cZ ln:=fun _ _ _ _ _ h ⟨a,xs,e1,e2,e3,q⟩=>⟨a,xs,e1,e2,e3,h _ _ q⟩
theorem fw:cZ gM:=fun _ _ _ _ _ h ⟨a,xs,e1,e2,e3,q⟩=>⟨a,xs,e1,e2,e3,h _ _ q⟩
theorem fV {K:Frag} {M:Mem} {H:Hp} {Q:VK} {d:D} {v:V} {a:Addr} {o0:O} {ds:List D} {vs:List V} (rm:RM K M H) (m:M a = some o0) (rd:RDs K H ds vs) (r:RD K H d v) (q:KE' K M H Q d (aj M a (.lst ds))) (w:fz (some o0) = false:=by rfl) :
 Q v (upd H a (.lst vs)):=by
 have st:Stab H (upd H a (.lst vs)):=rm.stabPut m w
 exact q v _ (Ext.put m w) (rm.put m ⟨vs,av,rd.mono st⟩ w) (r.mono st)
theorem uZ {K:Frag} (v:V) (vs:List V) (H:Hp) (Q:VK) (h:lMt K ji v vs H Q):og v vs H Q:=by
 obtain ⟨x,ds,M,rm,rx,rs,a,xs,y,rfl,rfl,e,z,q⟩:=h
 cases RD.ref_iff.mp rx
 obtain ⟨w,rfl,rw'⟩:=rs.one
 obtain ⟨us,ha,ru⟩:=rm _ _ e
 exact ⟨a,us,w,rfl,rfl,ha,by rw [ru.length];exact z,fV rm e (ru.append (RDs.cons rw' RDs.nil)) (RD.non_iff.mpr rfl) q⟩
theorem y8 {K:Frag} (v:V) (vs:List V) (H:Hp) (Q:VK) (h:lMt K ln v vs H Q):rq v vs H Q:=by
 obtain ⟨x,ds,M,rm,rx,rs,a,xs,rfl,rfl,e,q⟩:=h
 cases RD.ref_iff.mp rx
 obtain ⟨us,ha,ru⟩:=rm _ _ e
 exact ⟨a,us,rfl,RDs.nil_iff.mp rs,ha,fV rm e RDs.nil (RD.non_iff.mpr rfl) q⟩
theorem rZ {K:Frag} (v:V) (vs:List V) (H:Hp) (Q:VK) (h:lMt K gM v vs H Q):kI v vs H Q:=by
 obtain ⟨x,ds,M,rm,rx,rs,a,xs,rfl,rfl,e,q⟩:=h
 cases RD.ref_iff.mp rx
 obtain ⟨us,ha,ru⟩:=rm _ _ e
 exact ⟨a,us,rfl,RDs.nil_iff.mp rs,ha,fV rm e ru.reverse (RD.non_iff.mpr rfl) q⟩
noncomputable abbrev BT:=D -> au -> Option au
noncomputable abbrev BTs:=List D -> au -> Option au
noncomputable def bu (i:Nat):BT:=fun d ρ => some (ρ.set i (some d))
noncomputable def eS:BTs:=fun ds ρ => match ds with | [] => some ρ | _=>none
noncomputable def bC (b:BT) (bs:BTs):BTs:=fun ds ρ => match ds with | d :: r=>(b d ρ).bind fun ρ'=>bs r ρ' | [] => none
noncomputable def jj (bs:BTs):BT:=fun d ρ => match d with | .tup ds=>bs ds ρ | _=>none
noncomputable def lG (K:Frag) (b:BT):TG:=fun v σ H Q => ∃ d ρ ρ',RD K H d v /\ RS K H σ ρ /\ b d ρ = some ρ' /\ ∀ σ',RS K H σ' ρ' -> Q σ' H
noncomputable def lGs (K:Frag) (b:BTs):TGs:=fun vs σ H Q => ∃ ds ρ ρ',RDs K H ds vs /\ RS K H σ ρ /\ b ds ρ = some ρ' /\ ∀ σ',RS K H σ' ρ' -> Q σ' H
theorem PG.imp {e:Expr} {t t':TG} (h:PG X e t) (i:∀ v σ H Q,t' v σ H Q -> t v σ H Q):PG X e t':=fun pins s σ H v u Q I r q=>h pins s σ H v u Q I r (i _ _ _ _ q)
theorem PGs.imp {e:List Expr} {t t':TGs} (h:PGs X e t) (i:∀ v σ H Q,t' v σ H Q -> t v σ H Q):PGs X e t':=fun pins s σ H v u Q I r q=>h pins s σ H v u Q I r (i _ _ _ _ q)
theorem y9 {i:Nat} {x:Str} {pos:Pos} (hN:X.N.Nodup) (hi:X.N[i]? = some x) (hx:Loc X.env.scope x) (hf:X.fn x = true ∨ X.env.scope.names.lookup x = some .local):PG X (.Name x pos) (lG X.K (bu i)) :=
 PG.imp (nW hN hi hx hf) fun v σ H Q ⟨d, ρ, ρ',r,rs,e,q⟩=>by
  cases e
  exact q _ (rs.set i r)
theorem ya:PGs X [] (lGs X.K eS):=PGs.imp xv fun vs σ H Q ⟨ds, ρ, ρ',r,rs,e,q⟩=>by
 cases ds with
 | nil=>cases e;exact ⟨RDs.nil_iff.mp r,q σ rs⟩
 | cons _ _=>cases e
theorem v6 {e:Expr} {es:List Expr} {b:BT} {bs:BTs} (h1:PG X e (lG X.K b)) (h2:PGs X es (lGs X.K bs)) (hs:(assignEach (e :: es) X.env).map (·.2) = assign e X.env :: (assignEach es X.env).map (·.2)) :
 PGs X (e :: es) (lGs X.K (bC b bs)):=PGs.imp (uc h1 h2 hs) fun vs σ H Q ⟨ds, ρ, ρ',r,rs,e,q⟩=>by
 cases ds with
 | nil=>cases e
 | cons d ds =>
   obtain ⟨v,vr,rfl,r1,r2⟩:=RDs.cons_iff.mp r
   simp only [bC] at e
   cases e1:b d ρ with
   | none=>rw [e1] at e;cases e
   | some ρ1 =>
     rw [e1] at e
     exact ⟨v,vr,rfl,d, ρ, ρ1,r1,rs,e1,fun σ' rs'=>⟨ds, ρ1, ρ',r2,rs',e,q⟩⟩
theorem Aa {es:List Expr} {k:Nat} {bs:BTs} {n:Nat} {pos:Pos} (hc:X.calm = true) (hlen:∀ ds ρ ρ',bs ds ρ = some ρ' -> ds.length = n) (h:PGs X es (lGs X.K bs)) (hn:(assignEach es X.env).length = n) (hst:(assignEach es X.env).findIdx? (·.1) = none) :
 PG X (.Tuple es k pos) (lG X.K (jj bs)):=PG.imp (zx hc h hn hst) fun v σ H Q ⟨d, ρ, ρ',r,rs,e,q⟩=>by
 cases d with
 | tup ds =>
   obtain ⟨a,vs,rfl,ha,rv⟩:=RD.tup_iff.mp r
   exact ⟨a,vs,rfl,SqT.of ha,by rw [rv.length];exact hlen _ _ _ e,ds, ρ, ρ',rv,rs,e,q⟩
 | _=>cases e
noncomputable abbrev TId:=au -> Mem -> (List D -> (Mem -> Prop) -> Mem -> Prop) -> Prop
noncomputable def cb (T:TId):Prop := ∀ ρ M Q Q',(∀ xs c M',Q xs c M' -> Q' xs c M') -> T ρ M Q -> T ρ M Q'
noncomputable def Yl (H H':Hp):Prop:=H' = H ∨ ∃ q vs,H q = none /\ H' = upd H q (.tup vs)
noncomputable def fx (K:Frag) (H1:Hp) (xs:List D) (chk:Mem -> Prop) (J:It):Prop := ∀ M H,Stab H1 H -> RM K M H -> chk M -> ∀ i,(xs.length <= i -> J.stop i H) /\ (i < xs.length -> J.go i H /\
 ∀ x H',J.yld i H x H' -> Yl H H' /\ ∃ d,xs[i]? = some d /\ RD K H' d x)
noncomputable def lI (K:Frag) (T:TId):TI:=fun σ H R => ∃ ρ M,RS K H σ ρ /\ RM K M H /\ T ρ M (fun xs chk M1 => ∀ J H1,Ext M H M1 H1 -> RM K M1 H1 -> fx K H1 xs chk J -> R J H1)
theorem PI.imp {tg e:Expr} {t t':TI} (h:PI X tg e t) (i:∀ σ H Q,t' σ H Q -> t σ H Q):PI X tg e t':=fun pins s σ H Q I q=>h pins s σ H Q I (i _ _ _ q)
theorem Yl.ext {K:Frag} {M:Mem} {H H':Hp} (rm:RM K M H) (y:Yl H H'):Ext M H M H' /\ RM K M H':=by
 rcases y with rfl | ⟨q,vs,n,rfl⟩
 ·exact ⟨Ext.refl,rm⟩
 ·exact ⟨Ext.new' n,rm.new n⟩
noncomputable def C7 (K:Frag) (tl:TE):TI:=fun σ H R=>tl σ H fun x H1 => ∃ a,x = .ref a /\ (((∃ xs,SqL K H1 a xs) /\ R (Itl K a) H1) ∨ ((∃ xs,SqT K H1 a xs) /\ R (Itt K a) H1))
theorem Ab {tg l:Expr} {tl:TE} (hl:PE X l tl):PI X tg l (C7 X.K tl):=by
 intro pins s σ H R I h
 refine thn (hl pins s σ H _ I h) fun v s1 ⟨x,H1,I1,r1,q1⟩ => ?_
 obtain ⟨a,e,q⟩:=q1
 subst e
 cases r1
 rcases q with ⟨⟨xs,hq⟩,q⟩ | ⟨⟨xs,hq⟩,q⟩
 ·obtain ⟨its,rv,p,hz⟩:=I1.list hq
  refine wpAny_pyIter_list p.isList ?_
  refine ⟨s1.heap.objs.size,[s1.heap.objs.size],_,_,H1,rfl,I1.kept (t':=s1.toks) fun b o e=>Heap.get?_push_of_some _ e,qZ a _,⟨_,Heap.get?_push_size _ rfl,rfl,rfl⟩,fun b hb => ?_,q⟩
  have e:b = s1.heap.objs.size:=by simpa using hb
  subst e
  exact I1.fpOk (Nat.le_refl _) (I1.hok.fresh (Nat.le_refl _))
 ·obtain ⟨its,rv,p,hz⟩:=I1.tuple hq
  refine wpAny_pyIter_tuple (show s1.heap.IsTuple a its.toArray from p) ?_
  refine ⟨s1.heap.objs.size,[s1.heap.objs.size],_,_,H1,rfl,I1.kept (t':=s1.toks) fun b o e=>Heap.get?_push_of_some _ e,pK a _,⟨_,Heap.get?_push_size _ rfl,rfl,rfl⟩,fun b hb => ?_,q⟩
  have e:b = s1.heap.objs.size:=by simpa using hb
  subst e
  exact I1.fpOk (Nat.le_refl _) (I1.hok.fresh (Nat.le_refl _))
noncomputable def lp (ta:TEd):TId:=fun ρ M R=>ta ρ M fun x M1 => ∃ ds,ax M1 x = some ds /\ R ds (fun M=>ax M x = some ds) M1
theorem v7 {ta:TEd} (h:ad ta):cb (lp ta):=fun ρ M Q Q' i q=>h _ _ _ _ (fun x M1 ⟨ds,e,q1⟩=>⟨ds,e,i _ _ _ q1⟩) q
theorem s9 {K:Frag} {H1:Hp} {a:Addr} {ds:List D} {chk:Mem -> Prop} (h:∀ M H,Stab H1 H -> RM K M H -> chk M -> ∃ vs,SqL K H a vs /\ RDs K H ds vs):fx K H1 ds chk (Itl K a):=fun M H st rm c i=>by
 obtain ⟨vs,sq,r⟩:=h M H st rm c
 have l:=r.length
 refine ⟨fun hi=>⟨vs,sq,by omega⟩,fun hi=>⟨⟨vs,vs[i]'(by omega),sq,List.getElem?_eq_getElem (by omega)⟩,fun x H' y => ?_⟩⟩
 obtain ⟨e,y⟩:=y
 subst e
 exact ⟨.inl rfl,r.getV (y vs sq)⟩
theorem Ac {K:Frag} {H1:Hp} {a:Addr} {ds:List D} {chk:Mem -> Prop} (h:∀ M H,Stab H1 H -> RM K M H -> chk M -> ∃ vs,SqT K H a vs /\ RDs K H ds vs):fx K H1 ds chk (Itt K a):=fun M H st rm c i=>by
 obtain ⟨vs,sq,r⟩:=h M H st rm c
 have l:=r.length
 refine ⟨fun hi=>⟨vs,sq,by omega⟩,fun hi=>⟨⟨vs,vs[i]'(by omega),sq,List.getElem?_eq_getElem (by omega)⟩,fun x H' y => ?_⟩⟩
 obtain ⟨e,y⟩:=y
 subst e
 exact ⟨.inl rfl,r.getV (y vs sq)⟩
theorem Ad {tg l:Expr} {ta:TEd} (m:ad ta) (hl:PE X l (lE X.K ta)):PI X tg l (lI X.K (lp ta)):=by
 refine PI.imp (Ab hl) fun σ H R h => ?_
 obtain ⟨ρ,M,rs,rm,q⟩:=h
 refine ⟨ρ,M,rs,rm,m _ _ _ _ (fun x M1 ⟨ds,e,q1⟩ v H1 x1 rm1 rd1 => ?_) q⟩
 cases x with
 | tup es =>
   cases e
   obtain ⟨a,vs,rfl,ha,rv⟩:=RD.tup_iff.mp rd1
   exact ⟨a,rfl, .inr ⟨⟨vs,SqT.of ha⟩,q1 _ H1 x1 rm1 (Ac fun M' H' st _ _=>⟨vs,SqT.of (st.tup _ _ ha),rv.mono st⟩)⟩⟩
 | con es =>
   cases e
   obtain ⟨a,vs,rfl,ha,rv⟩:=RD.con_iff.mp rd1
   exact ⟨a,rfl, .inl ⟨⟨vs,ha.sq⟩,q1 _ H1 x1 rm1 (s9 fun M' H' st _ _=>⟨vs,(st.sqF ha).sq,rv.mono st⟩)⟩⟩
 | ref a =>
   cases RD.ref_iff.mp rd1
   have get:∀ {M':Mem} {es:List D},ax M' (.ref a) = some es -> M' a = some (.lst es):=fun {M' es} e=>by
    simp only [ax] at e
    cases e0:M' a with
    | none=>rw [e0] at e;cases e
    | some o =>
      rw [e0] at e
      cases o with
      | dct _ _=>cases e
      | fdc _=>cases e
      | lst es'=>cases e;rfl
   obtain ⟨vs,ha,rv⟩:=rm1 _ _ (get e)
   exact ⟨a,rfl, .inl ⟨⟨vs,SqL.of ha⟩,q1 _ H1 x1 rm1 (s9 fun M' H' st rm' c=>by
    obtain ⟨us,hb,ru⟩:=rm' _ _ (get c)
    exact ⟨us,SqL.of hb,ru⟩)⟩⟩
 | _=>cases e
noncomputable def cy (lo:Int) (n:Nat):List D:=(List.range n).map fun i => .int (lo + (i:Nat))
theorem Ae {K:Frag} {H1:Hp} {lo:Int} {n:Nat}:fx K H1 (cy lo n) (fun _=>True) (Itr lo n):=fun M H st rm c i=>by
 have l:(cy lo n).length = n:=by simp [cy]
 refine ⟨fun hi=>by show n <= i;omega,fun hi=>⟨by show i < n;omega,fun x H' y => ?_⟩⟩
 obtain ⟨e,y⟩:=y
 subst e y
 refine ⟨.inl rfl, .int (lo + i), ?_,RD.int_iff.mpr rfl⟩
 simp only [cy,List.getElem?_map,List.getElem?_range (show i < n by omega),Option.map_some]
noncomputable def iB (ta:TAd):TId:=fun ρ M R=>ta ρ M fun ds M1 => ∃ j:Int,ds = [.int j] /\ -(2 ^ 62) <= j /\ j < 2 ^ 62 /\ R (cy 0 j.toNat) (fun _=>True) M1
theorem sd {ta:TAd} (h:bq ta):cb (iB ta):=fun ρ M Q Q' i q=>h _ _ _ _ (fun x M1 ⟨j,e,a,b,q1⟩=>⟨j,e,a,b,i _ _ _ q1⟩) q
theorem yb {tg a:Expr} {ta:TAd} {p pos:Pos} (m:bq ta) (hg:Gl X "range") (hm:X.mg "range" = none) (ha:PA X [a] (lA X.K ta)) (hs:starEach [a] X.env = [(false,eval a X.env)]):PI X tg (.Call (.Name "range" p) [a] [] pos) (lI X.K (iB ta)):=by
 refine PI.imp (r0 hg hm ha hs) fun σ H R h => ?_
 obtain ⟨ρ,M,rs,rm,q⟩:=h
 refine ⟨ρ,M,rs,rm,m _ _ _ _ (fun ds M1 ⟨j,e,z1,z2,q1⟩ vs H1 x1 rm1 rd1 => ?_) q⟩
 subst e
 obtain ⟨v,rfl,r⟩:=rd1.one
 cases RD.int_iff.mp r
 exact ⟨j,rfl,z1,z2,q1 _ H1 x1 rm1 Ae⟩
end
end
section
section
variable {X:Cx}
noncomputable def isT:D -> Bool | .tup _=>true | _=>false
theorem dY {K:Frag} {M:Mem} {H:Hp} {x:D} {ds:List D} {v:V} (rm:RM K M H) (r:RD K H x v) (e:ax M x = some ds):∃ p vs,v = .ref p /\ SqV K (isT x) H p vs /\ RDs K H ds vs:=by
 cases x with
 | tup es =>
   cases e
   obtain ⟨a,vs,rfl,ha,rv⟩:=RD.tup_iff.mp r
   exact ⟨a,vs,rfl,SqT.of ha,rv⟩
 | con es =>
   cases e
   obtain ⟨a,vs,rfl,ha,rv⟩:=RD.con_iff.mp r
   exact ⟨a,vs,rfl,ha.sq,rv⟩
 | ref a =>
   cases RD.ref_iff.mp r
   simp only [ax] at e
   cases e0:M a with
   | none=>rw [e0] at e;cases e
   | some o =>
     rw [e0] at e
     cases o with
     | dct _ _=>cases e
     | fdc _=>cases e
     | lst es =>
       cases e
       obtain ⟨vs,ha,rv⟩:=rm _ _ e0
       exact ⟨a,vs,rfl,SqL.of ha,rv⟩
 | _=>cases e
noncomputable def fW (x y:D):D := .tup [x,y]
noncomputable def lq (ta tb:TEd):TId:=fun ρ M R=>aK ta (aK tb bx) ρ M fun ds M1 => ∃ x y xs ys,ds = [x,y] /\ ax M1 x = some xs /\ ax M1 y = some ys /\ R (List.zipWith fW xs ys) (fun M=>ax M x = some xs /\ ax M y = some ys) M1
theorem v8 {ta tb:TEd} (ha:ad ta) (hb:ad tb):cb (lq ta tb):=fun ρ M Q Q' i q=>ar ha (ar hb aw) _ _ _ _ (fun ds M1 ⟨x,y,xs,ys,e,e1,e2,q1⟩=>⟨x,y,xs,ys,e,e1,e2,i _ _ _ q1⟩) q
theorem lr {H:Hp} {p:Addr} {o:HO} (n:H p = none):Stab H (upd H p o):=⟨fun a xs e=>by rw [ai (fun z=>by rw [z,n] at e;cases e)];exact e,fun a o u e=>by rw [ai (fun z=>by rw [z,n] at e;cases e)];exact e⟩
theorem Af {K:Frag} {H1:Hp} {x y:D} {xs ys:List D} {a b:Addr} (rx:RD K H1 x (.ref a)) (ry:RD K H1 y (.ref b)):fx K H1 (List.zipWith fW xs ys) (fun M=>ax M x = some xs /\ ax M y = some ys) (Itz K (isT x) (isT y) a b):=fun M H st rm c i=>by
 obtain ⟨p1,vs,e1,q1,r1⟩:=dY rm (rx.mono st) c.1
 obtain ⟨p2,us,e2,q2,r2⟩:=dY rm (ry.mono st) c.2
 cases e1
 cases e2
 have l1:=r1.length
 have l2:=r2.length
 have lz:(List.zipWith fW xs ys).length = min xs.length ys.length:=List.length_zipWith
 refine ⟨fun hi=>⟨vs,us,q1,q2,by omega⟩,fun hi=>⟨⟨vs,us,vs[i]'(by omega),us[i]'(by omega),q1,q2,List.getElem?_eq_getElem (by omega),List.getElem?_eq_getElem (by omega)⟩,fun v H' hy => ?_⟩⟩
 obtain ⟨p,v1,v2,n,rfl,rfl,g⟩:=hy
 obtain ⟨g1,g2⟩:=g vs us q1 q2
 obtain ⟨d1,hd1,rd1⟩:=r1.getV g1
 obtain ⟨d2,hd2,rd2⟩:=r2.getV g2
 have sb:=lr (o := .tup [v1,v2]) n
 refine ⟨.inr ⟨p,[v1,v2],n,rfl⟩, .tup [d1,d2], ?_,RD.tup_iff.mpr ⟨p,[v1,v2],rfl,av,RDs.cons (rd1.mono sb) (RDs.cons (rd2.mono sb) RDs.nil)⟩⟩
 rw [List.getElem?_zipWith,hd1,hd2];rfl
theorem Ag {elts:List Expr} {cx} {pos p pos':Pos} {a b:Expr} {ta tb:TEd} (ma:ad ta) (mb:ad tb) (hg:Gl X "zip") (hm:X.mg "zip" = none) (ha:PA X [a,b] (lA X.K (aK ta (aK tb bx)))) (hs:starEach [a,b] X.env = [(false,eval a X.env),(false,eval b X.env)]) (hs2:starEach [b] X.env = [(false,eval b X.env)]) :
 PI X (.Tuple elts cx pos) (.Call (.Name "zip" p) [a,b] [] pos') (lI X.K (lq ta tb)):=by
 refine PI.imp (zT hg hm ha hs hs2) fun σ H R h => ?_
 obtain ⟨ρ,M,rs,rm,q⟩:=h
 refine ⟨ρ,M,rs,rm,ar ma (ar mb aw) _ _ _ _ (fun ds M1 ⟨x,y,xs,ys,e,e1,e2,q1⟩ vs H1 x1 rm1 rd1 => ?_) q⟩
 subst e
 obtain ⟨v,u,rfl,r1,r2⟩:=rd1.two
 obtain ⟨p1,vs,rfl,s1,_⟩:=dY rm1 r1 e1
 obtain ⟨p2,us,rfl,s2,_⟩:=dY rm1 r2 e2
 exact ⟨p1,p2,isT x,isT y,vs,us,rfl,s1,s2,q1 _ H1 x1 rm1 (Af r1 r2)⟩
end
end
section
section
variable {X:Cx}
noncomputable def eT (xs:List D):List D:=xs.mapIdx fun i x => .tup [.int (i:Nat),x]
noncomputable def iC (ta:TEd):TId:=fun ρ M R=>ta ρ M fun x M1 => ∃ xs,ax M1 x = some xs /\ R (eT xs) (fun M=>ax M x = some xs) M1
theorem se {ta:TEd} (h:ad ta):cb (iC ta):=fun ρ M Q Q' i q=>h _ _ _ _ (fun x M1 ⟨ds,e,q1⟩=>⟨ds,e,i _ _ _ q1⟩) q
theorem Ah {K:Frag} {H1:Hp} {x:D} {xs:List D} {a:Addr} (rx:RD K H1 x (.ref a)):fx K H1 (eT xs) (fun M=>ax M x = some xs) (Ite K (isT x) a):=fun M H st rm c i=>by
 obtain ⟨p1,vs,e1,q1,r1⟩:=dY rm (rx.mono st) c
 cases e1
 have l1:=r1.length
 have lz:(eT xs).length = xs.length:=by simp [eT]
 refine ⟨fun hi=>⟨vs,q1,by omega⟩,fun hi=>⟨⟨vs,vs[i]'(by omega),q1,List.getElem?_eq_getElem (by omega)⟩,fun v H' hy => ?_⟩⟩
 obtain ⟨p,v1,n,rfl,rfl,g⟩:=hy
 obtain ⟨d1,hd1,rd1⟩:=r1.getV (g vs q1)
 have sb:=lr (o := .tup [.int (i:Nat),v1]) n
 refine ⟨.inr ⟨p,[.int (i:Nat),v1],n,rfl⟩, .tup [.int (i:Nat),d1], ?_,RD.tup_iff.mpr ⟨p,[.int (i:Nat),v1],rfl,av,RDs.cons (RD.int_iff.mpr rfl) (RDs.cons (rd1.mono sb) RDs.nil)⟩⟩
 simp [eT,List.getElem?_mapIdx,hd1]
theorem yc {elts:List Expr} {cx} {pos p pos':Pos} {a:Expr} {ta:TEd} (ma:ad ta) (hg:Gl X "enumerate") (hm:X.mg "enumerate" = none) (ha:PA X [a] (lA X.K (aK ta bx))) (hs:starEach [a] X.env = [(false,eval a X.env)]) :
 PI X (.Tuple elts cx pos) (.Call (.Name "enumerate" p) [a] [] pos') (lI X.K (iC ta)):=by
 refine PI.imp (xH hg hm ha hs) fun σ H R h => ?_
 obtain ⟨ρ,M,rs,rm,q⟩:=h
 refine ⟨ρ,M,rs,rm,ma _ _ _ _ (fun x M1 ⟨xs,e1,q1⟩ vs H1 x1 rm1 rd1 => ?_) q⟩
 obtain ⟨v,rfl,r1⟩:=rd1.one
 obtain ⟨p1,us,rfl,s1,_⟩:=dY rm1 r1 e1
 exact ⟨p1,isT x,us,rfl,s1,q1 _ H1 x1 rm1 (Ah r1)⟩
end
end
section
noncomputable abbrev NC:=au -> Mem -> List D -> Prop
noncomputable abbrev TCd:=au -> Mem -> List D -> NC -> Prop
noncomputable def bV (T:TCd):Prop := ∀ ρ M acc N N',(∀ ρ' M' acc',N ρ' M' acc' -> N' ρ' M' acc') -> T ρ M acc N -> T ρ M acc N'
structure ExtP (p:Addr) (M:Mem) (H:Hp) (M':Mem) (H':Hp):Prop where
 kp:∀ a o,a ≠ p -> fz (M a) = true -> H a = some o -> H' a = some o
 nw:∀ a o,fz (M a) = true -> H a = some o -> M' a = M a
section
variable {K:Frag} {M M' M'':Mem} {H H' H'':Hp} {p:Addr}
theorem ExtP.new (x:ExtP p M H M' H') (a:Addr) (o:HO) (n:M a = none) (e:H a = some o):M' a = none:=(x.nw a o (by rw [n];rfl) e).trans n
theorem Ext.toP (x:Ext M H M' H'):ExtP p M H M' H':=⟨fun a o _=>x.kp a o,x.nw⟩
theorem ExtP.refl:ExtP p M H M H:=⟨fun _ _ _ _ h=>h,fun _ _ _ _=>rfl⟩
theorem ExtP.trans {vs:List V} (a:ExtP p M H M' H') (hp:H p = some (.lst vs)) (hp':∃ vs',H' p = some (.lst vs')) (b:ExtP p M' H' M'' H''):ExtP p M H M'' H'' :=
 ⟨fun c o ne n h=>b.kp c o ne (by rw [a.nw c o n h];exact n) (a.kp c o ne n h),fun c o n h=>by
   have n':fz (M' c) = true:=by rw [a.nw c o n h];exact n
   refine Eq.trans ?_ (a.nw c o n h)
   by_cases z:c = p
   ·subst z
    obtain ⟨vs',e⟩:=hp'
    exact b.nw c _ n' e
   ·exact b.nw c o n' (a.kp c o z n h)⟩
theorem ExtP.stab {vs:List V} (r:RM K M H) (hp:H p = some (.lst vs)) (x:ExtP p M H M' H'):Stab H H' where
 tup:=fun a xs e=>x.kp a _ (fun z=>by subst z;rw [hp] at e;cases e) (by rw [r.fzT e];rfl) e
 frz:=fun a o u e=>x.kp a _ (fun z=>by subst z;rw [hp] at e;cases e) (r.fzF e) e
theorem lu {vs:List V} {ho:HO} (hp:H p = some (.lst vs)):Stab H (upd H p ho) :=
 ⟨fun a xs e=>by rw [ai (fun z=>by subst z;rw [hp] at e;cases e)];exact e,fun a o u e=>by rw [ai (fun z=>by subst z;rw [hp] at e;cases e)];exact e⟩
theorem RM.side {vs:List V} {ho:HO} (r:RM K M H) (n:M p = none) (hp:H p = some (.lst vs)):RM K M (upd H p ho):=fun a o e=>by
 have ne:a ≠ p:=fun z=>by subst z;rw [n] at e;cases e
 exact (r a o e).mono (lu hp) fun ho' q=>by rw [ai ne];exact q
end
noncomputable def fX (K:Frag) (H:Hp) (p:Addr) (acc:List D):Prop := ∃ vs,H p = some (.lst vs) /\ RDs K H acc vs
noncomputable def KC (K:Frag) (p:Addr) (M:Mem) (H:Hp) (N:St -> Hp -> Prop):NC:=fun ρ' M' acc' => ∀ σ' H',ExtP p M H M' H' -> RS K H' σ' ρ' -> RM K M' H' -> fX K H' p acc' -> N σ' H'
noncomputable def lC (K:Frag) (p:Addr) (T:TCd):TC:=fun σ H N => ∃ ρ M acc,RS K H σ ρ /\ RM K M H /\ M p = none /\ fX K H p acc /\ T ρ M acc (KC K p M H N)
theorem KC.ext {K:Frag} {p:Addr} {M M2 M':Mem} {H H2:Hp} {N:St -> Hp -> Prop} {ρ:au} {acc:List D} {vs:List V} (hp:H p = some (.lst vs)) (hp':∃ vs',H2 p = some (.lst vs')) (x:ExtP p M H M2 H2) (h:KC K p M H N ρ M' acc):KC K p M2 H2 N ρ M' acc :=
 fun σ' H' y=>h σ' H' (x.trans hp hp' y)
noncomputable def cc (te:TEd):TCd:=fun ρ M acc N=>te ρ M fun x M1=>acc.length < sizeLine /\ N ρ M1 (acc ++ [x])
noncomputable def bv:List TTd -> TCd -> TCd
 | [],tb=>tb
 | t :: r,tb=>fun ρ M acc N=>t ρ M fun b M1=>if b = true then bv r tb ρ M1 acc N else N ρ M1 acc
noncomputable def bQ (b:BT) (tb:TCd) (chk:Mem -> Prop) (N:NC):List D -> NC
 | [] => fun ρ M acc=>chk M /\ N ρ M acc
 | x :: xs=>fun ρ M acc=>chk M /\ ∃ ρ',b x ρ = some ρ' /\ tb ρ' M acc (bQ b tb chk N xs)
noncomputable def df (src:TId) (b:BT) (tb:TCd):TCd:=fun ρ M acc N=>src ρ M fun xs chk M1=>bQ b tb chk N xs ρ M1 acc
noncomputable def fY (fr:List (Option Nat)) (src:TId) (b:BT) (tb:TCd):TEd:=fun ρ M Q=>src ρ M fun xs chk M1=>bQ b tb chk (fun _ M' acc => ∀ p,M' p = none -> Q (.ref p) (aj M' p (.lst acc))) xs (jb fr ρ) M1 []
theorem bA {te:TEd} (h:ad te):bV (cc te):=fun ρ M acc N N' i q=>h _ _ _ _ (fun x M1 ⟨z,q1⟩=>⟨z,i _ _ _ q1⟩) q
theorem aO {tb:TCd} (hb:bV tb):∀ {ts:List TTd},(∀ t ∈ ts,aE t) -> bV (bv ts tb)
 | [],_=>hb
 | t :: r,h=>fun ρ M acc N N' i q=>h t List.mem_cons_self _ _ _ _ (fun b M1 q1=>by
   cases b with
   | true=>rw [if_pos rfl] at q1 ⊢;exact aO hb (fun t' ht=>h t' (List.mem_cons_of_mem _ ht)) _ _ _ _ _ i q1
   | false=>rw [if_neg Bool.false_ne_true] at q1 ⊢;exact i _ _ _ q1) q
theorem fy {b:BT} {tb:TCd} (hb:bV tb) {chk:Mem -> Prop} {N N':NC} (i:∀ ρ' M' acc',N ρ' M' acc' -> N' ρ' M' acc'):∀ (xs:List D) (ρ:au) (M:Mem) (acc:List D),bQ b tb chk N xs ρ M acc -> bQ b tb chk N' xs ρ M acc
 | [], ρ,M,acc,h=>⟨h.1,i _ _ _ h.2⟩
 | x :: xs, ρ,M,acc,⟨c, ρ',e,q⟩=>⟨c, ρ',e,hb _ _ _ _ _ (fun ρ2 M2 acc2 q2=>fy hb i xs ρ2 M2 acc2 q2) q⟩
theorem gC {src:TId} {b:BT} {tb:TCd} (hs:cb src) (hb:bV tb):bV (df src b tb):=fun ρ M acc N N' i q=>hs _ _ _ _ (fun xs c M1 q1=>fy hb i xs _ _ _ q1) q
theorem jO {fr:List (Option Nat)} {src:TId} {b:BT} {tb:TCd} (hs:cb src) (hb:bV tb):ad (fY fr src b tb):=fun ρ M Q Q' i q =>
 hs _ _ _ _ (fun xs c M1 q1=>fy hb (fun _ M' acc q2 p n=>i _ _ (q2 p n)) xs _ _ _ q1) q
section
variable {K:Frag} {p:Addr}
theorem fA {te:TEd} (m:ad te) (σ:St) (H:Hp) (N:St -> Hp -> Prop) (h:lC K p (cc te) σ H N):wB p (lE K te) σ H N:=by
 obtain ⟨ρ,M,acc,rs,rm,n,⟨vs,hp,ra⟩,q⟩:=h
 refine ⟨ρ,M,rs,rm,m _ _ _ _ (fun x M1 ⟨z,q1⟩ v H1 x1 rm1 rd1 => ?_) q⟩
 have hp1:=x1.keep p _ n hp
 have n1:=x1.new p _ n hp
 have st:=x1.stab rm
 have st2:Stab H1 (upd H1 p (.lst (vs ++ [v]))):=lu hp1
 refine ⟨vs,hp1,by rw [ra.length];exact z,q1 σ _ ⟨fun a o ne m' e => ?_,x1.nw⟩ ((rs.mono st).mono st2) (rm1.side n1 hp1) ⟨vs ++ [v],av,((ra.mono st).mono st2).append (RDs.cons (rd1.mono st2) RDs.nil)⟩⟩
 rw [ai ne]
 exact x1.kp a o m' e
theorem iD {tb:TCd} (mb:bV tb):∀ {ts:List TTd},(∀ t ∈ ts,aE t) -> ∀ (σ:St) (H:Hp) (N:St -> Hp -> Prop),lC K p (bv ts tb) σ H N -> ie (ts.map (lT K)) (lC K p tb) σ H N
 | [],_, σ,H,N,h=>h
 | t :: r,hm, σ,H,N,h=>by
   obtain ⟨ρ,M,acc,rs,rm,n,⟨vs,hp,ra⟩,q⟩:=h
   refine ⟨ρ,M,rs,rm,hm t List.mem_cons_self _ _ _ _ (fun b M1 q1 H1 x1 rm1 => ?_) q⟩
   have hp1:=x1.keep p _ n hp
   have n1:=x1.new p _ n hp
   have st:=x1.stab rm
   cases b with
   | false =>
     rw [if_neg Bool.false_ne_true] at q1
     dsimp only
     rw [if_neg Bool.false_ne_true]
     exact q1 σ H1 x1.toP (rs.mono st) rm1 ⟨vs,hp1,ra.mono st⟩
   | true =>
     rw [if_pos rfl] at q1
     dsimp only
     rw [if_pos rfl]
     exact iD mb (fun t' ht=>hm t' (List.mem_cons_of_mem _ ht)) σ H1 N ⟨ρ,M1,acc,rs.mono st,rm1,n1,⟨vs,hp1,ra.mono st⟩,
      aO mb (fun t' ht=>hm t' (List.mem_cons_of_mem _ ht)) _ _ _ _ _ (fun ρ' M' acc' k=>k.ext hp ⟨vs,hp1⟩ x1.toP) q1⟩
theorem jP {b:BT} {tb:TCd} (mb:bV tb) {xs:List D} {chk:Mem -> Prop} {J:It} {H1:Hp} {M1:Mem} {Nd:NC} {N:St -> Hp -> Prop} {σ:St} {ρ:au} {acc:List D} (it:fx K H1 xs chk J) (rs:RS K H1 σ ρ) (rm:RM K M1 H1) (n:M1 p = none)
 (ac:fX K H1 p acc) (q:bQ b tb chk Nd xs ρ M1 acc) (hN:∀ ρ' M' acc' σ' H',ExtP p M1 H1 M' H' -> RS K H' σ' ρ' -> RM K M' H' -> fX K H' p acc' -> Nd ρ' M' acc' -> N σ' H') :
 cv J (lG K b) (lC K p tb) N σ H1:=by
 obtain ⟨vs1,hp1,_⟩:=id ac
 refine ⟨fun i m σ H=>m = xs.length - i /\ i <= xs.length /\ ∃ ρ M acc,RS K H σ ρ /\ RM K M H /\ M p = none /\ fX K H p acc /\ ExtP p M1 H1 M H /\ bQ b tb chk Nd (xs.drop i) ρ M acc,⟨xs.length,by simp,Nat.zero_le _, ρ,M1,acc,rs,rm,n,ac,ExtP.refl,q⟩, ?_⟩
 rintro i m σ H ⟨rfl,hi, ρ,M,acc,rs,rm2,n,ac,x,q⟩
 have st:=x.stab rm hp1
 obtain ⟨vs,hp,ra⟩:=id ac
 by_cases hlt:i < xs.length
 ·rw [List.drop_eq_getElem_cons hlt] at q
  obtain ⟨c, ρ',hb,q⟩:=q
  obtain ⟨go,yl⟩:=(it M H st rm2 c i).2 hlt
  refine .inr ⟨go,fun σ' H' => ∃ m',m' < xs.length - i /\ (m' = xs.length - (i + 1) /\ i + 1 <= xs.length /\ ∃ ρ M acc,RS K H' σ' ρ /\ RM K M H' /\ M p = none /\ fX K H' p acc /\ ExtP p M1 H1 M H' /\ bQ b tb chk Nd (xs.drop (i + 1)) ρ M acc),fun σ' H' h=>h,fun x' H' y => ?_⟩
  obtain ⟨yy,d,hd,rd⟩:=yl x' H' y
  rw [List.getElem?_eq_getElem hlt] at hd
  cases hd
  obtain ⟨xy,rmy⟩:=yy.ext rm2
  have sty:=xy.stab rm2
  have hpy:=xy.keep p _ n hp
  refine ⟨_, ρ, ρ',rd,rs.mono sty,hb,fun σ2 rs2 => ?_⟩
  refine ⟨ρ',M,acc,rs2,rmy,n,⟨vs,hpy,ra.mono sty⟩,mb _ _ _ _ _ (fun ρ3 M3 acc3 q3 σ3 H3 x3 rs3 rm3 ac3 => ?_) q⟩
  have n3:M3 p = none:=x3.new p _ n hpy
  exact ⟨xs.length - (i + 1),by omega,rfl,hlt, ρ3,M3,acc3,rs3,rm3,n3,ac3,(x.trans hp1 ⟨vs,hp⟩ xy.toP).trans hp1 ⟨vs,hpy⟩ x3,q3⟩
 ·have e:i = xs.length:=by omega
  subst e
  rw [List.drop_length] at q
  exact .inl ⟨(it M H st rm2 q.1 _).1 (Nat.le_refl _),hN ρ M acc σ H x rs rm2 ac q.2⟩
theorem gD {src:TId} {b:BT} {tb:TCd} (ms:cb src) (mb:bV tb) (σ:St) (H:Hp) (N:St -> Hp -> Prop) (h:lC K p (df src b tb) σ H N):(lI K src) σ H fun J H1=>cv J (lG K b) (lC K p tb) N σ H1:=by
 obtain ⟨ρ,M,acc,rs,rm,n,⟨vs,hp,ra⟩,q⟩:=h
 refine ⟨ρ,M,rs,rm,ms _ _ _ _ (fun xs chk M1 q1 J H1 x1 rm1 it => ?_) q⟩
 have hp1:=x1.keep p _ n hp
 have n1:=x1.new p _ n hp
 have st:=x1.stab rm
 exact jP mb it (rs.mono st) rm1 n1 ⟨vs,hp1,ra.mono st⟩ q1 fun ρ' M' acc' σ' H' x2 rs' rm' ac' k=>k σ' H' (x1.toP.trans hp ⟨vs,hp1⟩ x2) rs' rm' ac'
theorem dG {fr:List (Option Nat)} {src:TId} {b:BT} {tb:TCd} (ms:cb src) (mb:bV tb) (σ:St) (H:Hp) (Q:VK) (h:lE K (fY fr src b tb) σ H Q):pU (lI K src) (lG K b) (fun p=>lC K p tb) fr σ H Q:=by
 obtain ⟨ρ,M,rs,rm,q⟩:=h
 refine ⟨ρ,M,rs,rm,ms _ _ _ _ (fun xs chk M1 q1 J H1 x1 rm1 it p n => ?_) q⟩
 have st:=x1.stab rm
 have xn:Ext M1 H1 M1 (upd H1 p (.lst [])):=Ext.new' n
 have stn:=xn.stab rm1
 have n1:M1 p = none:=rm1.out n
 refine jP (p:=p) mb (xs:=xs) (chk:=chk) (fun M' H' st'=>it M' H' ⟨fun a xs e=>st'.tup _ _ (stn.tup _ _ e),fun a o u e=>st'.frz _ _ _ (stn.frz _ _ _ e)⟩) (((rs.mono st).mono stn).inh fr) (rm1.new n) n1 ⟨[],av,RDs.nil⟩ q1 fun ρ' M' acc' σ' H' x2 rs' rm' ac' k => ?_
 obtain ⟨vs,hp,ra⟩:=ac'
 have n':M' p = none:=x2.new p _ n1 av
 refine k p n' (.ref p) H' ⟨fun a o m e => ?_,fun a o m e => ?_⟩ (fun a o e => ?_) (RD.ref_iff.mpr rfl)
 ·have e1:=x1.kp a o m e
  have ne:a ≠ p:=fun z=>by subst z;rw [n] at e1;cases e1
  exact x2.kp a o ne (by rw [x1.nw a o m e];exact m) (by rw [ai ne];exact e1)
 ·have e1:=x1.kp a o m e
  have ne:a ≠ p:=fun z=>by subst z;rw [n] at e1;cases e1
  rw [aU ne]
  exact (x2.nw a o (by rw [x1.nw a o m e];exact m) (by rw [ai ne];exact e1)).trans (x1.nw a o m e)
 ·by_cases z:a = p
  ·subst z
   rw [af] at e;cases e
   exact ⟨vs,hp,ra⟩
  ·rw [aU z] at e
   exact rm' a o e
end
end
section
noncomputable def fZ:TSd:=fun D ρ M=>D.nx ρ M
noncomputable def lw (t u:TSd):TSd:=fun D ρ M=>t { D with nx:=u D } ρ M
noncomputable def fB:TSd:=fun D ρ M=>D.bk ρ M
noncomputable def iE:TSd:=fun D ρ M=>D.ct ρ M
noncomputable def iF (te:TEd):TSd:=fun D ρ M=>te ρ M fun _ M1=>D.nx ρ M1
noncomputable def lB (te:TEd):TSd:=fun D ρ M=>te ρ M D.rt
noncomputable def sIf (c:TTd) (t u:TSd):TSd:=fun D ρ M=>c ρ M fun b M1=>if b = true then t D ρ M1 else u D ρ M1
noncomputable def gN (te:TEd) (b:BT):TSd:=fun D ρ M=>te ρ M fun x M1 => ∃ ρ',b x ρ = some ρ' /\ D.nx ρ' M1
noncomputable def lD (ta:TAd) (bs:BTs):TSd:=fun D ρ M=>ta ρ M fun xs M1 => ∃ ρ',bs xs ρ = some ρ' /\ D.nx ρ' M1
noncomputable def bO (b:BT) (tb:TSd) (chk:Mem -> Prop) (D:br):List Mi.D -> au -> Mem -> Prop
 | [] => fun ρ M=>chk M /\ D.nx ρ M
 | x :: xs=>fun ρ M=>chk M /\ ∃ ρ',b x ρ = some ρ' /\ tb { D with nx:=bO b tb chk D xs,ct:=bO b tb chk D xs,bk:=D.nx } ρ' M
noncomputable def lF (src:TId) (b:BT) (tb:TSd):TSd:=fun D ρ M=>src ρ M fun xs chk M1=>bO b tb chk D xs ρ M1
noncomputable def bm (c:TTd) (tb:TSd) (D:br):Nat -> au -> Mem -> Prop
 | 0=>fun _ _=>False
 | n + 1=>fun ρ M=>c ρ M fun b M1=>if b = true then tb { D with nx:=bm c tb D n,ct:=bm c tb D n,bk:=D.nx } ρ M1 else D.nx ρ M1
noncomputable def fC (c:TTd) (tb:TSd):TSd:=fun D ρ M => ∃ n,bm c tb D n ρ M
theorem LeD.refl (a:br):LeD a a:=⟨fun _ _ h=>h,fun _ _ h=>h,fun _ _ h=>h,fun _ _ h=>h⟩
theorem jQ:aI fZ:=fun _ _ _ _ h q=>h.nx _ _ q
theorem qb:aI fB:=fun _ _ _ _ h q=>h.bk _ _ q
theorem sf:aI iE:=fun _ _ _ _ h q=>h.ct _ _ q
theorem sg {t u:TSd} (ht:aI t) (hu:aI u):aI (lw t u):=fun a b ρ M h q=>ht { a with nx:=u a } { b with nx:=u b } _ _ ⟨fun ρ' M' q'=>hu _ _ _ _ h q',h.rt,h.bk,h.ct⟩ q
theorem si {te:TEd} (h:ad te):aI (iF te):=fun a b ρ M i q=>h _ _ _ _ (fun _ M1 q1=>i.nx _ _ q1) q
theorem v9 {te:TEd} (h:ad te):aI (lB te):=fun a b ρ M i q=>h _ _ _ _ (fun d M1 q1=>i.rt _ _ q1) q
theorem va {c:TTd} {t u:TSd} (hc:aE c) (ht:aI t) (hu:aI u):aI (sIf c t u):=fun a b ρ M i q=>hc _ _ _ _ (fun k M1 q1=>by
 cases k with
 | true=>rw [if_pos rfl] at q1 ⊢;exact ht _ _ _ _ i q1
 | false=>rw [if_neg Bool.false_ne_true] at q1 ⊢;exact hu _ _ _ _ i q1) q
theorem vc {te:TEd} {bt:BT} (h:ad te):aI (gN te bt):=fun a b ρ M i q=>h _ _ _ _ (fun d M1 ⟨ρ',e,q1⟩=>⟨ρ',e,i.nx _ _ q1⟩) q
theorem vd {ta:TAd} {bs:BTs} (h:bq ta):aI (lD ta bs):=fun a b ρ M i q=>h _ _ _ _ (fun d M1 ⟨ρ',e,q1⟩=>⟨ρ',e,i.nx _ _ q1⟩) q
theorem fD {bt:BT} {tb:TSd} (hb:aI tb) {chk:Mem -> Prop} {a b:br} (i:LeD a b):∀ (xs:List D) (ρ:au) (M:Mem),bO bt tb chk a xs ρ M -> bO bt tb chk b xs ρ M
 | [], ρ,M,h=>⟨h.1,i.nx _ _ h.2⟩
 | x :: xs, ρ,M,⟨c, ρ',e,q⟩=>⟨c, ρ',e,hb { a with nx:=bO bt tb chk a xs,ct:=bO bt tb chk a xs,bk:=a.nx } { b with nx:=bO bt tb chk b xs,ct:=bO bt tb chk b xs,bk:=b.nx } _ _ ⟨fun ρ2 M2 q2=>fD hb i xs ρ2 M2 q2,i.rt,i.nx,fun ρ2 M2 q2=>fD hb i xs ρ2 M2 q2⟩ q⟩
theorem ve {src:TId} {bt:BT} {tb:TSd} (hs:cb src) (hb:aI tb):aI (lF src bt tb):=fun a b ρ M i q=>hs _ _ _ _ (fun xs c M1 q1=>fD hb i xs _ _ q1) q
theorem dQ {c:TTd} {tb:TSd} (hc:aE c) (hb:aI tb) {a b:br} (i:LeD a b):∀ (n:Nat) (ρ:au) (M:Mem),bm c tb a n ρ M -> bm c tb b n ρ M
 | 0, ρ,M,h=>h
 | n + 1, ρ,M,h=>hc _ _ _ _ (fun k M1 q1=>by
   cases k with
   | true=>rw [if_pos rfl] at q1 ⊢;exact hb { a with nx:=bm c tb a n,ct:=bm c tb a n,bk:=a.nx } { b with nx:=bm c tb b n,ct:=bm c tb b n,bk:=b.nx } _ _ ⟨fun ρ2 M2 q2=>dQ hc hb i n ρ2 M2 q2,i.rt,i.nx,fun ρ2 M2 q2=>dQ hc hb i n ρ2 M2 q2⟩ q1
   | false=>rw [if_neg Bool.false_ne_true] at q1 ⊢;exact i.nx _ _ q1) h
theorem qc {c:TTd} {tb:TSd} (hc:aE c) (hb:aI tb):aI (fC c tb):=fun a b ρ M i ⟨n,q⟩=>⟨n,dQ hc hb i n _ _ q⟩
section
variable {K:Frag}
theorem jR (D:bB) (σ:St) (H:Hp) (h:lS K fZ D σ H):pH D σ H:=by
 obtain ⟨ρ,M,A,rs,rm,l,q⟩:=h
 exact l.nx ρ M σ H Ext.refl rs rm q
theorem qd (D:bB) (σ:St) (H:Hp) (h:lS K fB D σ H):qW D σ H:=by
 obtain ⟨ρ,M,A,rs,rm,l,q⟩:=h
 exact l.bk ρ M σ H Ext.refl rs rm q
theorem sj (D:bB) (σ:St) (H:Hp) (h:lS K iE D σ H):wl D σ H:=by
 obtain ⟨ρ,M,A,rs,rm,l,q⟩:=h
 exact l.ct ρ M σ H Ext.refl rs rm q
theorem vf {t u:TSd} (mt:aI t) (mu:aI u) (D:bB) (σ:St) (H:Hp) (h:lS K (lw t u) D σ H):zt (lS K t) (lS K u) D σ H:=by
 obtain ⟨ρ,M,A,rs,rm,l,q⟩:=h
 exact ⟨ρ,M, { A with nx:=u A },rs,rm,⟨fun ρ' M' σ' H' x rs' rm' q'=>⟨ρ',M',A,rs',rm',l.ext x,q'⟩,l.rt,l.bk,l.ct⟩,q⟩
theorem sk {te:TEd} (m:ad te) (D:bB) (σ:St) (H:Hp) (h:lS K (iF te) D σ H):wm (lE K te) D σ H:=by
 obtain ⟨ρ,M,A,rs,rm,l,q⟩:=h
 exact ⟨ρ,M,rs,rm,m _ _ _ _ (fun d M1 q1 v H1 x1 rm1 rd1=>l.nx ρ M1 σ H1 x1 (rs.mono (x1.stab rm)) rm1 q1) q⟩
theorem vg {te:TEd} (m:ad te) (D:bB) (σ:St) (H:Hp) (h:lS K (lB te) D σ H):zu (lE K te) D σ H:=by
 obtain ⟨ρ,M,A,rs,rm,l,q⟩:=h
 exact ⟨ρ,M,rs,rm,m _ _ _ _ (fun d M1 q1 v H1 x1 rm1 rd1=>l.rt d M1 v H1 x1 rm1 rd1 q1) q⟩
theorem yd {c:TTd} {t u:TSd} (mc:aE c) (D:bB) (σ:St) (H:Hp) (h:lS K (sIf c t u) D σ H):zw (lT K c) (lS K t) (lS K u) D σ H:=by
 obtain ⟨ρ,M,A,rs,rm,l,q⟩:=h
 refine ⟨ρ,M,rs,rm,mc _ _ _ _ (fun k M1 q1 H1 x1 rm1 => ?_) q⟩
 cases k with
 | true=>rw [if_pos rfl] at q1 ⊢;exact ⟨ρ,M1,A,rs.mono (x1.stab rm),rm1,l.ext x1,q1⟩
 | false=>rw [if_neg Bool.false_ne_true] at q1 ⊢;exact ⟨ρ,M1,A,rs.mono (x1.stab rm),rm1,l.ext x1,q1⟩
theorem vh {te:TEd} {b:BT} (m:ad te) (D:bB) (σ:St) (H:Hp) (h:lS K (gN te b) D σ H):pJ (lE K te) (lG K b) D σ H:=by
 obtain ⟨ρ,M,A,rs,rm,l,q⟩:=h
 refine ⟨ρ,M,rs,rm,m _ _ _ _ (fun d M1 ⟨ρ',e,q1⟩ v H1 x1 rm1 rd1 => ?_) q⟩
 exact ⟨d, ρ, ρ',rd1,rs.mono (x1.stab rm),e,fun σ' rs'=>l.nx ρ' M1 σ' H1 x1 rs' rm1 q1⟩
theorem jS {te:TEd} {i:Nat} (m:ad te) (D:bB) (σ:St) (H:Hp) (h:lS K (gN te (bu i)) D σ H):pJ (lE K te) (i3 i) D σ H:=by
 obtain ⟨ρ,M,A,rs,rm,l,q⟩:=h
 refine ⟨ρ,M,rs,rm,m _ _ _ _ (fun d M1 ⟨ρ',e,q1⟩ v H1 x1 rm1 rd1 => ?_) q⟩
 cases e
 exact l.nx _ M1 _ H1 x1 ((rs.mono (x1.stab rm)).set i rd1) rm1 q1
theorem vj {src:TId} {b:BT} {tb:TSd} (ms:cb src) (mb:aI tb) (D:bB) (σ:St) (H:Hp) (h:lS K (lF src b tb) D σ H):zB (lI K src) (lG K b) (lS K tb) D σ H:=by
 obtain ⟨ρ,M,A,rs,rm,l,q⟩:=h
 refine ⟨ρ,M,rs,rm,ms _ _ _ _ (fun xs chk M1 q1 J H1 x1 rm1 it => ?_) q⟩
 refine ⟨fun i m σ H'=>m = xs.length - i /\ i <= xs.length /\ ∃ ρ M2,RS K H' σ ρ /\ RM K M2 H' /\ Ext M1 H1 M2 H' /\ bO b tb chk A (xs.drop i) ρ M2,⟨xs.length,by simp,Nat.zero_le _, ρ,M1,rs.mono (x1.stab rm),rm1,Ext.refl,q1⟩, ?_⟩
 rintro i m σ2 H2 ⟨rfl,hi, ρ2,M2,rs2,rm2,x2,q2⟩
 have st2:=x2.stab rm1
 by_cases hlt:i < xs.length
 ·rw [List.drop_eq_getElem_cons hlt] at q2
  obtain ⟨c, ρ',hb,q3⟩:=q2
  obtain ⟨go,yl⟩:=(it M2 H2 st2 rm2 c i).2 hlt
  refine .inr ⟨go,fun σ' H' => ∃ m',m' < xs.length - i /\ (m' = xs.length - (i + 1) /\ i + 1 <= xs.length /\ ∃ ρ M,RS K H' σ' ρ /\ RM K M H' /\ Ext M1 H1 M H' /\ bO b tb chk A (xs.drop (i + 1)) ρ M),fun σ' H' h=>h,fun x' H' y => ?_⟩
  obtain ⟨yy,d,hd,rd⟩:=yl x' H' y
  rw [List.getElem?_eq_getElem hlt] at hd
  cases hd
  obtain ⟨xy,rmy⟩:=yy.ext rm2
  have x12:=x1.trans (x2.trans xy)
  refine ⟨_, ρ2, ρ',rd,rs2.mono (xy.stab rm2),hb,fun σ3 rs3 => ?_⟩
  have nx:∀ ρ5 M5 σ5 H5,Ext M2 H' M5 H5 -> RS K H5 σ5 ρ5 -> RM K M5 H5 -> bO b tb chk A (xs.drop (i + 1)) ρ5 M5 -> ∃ m',m' < xs.length - i /\ (m' = xs.length - (i + 1) /\ i + 1 <= xs.length /\ ∃ ρ M,RS K H5 σ5 ρ /\ RM K M H5 /\ Ext M1 H1 M H5 /\ bO b tb chk A (xs.drop (i + 1)) ρ M) :=
   fun ρ5 M5 σ5 H5 x5 rs5 rm5 q5=>⟨xs.length - (i + 1),by omega,rfl,hlt, ρ5,M5,rs5,rm5,(x2.trans xy).trans x5,q5⟩
  refine ⟨ρ',M2, { A with nx:=bO b tb chk A (xs.drop (i + 1)),ct:=bO b tb chk A (xs.drop (i + 1)),bk:=A.nx },rs3,rmy,⟨nx,fun d M5 v H5 x5=>l.rt d M5 v H5 (x12.trans x5),fun ρ5 M5 σ5 H5 x5=>l.nx ρ5 M5 σ5 H5 (x12.trans x5),nx⟩,q3⟩
 ·have e:i = xs.length:=by omega
  subst e
  rw [List.drop_length] at q2
  exact .inl ⟨(it M2 H2 st2 rm2 q2.1 _).1 (Nat.le_refl _),l.nx ρ2 M2 σ2 H2 (x1.trans x2) rs2 rm2 q2.2⟩
theorem qe {c:TTd} {tb:TSd} (mc:aE c) (mb:aI tb) (D:bB) (σ:St) (H:Hp) (h:lS K (fC c tb) D σ H):qY (lT K c) (lS K tb) D σ H:=by
 obtain ⟨ρ,M,A,rs,rm,l,n,q⟩:=h
 refine ⟨fun m σ' H' => ∃ ρ' M',RS K H' σ' ρ' /\ RM K M' H' /\ Ext M H M' H' /\ bm c tb A m ρ' M',⟨n, ρ,M,rs,rm,Ext.refl,q⟩, ?_⟩
 rintro m σ1 H1 ⟨ρ1,M1,rs1,rm1,x1,q1⟩
 cases m with
 | zero=>exact q1.elim
 | succ m =>
   refine ⟨ρ1,M1,rs1,rm1,mc _ _ _ _ (fun k M2 q2 H2 x2 rm2 => ?_) q1⟩
   have x12:=x1.trans x2
   have rs2:=rs1.mono (x2.stab rm1)
   cases k with
   | false=>rw [if_neg Bool.false_ne_true] at q2;dsimp only;rw [if_neg Bool.false_ne_true];exact l.nx ρ1 M2 σ1 H2 x12 rs2 rm2 q2
   | true =>
     rw [if_pos rfl] at q2
     dsimp only
     rw [if_pos rfl]
     refine ⟨fun σ' H' => ∃ ρ' M',RS K H' σ' ρ' /\ RM K M' H' /\ Ext M H M' H' /\ bm c tb A m ρ' M',fun σ' H' h=>⟨m,Nat.lt_succ_self m,h⟩, ρ1,M2, { A with nx:=bm c tb A m,ct:=bm c tb A m,bk:=A.nx },rs2,rm2,⟨?_,fun d M5 v H5 x5=>l.rt d M5 v H5 (x12.trans x5),fun ρ5 M5 σ5 H5 x5=>l.nx ρ5 M5 σ5 H5 (x12.trans x5), ?_⟩,q2⟩
     ·exact fun ρ5 M5 σ5 H5 x5 rs5 rm5 q5=>⟨ρ5,M5,rs5,rm5,x12.trans x5,q5⟩
     ·exact fun ρ5 M5 σ5 H5 x5 rs5 rm5 q5=>⟨ρ5,M5,rs5,rm5,x12.trans x5,q5⟩
end
noncomputable def ga:D -> D -> D -> Mem -> (Mem -> Prop) -> Prop:=fun o i v M Q => ∃ a,o = .ref a /\
 ((∃ xs k j,i = .int k /\ M a = some (.lst xs) /\ ixN xs.length k = some j /\ Q (aj M a (.lst (xs.set j v)))) ∨
  ∃ t kvs,M a = some (.dct t kvs) /\ fS t i = true /\ kvs.length < sizeLine /\ Q (aj M a (.dct t (cj kvs i v))))
noncomputable def lH (te to ti:TEd):TSd:=fun D ρ M=>te ρ M fun v M1=>to ρ M1 fun o M2=>ti ρ M2 fun i M3=>ga o i v M3 fun M4=>D.nx ρ M4
theorem so {o i v:D} {M:Mem} {Q Q':Mem -> Prop} (h:∀ M',Q M' -> Q' M') (q:ga o i v M Q):ga o i v M Q':=by
 obtain ⟨a,e,⟨xs,k,j,e1,e2,e3,q⟩ | ⟨t,kvs,e1,e2,e3,q⟩⟩:=q
 ·exact ⟨a,e, .inl ⟨xs,k,j,e1,e2,e3,h _ q⟩⟩
 ·exact ⟨a,e, .inr ⟨t,kvs,e1,e2,e3,h _ q⟩⟩
theorem vm {te to ti:TEd} (he:ad te) (ho:ad to) (hi:ad ti):aI (lH te to ti):=fun a b ρ M i q =>
 he _ _ _ _ (fun v M1 q1=>ho _ _ _ _ (fun o M2 q2=>hi _ _ _ _ (fun k M3 q3=>so (fun M' q'=>i.nx _ _ q') q3) q2) q1) q
section
variable {X:Cx} {K:Frag}
theorem vp (hu:X.A.units + 1 < cLine):PSet X (fun o i v H Q => ∃ a H',o = .ref a /\ DPut H a i v H' /\ Q H'):=by
 intro pins s σ H o i v ov iv u Q I ro ri rv h
 obtain ⟨a,H',rfl,g,q⟩:=h
 cases ro
 exact rD hu I g ri rv fun s' I'=>⟨H',I',q⟩
theorem PSet.or {t t':pI} (h:PSet X t) (h':PSet X t'):PSet X (fun o i v H Q=>t o i v H Q ∨ t' o i v H Q):=by
 intro pins s σ H o i v ov iv u Q I ro ri rv q
 rcases q with q | q
 ·exact h pins s σ H o i v ov iv u Q I ro ri rv q
 ·exact h' pins s σ H o i v ov iv u Q I ro ri rv q
section
variable {κ:Type} [DecidableEq κ] {H:Hp} {RK:D -> κ -> Prop} (inj:∀ {d e:D} {k : κ},RK d k -> RK e k -> d = e) (fn:∀ {d:D} {k k' : κ},RK d k -> RK d k' -> k = k')
include inj fn
theorem ou {k:D} {q : κ} (hk:RK k q):∀ {kvs:List (D × D)} {ps:List (κ × V)},Paired (fun p r=>RK p.1 r.1 /\ RD K H p.2 r.2) kvs ps ->
 (kvs.any fun p=>decide (p.1 = k)) = (ps.any fun p=>decide (p.1 = q))
 | _,_, .nil=>rfl
 | _,_, .cons (a:=p) (b:=r) hr t=>by
   rw [List.any_cons,List.any_cons,ou hk t]
   congr 1
   by_cases e:p.1 = k
   ·have e':r.1 = q:=by have h1:=hr.1;rw [e] at h1;exact fn h1 hk
    rw [decide_eq_true e,decide_eq_true e']
   ·have e' : ¬ r.1 = q:=fun z=>e (by have h1:=hr.1;rw [z] at h1;exact inj h1 hk)
    rw [decide_eq_false e,decide_eq_false e']
theorem ow {k:D} {q : κ} (hk:RK k q) {d:D} {v:V} (hv:RD K H d v):∀ {kvs:List (D × D)} {ps:List (κ × V)},Paired (fun p r=>RK p.1 r.1 /\ RD K H p.2 r.2) kvs ps ->
 Paired (fun p r=>RK p.1 r.1 /\ RD K H p.2 r.2) (kvs.map fun p=>if p.1 = k then (p.1,d) else p) (ps.map fun p=>if p.1 = q then (p.1,v) else p)
 | _,_, .nil => .nil
 | _,_, .cons (a:=p) (b:=r) hr t=>by
   refine .cons ?_ (ow hk hv t)
   by_cases e:p.1 = k
   ·have e':r.1 = q:=by have h1:=hr.1;rw [e] at h1;exact fn h1 hk
    dsimp only
    rw [if_pos e,if_pos e']
    exact ⟨hr.1,hv⟩
   ·have e' : ¬ r.1 = q:=fun z=>e (by have h1:=hr.1;rw [z] at h1;exact inj h1 hk)
    dsimp only
    rw [if_neg e,if_neg e']
    exact hr
theorem gO {k:D} {q : κ} (hk:RK k q) {d:D} {v:V} (hv:RD K H d v) {kvs:List (D × D)} {ps:List (κ × V)} (r:Paired (fun p r=>RK p.1 r.1 /\ RD K H p.2 r.2) kvs ps) :
 Paired (fun p r=>RK p.1 r.1 /\ RD K H p.2 r.2) (cj kvs k d) (bo ps q v):=by
 unfold cj bo
 rw [ou (K:=K) (H:=H) (RK:=RK) inj fn hk r]
 by_cases e:(ps.any fun p=>decide (p.1 = q)) = true
 ·rw [if_pos e,if_pos e]
  exact ow (RK:=RK) inj fn hk hv r
 ·rw [if_neg e,if_neg e]
  exact r.snoc ⟨hk,hv⟩
end
theorem vq {M:Mem} {H:Hp} {o i v:D} {ov iv vv:V} {Qd:Mem -> Prop} {Q:Hp -> Prop} (rm:RM K M H) (ro:RD K H o ov) (ri:RD K H i iv) (rv:RD K H v vv) (h:ga o i v M Qd) (hQ:∀ M' H',Ext M H M' H' -> RM K M' H' -> Qd M' -> Q H') :
 wu ov iv vv H Q ∨ ∃ a H',ov = .ref a /\ DPut H a iv vv H' /\ Q H':=by
 obtain ⟨a,rfl,⟨xs,k,j,rfl,e2,e3,q⟩ | ⟨t,kvs,e1,e2,e3,q⟩⟩:=h
 ·cases RD.ref_iff.mp ro
  cases RD.int_iff.mp ri
  obtain ⟨vs,ha,rs⟩:=rm _ _ e2
  have st:Stab H (upd H a (.lst (vs.set j vv))):=rm.stabPut e2
  exact .inl ⟨a,vs,k,j,rfl,rfl,ha,by rw [rs.length];exact e3,hQ _ _ (Ext.put e2) (rm.put (o := .lst (xs.set j v)) e2 ⟨_,av,(rs.set j rv).mono st⟩) q⟩
 ·cases RD.ref_iff.mp ro
  have ro':=rm _ _ e1
  cases t with
  | false =>
    obtain ⟨ps,hp,pr⟩:=ro'
    obtain ⟨kq,hk⟩:=kP (show eN i = true from e2)
    have st:Stab H (upd H a (.dK (bo ps kq vv))):=rm.stabPut e1
    have pr2:=gO (RK:=RKey) RKey.inj RKey.fun hk rv pr
    rw [jf hk ri]
    refine .inr ⟨a,_,rfl,DPut.k hp (by rw [<- Paired.length pr];exact e3),hQ _ _ (Ext.put e1) (rm.put (o := .dct false (cj kvs i v)) e1 ⟨_,av,Paired.mapP pr2 fun _ _ z=>⟨z.1,z.2.mono st⟩⟩) q⟩
  | true =>
    obtain ⟨ps,hp,pr⟩:=ro'
    obtain ⟨kq,hk⟩:=ja (show bZ i = true from e2)
    have st:Stab H (upd H a (.dT (bo ps kq vv))):=rm.stabPut e1
    have pr2:=gO (RK:=RKeys) RKeys.inj RKeys.fun hk rv pr
    cases i <;> first
     | exact hk.elim
     | (obtain ⟨b,us,rfl,hb,ru⟩:=RD.tup_iff.mp ri
        rw [eO hk ru] at hb
        exact .inr ⟨a,_,rfl,DPut.t hp hb (by rw [<- Paired.length pr];exact e3),hQ _ _ (Ext.put e1) (rm.put (o := .dct true (cj kvs _ v)) e1 ⟨_,av,Paired.mapP pr2 fun _ _ z=>⟨z.1,z.2.mono st⟩⟩) q⟩)
theorem Ai {o i e:Expr} {te to ti:TEd} {pos tpos:Pos} (hu:X.A.units + 1 < cLine) (me:ad te) (mo:ad to) (mi:ad ti) (he:PE X e (lE X.K te)) (ho:PE X o (lE X.K to)) (hi:PE X i (lE X.K ti))
 (hs:swapsWithSole [.Subscript o i tpos] e pos.line X.env = pure false) (hw:swappedStores [.Subscript o i tpos] e X.env = pure none)
 (ha:∀ v,assign (.Subscript o i tpos) X.env v = (do
   let ov <- holding [v] (eval o X.env)
   let iv <- holding [v,ov] (eval i X.env)
   standAt tpos
   holding [v,ov,iv] (setItem ov iv v)
   release [v,ov,iv] [])):PS X (.Assign [.Subscript o i tpos] e pos) (lS X.K (lH te to ti)):=by
 refine PS.imp (qX he (zy ho hi (PSet.or ut (vp hu)) ha) hs hw rfl) fun D σ H h => ?_
 obtain ⟨ρ,M,A,rs,rm,l,q⟩:=h
 refine ⟨ρ,M,rs,rm,me _ _ _ _ (fun v M1 q1 vv H1 x1 rm1 rd1 => ?_) q⟩
 refine ⟨ρ,M1,rs.mono (x1.stab rm),rm1,mo _ _ _ _ (fun ov M2 q2 vo H2 x2 rm2 rd2 => ?_) q1⟩
 refine ⟨ρ,M2,(rs.mono (x1.stab rm)).mono (x2.stab rm1),rm2,mi _ _ _ _ (fun iv M3 q3 vi H3 x3 rm3 rd3 => ?_) q2⟩
 have x13:=x1.trans (x2.trans x3)
 exact vq rm3 (rd2.mono (x3.stab rm2)) rd3 ((rd1.mono (x2.stab rm1)).mono (x3.stab rm2)) q3 fun M' H' x4 rm4 q4=>l.nx ρ M' σ H' (x13.trans x4) (rs.mono ((x13.trans x4).stab rm)) rm4 q4
end
end
end Mi
end L2
namespace L2
open PySem PySem.Spec PyProof.Rows
namespace Mi
variable {K:Frag}
theorem sr {ta:TAd} {i j:Nat} (m:bq ta) (D:bB) (σ:St) (H:Hp) (h:lS K (lD ta (bC (bu i) (bC (bu j) eS))) D σ H):zz i j (lA K ta) D σ H:=by
 obtain ⟨ρ,M,A,rs,rm,l,q⟩:=h
 refine ⟨ρ,M,rs,rm,m _ _ _ _ (fun ds M1 ⟨ρ',e,q1⟩ vs H1 x1 rm1 rd1 => ?_) q⟩
 match ds,e,rd1 with
 | [d1,d2],e,rd1 =>
  obtain ⟨v,u,rfl,r1,r2⟩:=rd1.two
  simp only [bC,bu,eS,Option.bind_some,Option.some.injEq] at e
  subst e
  exact ⟨v,u,rfl,l.nx _ M1 _ H1 x1 (((rs.mono (x1.stab rm)).set i r1).set j r2) rm1 q1⟩
end Mi
end L2
namespace L2
open PySem PySem.Spec PyProof.Rows
namespace Mi
end Mi
end L2
namespace L2
namespace Mi
open PySem PySem.Spec PyProof.Rows
section
section
variable {X:Cx}
noncomputable def lJ:D -> Option Bool
 | .bl b=>some b
 | .int i=>some (i != 0)
 | _=>none
noncomputable def qf:RAd:=fun xs M Q => ∃ x ds ts,xs = [x] /\ ax M x = some ds /\ aF lJ ds = some ts /\ Q (.bl (ts.all id)) M
theorem lK:aZ qf:=fun _ _ _ _ h ⟨x,ds,ts,e,e1,e2,q⟩=>⟨x,ds,ts,e,e1,e2,h _ _ q⟩
theorem lL {α β:Type} {f : α -> Option β}:∀ {xs:List α} {ys:List β},aF f xs = some ys -> ys.length = xs.length /\ ∀ (i:Nat) x,xs[i]? = some x -> ∃ y,ys[i]? = some y /\ f x = some y
 | [],ys,h=>by cases h;exact ⟨rfl,fun i x e=>by simp at e⟩
 | x :: xs,ys,h=>by
   simp only [aF] at h
   cases e1:f x with
   | none=>rw [e1] at h;cases h
   | some y =>
     rw [e1] at h
     simp only [Option.bind_some] at h
     cases e2:aF f xs with
     | none=>rw [e2] at h;cases h
     | some r =>
       rw [e2] at h;cases h
       obtain ⟨l,g⟩:=lL e2
       refine ⟨by simp [l],fun i z e => ?_⟩
       cases i with
       | zero=>simp at e;subst e;exact ⟨y,rfl,e1⟩
       | succ i=>simp at e;simpa using g i z e
theorem ye {P:Program} {w:World} {A:Around} {E:Value -> Shared -> Prop} {s:Shared} {K:Frag} {H:Hp} {d:D} {v:V} {u:Value} {b:Bool} {Q:Bool -> Shared -> Prop} (e:lJ d = some b) (rd:RD K H d v) (ru:RelV v u) (q:Q b s):wpAny (model P w) A (truthy u) Q E s:=by
 cases d with
 | bl c=>cases RD.bl_iff.mp rd;cases ru;cases e;exact wpAny_truthy_bool q
 | int i=>cases RD.int_iff.mp rd;obtain ⟨t,rfl⟩:=ru;cases e;exact PyProof.Rows.truthy_int q
 | _=>cases e
theorem range_all {ts:List Bool}:(List.range ts.length).all (fun i=>ts.getD i false) = ts.all id /\ (List.range ts.length).any (fun i=>ts.getD i false) = ts.any id:=by
 have e:(List.range ts.length).map (fun i=>ts.getD i false) = ts:=by
  apply List.ext_getElem
  ·simp
  ·intro i h1 h2;simp [List.getD_eq_getElem?_getD,List.getElem?_eq_getElem h2]
 constructor
 ·conv=>rhs;rw [<- e]
  rw [List.all_map];rfl
 ·conv=>rhs;rw [<- e]
  rw [List.any_map];rfl
theorem vt (hc:X.calm = true) {pins:List (Addr × Obj)} {s:Shared} {σ:St} {H:Hp} {M:Mem} {x:D} {ds:List D} {ts:List Bool} {v:V} {u:Value} {Q:Value -> Shared -> Prop} {g:List Bool -> Bool} (I:Inv X pins σ H s) (rm:RM X.K M H) (rd:RD X.K H x v) (ru:RelV v u) (e1:ax M x = some ds) (e2:aF lJ ds = some ts)
 (fin:∀ h' tk,Inv X pins σ H { s with heap:=h',toks:=tk } -> Q (.bool (g ts)) { s with heap:=h',toks:=tk })
 (gg:Nat -> (Nat -> Bool) -> Bool) (hg:gg ts.length (fun i=>ts.getD i false) = g ts) :
 wpAny (model X.prog X.w) X.A.in1 (pyIter u) (fun it s₂ => ∃ I fp wr n P St tr,it = .ref I /\ Walks X.prog X.w X.A.in1 I fp wr n P St /\ St 0 s₂.heap /\ TruthOf X.prog X.w X.A.in1 P tr /\
  ∀ h' tk,(∀ b o,b ∉ wr -> s₂.heap.get? b = some o -> h'.get? b = some o) -> Q (.bool (gg n tr)) { s₂ with heap:=h',toks:=tk }) X.xe s:=by
 obtain ⟨p,vs,rfl,sq,r2⟩:=rQ rm rd e1
 cases ru
 obtain ⟨lt,get⟩:=lL e2
 have lv:=r2.length
 have tr:∀ (its:List Value),Vals vs its -> TruthOf X.prog X.w X.A.in1 (fun i w=>its.toArray[i]? = some w) (fun i=>ts.getD i false):=by
  intro its rv i w s' Q' E' hP hQ
  have hP':its[i]? = some w:=by simpa using hP
  have li:=rv.length
  have hi:i < its.length:=(List.getElem?_eq_some_iff.mp hP').1
  obtain ⟨d,hd⟩:∃ d,ds[i]? = some d:=⟨ds[i]'(by omega),List.getElem?_eq_getElem (by omega)⟩
  obtain ⟨v',hv',rd'⟩:=r2.get hd
  obtain ⟨u',hu',ru'⟩:=rv.get hv'
  rw [hP'] at hu';cases hu'
  obtain ⟨b,hb,eb⟩:=get i d hd
  have:ts.getD i false = b:=by rw [List.getD_eq_getElem?_getD,hb];rfl
  have hQ:Q' (ts.getD i false) s':=hQ
  rw [this] at hQ
  exact ye eb rd' ru' hQ
 rcases sq with sq | sq
 ·obtain ⟨its,rv,pl,hz⟩:=I.list sq
  have li:=rv.length
  have hlt:p < s.heap.objs.size:=by obtain ⟨o,n,e,_⟩:=pl;exact Heap.lt_size e
  refine wpAny_pyIter_list pl.isList ⟨s.heap.objs.size,_,_,_,_,_,_,rfl,Walks.list (by rw [Around.in1_handled];exact I.ok.hd hc) s.heap.objs.size p (Nat.ne_of_lt hlt) its.toArray,⟨⟨_,Heap.get?_push_size _ rfl,rfl,rfl⟩,pl.isList.at fun o e=>Heap.get?_push_of_some _ e⟩,tr its rv,fun h' tk k => ?_⟩
  have hn:its.toArray.size = ts.length:=by rw [List.size_toArray];omega
  rw [hn,hg]
  exact fin h' tk (I.kept (t':=tk) fun b o e=>k b o (by simp;exact Nat.ne_of_lt (Heap.lt_size e)) (Heap.get?_push_of_some _ e))
 ·obtain ⟨its,rv,pl,hz⟩:=I.tuple sq
  have li:=rv.length
  have hlt:p < s.heap.objs.size:=by obtain ⟨o,e,_⟩:=pl;exact Heap.lt_size e
  have pt:s.heap.IsTuple p its.toArray:=pl
  refine wpAny_pyIter_tuple pt ⟨s.heap.objs.size,_,_,_,_,_,_,rfl,Walks.tuple (by rw [Around.in1_handled];exact I.ok.hd hc) s.heap.objs.size p (Nat.ne_of_lt hlt) its.toArray,⟨⟨_,Heap.get?_push_size _ rfl,rfl,rfl⟩,pt.push _⟩,tr its rv,fun h' tk k => ?_⟩
  have hn:its.toArray.size = ts.length:=by rw [List.size_toArray];omega
  rw [hn,hg]
  exact fin h' tk (I.kept (t':=tk) fun b o e=>k b o (by simp;exact Nat.ne_of_lt (Heap.lt_size e)) (Heap.get?_push_of_some _ e))
theorem qg (hc:X.calm = true):CallR X (.builtin "all") (lR X.K qf):=by
 intro pins s σ H xs us Q I rv h
 obtain ⟨ds,M,rm,rs,x,es,ts,rfl,e1,e2,q⟩:=h
 obtain ⟨v,rfl,r⟩:=rs.one
 obtain ⟨u,rfl,ru⟩:=dD rv
 exact call_all_walk (vt hc I rm r ru e1 e2 (g:=fun ts=>ts.all id) (fun h' tk I'=>⟨.bl _,H,I',rfl,q _ H Ext.refl rm (RD.bl_iff.mpr rfl)⟩) (fun n tr=>(List.range n).all tr) range_all.1)
noncomputable def iG (t:Bool):TEd:=fun _ M Q => ∀ p,M p = none -> Q (.ref p) (aj M p (.dct t []))
theorem su {t:Bool}:ad (iG t):=fun _ _ _ _ i q p n=>i _ _ (q p n)
theorem yf {t:Bool} {pos:Pos}:PE X (.Dict [] [] pos) (lE X.K (iG t)):=by
 cases t with
 | false =>
   refine PE.imp uB fun σ H Q ⟨ρ,M,rs,rm,q⟩ p n => ?_
   exact q p (rm.out n) (.ref p) _ (Ext.lay n) (rm.lay n ⟨[],av, .nil⟩) (RD.ref_iff.mpr rfl)
 | true =>
   refine PE.imp uC fun σ H Q ⟨ρ,M,rs,rm,q⟩ p n => ?_
   exact q p (rm.out n) (.ref p) _ (Ext.lay n) (rm.lay n ⟨[],av, .nil⟩) (RD.ref_iff.mpr rfl)
end
end
end Mi
end L2
namespace L2
namespace Srt
open PySem PySem.Spec PyProof.Rows
structure Cm (prog:Program) (w:World) (A:Around) (s:Shared) (kd:SortKind) (P:Keyed -> Prop) (lt:Keyed -> Keyed -> Bool):Prop where
 asym:∀ x y,lt x y = true -> lt y x = false
 neg:∀ x y z,lt x z = true -> lt x y = true ∨ lt y z = true
 run:∀ (x y:Keyed) (E:Value -> Shared -> Prop) (Q:Bool -> Shared -> Prop),P x -> P y -> Q (lt x y) s -> wpAny (PySem.model prog w) A (keyLt' kd x.1 y.1) Q E s
section
variable {prog:Program} {w:World} {A:Around} {E:Value -> Shared -> Prop} {s:Shared} {kd:SortKind} {P:Keyed -> Prop} {lt:Keyed -> Keyed -> Bool}
theorem aa {σ α:Type} {M:Model} {x : α} {st : σ} {Q : α -> σ -> Prop} (q:Q x st):wpS M A E s (pure x) Q st :=
 fun _ _ _=>⟨rfl,q⟩
theorem cD {σ:Type} {M:Model} {tag:String} {st : σ} {Q:Unit -> σ -> Prop} (q:Q () st):wpS M A E s (liftM (PySem.rule tag)) Q st :=
 wpS_lift (wpAny_rule ⟨rfl,q⟩)
theorem yg {σ:Type} {M:Model} {st st' : σ} {Q:PUnit -> σ -> Prop} (q:Q PUnit.unit st'):wpS M A E s (set st') Q st :=
 fun _ _ _=>⟨rfl,q⟩
theorem iH (c:Cm prog w A s kd P lt) {x y:Keyed} {st:SortSt} {Q:Option Bool -> SortSt -> Prop} (hk:kindOf st = kd) (hx:P x) (hy:P y) (q:Q (some (lt x y)) st):wpS (PySem.model prog w) A E s (lt' x y) Q st:=by
 rw [lt'_eq]
 refine wpS_bind (wpS_get ?_)
 refine wpS_bind (wpS_lift ?_)
 rw [hk]
 intro Γ p hp
 rw [Sem.wp_attempt]
 exact c.run x y (fun e s'=>s' = s /\ wpS (PySem.model prog w) A E s (do modify fun s=>SortSt.mk' (kindOf s) (arrOf s) (pendingOf s) (gallopOf s) (some e);pure none) Q st) (fun b s'=>s' = s /\ wpS (PySem.model prog w) A E s (pure (some b)) Q st) hx hy ⟨rfl,aa q⟩ Γ p hp
theorem aA {arr:Array Keyed} {i:Nat} {x:Keyed} {st:SortSt} {Q:Keyed -> SortSt -> Prop} (h:arr[i]? = some x) (q:Q x st):wpS (PySem.model prog w) A E s (elem' arr i) Q st:=by
 rw [elem'_eq,h]
 exact aa q
theorem Cm.le_trans (c:Cm prog w A s kd P lt) {x y z:Keyed} (h:lt y x = false) (h2:lt z y = false):lt z x = false:=by
 cases e:lt z x with
 | false=>rfl
 | true=>rcases c.neg z y x e with q | q <;> simp_all
theorem Cm.irr (c:Cm prog w A s kd P lt) {x:Keyed}:lt x x = false:=by
 cases e:lt x x with
 | false=>rfl
 | true=>have:=c.asym x x e;rw [e] at this;exact this
theorem aB {σ α:Type} {M:Model} {m:StateT σ Sem α} {st : σ} {Q Q' : α -> σ -> Prop} (h:wpS M A E s m Q st) (q:∀ a st',Q a st' -> Q' a st'):wpS M A E s m Q' st :=
 wpAny_mono h (fun a s' z=>⟨z.1,q _ _ z.2⟩) fun _ _ z=>z
end
noncomputable abbrev Aj:=Bool -> Keyed -> Array Keyed -> Nat -> Nat -> Nat -> StateT SortSt Sem (Option Nat)
noncomputable abbrev Ak:=Array Keyed -> Array Keyed -> StateT SortSt Sem (Array Keyed)
noncomputable def bey (lt:Keyed -> Keyed -> Bool) (left:Bool) (key x:Keyed):Bool:=if left = true then lt x key else !(lt key x)
structure Same (st st':SortSt):Prop where
 arr:arrOf st' = arrOf st
 kind:kindOf st' = kindOf st
 pend:pendingOf st' = pendingOf st
 fail:failedOf st' = failedOf st
noncomputable def gb (prog:Program) (w:World) (A:Around) (E:Value -> Shared -> Prop) (s:Shared) (kd:SortKind) (P:Keyed -> Prop) (lt:Keyed -> Keyed -> Bool) (g:Aj):Prop :=
 ∀ (left:Bool) (key:Keyed) (arr:Array Keyed) (L xs R:List Keyed) (base n aJ:Nat) (st:SortSt) (Q:Option Nat -> SortSt -> Prop),kindOf st = kd -> P key -> arr.toList = L ++ xs ++ R -> base = L.length -> n = xs.length -> (∀ x ∈ xs,P x) -> aJ < n ->
  xs.Pairwise (fun x y=>lt y x = false) ->
  (∀ X Y,xs = X ++ Y -> (∀ x ∈ X,bey lt left key x = true) -> (∀ x ∈ Y,bey lt left key x = false) -> Q (some X.length) st) ->
  wpS (PySem.model prog w) A E s (g left key arr base n aJ) Q st
noncomputable def gc (prog:Program) (w:World) (A:Around) (E:Value -> Shared -> Prop) (s:Shared) (kd:SortKind) (P:Keyed -> Prop) (lt:Keyed -> Keyed -> Bool) (m:Ak):Prop :=
 ∀ (a b:Array Keyed) (st:SortSt) (Q:Array Keyed -> SortSt -> Prop),kindOf st = kd -> (∀ x ∈ a.toList,P x) -> (∀ x ∈ b.toList,P x) -> 0 < a.size -> 0 < b.size ->
  a.toList.Pairwise (fun x y=>lt y x = false) -> b.toList.Pairwise (fun x y=>lt y x = false) -> (∀ x y,a[0]? = some x -> b[0]? = some y -> lt x y = false) -> (∀ x y,a[a.size - 1]? = some x -> b[b.size - 1]? = some y -> lt x y = false) ->
  (∀ r st',r.toList.Perm (a.toList ++ b.toList) -> r.toList.Pairwise (fun x y=>lt y x = false) -> Same st st' -> Q r st') ->
  wpS (PySem.model prog w) A E s (m a b) Q st
section
variable {prog:Program} {w:World} {A:Around} {E:Value -> Shared -> Prop} {s:Shared} {kd:SortKind} {P:Keyed -> Prop} {lt:Keyed -> Keyed -> Bool}
theorem fE (c:Cm prog w A s kd P lt) {left:Bool} {key x:Keyed} {arr:Array Keyed} {j:Nat} {st:SortSt} {Q:Option Bool -> SortSt -> Prop} (hk:kindOf st = kd) (hx:P key) (hy:P x) (e:arr[j]? = some x) (q:Q (some (bey lt left key x)) st) :
 wpS (PySem.model prog w) A E s (do
  let x <- elem' arr j
  if left = true then lt' x key else do
   let r <- lt' key x
   pure (Option.map (fun x => !x) r)) Q st:=by
 refine wpS_bind (aA e ?_)
 cases left with
 | true=>exact iH c hk hy hx q
 | false=>exact wpS_bind (iH c hk hx hy (aa q))
theorem lM (c:Cm prog w A s kd P lt) {left:Bool} {key x y:Keyed} (h:lt y x = false) (hb:bey lt left key y = true):bey lt left key x = true:=by
 unfold bey at hb ⊢
 cases left with
 | true =>
   rw [if_pos rfl] at hb ⊢
   rcases c.neg y x key hb with q | q
   ·rw [h] at q;cases q
   ·exact q
 | false =>
   simp at hb ⊢
   cases e:lt key x with
   | false=>rfl
   | true =>
     rcases c.neg key y x e with q | q
     ·rw [hb] at q;cases q
     ·rw [h] at q;cases q
structure Gal (lt:Keyed -> Keyed -> Bool) (left:Bool) (key:Keyed) (xs:List Keyed) (lo hi:Nat):Prop where
 le:lo <= hi
 len:hi <= xs.length
 up:∀ i x,i < lo -> xs[i]? = some x -> bey lt left key x = true
 dn:∀ i x,hi <= i -> xs[i]? = some x -> bey lt left key x = false
theorem dZ {xs:List Keyed} {R:Keyed -> Keyed -> Prop} (h:xs.Pairwise R) {i j:Nat} {x y:Keyed} (hij:i < j) (hx:xs[i]? = some x) (hy:xs[j]? = some y):R x y:=by
 obtain ⟨h1,e1⟩:=List.getElem?_eq_some_iff.mp hx
 obtain ⟨h2,e2⟩:=List.getElem?_eq_some_iff.mp hy
 rw [<- e1, <- e2]
 exact List.pairwise_iff_getElem.mp h i j h1 h2 hij
theorem gd (c:Cm prog w A s kd P lt) {left:Bool} {key:Keyed} {xs:List Keyed} (h:xs.Pairwise (fun x y=>lt y x = false)) {j:Nat} {y:Keyed} (hy:xs[j]? = some y) (hb:bey lt left key y = true):∀ i x,i < j + 1 -> xs[i]? = some x -> bey lt left key x = true:=by
 intro i x hi hx
 by_cases e:i = j
 ·subst e;rw [hx] at hy;cases hy;exact hb
 ·exact lM c (dZ h (by omega) hx hy) hb
theorem gf (c:Cm prog w A s kd P lt) {left:Bool} {key:Keyed} {xs:List Keyed} (h:xs.Pairwise (fun x y=>lt y x = false)) {j:Nat} {y:Keyed} (hy:xs[j]? = some y) (hb:bey lt left key y = false):∀ i x,j <= i -> xs[i]? = some x -> bey lt left key x = false:=by
 intro i x hi hx
 by_cases e:i = j
 ·subst e;rw [hx] at hy;cases hy;exact hb
 ·cases q:bey lt left key x with
  | false=>rfl
  | true=>have:=lM c (dZ h (by omega) hy hx) q;rw [hb] at this;cases this
theorem Gal.out {left:Bool} {key:Keyed} {xs:List Keyed} {k:Nat} (g:Gal lt left key xs k k):∃ X Y,xs = X ++ Y /\ X.length = k /\ (∀ x ∈ X,bey lt left key x = true) /\ (∀ x ∈ Y,bey lt left key x = false):=by
 refine ⟨xs.take k,xs.drop k,(List.take_append_drop k xs).symm,by rw [List.length_take];exact Nat.min_eq_left g.len,fun x hx => ?_,fun x hx => ?_⟩
 ·obtain ⟨i,hi,e⟩:=List.mem_iff_getElem.mp hx
  rw [List.length_take] at hi
  exact g.up i x (by omega) (by rw [List.getElem_take] at e;rw [<- e];exact List.getElem?_eq_getElem _)
 ·obtain ⟨i,hi,e⟩:=List.mem_iff_getElem.mp hx
  rw [List.length_drop] at hi
  refine g.dn (k + i) x (by omega) ?_
  rw [List.getElem_drop] at e
  rw [<- e];exact List.getElem?_eq_getElem _
noncomputable abbrev Ord (lt:Keyed -> Keyed -> Bool) (l:List Keyed):Prop:=l.Pairwise fun x y=>lt y x = false
theorem lN {out X A' B:List Keyed} (h1:Ord lt (out ++ (X ++ A'))) (h2:Ord lt (out ++ B)) (h:∀ x ∈ X, ∀ y ∈ B,lt y x = false):Ord lt ((out ++ X) ++ A') /\ Ord lt ((out ++ X) ++ B):=by
 refine ⟨by rw [List.append_assoc];exact h1, ?_⟩
 rw [List.append_assoc]
 obtain ⟨o1,o2,o3⟩:=List.pairwise_append.mp h1
 obtain ⟨p1,p2,p3⟩:=List.pairwise_append.mp h2
 obtain ⟨q1,q2,q3⟩:=List.pairwise_append.mp o2
 refine List.pairwise_append.mpr ⟨o1,List.pairwise_append.mpr ⟨q1,p2,h⟩,fun x hx y hy => ?_⟩
 rcases List.mem_append.mp hy with z | z
 ·exact o3 x hx y (List.mem_append_left _ z)
 ·exact p3 x hx y z
structure ML (lt:Keyed -> Keyed -> Bool) (la lb out:List Keyed) (ia ib:Nat):Prop where
 pa:Ord lt (out ++ la.drop ia)
 pb:Ord lt (out ++ lb.drop ib)
 pm:(out ++ (la.drop ia ++ lb.drop ib)).Perm (la ++ lb)
theorem ox (c:Cm prog w A s kd P lt) {l:List Keyed} {i:Nat} {x y:Keyed} (h:Ord lt (l.drop i)) (hy:l[i]? = some y) (hx:lt y x = false):∀ z ∈ l.drop i,lt z x = false:=by
 obtain ⟨hi,e⟩:=List.getElem?_eq_some_iff.mp hy
 rw [List.drop_eq_getElem_cons hi,e] at h ⊢
 intro z hz
 rcases List.mem_cons.mp hz with q | q
 ·rw [q];exact hx
 ·exact c.le_trans hx ((List.pairwise_cons.mp h).1 z q)
theorem dv {l X Y:List Keyed} {i:Nat} (e:l.drop i = X ++ Y):l.drop (i + X.length) = Y:=by
 rw [<- List.drop_drop,e,List.drop_left]
theorem ML.galA (c:Cm prog w A s kd P lt) {la lb out X Y:List Keyed} {ia ib:Nat} {y:Keyed} (m:ML lt la lb out ia ib) (e:la.drop ia = X ++ Y) (hy:lb[ib]? = some y) (h:∀ x ∈ X,lt y x = false):ML lt la lb (out ++ X) (ia + X.length) ib:=by
 have p2:=(List.pairwise_append.mp m.pb).2.1
 have q:=lN (X:=X) (A':=Y) (by rw [<- e];exact m.pa) m.pb fun x hx=>ox c p2 hy (h x hx)
 refine ⟨by rw [dv e];exact q.1,q.2, ?_⟩
 rw [dv e]
 refine List.Perm.trans (List.Perm.of_eq ?_) m.pm
 rw [e];simp
theorem ML.galB (c:Cm prog w A s kd P lt) {la lb out X Y:List Keyed} {ia ib:Nat} {y:Keyed} (m:ML lt la lb out ia ib) (e:lb.drop ib = X ++ Y) (hy:la[ia]? = some y) (h:∀ x ∈ X,lt y x = false):ML lt la lb (out ++ X) ia (ib + X.length):=by
 have p2:=(List.pairwise_append.mp m.pa).2.1
 have q:=lN (X:=X) (A':=Y) (by rw [<- e];exact m.pb) m.pa fun x hx=>ox c p2 hy (h x hx)
 refine ⟨q.2,by rw [dv e];exact q.1, ?_⟩
 rw [dv e]
 refine List.Perm.trans ?_ m.pm
 rw [e,List.append_assoc]
 refine List.Perm.append_left _ ?_
 rw [<- List.append_assoc, <- List.append_assoc]
 exact List.Perm.append_right _ List.perm_append_comm
theorem dw {l:List Keyed} {i:Nat} {x:Keyed} (h:l[i]? = some x):l.drop i = [x] ++ l.drop (i + 1):=by
 obtain ⟨hi,e⟩:=List.getElem?_eq_some_iff.mp h
 rw [List.drop_eq_getElem_cons hi,e];rfl
theorem ML.pushA (c:Cm prog w A s kd P lt) {la lb out:List Keyed} {ia ib:Nat} {x y:Keyed} (m:ML lt la lb out ia ib) (hx:la[ia]? = some x) (hy:lb[ib]? = some y) (h:lt y x = false):ML lt la lb (out ++ [x]) (ia + 1) ib :=
 m.galA c (dw hx) hy (by simpa using h)
theorem ML.pushB (c:Cm prog w A s kd P lt) {la lb out:List Keyed} {ia ib:Nat} {x y:Keyed} (m:ML lt la lb out ia ib) (hx:la[ia]? = some x) (hy:lb[ib]? = some y) (h:lt x y = false):ML lt la lb (out ++ [y]) ia (ib + 1) :=
 m.galB c (dw hy) hx (by simpa using h)
noncomputable def Res (lt:Keyed -> Keyed -> Bool) (la lb r:List Keyed):Prop:=r.Perm (la ++ lb) /\ Ord lt r
theorem ML.fin {la lb out:List Keyed} {ia ib:Nat} (m:ML lt la lb out ia ib) (h:lb.length <= ib):Res lt la lb (out ++ la.drop ia ++ lb.drop ib):=by
 rw [List.drop_eq_nil_of_le h,List.append_nil]
 refine ⟨?_,m.pa⟩
 have:=m.pm
 rw [List.drop_eq_nil_of_le h,List.append_nil] at this
 exact this
theorem ML.finE {la lb out:List Keyed} {ia ib:Nat} (m:ML lt la lb out ia ib) (h:la.length <= ia):Res lt la lb (out ++ la.drop ia ++ lb.drop ib):=by
 rw [List.drop_eq_nil_of_le h,List.append_nil]
 refine ⟨?_,m.pb⟩
 have:=m.pm
 rw [List.drop_eq_nil_of_le h,List.nil_append] at this
 exact this
theorem ML.finA {la lb out:List Keyed} {ia ib:Nat} (m:ML lt la lb out ia ib) (h:∀ x ∈ lb, ∀ y ∈ la.drop ia,lt y x = false):Res lt la lb (out ++ lb.drop ib ++ la.drop ia):=by
 refine ⟨?_, ?_⟩
 ·refine List.Perm.trans ?_ m.pm
  rw [List.append_assoc]
  exact List.Perm.append_left _ List.perm_append_comm
 ·obtain ⟨o1,o2,o3⟩:=List.pairwise_append.mp m.pa
  refine List.pairwise_append.mpr ⟨m.pb,o2,fun x hx y hy => ?_⟩
  rcases List.mem_append.mp hx with z | z
  ·exact o3 x z y hy
  ·exact h x (List.mem_of_mem_drop z) y hy
theorem ML.size {la lb out:List Keyed} {ia ib:Nat} (m:ML lt la lb out ia ib) (ha:ia <= la.length) (hb:ib <= lb.length):out.length = ia + ib:=by
 have:=m.pm.length_eq
 simp only [List.length_append,List.length_drop] at this
 omega
theorem aD {a:Array Keyed} {i:Nat} (h:i < a.size):∃ x,a[i]? = some x /\ a.toList[i]? = some x /\ x ∈ a.toList:=by
 refine ⟨a[i],Array.getElem?_eq_getElem h, ?_,Array.getElem_mem_toList h⟩
 rw [Array.getElem?_toList];exact Array.getElem?_eq_getElem h
theorem bD {a:Array Keyed} {i:Nat}:(a.extract i).toList = a.toList.drop i:=by
 rw [Array.toList_extract]
 simp only [List.extract]
 exact List.take_of_length_le (by simp)
theorem yh {a:Array Keyed} {i:Nat} {X Y:List Keyed} (e:a.toList.drop i = X ++ Y):(a.extract i (i + X.length)).toList = X:=by
 rw [Array.toList_extract]
 simp [List.extract,e]
theorem Same.refl {st:SortSt}:Same st st:=⟨rfl,rfl,rfl,rfl⟩
theorem Same.trans {a b c:SortSt} (h:Same a b) (g:Same b c):Same a c:=⟨g.arr.trans h.arr,g.kind.trans h.kind,g.pend.trans h.pend,g.fail.trans h.fail⟩
theorem jT {O Y A' B:List Keyed} (h1:Ord lt (A' ++ (Y ++ O))) (h2:Ord lt (B ++ O)) (h:∀ y ∈ Y, ∀ x ∈ B,lt y x = false):Ord lt (B ++ (Y ++ O)):=by
 obtain ⟨o1,o2,o3⟩:=List.pairwise_append.mp h1
 obtain ⟨p1,p2,p3⟩:=List.pairwise_append.mp h2
 refine List.pairwise_append.mpr ⟨p1,o2,fun x hx y hy => ?_⟩
 rcases List.mem_append.mp hy with z | z
 ·exact h y z x hx
 ·exact p3 x hx y z
structure MH (lt:Keyed -> Keyed -> Bool) (la lb out:List Keyed) (na nb:Nat):Prop where
 pa:Ord lt (la.take na ++ out.reverse)
 pb:Ord lt (lb.take nb ++ out.reverse)
 pm:(la.take na ++ lb.take nb ++ out.reverse).Perm (la ++ lb)
theorem gh (c:Cm prog w A s kd P lt) {l:List Keyed} {n:Nat} {x y:Keyed} (h:Ord lt (l.take n)) (hn : 0 < n) (hy:l[n - 1]? = some y) (hx:lt x y = false):∀ z ∈ l.take n,lt x z = false:=by
 intro z hz
 obtain ⟨i,hi,e⟩:=List.mem_iff_getElem.mp hz
 have hz':(l.take n)[i]? = some z:=by rw [<- e];exact List.getElem?_eq_getElem hi
 have hy':(l.take n)[n - 1]? = some y:=by rw [List.getElem?_take_of_lt (by omega)];exact hy
 rw [List.length_take] at hi
 by_cases hin:i = n - 1
 ·subst hin;rw [hy'] at hz';cases hz';exact hx
 ·exact c.le_trans (dZ h (by omega) hz' hy') hx
theorem dy {l X Y:List Keyed} {n:Nat} (e:l.take n = X ++ Y):l.take X.length = X:=by
 have h:X.length <= n:=by
  have:=congrArg List.length e
  simp only [List.length_take,List.length_append] at this;omega
 have h2:(l.take n).take X.length = X:=by rw [e,List.take_left]
 rw [List.take_take,Nat.min_eq_left h] at h2
 exact h2
theorem MH.galA (c:Cm prog w A s kd P lt) {la lb out X Y:List Keyed} {na nb:Nat} {y:Keyed} (m:MH lt la lb out na nb) (e:la.take na = X ++ Y) (hn : 0 < nb) (hy:lb[nb - 1]? = some y) (h:∀ x ∈ Y,lt x y = false):MH lt la lb (out ++ Y.reverse) X.length nb:=by
 have p2:=(List.pairwise_append.mp m.pb).1
 have h1:Ord lt (X ++ (Y ++ out.reverse)):=by rw [<- List.append_assoc, <- e];exact m.pa
 have q:=jT h1 m.pb fun x hx=>gh c p2 hn hy (h x hx)
 refine ⟨by rw [dy e];simpa using h1,by simpa using q, ?_⟩
 rw [dy e]
 refine List.Perm.trans ?_ m.pm
 rw [e]
 simp only [List.reverse_append,List.reverse_reverse,List.append_assoc]
 refine List.Perm.append_left _ ?_
 rw [<- List.append_assoc, <- List.append_assoc]
 exact List.Perm.append_right _ List.perm_append_comm
theorem MH.galB (c:Cm prog w A s kd P lt) {la lb out X Y:List Keyed} {na nb:Nat} {y:Keyed} (m:MH lt la lb out na nb) (e:lb.take nb = X ++ Y) (hn : 0 < na) (hy:la[na - 1]? = some y) (h:∀ x ∈ Y,lt x y = false):MH lt la lb (out ++ Y.reverse) na X.length:=by
 have p2:=(List.pairwise_append.mp m.pa).1
 have h1:Ord lt (X ++ (Y ++ out.reverse)):=by rw [<- List.append_assoc, <- e];exact m.pb
 have q:=jT h1 m.pa fun x hx=>gh c p2 hn hy (h x hx)
 refine ⟨by simpa using q,by rw [dy e];simpa using h1, ?_⟩
 rw [dy e]
 refine List.Perm.trans (List.Perm.of_eq ?_) m.pm
 rw [e];simp
theorem cE {l:List Keyed} {n:Nat} {x:Keyed} (hn : 0 < n) (h:l[n - 1]? = some x):l.take n = l.take (n - 1) ++ [x]:=by
 obtain ⟨k,rfl⟩:∃ k,n = k + 1:=⟨n - 1,by omega⟩
 rw [Nat.add_sub_cancel] at h ⊢
 rw [List.take_add_one,h];rfl
theorem oz {l:List Keyed} {n:Nat} {x:Keyed} (hn : 0 < n) (h:l[n - 1]? = some x):(l.take (n - 1)).length = n - 1:=by
 obtain ⟨hi,_⟩:=List.getElem?_eq_some_iff.mp h
 rw [List.length_take];omega
theorem MH.pushA (c:Cm prog w A s kd P lt) {la lb out:List Keyed} {na nb:Nat} {x y:Keyed} (m:MH lt la lb out na nb) (ha : 0 < na) (hb : 0 < nb) (hx:la[na - 1]? = some x) (hy:lb[nb - 1]? = some y) (h:lt x y = false):MH lt la lb (out ++ [x]) (na - 1) nb:=by
 have q:=m.galA c (cE ha hx) hb hy (by simpa using h)
 rw [oz ha hx] at q
 simpa using q
theorem MH.pushB (c:Cm prog w A s kd P lt) {la lb out:List Keyed} {na nb:Nat} {x y:Keyed} (m:MH lt la lb out na nb) (ha : 0 < na) (hb : 0 < nb) (hx:la[na - 1]? = some x) (hy:lb[nb - 1]? = some y) (h:lt y x = false):MH lt la lb (out ++ [y]) na (nb - 1):=by
 have q:=m.galB c (cE hb hy) ha hx (by simpa using h)
 rw [oz hb hy] at q
 simpa using q
theorem MH.fin {la lb out:List Keyed} {na nb:Nat} (m:MH lt la lb out na nb) (h:na = 0 ∨ nb = 0):Res lt la lb (la.take na ++ lb.take nb ++ out.reverse):=by
 refine ⟨m.pm, ?_⟩
 rcases h with rfl | rfl
 ·simpa using m.pb
 ·simpa using m.pa
theorem MH.finB {la lb out:List Keyed} {na nb:Nat} (m:MH lt la lb out na nb) (h:∀ x ∈ lb.take nb, ∀ y ∈ la,lt y x = false):Res lt la lb (lb.take nb ++ la.take na ++ out.reverse):=by
 refine ⟨List.Perm.trans (List.Perm.append_right _ List.perm_append_comm) m.pm, ?_⟩
 obtain ⟨o1,o2,o3⟩:=List.pairwise_append.mp m.pb
 rw [List.append_assoc]
 refine List.pairwise_append.mpr ⟨o1,m.pa,fun x hx y hy => ?_⟩
 rcases List.mem_append.mp hy with z | z
 ·exact h x hx y (List.mem_of_mem_take z)
 ·exact o3 x hx y z
theorem MH.size {la lb out:List Keyed} {na nb:Nat} (m:MH lt la lb out na nb) (ha:na <= la.length) (hb:nb <= lb.length):out.length + na + nb = la.length + lb.length:=by
 have:=m.pm.length_eq
 simp only [List.length_append,List.length_take,List.length_reverse] at this
 omega
theorem dH {a:Array Keyed}:a.toList.take a.size = a.toList:=List.take_of_length_le (by simp)
theorem bh {a:Array Keyed} {i:Nat}:(a.extract 0 i).toList = a.toList.take i:=by
 rw [Array.toList_extract];simp [List.extract]
theorem vw {a:Array Keyed} {n:Nat} {X Y:List Keyed} (e:a.toList.take n = X ++ Y):(a.extract X.length n).toList = Y:=by
 rw [Array.toList_extract]
 simp only [List.extract]
 rw [<- List.drop_take,e,List.drop_left]
theorem vx:∀ (m old L R:List Keyed) (a:Array Keyed),a.toList = L ++ old ++ R -> m.length = old.length -> (List.foldl (fun a x=>a.setIfInBounds (L.length + x.snd) x.fst) a m.zipIdx).toList = L ++ m ++ R:=by
 have g:∀ (m old L R:List Keyed) (k:Nat) (a:Array Keyed),a.toList = L ++ old ++ R -> m.length = old.length -> ∀ b:Nat,b + k = L.length -> (List.foldl (fun a x=>a.setIfInBounds (b + x.snd) x.fst) a (m.zipIdx k)).toList = L ++ m ++ R:=by
  intro m
  induction m with
  | nil =>
    intro old L R k a e h b hb
    have:old = []:=List.length_eq_zero_iff.mp h.symm
    subst this
    simpa using e
  | cons x m ih =>
    intro old L R k a e h b hb
    cases old with
    | nil=>simp at h
    | cons y old =>
      rw [List.zipIdx_cons,List.foldl_cons]
      have e2:(a.setIfInBounds (b + k) x).toList = (L ++ [x]) ++ old ++ R:=by
       rw [Array.toList_setIfInBounds,e,hb]
       simp
      have:=ih old (L ++ [x]) R (k + 1) _ e2 (by simpa using h) b (by simp;omega)
      rw [this];simp
 exact fun m old L R a e h=>g m old L R 0 a e h L.length (by omega)
theorem ae {σ α:Type} {M:Model} {p:Prop} [Decidable p] {m1 m2:StateT σ Sem α} {st : σ} {Q : α -> σ -> Prop} (h1:p -> wpS M A E s m1 Q st) (h2 : ¬p -> wpS M A E s m2 Q st):wpS M A E s (if p then m1 else m2) Q st:=by
 split
 ·next h=>exact h1 h
 ·next h=>exact h2 h
theorem ML.cut {a out:Array Keyed} {la lb X Y:List Keyed} {i j n:Nat} (m:ML lt la lb (out.toList ++ X) i j) (e:a.toList.drop n = X ++ Y):ML lt la lb (out ++ a.extract n (n + X.length)).toList i j:=by
 rw [Array.toList_append,yh e];exact m
theorem MH.cut {a out:Array Keyed} {la lb X Y:List Keyed} {i j n:Nat} (m:MH lt la lb (out.toList ++ Y.reverse) i j) (e:a.toList.take n = X ++ Y):MH lt la lb (out ++ (a.extract X.length n).reverse).toList i j:=by
 rw [Array.toList_append,Array.toList_reverse,vw e];exact m
theorem sx {σ α:Type} {M:Model} {m:StateT σ Sem α} {st : σ} {Q : α -> σ -> Prop} {P : σ -> Prop} (hp:P st) (h:∀ st',P st' -> wpS M A E s m Q st'):wpS M A E s m Q st:=h st hp
theorem wH {σ α:Type} {M:Model} {m:StateT σ Sem α} {st : σ} {Q : α -> σ -> Prop} (h:∀ Q' : α -> σ -> Prop,(∀ a st',Q a st' -> Q' a st') -> wpS M A E s m Q' st):wpS M A E s m Q st:=h Q fun _ _ h=>h
theorem wJ {key x:Keyed} (h:bey lt false key x = true):lt key x = false:=by simpa [bey] using h
theorem sy {key x:Keyed} (h:bey lt false key x = false):lt key x = true:=by simpa [bey] using h
theorem wK {key x:Keyed} (h:bey lt true key x = true):lt x key = true:=by simpa [bey] using h
theorem sB {key x:Keyed} (h:bey lt true key x = false):lt x key = false:=by simpa [bey] using h
theorem lP {l X Y:List Keyed} {i:Nat} {x:Keyed} (e:l.drop i = X ++ Y) (h:l[i + X.length]? = some x):x ∈ Y:=by
 rw [<- dv e,dw h];simp
theorem lQ {l X Y:List Keyed} {n:Nat} {x:Keyed} (e:l.take n = X ++ Y) (h0 : 0 < X.length) (h:l[X.length - 1]? = some x):x ∈ X:=by
 have:=cE h0 h
 rw [dy e] at this
 rw [this];simp
theorem lU {a:Array Keyed} {X Y:List Keyed} {i:Nat} (e:a.toList.drop i = X ++ Y):X.length <= a.size - i:=by
 have:=congrArg List.length e
 simp at this;omega
theorem jU {a:Array Keyed} {X Y:List Keyed} {n:Nat} (e:a.toList.take n = X ++ Y) (h:n <= a.size):X.length + Y.length = n:=by
 have:=congrArg List.length e
 simp at this;omega
theorem eU {a:Array Keyed} {n:Nat} (h:n <= a.size):n = (a.toList.take n).length:=by simp;omega
theorem ML.finR {a b out:Array Keyed} {ia ib:Nat} (m:ML lt a.toList b.toList out.toList ia ib) (h:b.size <= ib):Res lt a.toList b.toList (out ++ a.extract ia ++ b.extract ib).toList:=by
 have:=m.fin (by simpa using h)
 simpa only [Array.toList_append,bD] using this
theorem ML.finS {a b out:Array Keyed} {ia ib:Nat} (m:ML lt a.toList b.toList out.toList ia ib) (h:a.size <= ia):Res lt a.toList b.toList (out ++ a.extract ia ++ b.extract ib).toList:=by
 have:=m.finE (by simpa using h)
 simpa only [Array.toList_append,bD] using this
theorem ML.finL {a b out:Array Keyed} {ia ib:Nat} (m:ML lt a.toList b.toList out.toList ia ib) (h:∀ x ∈ b.toList, ∀ y ∈ a.toList.drop ia,lt y x = false):Res lt a.toList b.toList (out ++ b.extract ib ++ a.extract ia).toList:=by
 have:=m.finA h
 simpa only [Array.toList_append,bD] using this
theorem MH.finR {a b out:Array Keyed} {na nb:Nat} (m:MH lt a.toList b.toList out.toList na nb) (h:∀ x ∈ b.toList.take nb, ∀ y ∈ a.toList,lt y x = false):Res lt a.toList b.toList (b.extract 0 nb ++ a.extract 0 na ++ out.reverse).toList:=by
 have:=m.finB h
 simpa only [Array.toList_append,Array.toList_reverse,bh] using this
theorem MH.finL {a b out:Array Keyed} {na nb:Nat} (m:MH lt a.toList b.toList out.toList na nb) (h:na = 0 ∨ nb = 0):Res lt a.toList b.toList (a.extract 0 na ++ b.extract 0 nb ++ out.reverse).toList:=by
 have:=m.fin h
 simpa only [Array.toList_append,Array.toList_reverse,bh] using this
theorem Bm (c:Cm prog w A s kd P lt) :
 ∃ (g:Aj) (lo hi:Ak),(gb prog w A E s kd P lt g /\ (gb prog w A E s kd P lt g -> gc prog w A E s kd P lt lo) /\ (gb prog w A E s kd P lt g -> gc prog w A E s kd P lt hi)) /\ (gb prog w A E s kd P lt g -> gc prog w A E s kd P lt lo -> gc prog w A E s kd P lt hi ->
  ∀ (i sa na pa sb nb pb:Nat) (L r1 r2 R:List Keyed) (st:SortSt) (Q:Bool -> SortSt -> Prop),kindOf st = kd -> failedOf st = none -> (pendingOf st)[i]? = some (sa,na,pa) -> (pendingOf st)[i + 1]? = some (sb,nb,pb) ->
   (arrOf st).toList = L ++ (r1 ++ r2) ++ R -> sa = L.length -> na = r1.length -> sb = L.length + r1.length -> nb = r2.length -> r1 ≠ [] -> r2 ≠ [] -> (∀ x ∈ r1,P x) -> (∀ x ∈ r2,P x) -> Ord lt r1 -> Ord lt r2 ->
   (∀ m st',(arrOf st').toList = L ++ m ++ R -> m.Perm (r1 ++ r2) -> Ord lt m -> kindOf st' = kd -> failedOf st' = none -> pendingOf st' = ((pendingOf st).setIfInBounds i (sa,na + nb,pa)).eraseIdxIfInBounds (i + 1) -> Q true st') ->
   wpS (PySem.model prog w) A E s (mergeAt' i) Q st):=by
 apply Exists.intro
 apply Exists.intro
 apply Exists.intro
 apply And.intro
 rotate_left
 ·intro hg hlo hhi i sa na pa sb nb pb L r1 r2 R st Q hk hf h1 h2 harr hsa hna hsb hnb hr1 hr2 hP1 hP2 o1 o2 q
  unfold mergeAt'
  refine wpS_bind (wpS_get ?_)
  rw [h1,h2]
  dsimp only
  refine wpS_bind (yg ?_)
  obtain ⟨y0,t2,rfl⟩:∃ y t,r2 = y :: t:=by cases r2 with | nil=>exact absurd rfl hr2 | cons y t=>exact ⟨y,t,rfl⟩
  have hz:(arrOf st)[sb]? = some y0:=by
   rw [<- Array.getElem?_toList,harr,hsb];simp
  refine wpS_bind (aA hz ?_)
  refine wpS_bind (hg false y0 (arrOf st) L r1 (y0 :: t2 ++ R) sa na 0 _ _ hk (hP2 _ (by simp)) (by rw [harr];simp) hsa hna hP1 (by rw [hna];exact List.length_pos_iff.mpr hr1) o1 fun X Y e hX hY => ?_)
  dsimp only
  have lX:∀ x ∈ X,lt y0 x = false:=fun x hx=>by have:=hX x hx;simpa [bey] using this
  have lY:∀ x ∈ Y,lt x y0 = false:=fun x hx=>c.asym _ _ (by have:=hY x hx;simpa [bey] using this)
  have hlen:na - X.length = Y.length:=by rw [hna,e];simp
  subst e
  obtain ⟨oX,oY,oXY⟩:=List.pairwise_append.mp o1
  have oy:=List.pairwise_cons.mp o2
  have lX2:∀ x ∈ X, ∀ z ∈ y0 :: t2,lt z x = false:=fun x hx z hz=>by
   rcases List.mem_cons.mp hz with h | h
   ·rw [h];exact lX x hx
   ·exact c.le_trans (lX x hx) (oy.1 z h)
  refine ae (fun h => ?_) (fun h => ?_)
  ·have hY0:Y = []:=List.length_eq_zero_iff.mp (by rw [<- hlen];simpa using h)
   subst hY0
   refine aa (q (X ++ (y0 :: t2)) _ (by simpa using harr) (by simp) ?_ hk hf rfl)
   exact List.pairwise_append.mpr ⟨oX,o2,lX2⟩
  ·have hY0 : 0 < Y.length:=by
    have:na - X.length ≠ 0:=by simpa using h
    omega
   obtain ⟨Y0,xl,rfl⟩:∃ Y0 xl,Y = Y0 ++ [xl]:=⟨Y.dropLast,Y.getLast (by intro z;rw [z] at hY0;simp at hY0),(List.dropLast_concat_getLast _).symm⟩
   have hz1:(arrOf st)[sa + X.length + (na - X.length) - 1]? = some xl:=by
    rw [<- Array.getElem?_toList,harr,hlen,hsa]
    simp only [List.append_assoc,List.length_append,List.length_singleton]
    rw [List.getElem?_append_right (by omega),List.getElem?_append_right (by omega),List.getElem?_append_right (by omega)]
    rw [show L.length + X.length + (Y0.length + 1) - 1 - L.length - X.length - Y0.length = 0 by omega];rfl
   refine wpS_bind (aA hz1 ?_)
   refine wpS_bind (hg true xl (arrOf st) (L ++ (X ++ (Y0 ++ [xl]))) (y0 :: t2) R sb nb (nb - 1) _ _ hk (hP1 _ (by simp)) (by rw [harr];simp) (by rw [hsb];simp) hnb hP2 (by rw [hnb];simp) o2 fun X2 Y2 e2 hX2 hY2 => ?_)
   dsimp only
   have lX3:∀ x ∈ X2,lt xl x = false:=fun x hx=>c.asym _ _ (by have:=hX2 x hx;simpa [bey] using this)
   have lY3:∀ x ∈ Y2,lt x xl = false:=fun x hx=>by have:=hY2 x hx;simpa [bey] using this
   have o2':Ord lt (X2 ++ Y2):=by rw [<- e2];exact o2
   obtain ⟨oX2,oY2,oXY2⟩:=List.pairwise_append.mp o2'
   obtain ⟨oY0,_,oYl⟩:=List.pairwise_append.mp oY
   have lYY:∀ x ∈ Y0 ++ [xl], ∀ z ∈ Y2,lt z x = false:=fun x hx z hz=>by
    rcases List.mem_append.mp hx with h | h
    ·exact c.le_trans (oYl x h xl (by simp)) (lY3 z hz)
    ·simp at h;subst h;exact lY3 z hz
   refine ae (fun h => ?_) (fun h => ?_)
   ·have hX0:X2 = []:=List.length_eq_zero_iff.mp (by simpa using h)
    subst hX0
    have e2:y0 :: t2 = Y2:=by simpa using e2
    refine aa (q (X ++ (Y0 ++ [xl]) ++ (y0 :: t2)) _ (by simpa using harr) (List.Perm.refl _) ?_ hk hf rfl)
    refine List.pairwise_append.mpr ⟨o1,o2,fun x hx z hz => ?_⟩
    rcases List.mem_append.mp hx with g | g
    ·exact lX2 x g z hz
    ·exact lYY x g z (by rw [<- e2];exact hz)
   ·have hX0:X2 ≠ []:=fun z=>h (by rw [z];rfl)
    have hx:((arrOf st).extract (sa + X.length) sb).toList = Y0 ++ [xl]:=by
     rw [Array.toList_extract,harr,hsa,hsb]
     simp only [List.extract]
     have e1:(L ++ (X ++ (Y0 ++ [xl]) ++ y0 :: t2) ++ R).drop (L.length + X.length) = (Y0 ++ [xl]) ++ (y0 :: t2 ++ R):=by
      rw [<- List.drop_drop];simp
     rw [e1,show L.length + (X ++ (Y0 ++ [xl])).length - (L.length + X.length) = (Y0 ++ [xl]).length by simp only [List.length_append];omega,List.take_left]
    have hy:((arrOf st).extract sb (sb + X2.length)).toList = X2:=by
     rw [Array.toList_extract,harr,hsb]
     simp only [List.extract]
     have e1:(L ++ (X ++ (Y0 ++ [xl]) ++ y0 :: t2) ++ R).drop (L.length + (X ++ (Y0 ++ [xl])).length) = (y0 :: t2) ++ R:=by
      rw [<- List.drop_drop];simp
     rw [e1,e2]
     simp
    have hfin:∀ (r:Array Keyed) (st2:SortSt),r.toList.Perm ((Y0 ++ [xl]) ++ X2) -> Ord lt r.toList -> Same (PyProof.Rows.SortSt.mk' (kindOf st) (arrOf st) (((pendingOf st).setIfInBounds i (sa,na + nb,pa)).eraseIdxIfInBounds (i + 1)) (gallopOf st) (failedOf st)) st2 -> ∀ st3:SortSt,arrOf st3 = List.foldl (fun a x=>a.setIfInBounds (sa + X.length + x.snd) x.fst) (arrOf st2) r.toList.zipIdx -> kindOf st3 = kindOf st2 -> failedOf st3 = failedOf st2 -> pendingOf st3 = pendingOf st2 -> Q (failedOf st3).isNone st3:=by
     intro r st2 hp ho hs st3 g1 g2 g3 g4
     have hfl:failedOf st3 = none:=g3.trans (hs.fail.trans hf)
     rw [hfl]
     refine q (X ++ r.toList ++ Y2) st3 ?_ ?_ ?_ (g2.trans (hs.kind.trans hk)) hfl (g4.trans hs.pend)
     ·rw [g1,hs.arr]
      have e3:(arrOf st).toList = (L ++ X) ++ ((Y0 ++ [xl]) ++ X2) ++ (Y2 ++ R):=by
       rw [harr,e2];simp
      rw [show sa + X.length = (L ++ X).length by rw [hsa];simp]
      rw [vx _ _ _ _ _ e3 (hp.length_eq)]
      simp
     ·rw [e2]
      refine List.Perm.trans (List.Perm.append_right _ (List.Perm.append_left _ hp)) ?_
      simp
     ·refine List.pairwise_append.mpr ⟨List.pairwise_append.mpr ⟨oX,ho,fun x hx z hz => ?_⟩,oY2,fun x hx z hz => ?_⟩
      ·rcases List.mem_append.mp (hp.mem_iff.mp hz) with g | g
       ·exact oXY x hx z g
       ·exact lX2 x hx z (by rw [e2];exact List.mem_append_left _ g)
      ·rcases List.mem_append.mp hx with g | g
       ·exact lX2 x g z (by rw [e2];exact List.mem_append_right _ hz)
       ·rcases List.mem_append.mp (hp.mem_iff.mp g) with g | g
        ·exact lYY x g z hz
        ·exact oXY2 x g z hz
    have pre0:∀ x y,((arrOf st).extract (sa + X.length) sb)[0]? = some x -> ((arrOf st).extract sb (sb + X2.length))[0]? = some y -> lt x y = false:=by
     intro x y hx0 hy0
     rw [<- Array.getElem?_toList,hx] at hx0
     rw [<- Array.getElem?_toList,hy] at hy0
     have hxm:=List.mem_of_getElem? hx0
     have:y = y0:=by
      cases X2 with
      | nil=>exact absurd rfl hX0
      | cons z t=>simp at e2 hy0;rw [<- hy0, <- e2.1]
     subst this
     exact lY x hxm
    have preL:∀ x y,((arrOf st).extract (sa + X.length) sb)[((arrOf st).extract (sa + X.length) sb).size - 1]? = some x -> ((arrOf st).extract sb (sb + X2.length))[((arrOf st).extract sb (sb + X2.length)).size - 1]? = some y -> lt x y = false:=by
     intro x y hx0 hy0
     rw [<- Array.getElem?_toList, <- Array.length_toList,hx] at hx0
     rw [<- Array.getElem?_toList, <- Array.length_toList,hy] at hy0
     have hym:=List.mem_of_getElem? hy0
     have:x = xl:=by simp at hx0;exact hx0.symm
     subst this
     exact lX3 y hym
    have sz1 : 0 < ((arrOf st).extract (sa + X.length) sb).size:=by rw [<- Array.length_toList,hx];simp
    have sz2 : 0 < ((arrOf st).extract sb (sb + X2.length)).size:=by rw [<- Array.length_toList,hy];exact List.length_pos_iff.mpr hX0
    have pa1:∀ x ∈ ((arrOf st).extract (sa + X.length) sb).toList,P x:=by rw [hx];exact fun x hx=>hP1 x (List.mem_append_right _ hx)
    have pa2:∀ x ∈ ((arrOf st).extract sb (sb + X2.length)).toList,P x:=by rw [hy];exact fun x hx=>hP2 x (by rw [e2];exact List.mem_append_left _ hx)
    have or1:Ord lt ((arrOf st).extract (sa + X.length) sb).toList:=by rw [hx];exact oY
    have or2:Ord lt ((arrOf st).extract sb (sb + X2.length)).toList:=by rw [hy];exact oX2
    refine ae (fun h => ?_) (fun h => ?_)
    ·refine wpS_bind (hlo _ _ _ _ hk pa1 pa2 sz1 sz2 or1 or2 pre0 preL fun r st2 hp ho hs => ?_)
     rw [hx,hy] at hp
     refine wpS_bind (wpS_modify ?_)
     refine wpS_bind (wpS_get ?_)
     exact aa (hfin r st2 hp ho hs _ rfl rfl rfl rfl)
    ·refine wpS_bind (hhi _ _ _ _ hk pa1 pa2 sz1 sz2 or1 or2 pre0 preL fun r st2 hp ho hs => ?_)
     rw [hx,hy] at hp
     refine wpS_bind (wpS_modify ?_)
     refine wpS_bind (wpS_get ?_)
     exact aa (hfin r st2 hp ho hs _ rfl rfl rfl rfl)
 apply And.intro
 ·intro left key arr L xs R base n aJ st Q hk hkey harr hbase hn hP hh hs q
  subst hbase hn
  have at_:∀ i,i < xs.length -> ∃ x,xs[i]? = some x /\ arr[L.length + i]? = some x /\ P x:=by
   intro i hi
   refine ⟨xs[i],List.getElem?_eq_getElem hi, ?_,hP _ (List.getElem_mem _)⟩
   rw [<- Array.getElem?_toList,harr,List.append_assoc,List.getElem?_append_right (by omega),List.getElem?_append_left (by omega)]
   rw [show L.length + i - L.length = i by omega]
   exact List.getElem?_eq_getElem hi
  obtain ⟨x0,hx0,ha0,hp0⟩:=at_ aJ hh
  refine wpS_bind (fE c hk hkey hp0 ha0 ?_)
  try dsimp only
  refine ae (fun hb => ?_) (fun hb => ?_)
  ·skip
   refine wpS_bind (aB (Q:=fun r st'=>st' = st /\ ∃ la ofs,r = (none,la,ofs) /\ aJ + la < xs.length /\ la < ofs /\ (∀ j x,j < aJ + la + 1 -> xs[j]? = some x -> bey lt left key x = true) /\ (xs.length <= aJ + ofs ∨ ∀ j x,aJ + ofs <= j -> xs[j]? = some x -> bey lt left key x = false))
    (wpS_forRange (fun i r st'=>st' = st /\ ∃ la ofs,r = (none,la,ofs) /\ aJ + la < xs.length /\ la < ofs /\ i + 1 <= ofs /\ (∀ j x,j < aJ + la + 1 -> xs[j]? = some x -> bey lt left key x = true)) ?_ ?_ ⟨rfl,0,1,rfl,hh,by omega,by omega,gd c hs hx0 hb⟩) ?_)
   ·rintro i r st' _ hi ⟨rfl,la,ofs,rfl,h1,h2,h3,h4⟩
    try dsimp only
    refine ae (fun hge => ?_) (fun hge => ?_)
    ·exact aa ⟨rfl,la,ofs,rfl,h1,h2,h4, .inl (by omega)⟩
    ·skip
     obtain ⟨x1,hx1,ha1,hp1⟩:=at_ (aJ + ofs) (by omega)
     refine wpS_bind (fE c hk hkey hp1 ha1 ?_)
     try dsimp only
     refine ae (fun hf => ?_) (fun hf => ?_)
     ·exact aa ⟨rfl,la,ofs,rfl,h1,h2,h4, .inr (gf c hs hx1 (by simpa using hf))⟩
     ·exact aa ⟨rfl,ofs,2 * ofs + 1,rfl,by omega,by omega,by omega,gd c hs hx1 (by simpa using hf)⟩
   ·rintro r st' ⟨rfl,la,ofs,rfl,h1,h2,h3,h4⟩
    exact ⟨rfl,la,ofs,rfl,h1,h2,h4, .inl (by omega)⟩
   ·rintro r st' ⟨rfl,la,ofs,rfl,h1,h2,h3,h4⟩
    try dsimp only
    have hG:Gal lt left key xs (aJ + la + 1) (aJ + min ofs (xs.length - aJ)):=by
     refine ⟨by omega,by omega,h3,fun i x hi hx => ?_⟩
     have hi2:i < xs.length:=(List.getElem?_eq_some_iff.mp hx).1
     rcases h4 with h4 | h4
     ·omega
     ·exact h4 i x (by omega) hx
    generalize aJ + la + 1 = lo at hG
    generalize aJ + min ofs (xs.length - aJ) = hi at hG
    refine wpS_bind (aB (Q:=fun r st''=>st'' = st' /\ ∃ k,r = (none,k,k) /\ Gal lt left key xs k k)
     (wpS_forRange (fun i r st''=>st'' = st' /\ ∃ lo hi,r = (none,lo,hi) /\ Gal lt left key xs lo hi /\ hi - lo + i <= xs.length) ?_ ?_ ⟨rfl,lo,hi,rfl,hG,by have:=hG.len;omega⟩) ?_)
    ·rintro i r st'' _ hi ⟨rfl,lo,hi,rfl,hG,hm⟩
     try dsimp only
     have hl:=hG.le
     have hl2:=hG.len
     refine ae (fun hge => ?_) (fun hge => ?_)
     ·exact aa ⟨rfl,hi,by rw [show lo = hi by omega],by rw [show lo = hi by omega] at hG;exact hG⟩
     ·skip
      obtain ⟨x1,hx1,ha1,hp1⟩:=at_ (lo + (hi - lo) / 2) (by omega)
      refine wpS_bind (fE c hk hkey hp1 ha1 ?_)
      try dsimp only
      refine ae (fun hf => ?_) (fun hf => ?_)
      ·exact aa ⟨rfl,_,_,rfl,⟨by omega,hl2,gd c hs hx1 hf,hG.dn⟩,by omega⟩
      ·exact aa ⟨rfl,_,_,rfl,⟨by omega,by omega,hG.up,gf c hs hx1 (by simpa using hf)⟩,by omega⟩
    ·rintro r st'' ⟨rfl,lo,hi,rfl,hG,hm⟩
     have hl:=hG.le
     exact ⟨rfl,hi,by rw [show lo = hi by omega],by rw [show lo = hi by omega] at hG;exact hG⟩
    ·rintro r st'' ⟨rfl,k,rfl,hG⟩
     obtain ⟨X,Y,e,hl,hX,hY⟩:=hG.out
     subst hl
     exact aa (q X Y e hX hY)
  ·skip
   refine wpS_bind (aB (Q:=fun r st'=>st' = st /\ ∃ la ofs,r = (none,la,ofs) /\ la <= aJ /\ la < ofs /\ (∀ j x,aJ - la <= j -> xs[j]? = some x -> bey lt left key x = false) /\ (aJ < ofs ∨ ∀ j x,j < aJ - ofs + 1 -> xs[j]? = some x -> bey lt left key x = true))
    (wpS_forRange (fun i r st'=>st' = st /\ ∃ la ofs,r = (none,la,ofs) /\ la <= aJ /\ la < ofs /\ i + 1 <= ofs /\ (∀ j x,aJ - la <= j -> xs[j]? = some x -> bey lt left key x = false)) ?_ ?_ ⟨rfl,0,1,rfl,by omega,by omega,by omega,gf c hs hx0 (by simpa using hb)⟩) ?_)
   ·rintro i r st' _ hi ⟨rfl,la,ofs,rfl,h1,h2,h3,h4⟩
    try dsimp only
    refine ae (fun hge => ?_) (fun hge => ?_)
    ·exact aa ⟨rfl,la,ofs,rfl,h1,h2,h4, .inl (by omega)⟩
    ·skip
     obtain ⟨x1,hx1,ha1,hp1⟩:=at_ (aJ - ofs) (by omega)
     refine wpS_bind (fE c hk hkey hp1 ha1 ?_)
     try dsimp only
     refine ae (fun hf => ?_) (fun hf => ?_)
     ·exact aa ⟨rfl,la,ofs,rfl,h1,h2,h4, .inr (gd c hs hx1 hf)⟩
     ·exact aa ⟨rfl,ofs,2 * ofs + 1,rfl,by omega,by omega,by omega,gf c hs hx1 (by simpa using hf)⟩
   ·rintro r st' ⟨rfl,la,ofs,rfl,h1,h2,h3,h4⟩
    exact ⟨rfl,la,ofs,rfl,h1,h2,h4, .inl (by omega)⟩
   ·rintro r st' ⟨rfl,la,ofs,rfl,h1,h2,h3,h4⟩
    try dsimp only
    have hG:Gal lt left key xs (aJ + 1 - min ofs (aJ + 1)) (aJ - la):=by
     refine ⟨by omega,by omega,fun i x hi hx => ?_,h3⟩
     rcases h4 with h4 | h4
     ·omega
     ·exact h4 i x (by omega) hx
    generalize aJ + 1 - min ofs (aJ + 1) = lo at hG
    generalize aJ - la = hi at hG
    refine wpS_bind (aB (Q:=fun r st''=>st'' = st' /\ ∃ k,r = (none,k,k) /\ Gal lt left key xs k k)
     (wpS_forRange (fun i r st''=>st'' = st' /\ ∃ lo hi,r = (none,lo,hi) /\ Gal lt left key xs lo hi /\ hi - lo + i <= xs.length) ?_ ?_ ⟨rfl,lo,hi,rfl,hG,by have:=hG.len;omega⟩) ?_)
    ·rintro i r st'' _ hi ⟨rfl,lo,hi,rfl,hG,hm⟩
     try dsimp only
     have hl:=hG.le
     have hl2:=hG.len
     refine ae (fun hge => ?_) (fun hge => ?_)
     ·exact aa ⟨rfl,hi,by rw [show lo = hi by omega],by rw [show lo = hi by omega] at hG;exact hG⟩
     ·skip
      obtain ⟨x1,hx1,ha1,hp1⟩:=at_ (lo + (hi - lo) / 2) (by omega)
      refine wpS_bind (fE c hk hkey hp1 ha1 ?_)
      try dsimp only
      refine ae (fun hf => ?_) (fun hf => ?_)
      ·exact aa ⟨rfl,_,_,rfl,⟨by omega,hl2,gd c hs hx1 hf,hG.dn⟩,by omega⟩
      ·exact aa ⟨rfl,_,_,rfl,⟨by omega,by omega,hG.up,gf c hs hx1 (by simpa using hf)⟩,by omega⟩
    ·rintro r st'' ⟨rfl,lo,hi,rfl,hG,hm⟩
     have hl:=hG.le
     exact ⟨rfl,hi,by rw [show lo = hi by omega],by rw [show lo = hi by omega] at hG;exact hG⟩
    ·rintro r st'' ⟨rfl,k,rfl,hG⟩
     obtain ⟨X,Y,e,hl,hX,hY⟩:=hG.out
     subst hl
     exact aa (q X Y e hX hY)
 apply And.intro
 ·intro hg a b st Q hk hPa hPb h0a h0b sa sb hfst hlst q
  refine wpS_bind (cD ?_)
  obtain ⟨b0,hb0,hb0',hb0m⟩:=aD h0b
  obtain ⟨a0,ha0,ha0',ha0m⟩:=aD h0a
  refine wpS_bind (aA hb0 ?_)
  have m0:ML lt a.toList b.toList [] 0 0:=⟨sa,sb,by simp⟩
  have m1:ML lt a.toList b.toList [b0] 0 1:=m0.pushB c ha0' hb0' (hfst a0 b0 ha0 hb0)
  have hlast:∀ x ∈ b.toList, ∀ (i:Nat),i + 1 = a.size -> ∀ y ∈ a.toList.drop i,lt y x = false:=by
   intro x hx i hi y hy
   obtain ⟨aL,haL,haL',_⟩:=aD (a:=a) (i:=i) (by omega)
   obtain ⟨bL,hbL,hbL',_⟩:=aD (a:=b) (i:=b.size - 1) (by omega)
   have e:a.toList.drop i = [aL]:=by
    rw [dw haL',List.drop_eq_nil_of_le (by simp;omega)];rfl
   rw [e] at hy
   simp at hy;subst hy
   have hl:=hlst y bL (by rw [show a.size - 1 = i by omega];exact haL) hbL
   obtain ⟨j,hj,e⟩:=List.mem_iff_getElem.mp hx
   have hj':b.toList[j]? = some x:=by rw [<- e];exact List.getElem?_eq_getElem hj
   by_cases hjb:j = b.size - 1
   ·subst hjb;rw [hbL'] at hj';cases hj';exact hl
   ·have:=dZ sb (show j < b.size - 1 by simp at hj;omega) hj' hbL'
    exact c.le_trans this hl
  try dsimp -zeta -zetaHave -zetaUnused only
  refine ae (fun h => ?_) (fun h => ?_)
  ·skip
   have h : 1 = b.size:=by simpa using h
   refine aa ?_
   have r:=m1.fin (by simp;omega)
   exact q _ _ (by simpa only [Array.toList_append,Array.toList_push,List.toList_toArray,bD] using r.1) (by simpa only [Array.toList_append,Array.toList_push,List.toList_toArray,bD] using r.2) Same.refl
  ·skip
   refine ae (fun h2 => ?_) (fun h2 => ?_)
   ·skip
    have h2 : 0 + 1 = a.size:=by simpa using h2
    refine aa ?_
    have r:=m1.finA (hlast · · 0 h2)
    exact q _ _ (by simpa only [Array.toList_append,Array.toList_push,List.toList_toArray,bD] using r.1) (by simpa only [Array.toList_append,Array.toList_push,List.toList_toArray,bD] using r.2) Same.refl
   ·skip
    have h : 1 ≠ b.size:=by simpa using h
    have h2 : 0 + 1 ≠ a.size:=by simpa using h2
    refine wpS_bind (wpS_get ?_)
    try dsimp -zeta -zetaHave -zetaUnused only
    refine wpS_bind (aB (Q:=fun r st'=>Same st st' /\ ∃ res t,r = (some res,t) /\ Res lt a.toList b.toList res.toList)
     (wpS_forRange (fun i r st'=>Same st st' /\ ∃ out ia ib mg,r = (none,out,ia,ib,mg) /\ ML lt a.toList b.toList out.toList ia ib /\ ia + 1 < a.size /\ ib < b.size /\ i + 1 <= out.size) ?_ ?_ ⟨Same.refl,_,_,_,_,rfl,m1,by omega,by omega,by simp⟩) ?_)
    ·rintro i r st1 _ hi ⟨sm,out,ia,ib,mg,rfl,m,hia,hib,hsz⟩
     try dsimp -zeta -zetaHave -zetaUnused only
     refine wpS_bind (aB (Q:=fun r st'=>st' = st1 /\ ((∃ out2 ia2 ib2 ac bc,r = (none,out2,ia2,ib2,ac,bc) /\ ML lt a.toList b.toList out2.toList ia2 ib2 /\ ia2 + 1 < a.size /\ ib2 < b.size /\ i + 2 <= out2.size) ∨ ∃ res t,r = (some res,t) /\ Res lt a.toList b.toList res.toList))
      (wpS_forRange (fun j r st'=>st' = st1 /\ ∃ out2 ia2 ib2 ac bc,r = (none,out2,ia2,ib2,ac,bc) /\ ML lt a.toList b.toList out2.toList ia2 ib2 /\ ia2 + 1 < a.size /\ ib2 < b.size /\ i + 1 + j <= out2.size) ?_ ?_ ⟨rfl,_,_,_,_,_,rfl,m,hia,hib,by omega⟩) ?_)
     ·rintro j r st2 _ hj ⟨rfl,out2,ia2,ib2,ac,bc,rfl,m2,h1,h2,h3⟩
      try dsimp only
      obtain ⟨y,hy,hy',hym⟩:=aD (a:=b) h2
      obtain ⟨x,hx,hx',hxm⟩:=aD (a:=a) (i:=ia2) (by omega)
      refine wpS_bind (aA hy (wpS_bind (aA hx (wpS_bind (iH c (sm.kind.trans hk) (hPb _ hym) (hPa _ hxm) ?_)))))
      try dsimp only
      refine ae (fun hl => ?_) (fun hl => ?_)
      ·skip
       refine wpS_bind (aA hy ?_)
       try dsimp only
       have m3:=m2.pushB c hx' hy' (c.asym _ _ hl)
       refine ae (fun h => ?_) (fun h => ?_)
       ·skip
        have h:ib2 + 1 = b.size:=by simpa using h
        exact aa ⟨rfl, .inr ⟨_,_,rfl,by simpa only [Array.toList_append,Array.toList_push,List.toList_toArray,bD] using m3.fin (by simp;omega)⟩⟩
       ·skip
        have h:ib2 + 1 ≠ b.size:=by simpa using h
        refine ae (fun _ => ?_) (fun _ => ?_)
        ·exact aa ⟨rfl, .inl ⟨_,_,_,_,_,rfl,by simpa only [Array.toList_append,Array.toList_push] using m3,h1,by omega,by simp;omega⟩⟩
        ·exact aa ⟨rfl,_,_,_,_,_,rfl,by simpa only [Array.toList_append,Array.toList_push] using m3,h1,by omega,by simp;omega⟩
      ·skip
       refine wpS_bind (aA hx ?_)
       try dsimp only
       have m3:=m2.pushA c hx' hy' (by simpa using hl)
       refine ae (fun h => ?_) (fun h => ?_)
       ·skip
        have h:ia2 + 1 + 1 = a.size:=by simpa using h
        exact aa ⟨rfl, .inr ⟨_,_,rfl,by simpa only [Array.toList_append,Array.toList_push,List.toList_toArray,bD] using m3.finA (hlast · · _ h)⟩⟩
       ·skip
        have h:ia2 + 1 + 1 ≠ a.size:=by simpa using h
        refine ae (fun _ => ?_) (fun _ => ?_)
        ·exact aa ⟨rfl, .inl ⟨_,_,_,_,_,rfl,by simpa only [Array.toList_append,Array.toList_push] using m3,by omega,h2,by simp;omega⟩⟩
        ·exact aa ⟨rfl,_,_,_,_,_,rfl,by simpa only [Array.toList_append,Array.toList_push] using m3,by omega,h2,by simp;omega⟩
     ·rintro r st2 ⟨rfl,out2,ia2,ib2,ac,bc,rfl,m2,h1,h2,h3⟩
      exact ⟨rfl, .inl ⟨_,_,_,_,_,rfl,m2,h1,h2,by omega⟩⟩
     ·rintro r st2 ⟨rfl,⟨out2,ia2,ib2,ac,bc,rfl,m2,h1,h2,h3⟩ | ⟨res,t,rfl,hres⟩⟩
      ·dsimp -zeta -zetaHave -zetaUnused only
       refine wpS_bind (cD ?_)
       refine wpS_bind (aB (Q:=fun r st'=>Same st st' /\ ((∃ out3 ia3 ib3 mg3 ac bc,r = (none,out3,ia3,ib3,mg3,ac,bc) /\ ML lt a.toList b.toList out3.toList ia3 ib3 /\ ia3 + 1 < a.size /\ ib3 < b.size /\ i + 2 <= out3.size) ∨ ∃ res t,r = (some res,t) /\ Res lt a.toList b.toList res.toList))
        (wpS_forRange (fun j r st'=>Same st st' /\ ∃ out3 ia3 ib3 mg3 ac bc,r = (none,out3,ia3,ib3,mg3,ac,bc) /\ ML lt a.toList b.toList out3.toList ia3 ib3 /\ ia3 + 1 < a.size /\ ib3 < b.size /\ i + 2 <= out3.size) ?_ ?_ ⟨sm,_,_,_,_,_,_,rfl,m2,h1,h2,h3⟩) ?_)
       ·rintro j r st3 _ hj ⟨sm3,out3,ia3,ib3,mg3,ac3,bc3,rfl,m3,h1,h2,h5⟩
        obtain ⟨y,hy,hy',hym⟩:=aD (a:=b) h2
        refine wH fun QQ hQ => ?_
        have hfin:∀ (st':SortSt) (res:Array Keyed) t,Same st st' -> Res lt a.toList b.toList res.toList -> QQ (.done (some res,t)) st':=fun st' res t hs hr=>hQ _ _ ⟨hs, .inr ⟨_,_,rfl,hr⟩⟩
        have hgo:∀ (st':SortSt) (out:Array Keyed) ia ib mg ac bc,Same st st' -> ML lt a.toList b.toList out.toList ia ib -> ia + 1 < a.size -> ib < b.size -> i + 2 <= out.size -> QQ (.done (none,out,ia,ib,mg,ac,bc)) st' /\ QQ (.yield (none,out,ia,ib,mg,ac,bc)) st':=fun st' out ia ib mg ac bc hs p1 p2 p3 p4=>⟨hQ _ _ ⟨hs, .inl ⟨_,_,_,_,_,_,rfl,p1,p2,p3,p4⟩⟩,hQ _ _ ⟨hs,_,_,_,_,_,_,rfl,p1,p2,p3,p4⟩⟩
        clear hQ hj
        extract_lets -underBinder s0 vout s1 via s2 vib s3 vmg s4 vac vbc jp vmx
        have hjp:∀ mg,wpS (PySem.model prog w) A E s (jp () mg) QQ st3:=by
         intro mg
         dsimp -zeta -zetaHave -zetaUnused only [jp,s0,vout,s1,via,s2,vib,s3,vmg,s4,vac,vbc]
         clear vmx jp vbc vac s4 vmg s3 vib s2 via s1 vout s0
         refine wpS_bind (wpS_modify ?_)
         refine sx (P:=Same st) (sm3.trans ⟨rfl,rfl,rfl,rfl⟩) fun st5 sm5 => ?_
         have hk5:=sm5.kind.trans hk
         refine wpS_bind (aA hy ?_)
         refine wpS_bind (hg false y a (a.toList.take ia3) (a.toList.drop ia3) [] _ _ _ _ _ hk5 (hPb _ hym) (by simp) (eU (by omega)) (by simp) (fun x hx=>hPa x (List.mem_of_mem_drop hx)) (by omega) ((List.pairwise_append.mp m3.pa).2.1) fun X Y e hX hY => ?_)
         dsimp -zeta -zetaHave -zetaUnused only
         have m4:=m3.galA c e hy' fun x hx=>wJ (hX x hx)
         have hrel4:∀ x4,a.toList[ia3 + X.length]? = some x4 -> lt x4 y = false:=fun x4 hx4=>c.asym _ _ (sy (hY x4 (lP e hx4)))
         have hlen1:=lU e
         extract_lets -underBinder +onlyGivenNames vac jp2
         clear_value vac
         have hjp2:∀ (out4:Array Keyed) (ia4:Nat),ML lt a.toList b.toList out4.toList ia4 ib3 -> (∀ x4,a.toList[ia4]? = some x4 -> lt x4 y = false) -> ia4 + 1 < a.size -> i + 2 <= out4.size -> wpS (PySem.model prog w) A E s (jp2 () out4 ia4) QQ st5:=by
          intro out4 ia4 m4' hrel4' hia4 hsz4
          dsimp -zeta -zetaHave -zetaUnused only [jp2]
          clear jp2 hlen1 hrel4 m4 hX hY
          obtain ⟨x4,hx4,hx4',hx4m⟩:=aD (a:=a) (i:=ia4) (by omega)
          refine wpS_bind (aA hy ?_)
          have m5:=m4'.pushB c hx4' hy' (hrel4' x4 hx4')
          rw [<- Array.toList_push] at m5
          have hsz5:i + 2 <= (out4.push y).size:=by rw [Array.size_push];omega
          try dsimp -zeta -zetaHave -zetaUnused only
          extract_lets -underBinder +onlyGivenNames vo5 vi5
          dsimp -zeta -zetaHave -zetaUnused only [vo5]
          clear vo5
          have e5:vi5 = ib3 + 1:=rfl
          clear_value vi5
          subst e5
          revert m5 hsz5
          generalize out4.push y = out5
          intro m5 hsz5
          refine ae (fun h => ?_) (fun h => ?_)
          ·exact aa (hfin _ _ _ sm5 (m5.finR (by have h:=eq_of_beq h;omega)))
          ·have h:ib3 + 1 ≠ b.size:=by simpa using h
           refine wpS_bind (aA hx4 ?_)
           refine wpS_bind (hg true x4 b (b.toList.take (ib3 + 1)) (b.toList.drop (ib3 + 1)) [] _ _ _ _ _ hk5 (hPa _ hx4m) (by simp) (eU (by omega)) (by simp) (fun x hx=>hPb x (List.mem_of_mem_drop hx)) (by omega) ((List.pairwise_append.mp m5.pb).2.1) fun X2 Y2 e2 hX2 hY2 => ?_)
           dsimp -zeta -zetaHave -zetaUnused only
           have m6:=m5.galB c e2 hx4' fun x hx=>c.asym _ _ (wK (hX2 x hx))
           have hrel6:∀ y6,b.toList[ib3 + 1 + X2.length]? = some y6 -> lt y6 x4 = false:=fun y6 hy6=>sB (hY2 y6 (lP e2 hy6))
           have hlen2:=lU e2
           extract_lets -underBinder +onlyGivenNames vbc jp3
           clear_value vbc
           have hjp3:∀ (out6:Array Keyed) (ib6:Nat),ML lt a.toList b.toList out6.toList ia4 ib6 -> (∀ y6,b.toList[ib6]? = some y6 -> lt y6 x4 = false) -> ib6 < b.size -> i + 2 <= out6.size -> wpS (PySem.model prog w) A E s (jp3 () out6 ib6) QQ st5:=by
            intro out6 ib6 m6' hrel6' hib6 hsz6
            dsimp -zeta -zetaHave -zetaUnused only [jp3]
            clear jp3 hlen2 hrel6 m6 hX2 hY2 m5 hsz5 hsz4 h5 h1 h2 hsz hib hia h3
            obtain ⟨y6,hy6,hy6',hy6m⟩:=aD (a:=b) (i:=ib6) hib6
            refine wpS_bind (aA hx4 ?_)
            have m7:=m6'.pushA c hx4' hy6' (hrel6' y6 hy6')
            rw [<- Array.toList_push] at m7
            dsimp only
            refine ae (fun h => ?_) (fun h => ?_)
            ·exact aa (hfin _ _ _ sm5 (m7.finL (hlast · · (ia4 + 1) (eq_of_beq h))))
            ·have h:ia4 + 1 + 1 ≠ a.size:=by simpa using h
             have:=hgo st5 (out6.push x4) (ia4 + 1) ib6 mg vac vbc sm5 m7 (by omega) hib6 (by rw [Array.size_push];omega)
             exact ae (fun _=>aa this.1) (fun _=>aa this.2)
           clear_value jp3
           refine ae (fun h0 => ?_) (fun h0 => ?_)
           ·dsimp only
            have m6:=m6.cut (a:=b) e2
            refine ae (fun h => ?_) (fun h => ?_)
            ·exact aa (hfin _ _ _ sm5 (m6.finR (by have h:=eq_of_beq h;omega)))
            ·have h:ib3 + 1 + X2.length ≠ b.size:=by simpa using h
             exact hjp3 _ _ m6 hrel6 (by omega) (by rw [Array.size_append];omega)
           ·have hX0:X2 = []:=List.length_eq_zero_iff.mp (by omega)
            subst hX0
            exact hjp3 _ _ m5 hrel6 (by omega) hsz5
         clear_value jp2
         refine ae (fun h0 => ?_) (fun h0 => ?_)
         ·dsimp only
          have m4:=m4.cut (a:=a) e
          refine ae (fun h => ?_) (fun h => ?_)
          ·exact aa (hfin _ _ _ sm5 (m4.finL (hlast · · _ (eq_of_beq h))))
          ·have h:ia3 + X.length + 1 ≠ a.size:=by simpa using h
           refine ae (fun h => ?_) (fun h9 => ?_)
           ·exact aa (hfin _ _ _ sm5 (m4.finS (by have h:=eq_of_beq h;omega)))
           ·have h9:ia3 + X.length ≠ a.size:=by simpa using h9
            exact hjp2 _ _ m4 hrel4 (by omega) (by rw [Array.size_append];omega)
         ·have hX0:X = []:=List.length_eq_zero_iff.mp (by omega)
          subst hX0
          exact hjp2 _ _ m3 hrel4 h1 h5
        clear_value jp
        exact ae (fun _=>hjp _) (fun _=>hjp _)
       ·rintro r st3 ⟨sm3,out3,ia3,ib3,mg3,ac3,bc3,rfl,m3,h1,h2,h5⟩
        exact ⟨sm3, .inl ⟨_,_,_,_,_,_,rfl,m3,h1,h2,h5⟩⟩
       ·rintro r st3 ⟨sm3,⟨out3,ia3,ib3,mg3,ac3,bc3,rfl,m3,h1,h2,h5⟩ | ⟨res,t,rfl,hres⟩⟩
        ·dsimp -zeta -zetaHave -zetaUnused only
         refine wpS_bind (wpS_modify ?_)
         exact aa ⟨sm3.trans ⟨rfl,rfl,rfl,rfl⟩,_,_,_,_,rfl,m3,h1,h2,by omega⟩
        ·exact aa ⟨sm3,_,_,rfl,hres⟩
      ·exact aa ⟨sm,_,_,rfl,hres⟩
    ·rintro r st1 ⟨sm,out,ia,ib,mg,rfl,m,hia,hib,hsz⟩
     have:=m.size (by simp;omega) (by simp;omega)
     simp at this
     omega
    ·rintro r st1 ⟨sm,res,t,rfl,hres⟩
     exact aa (q res st1 hres.1 hres.2 sm)
 ·intro hg a b st Q hk hPa hPb h0a h0b sa sb hfst hlst q
  refine wpS_bind (cD ?_)
  obtain ⟨bL,hbL,hbL',hbLm⟩:=aD (a:=b) (i:=b.size - 1) (by omega)
  obtain ⟨aL,haL,haL',haLm⟩:=aD (a:=a) (i:=a.size - 1) (by omega)
  refine wpS_bind (aA haL ?_)
  have m0:MH lt a.toList b.toList [] a.size b.size:=⟨by rw [dH];simpa using sa,by rw [dH];simpa using sb,by rw [dH,dH];simp⟩
  have m1:MH lt a.toList b.toList [aL] (a.size - 1) b.size:=m0.pushA c h0a h0b haL' hbL' (hlst aL bL haL hbL)
  have hfirst:∀ x ∈ b.toList.take 1, ∀ y ∈ a.toList,lt y x = false:=by
   intro x hx y hy
   obtain ⟨b0,hb0,hb0',_⟩:=aD h0b
   obtain ⟨a0,ha0,ha0',_⟩:=aD h0a
   have ex:x = b0:=by
    rw [cE (by omega) hb0'] at hx
    simpa using hx
   subst ex
   have h:=hfst a0 x ha0 hb0
   obtain ⟨j,hj,e⟩:=List.mem_iff_getElem.mp hy
   have hj':a.toList[j]? = some y:=by rw [<- e];exact List.getElem?_eq_getElem hj
   by_cases hj0:j = 0
   ·subst hj0;rw [ha0'] at hj';cases hj';exact h
   ·exact c.le_trans h (dZ sa (by omega) ha0' hj')
  try dsimp -zeta -zetaHave -zetaUnused only
  refine ae (fun h => ?_) (fun h => ?_)
  ·skip
   have h:a.size - 1 = 0:=by simpa using h
   refine aa ?_
   have r:=m1.fin (.inl h)
   exact q _ _ (by simpa only [Array.toList_append,Array.toList_push,Array.toList_reverse,List.toList_toArray,bh] using r.1) (by simpa only [Array.toList_append,Array.toList_push,Array.toList_reverse,List.toList_toArray,bh] using r.2) Same.refl
  ·skip
   refine ae (fun h2 => ?_) (fun h2 => ?_)
   ·skip
    have h2:b.size = 1:=by simpa using h2
    refine aa ?_
    have r:=m1.finB (by rw [h2];exact hfirst)
    exact q _ _ (by simpa only [Array.toList_append,Array.toList_push,Array.toList_reverse,List.toList_toArray,bh] using r.1) (by simpa only [Array.toList_append,Array.toList_push,Array.toList_reverse,List.toList_toArray,bh] using r.2) Same.refl
   ·skip
    have h:a.size - 1 ≠ 0:=by simpa using h
    have h2:b.size ≠ 1:=by simpa using h2
    refine wpS_bind (wpS_get ?_)
    try dsimp -zeta -zetaHave -zetaUnused only
    refine wpS_bind (aB (Q:=fun r st'=>Same st st' /\ ∃ res t,r = (some res,t) /\ Res lt a.toList b.toList res.toList)
     (wpS_forRange (fun i r st'=>Same st st' /\ ∃ na nb out mg,r = (none,na,nb,out,mg) /\ MH lt a.toList b.toList out.toList na nb /\ 0 < na /\ 1 < nb /\ na < a.size /\ nb <= b.size /\ i + 1 <= out.size) ?_ ?_ ⟨Same.refl,_,_,_,_,rfl,m1,by omega,by omega,by omega,by omega,by simp⟩) ?_)
    ·rintro i r st1 _ hi ⟨sm,na,nb,out,mg,rfl,m,hna,hnb,hna',hnb',hsz⟩
     try dsimp -zeta -zetaHave -zetaUnused only
     refine wpS_bind (aB (Q:=fun r st'=>st' = st1 /\ ((∃ na2 nb2 out2 ac bc,r = (none,na2,nb2,out2,ac,bc) /\ MH lt a.toList b.toList out2.toList na2 nb2 /\ 0 < na2 /\ 1 < nb2 /\ na2 < a.size /\ nb2 <= b.size /\ i + 2 <= out2.size) ∨ ∃ res t,r = (some res,t) /\ Res lt a.toList b.toList res.toList))
      (wpS_forRange (fun j r st'=>st' = st1 /\ ∃ na2 nb2 out2 ac bc,r = (none,na2,nb2,out2,ac,bc) /\ MH lt a.toList b.toList out2.toList na2 nb2 /\ 0 < na2 /\ 1 < nb2 /\ na2 < a.size /\ nb2 <= b.size /\ i + 1 + j <= out2.size) ?_ ?_ ⟨rfl,_,_,_,_,_,rfl,m,hna,hnb,hna',hnb',by omega⟩) ?_)
     ·rintro j r st2 _ hj ⟨rfl,na2,nb2,out2,ac,bc,rfl,m2,h1,h2,h1',h2',h3⟩
      try dsimp only
      obtain ⟨y,hy,hy',hym⟩:=aD (a:=b) (i:=nb2 - 1) (by omega)
      obtain ⟨x,hx,hx',hxm⟩:=aD (a:=a) (i:=na2 - 1) (by omega)
      refine wpS_bind (aA hy (wpS_bind (aA hx (wpS_bind (iH c (sm.kind.trans hk) (hPb _ hym) (hPa _ hxm) ?_)))))
      try dsimp only
      refine ae (fun hl => ?_) (fun hl => ?_)
      ·skip
       refine wpS_bind (aA hx ?_)
       try dsimp only
       have m3:=m2.pushA c h1 (by omega) hx' hy' (c.asym _ _ hl)
       refine ae (fun h => ?_) (fun h => ?_)
       ·skip
        have h:na2 - 1 = 0:=by simpa using h
        exact aa ⟨rfl, .inr ⟨_,_,rfl,by have r:=m3.fin (.inl h);simpa only [Array.toList_append,Array.toList_push,Array.toList_reverse,List.toList_toArray,bh] using r⟩⟩
       ·skip
        have h:na2 - 1 ≠ 0:=by simpa using h
        refine ae (fun _ => ?_) (fun _ => ?_)
        ·exact aa ⟨rfl, .inl ⟨_,_,_,_,_,rfl,by simpa only [Array.toList_append,Array.toList_push,Array.toList_reverse,List.toList_toArray,bh] using m3,by omega,h2,by omega,h2',by simp;omega⟩⟩
        ·exact aa ⟨rfl,_,_,_,_,_,rfl,by simpa only [Array.toList_append,Array.toList_push,Array.toList_reverse,List.toList_toArray,bh] using m3,by omega,h2,by omega,h2',by simp;omega⟩
      ·skip
       refine wpS_bind (aA hy ?_)
       try dsimp only
       have m3:=m2.pushB c h1 (by omega) hx' hy' (by simpa using hl)
       refine ae (fun h => ?_) (fun h => ?_)
       ·skip
        have h:nb2 - 1 = 1:=by simpa using h
        exact aa ⟨rfl, .inr ⟨_,_,rfl,by have r:=m3.finB (by rw [h];exact hfirst);simpa only [Array.toList_append,Array.toList_push,Array.toList_reverse,List.toList_toArray,bh] using r⟩⟩
       ·skip
        have h:nb2 - 1 ≠ 1:=by simpa using h
        refine ae (fun _ => ?_) (fun _ => ?_)
        ·exact aa ⟨rfl, .inl ⟨_,_,_,_,_,rfl,by simpa only [Array.toList_append,Array.toList_push,Array.toList_reverse,List.toList_toArray,bh] using m3,h1,by omega,h1',by omega,by simp;omega⟩⟩
        ·exact aa ⟨rfl,_,_,_,_,_,rfl,by simpa only [Array.toList_append,Array.toList_push,Array.toList_reverse,List.toList_toArray,bh] using m3,h1,by omega,h1',by omega,by simp;omega⟩
     ·rintro r st2 ⟨rfl,na2,nb2,out2,ac,bc,rfl,m2,h1,h2,h1',h2',h3⟩
      exact ⟨rfl, .inl ⟨_,_,_,_,_,rfl,m2,h1,h2,h1',h2',by omega⟩⟩
     ·rintro r st2 ⟨rfl,⟨na2,nb2,out2,ac,bc,rfl,m2,h1,h2,h1',h2',h3⟩ | ⟨res,t,rfl,hres⟩⟩
      ·try dsimp -zeta -zetaHave -zetaUnused only
       refine wpS_bind (cD ?_)
       refine wpS_bind (aB (Q:=fun r st'=>Same st st' /\ ((∃ na3 nb3 out3 mg3 ac bc,r = (none,na3,nb3,out3,mg3,ac,bc) /\ MH lt a.toList b.toList out3.toList na3 nb3 /\ 0 < na3 /\ 1 < nb3 /\ na3 < a.size /\ nb3 <= b.size /\ i + 2 <= out3.size) ∨ ∃ res t,r = (some res,t) /\ Res lt a.toList b.toList res.toList))
        (wpS_forRange (fun j r st'=>Same st st' /\ ∃ na3 nb3 out3 mg3 ac bc,r = (none,na3,nb3,out3,mg3,ac,bc) /\ MH lt a.toList b.toList out3.toList na3 nb3 /\ 0 < na3 /\ 1 < nb3 /\ na3 < a.size /\ nb3 <= b.size /\ i + 2 <= out3.size) ?_ ?_ ⟨sm,_,_,_,_,_,_,rfl,m2,h1,h2,h1',h2',h3⟩) ?_)
       ·rintro j r st3 _ hj ⟨sm3,na3,nb3,out3,mg3,ac3,bc3,rfl,m3,h1,h2,h1',h2',h5⟩
        obtain ⟨y,hy,hy',hym⟩:=aD (a:=b) (i:=nb3 - 1) (by omega)
        refine wH fun QQ hQ => ?_
        have hfin:∀ (st':SortSt) (res:Array Keyed) t,Same st st' -> Res lt a.toList b.toList res.toList -> QQ (.done (some res,t)) st':=fun st' res t hs hr=>hQ _ _ ⟨hs, .inr ⟨_,_,rfl,hr⟩⟩
        have hgo:∀ (st':SortSt) (out:Array Keyed) na nb mg ac bc,Same st st' -> MH lt a.toList b.toList out.toList na nb -> 0 < na -> 1 < nb -> na < a.size -> nb <= b.size -> i + 2 <= out.size -> QQ (.done (none,na,nb,out,mg,ac,bc)) st' /\ QQ (.yield (none,na,nb,out,mg,ac,bc)) st':=fun st' out ia ib mg ac bc hs p1 p2 p3 p4 p5 p6=>⟨hQ _ _ ⟨hs, .inl ⟨_,_,_,_,_,_,rfl,p1,p2,p3,p4,p5,p6⟩⟩,hQ _ _ ⟨hs,_,_,_,_,_,_,rfl,p1,p2,p3,p4,p5,p6⟩⟩
        clear hQ hj
        extract_lets -underBinder s0 vna s1 vnb s2 vout s3 vmg s4 vac vbc jp vmx
        have hjp:∀ mg,wpS (PySem.model prog w) A E s (jp () mg) QQ st3:=by
         intro mg
         dsimp -zeta -zetaHave -zetaUnused only [jp,s0,vna,s1,vnb,s2,vout,s3,vmg,s4,vac,vbc]
         clear vmx jp vbc vac s4 vmg s3 vout s2 vnb s1 vna s0
         refine wpS_bind (wpS_modify ?_)
         refine sx (P:=Same st) (sm3.trans ⟨rfl,rfl,rfl,rfl⟩) fun st5 sm5 => ?_
         have hk5:=sm5.kind.trans hk
         refine wpS_bind (aA hy ?_)
         refine wpS_bind (hg false y a [] (a.toList.take na3) (a.toList.drop na3) _ _ _ _ _ hk5 (hPb _ hym) (by simp) rfl (eU (by omega)) (fun x hx=>hPa x (List.mem_of_mem_take hx)) (by omega) ((List.pairwise_append.mp m3.pa).1) fun X Y e hX hY => ?_)
         dsimp -zeta -zetaHave -zetaUnused only
         have m4:=m3.galA c e (by omega) hy' fun x hx=>c.asym _ _ (sy (hY x hx))
         have hrel4 : 0 < X.length -> ∀ x4,a.toList[X.length - 1]? = some x4 -> lt y x4 = false:=fun h0 x4 hx4=>wJ (hX x4 (lQ e h0 hx4))
         have hlen1:=jU e (by omega)
         extract_lets -underBinder +onlyGivenNames vk vac jp2
         clear_value vac
         have hjp2:∀ (na4:Nat) (out4:Array Keyed),MH lt a.toList b.toList out4.toList na4 nb3 -> (∀ x4,a.toList[na4 - 1]? = some x4 -> lt y x4 = false) -> 0 < na4 -> na4 < a.size -> i + 2 <= out4.size -> wpS (PySem.model prog w) A E s (jp2 () na4 out4) QQ st5:=by
          intro na4 out4 m4' hrel4' hna4 hna4' hsz4
          dsimp -zeta -zetaHave -zetaUnused only [jp2]
          clear jp2 vk hlen1 hrel4 m4 hX hY
          obtain ⟨x4,hx4,hx4',hx4m⟩:=aD (a:=a) (i:=na4 - 1) (by omega)
          refine wpS_bind (aA hy ?_)
          have m5:=m4'.pushB c hna4 (by omega) hx4' hy' (hrel4' x4 hx4')
          rw [<- Array.toList_push] at m5
          have hsz5:i + 2 <= (out4.push y).size:=by rw [Array.size_push];omega
          try dsimp -zeta -zetaHave -zetaUnused only
          extract_lets -underBinder +onlyGivenNames vo5
          dsimp -zeta -zetaHave -zetaUnused only [vo5]
          clear vo5
          revert m5 hsz5
          generalize out4.push y = out5
          intro m5 hsz5
          refine ae (fun h => ?_) (fun h => ?_)
          ·exact aa (hfin _ _ _ sm5 (m5.finR (by rw [eq_of_beq h];exact hfirst)))
          ·have h:nb3 - 1 ≠ 1:=by simpa using h
           refine wpS_bind (aA hx4 ?_)
           refine wpS_bind (hg true x4 b [] (b.toList.take (nb3 - 1)) (b.toList.drop (nb3 - 1)) _ _ _ _ _ hk5 (hPa _ hx4m) (by simp) rfl (eU (by omega)) (fun x hx=>hPb x (List.mem_of_mem_take hx)) (by omega) ((List.pairwise_append.mp m5.pb).1) fun X2 Y2 e2 hX2 hY2 => ?_)
           dsimp -zeta -zetaHave -zetaUnused only
           have m6:=m5.galB c e2 hna4 hx4' fun x hx=>sB (hY2 x hx)
           have hrel6 : 0 < X2.length -> ∀ y6,b.toList[X2.length - 1]? = some y6 -> lt x4 y6 = false:=fun h0 y6 hy6=>c.asym _ _ (wK (hX2 y6 (lQ e2 h0 hy6)))
           have hlen2:=jU e2 (by omega)
           extract_lets -underBinder +onlyGivenNames vk vbc jp3
           clear_value vbc
           have hjp3:∀ (nb6:Nat) (out6:Array Keyed),MH lt a.toList b.toList out6.toList na4 nb6 -> (∀ y6,b.toList[nb6 - 1]? = some y6 -> lt x4 y6 = false) -> 1 < nb6 -> nb6 <= b.size -> i + 2 <= out6.size -> wpS (PySem.model prog w) A E s (jp3 () nb6 out6) QQ st5:=by
            intro nb6 out6 m6' hrel6' hnb6 hnb6' hsz6
            dsimp -zeta -zetaHave -zetaUnused only [jp3]
            clear jp3 vk hlen2 hrel6 m6 hX2 hY2 m5 hsz5 hsz4 h5 h1 h2 h1' h2' hsz hna hnb hna' hnb' h3
            obtain ⟨y6,hy6,hy6',hy6m⟩:=aD (a:=b) (i:=nb6 - 1) (by omega)
            refine wpS_bind (aA hx4 ?_)
            have m7:=m6'.pushA c hna4 (by omega) hx4' hy6' (hrel6' y6 hy6')
            rw [<- Array.toList_push] at m7
            dsimp only
            refine ae (fun h => ?_) (fun h => ?_)
            ·exact aa (hfin _ _ _ sm5 (m7.finL (.inl (eq_of_beq h))))
            ·have h:na4 - 1 ≠ 0:=by simpa using h
             have:=fun mg ac bc=>hgo st5 (out6.push x4) (na4 - 1) nb6 mg ac bc sm5 m7 (by omega) hnb6 (by omega) hnb6' (by rw [Array.size_push];omega)
             exact ae (fun _=>aa (this _ _ _).1) (fun _=>aa (this _ _ _).2)
           clear_value jp3
           refine ae (fun h0 => ?_) (fun h0 => ?_)
           ·dsimp only
            have m6:=m6.cut (a:=b) e2
            refine ae (fun h => ?_) (fun h => ?_)
            ·exact aa (hfin _ _ _ sm5 (m6.finR (by rw [eq_of_beq h];exact hfirst)))
            ·have h:X2.length ≠ 1:=by simpa using h
             refine ae (fun h9 => ?_) (fun h9 => ?_)
             ·exact aa (hfin _ _ _ sm5 (m6.finL (.inr (eq_of_beq h9))))
             ·have h9:X2.length ≠ 0:=by simpa using h9
              exact hjp3 _ _ m6 (hrel6 (by omega)) (by omega) (by omega) (by rw [Array.size_append];omega)
           ·have h0 : ¬ (nb3 - 1 - X2.length > 0):=h0
            have hl:X2.length = nb3 - 1:=by omega
            have hl2 : 0 < X2.length:=by omega
            have hr:=hrel6 hl2
            rw [hl] at hr
            exact hjp3 _ _ m5 hr (by omega) (by omega) hsz5
         clear_value jp2
         refine ae (fun h0 => ?_) (fun h0 => ?_)
         ·dsimp only
          have m4:=m4.cut (a:=a) e
          refine ae (fun h => ?_) (fun h => ?_)
          ·exact aa (hfin _ _ _ sm5 (m4.finL (.inl (eq_of_beq h))))
          ·have h:X.length ≠ 0:=by simpa using h
           exact hjp2 _ _ m4 (hrel4 (by omega)) (by omega) (by omega) (by rw [Array.size_append];omega)
         ·have h0 : ¬ (na3 - X.length > 0):=h0
          have hl:X.length = na3:=by omega
          have hr:=hrel4 (by omega)
          rw [hl] at hr
          exact hjp2 _ _ m3 hr h1 h1' h5
        clear_value jp
        exact ae (fun _=>hjp _) (fun _=>hjp _)
       ·rintro r st3 ⟨sm3,na3,nb3,out3,mg3,ac3,bc3,rfl,m3,h1,h2,h1',h2',h5⟩
        exact ⟨sm3, .inl ⟨_,_,_,_,_,_,rfl,m3,h1,h2,h1',h2',h5⟩⟩
       ·rintro r st3 ⟨sm3,⟨na3,nb3,out3,mg3,ac3,bc3,rfl,m3,h1,h2,h1',h2',h5⟩ | ⟨res,t,rfl,hres⟩⟩
        ·try dsimp -zeta -zetaHave -zetaUnused only
         refine wpS_bind (wpS_modify ?_)
         exact aa ⟨sm3.trans ⟨rfl,rfl,rfl,rfl⟩,_,_,_,_,rfl,m3,h1,h2,h1',h2',by omega⟩
        ·exact aa ⟨sm3,_,_,rfl,hres⟩
      ·exact aa ⟨sm,_,_,rfl,hres⟩
    ·rintro r st1 ⟨sm,na,nb,out,mg,rfl,m,hna,hnb,hna',hnb',hsz⟩
     have:=m.size (by simp;omega) (by simp;omega)
     simp at this
     omega
    ·rintro r st1 ⟨sm,res,t,rfl,hres⟩
     exact aa (q res st1 hres.1 hres.2 sm)
end
end Srt
end L2
namespace L2
namespace Srt
open PySem PySem.Spec PyProof.Rows
section
variable {prog:Program} {w:World} {A:Around} {E:Value -> Shared -> Prop} {s:Shared} {kd:SortKind} {P:Keyed -> Prop} {lt:Keyed -> Keyed -> Bool}
structure Kp (st st':SortSt):Prop where
 kind:kindOf st' = kindOf st
 pend:pendingOf st' = pendingOf st
 fail:failedOf st' = failedOf st
theorem Kp.refl {st:SortSt}:Kp st st:=⟨rfl,rfl,rfl⟩
theorem Kp.trans {a b c:SortSt} (h:Kp a b) (g:Kp b c):Kp a c:=⟨g.kind.trans h.kind,g.pend.trans h.pend,g.fail.trans h.fail⟩
theorem nK {a:Array Keyed} {L B R:List Keyed} (e:a.toList = L ++ (B ++ R)) {i j:Nat} (hi:i = L.length) (hj:j = L.length + B.length):(mirror a i j ((j - i) / 2)).toList = L ++ (B.reverse ++ R):=by
 have hs:a.size = L.length + (B.length + R.length):=by rw [<- Array.length_toList,e];simp
 apply List.ext_getElem?
 intro k
 rw [Array.getElem?_toList,getElem?_mirror_all (by omega)]
 have g:∀ n:Nat,a[n]? = (L ++ (B ++ R))[n]? := fun n=>by rw [<- Array.getElem?_toList,e]
 rw [g,g]
 by_cases h1:k < L.length
 ·rw [if_neg (by omega),List.getElem?_append_left h1,List.getElem?_append_left h1]
 ·by_cases h2:k < j
  ·rw [if_pos (by omega),List.getElem?_append_right (by omega),List.getElem?_append_left (by omega),List.getElem?_append_right (by omega),List.getElem?_append_left (by simp;omega),List.getElem?_reverse (by omega)]
   congr 1;omega
  ·rw [if_neg (by omega),List.getElem?_append_right (by omega),List.getElem?_append_right (by omega),List.getElem?_append_right (by omega),List.getElem?_append_right (by simp;omega)]
   simp
theorem nL {a:Array Keyed} {L D1 D2 R:List Keyed} {x:Keyed} (e:a.toList = L ++ ((D1 ++ D2) ++ x :: R)) {src d:Nat} (hi:src = L.length + (D1.length + D2.length)) (hd:d = D2.length):(bubble a src d).toList = L ++ ((D1 ++ x :: D2) ++ R):=by
 have hs:a.size = L.length + (D1.length + D2.length + (R.length + 1)):=by rw [<- Array.length_toList,e];simp;omega
 apply List.ext_getElem?
 intro k
 rw [Array.getElem?_toList,getElem?_bubble (by omega) d (by omega)]
 have g:∀ n:Nat,a[n]? = (L ++ ((D1 ++ D2) ++ x :: R))[n]? := fun n=>by rw [<- Array.getElem?_toList,e]
 rw [g,g,g]
 by_cases h1:k < L.length
 ·rw [if_neg (by omega),if_neg (by omega),List.getElem?_append_left h1,List.getElem?_append_left h1]
 ·by_cases h2:k < L.length + D1.length
  ·rw [if_neg (by omega),if_neg (by omega),List.getElem?_append_right (by omega),List.getElem?_append_left (by simp;omega),List.getElem?_append_left (by omega),List.getElem?_append_right (by omega),List.getElem?_append_left (by simp;omega),List.getElem?_append_left (by omega)]
  ·by_cases h3:k = L.length + D1.length
   ·rw [if_pos (by omega),List.getElem?_append_right (by omega),List.getElem?_append_right (by simp;omega),List.getElem?_append_right (by omega),List.getElem?_append_left (by simp;omega),List.getElem?_append_right (by omega)]
    have e1:src - L.length - (D1 ++ D2).length = 0:=by simp;omega
    have e2:k - L.length - D1.length = 0:=by omega
    rw [e1,e2];rfl
   ·by_cases h4:k <= src
    ·rw [if_neg (by omega),if_pos (by omega),List.getElem?_append_right (by omega),List.getElem?_append_left (by simp;omega),List.getElem?_append_right (by omega),List.getElem?_append_right (by omega),List.getElem?_append_left (by simp;omega),List.getElem?_append_right (by omega)]
     have e2:k - L.length - D1.length = (k - 1 - L.length - D1.length) + 1:=by omega
     rw [e2,List.getElem?_cons_succ]
    ·rw [if_neg (by omega),if_neg (by omega),List.getElem?_append_right (by omega),List.getElem?_append_right (by simp;omega),List.getElem?_append_right (by omega),List.getElem?_append_right (by simp;omega)]
     have e2:k - L.length - (D1 ++ D2).length = (k - L.length - (D1 ++ x :: D2).length) + 1:=by simp;omega
     rw [e2,List.getElem?_cons_succ]
theorem dg (c:Cm prog w A s kd P lt) {i j:Nat} {x y:Keyed} {st:SortSt} {Q:Option Bool -> SortSt -> Prop} (hk:kindOf st = kd) (hx:(arrOf st)[i]? = some x) (hy:(arrOf st)[j]? = some y) (px:P x) (py:P y) (q:Q (some (lt x y)) st):wpS (PySem.model prog w) A E s (ltAt' i j) Q st:=by
 rw [ltAt'_eq]
 exact wpS_bind (wpS_get (wpS_bind (aA hx (wpS_bind (aA hy (iH c hk px py q))))))
theorem iI {i j:Nat} {st:SortSt} {Q:Unit -> SortSt -> Prop} {L B R:List Keyed} (e:(arrOf st).toList = L ++ (B ++ R)) (hi:i = L.length) (hj:j = L.length + B.length) (q:∀ st',(arrOf st').toList = L ++ (B.reverse ++ R) -> Kp st st' -> Q () st'):wpS (PySem.model prog w) A E s (reverseSlice' i j) Q st:=by
 rw [reverseSlice'_eq]
 exact wpS_modify (q _ (nK e hi hj) ⟨rfl,rfl,rfl⟩)
theorem ca {st:SortSt} {L xs:List Keyed} (e:(arrOf st).toList = L ++ xs) {i n:Nat} (hi:i = L.length + n):(arrOf st)[i]? = xs[n]? := by
 rw [<- Array.getElem?_toList,e,hi,List.getElem?_append_right (by omega)]
 congr 1;omega
theorem lV (c:Cm prog w A s kd P lt) {xs:List Keyed} {n:Nat} {x y:Keyed} (h:Ord lt (xs.take n)) (hn : 0 < n) (hx:xs[n]? = some x) (hy:xs[n - 1]? = some y) (hl:lt x y = false):Ord lt (xs.take (n + 1)):=by
 rw [List.take_add_one,hx]
 refine List.pairwise_append.mpr ⟨h,by simp,fun z hz u hu => ?_⟩
 simp at hu;subst hu
 exact gh c h hn hy hl z hz
noncomputable abbrev cM (lt:Keyed -> Keyed -> Bool) (l:List Keyed):Prop:=l.Pairwise fun x y=>lt x y = false
theorem gP (c:Cm prog w A s kd P lt) {D:List Keyed} {e x:Keyed} (h:cM lt (D ++ [e])) (hx:lt e x = false):cM lt (D ++ [e] ++ [x]):=by
 refine List.pairwise_append.mpr ⟨h,by simp,fun z hz u hu => ?_⟩
 simp at hu;subst hu
 obtain ⟨_,_,h3⟩:=List.pairwise_append.mp h
 rcases List.mem_append.mp hz with g | g
 ·cases q:lt z u with
  | false=>rfl
  | true=>rcases c.neg z e u q with r | r
          ·rw [h3 z g e (by simp)] at r;cases r
          ·rw [hx] at r;cases r
 ·simp at g;subst g;exact hx
theorem oA {D0 F:List Keyed} (h:cM lt (D0 ++ F)) (he:∀ x ∈ F, ∀ y ∈ F,lt x y = false):cM lt (D0 ++ F.reverse):=by
 obtain ⟨h1,h2,h3⟩:=List.pairwise_append.mp h
 refine List.pairwise_append.mpr ⟨h1, ?_,fun x hx y hy=>h3 x hx y (List.mem_reverse.mp hy)⟩
 rw [List.pairwise_reverse]
 exact h2.imp_of_mem fun hx hy _=>he _ hy _ hx
theorem perm_take {xs:List Keyed} {n:Nat}:(xs.take n ++ xs.drop n).Perm xs:=by rw [List.take_append_drop]
theorem nM (c:Cm prog w A s kd P lt) {L xs:List Keyed} {st:SortSt} {Q:Option Nat -> SortSt -> Prop} (hk:kindOf st = kd) (harr:(arrOf st).toList = L ++ xs) (h0:xs ≠ []) (hP:∀ x ∈ xs,P x)
 (q:∀ r R st',(arrOf st').toList = L ++ (r ++ R) -> (r ++ R).Perm xs -> r ≠ [] -> Ord lt r -> Kp st st' -> Q (some r.length) st'):wpS (PySem.model prog w) A E s (countRun' L.length xs.length) Q st:=by
 have hpos : 0 < xs.length:=List.length_pos_iff.mpr h0
 rw [countRun'_eq]
 try dsimp -zeta -zetaHave -zetaUnused only
 refine wpS_bind (aB (Q:=fun r st'=>st' = st /\ ∃ n,r = (none,n) /\ 1 <= n /\ n <= xs.length /\ Ord lt (xs.take n) /\ (n = xs.length ∨ ∃ x y,xs[n]? = some x /\ xs[n - 1]? = some y /\ lt x y = true))
  (wpS_forRange (fun i r st'=>st' = st /\ r = (none,i) /\ Ord lt (xs.take i)) ?_ ?_ ⟨rfl,rfl,by
    cases xs with
    | nil=>exact absurd rfl h0
    | cons x t=>simp⟩) ?_)
 ·rintro i r st' h1 hi ⟨rfl,rfl,ho⟩
  dsimp only
  obtain ⟨x,hx⟩:∃ x,xs[i]? = some x:=⟨_,List.getElem?_eq_getElem hi⟩
  obtain ⟨y,hy⟩:∃ y,xs[i - 1]? = some y:=⟨_,List.getElem?_eq_getElem (by omega)⟩
  refine wpS_bind (dg c hk ((ca harr rfl).trans hx) ((ca harr (by omega)).trans hy) (hP _ (List.mem_of_getElem? hx)) (hP _ (List.mem_of_getElem? hy)) ?_)
  dsimp only
  refine ae (fun h => ?_) (fun h => ?_)
  ·exact aa ⟨rfl,i,rfl,h1,by omega,ho, .inr ⟨x,y,hx,hy,h⟩⟩
  ·exact aa ⟨rfl,rfl,lV c ho (by omega) hx hy (by simpa using h)⟩
 ·rintro r st' ⟨rfl,rfl,ho⟩
  exact ⟨rfl,_,rfl,by omega,by omega,ho, .inl (by omega)⟩
 ·rintro r st' ⟨rfl,n,rfl,hn1,hn2,ho,hc⟩
  dsimp -zeta -zetaHave -zetaUnused only
  have fin0:Q (some n) st':=by
   have:=q (xs.take n) (xs.drop n) st' (by rw [harr,List.take_append_drop]) perm_take (fun z=>by
    have h3:=congrArg List.length z
    rw [List.length_take,List.length_nil] at h3;omega) ho Kp.refl
   rw [List.length_take,Nat.min_eq_left hn2] at this
   exact this
  extract_lets -underBinder +onlyGivenNames vr vn
  dsimp -zeta -zetaHave -zetaUnused only [vr]
  clear vr
  have en:n = vn:=rfl
  clear_value vn
  subst en
  refine ae (fun h=>aa fin0) (fun h => ?_)
  have hne:n ≠ xs.length:=by simpa using h
  obtain ⟨x,y,hx,hy,hxy⟩:=hc.resolve_left hne
  have hlt:n < xs.length:=by omega
  have exs:xs = xs.take n ++ x :: xs.drop (n + 1):=by
   have h1:=(List.take_append_drop n xs).symm
   rw [dw hx] at h1
   exact h1
  have hym:y ∈ xs.take n:=by rw [cE (by omega) hy];simp
  extract_lets -underBinder +onlyGivenNames jp
  have hjp:∀ (B:List Keyed) (st1:SortSt),(arrOf st1).toList = L ++ (B ++ x :: xs.drop (n + 1)) -> B.Perm (xs.take n) -> B.length = n -> (∀ u ∈ B, ∀ v ∈ B,lt u v = false) -> y ∈ B -> Kp st' st1 -> wpS (PySem.model prog w) A E s (jp ()) Q st1:=by
   intro B st1 e1 hB hBl hBe hyB kp1
   dsimp -zeta -zetaHave -zetaUnused only [jp]
   clear jp
   refine wpS_bind (cD ?_)
   try dsimp -zeta -zetaHave -zetaUnused only
   extract_lets -underBinder +onlyGivenNames vn1 vq1
   have en1:vn1 = n + 1:=rfl
   have eq1:vq1 = 0:=rfl
   clear_value vn1 vq1
   subst en1 eq1
   refine wpS_bind (aB (Q:=fun r st2 => ∃ D0 F R neq,Kp st' st2 /\ (arrOf st2).toList = L ++ ((D0 ++ F) ++ R) /\ ((D0 ++ F) ++ R).Perm xs /\ r = (none,(D0 ++ F).length,neq) /\ F.length = neq + 1 /\ cM lt (D0 ++ F) /\ (∀ u ∈ F, ∀ v ∈ F,lt u v = false))
    (wpS_forRange (fun i r st2 => ∃ D0 F R neq,Kp st' st2 /\ (arrOf st2).toList = L ++ ((D0 ++ F) ++ R) /\ ((D0 ++ F) ++ R).Perm xs /\ r = (none,(D0 ++ F).length,neq) /\ F.length = neq + 1 /\ cM lt (D0 ++ F) /\ (∀ u ∈ F, ∀ v ∈ F,lt u v = false) /\ (D0 ++ F).length = i) ?_ ?_ ?_) ?_)
   ·rintro i r st2 hi1 hi ⟨D0,F,R,neq,kp,ea,hp,rfl,hF,hN,hE,hil⟩
    subst hil
    have hlen:=hp.length_eq
    rw [List.length_append] at hlen
    obtain ⟨z,R',rfl⟩:∃ z R',R = z :: R':=by
     cases R with
     | nil=>simp at hlen;simp at hi;omega
     | cons z R'=>exact ⟨z,R',rfl⟩
    have hF0:F ≠ []:=fun z=>by rw [z] at hF;simp at hF
    obtain ⟨F0,e,rfl⟩:∃ F0 e,F = F0 ++ [e]:=⟨F.dropLast,F.getLast hF0,(List.dropLast_concat_getLast _).symm⟩
    have hz:(arrOf st2)[L.length + (D0 ++ (F0 ++ [e])).length]? = some z:=by
     rw [ca ea rfl,List.getElem?_append_right (by omega),Nat.sub_self];rfl
    have he:(arrOf st2)[L.length + (D0 ++ (F0 ++ [e])).length - 1]? = some e:=by
     rw [ca ea (n:=(D0 ++ F0).length) (by simp <;> omega),List.getElem?_append_left (by simp <;> omega), <- List.append_assoc,List.getElem?_append_right (by omega),Nat.sub_self];rfl
    have hPz:P z:=hP z (hp.mem_iff.mp (by simp))
    have hPe:P e:=hP e (hp.mem_iff.mp (by simp))
    dsimp only
    refine wpS_bind (dg c (kp.kind.trans hk) hz he hPz hPe ?_)
    dsimp only
    have hN':cM lt (D0 ++ F0 ++ [e]):=by rw [List.append_assoc];exact hN
    refine ae (fun hsm => ?_) (fun hsm => ?_)
    ·have hez:lt e z = false:=c.asym _ _ hsm
     refine ae (fun hneq => ?_) (fun hneq => ?_)
     ·refine wpS_bind (iI (L:=L ++ D0) (B:=F0 ++ [e]) (R:=z :: R') (by rw [ea];simp) (by simp only [List.length_append] at hF ⊢;simp only [List.length_singleton] at hF ⊢;omega) (by simp <;> omega) fun st3 e3 kp3 => ?_)
      refine aa ⟨D0 ++ (F0 ++ [e]).reverse,[z],R',0,kp.trans kp3,by rw [e3];simp, ?_,by simp <;> omega,rfl, ?_, ?_,by simp <;> omega⟩
      ·refine List.Perm.trans ?_ hp
       rw [List.append_assoc,List.append_assoc,List.append_assoc]
       exact List.Perm.append_left _ (List.Perm.append_right _ (List.reverse_perm _))
      ·have h1:=oA hN hE
       refine List.pairwise_append.mpr ⟨h1,by simp,fun u hu v hv => ?_⟩
       simp at hv;subst hv
       have hm:=gP c hN' hez
       refine (List.pairwise_append.mp hm).2.2 u ?_ v (by simp)
       rw [List.append_assoc]
       rcases List.mem_append.mp hu with g | g
       ·exact List.mem_append_left _ g
       ·exact List.mem_append_right _ (List.mem_reverse.mp g)
      ·intro u hu v hv;simp at hu hv;subst hu hv;exact c.irr
     ·refine aa ⟨D0 ++ (F0 ++ [e]),[z],R',0,kp,by rw [ea];simp,by simpa using hp,by simp <;> omega,rfl, ?_, ?_,by simp <;> omega⟩
      ·have hm:=gP c hN' hez
       simpa using hm
      ·intro u hu v hv;simp at hu hv;subst hu hv;exact c.irr
    ·have hze:lt z e = false:=by simpa using hsm
     refine wpS_bind (dg c (kp.kind.trans hk) he hz hPe hPz ?_)
     dsimp only
     refine ae (fun hlg => ?_) (fun hlg => ?_)
     ·exact aa ⟨D0,F0 ++ [e],z :: R',neq,kp,ea,hp,rfl,hF,hN,hE⟩
     ·have hez:lt e z = false:=by simpa using hlg
      refine aa ⟨D0,(F0 ++ [e]) ++ [z],R',neq + 1,kp,by rw [ea];simp,by simpa using hp,by simp <;> omega,by simp at hF ⊢;omega, ?_, ?_,by simp <;> omega⟩
      ·have hm:=gP c hN' hez
       simpa using hm
      ·have hu1:∀ u ∈ F0 ++ [e],lt u z = false:=fun u hu=>by
        cases q1:lt u z with
        | false=>rfl
        | true=>rcases c.neg u e z q1 with r | r
                ·rw [hE u hu e (by simp)] at r;cases r
                ·rw [hez] at r;cases r
       have hu2:∀ u ∈ F0 ++ [e],lt z u = false:=fun u hu=>by
        cases q1:lt z u with
        | false=>rfl
        | true=>rcases c.neg z e u q1 with r | r
                ·rw [hze] at r;cases r
                ·rw [hE e (by simp) u hu] at r;cases r
       intro u hu v hv
       rcases List.mem_append.mp hu with g | g <;> rcases List.mem_append.mp hv with g2 | g2
       ·exact hE u g v g2
       ·simp at g2;subst g2;exact hu1 u g
       ·simp at g;subst g;exact hu2 v g2
       ·simp at g g2;subst g g2;exact c.irr
   ·rintro r st2 ⟨D0,F,R,neq,kp,ea,hp,hr,hF,hN,hE,hil⟩
    exact ⟨D0,F,R,neq,kp,ea,hp,hr,hF,hN,hE⟩
   ·refine ⟨B,[x],xs.drop (n + 1),0,kp1,by rw [e1];simp, ?_,by simp [hBl],rfl, ?_, ?_,by simp [hBl]⟩
    ·have h9:(B ++ x :: xs.drop (n + 1)).Perm xs:=by
      have h9:=List.Perm.append_right (x :: xs.drop (n + 1)) hB
      rw [<- exs] at h9
      exact h9
     simpa using h9
    ·refine List.pairwise_append.mpr ⟨List.Pairwise.imp_of_mem (fun hu hv _=>hBe _ hu _ hv) (List.pairwise_of_forall_mem_list (r:=fun _ _=>True) fun _ _ _ _=>trivial),by simp,fun u hu v hv => ?_⟩
     simp at hv;subst hv
     cases q1:lt u v with
     | false=>rfl
     | true=>rcases c.neg u y v q1 with r | r
             ·rw [hBe u hu y hyB] at r;cases r
             ·rw [c.asym _ _ hxy] at r;cases r
    ·intro u hu v hv;simp at hu hv;subst hu hv;exact c.irr
   ·rintro r st2 ⟨D0,F,R,neq,kp,ea,hp,rfl,hF,hN,hE⟩
    dsimp -zeta -zetaHave -zetaUnused only
    extract_lets -underBinder +onlyGivenNames vr vs vn2 vq2
    dsimp -zeta -zetaHave -zetaUnused only [vr]
    have en2:vn2 = (D0 ++ F).length:=rfl
    have eq2:neq = vq2:=rfl
    clear_value vn2 vq2
    clear vs vr
    subst en2 eq2
    extract_lets -underBinder +onlyGivenNames jp2
    have hjp2:∀ (D:List Keyed) (st3:SortSt),(arrOf st3).toList = L ++ (D ++ R) -> cM lt D -> (D ++ R).Perm xs -> D.length = (D0 ++ F).length -> 0 < D.length -> Kp st' st3 -> wpS (PySem.model prog w) A E s (jp2 ()) Q st3:=by
     intro D st3 e3 hND hpD hDN hDl0 kp3
     dsimp -zeta -zetaHave -zetaUnused only [jp2]
     clear jp2
     have hDl : 0 < D.length:=by omega
     refine wpS_bind (iI (L:=L) (B:=D) (R:=R) e3 rfl (by rw [hDN]) fun st4 e4 kp4 => ?_)
     have o4:Ord lt D.reverse:=List.pairwise_reverse.mpr hND
     have hp4:(D.reverse ++ R).Perm xs:=(List.Perm.append_right _ (List.reverse_perm D)).trans hpD
     have hl4:(D.reverse ++ R).length = xs.length:=hp4.length_eq
     have ht4:Ord lt ((D.reverse ++ R).take D.length):=by
      rw [List.take_append_of_le_length (by simp),List.take_of_length_le (by simp)];exact o4
     have hP4:∀ u ∈ D.reverse ++ R,P u:=fun u hu=>hP u (hp4.mem_iff.mp hu)
     have hDx:D.length <= xs.length:=by rw [<- hl4];simp
     rw [<- hDN]
     generalize D.length = N0 at ht4 hDl hDx
     generalize D.reverse ++ R = ys at e4 hp4 hl4 ht4 hP4
     refine wpS_bind (aB (Q:=fun r st5=>st5 = st4 /\ ∃ n,r = (none,n) /\ 1 <= n /\ n <= xs.length /\ Ord lt (ys.take n))
      (wpS_forRange (fun i r st5=>st5 = st4 /\ r = (none,i) /\ Ord lt (ys.take i)) ?_ ?_ ⟨rfl,rfl,ht4⟩) ?_)
     ·rintro i r st5 h1 hi ⟨rfl,rfl,ho⟩
      dsimp only
      obtain ⟨u,hu⟩:∃ u,ys[i]? = some u:=⟨_,List.getElem?_eq_getElem (by omega)⟩
      obtain ⟨v,hv⟩:∃ v,ys[i - 1]? = some v:=⟨_,List.getElem?_eq_getElem (by omega)⟩
      refine wpS_bind (dg c ((kp3.trans kp4).kind.trans hk) ((ca e4 rfl).trans hu) ((ca e4 (by omega)).trans hv) (hP4 _ (List.mem_of_getElem? hu)) (hP4 _ (List.mem_of_getElem? hv)) ?_)
      dsimp only
      refine ae (fun h => ?_) (fun h => ?_)
      ·exact aa ⟨rfl,i,rfl,by omega,by omega,ho⟩
      ·exact aa ⟨rfl,rfl,lV c ho (by omega) hu hv (by simpa using h)⟩
     ·rintro r st5 ⟨rfl,rfl,ho⟩
      exact ⟨rfl,_,rfl,by omega,by omega,ho⟩
     ·rintro r st5 ⟨rfl,m,rfl,hm1,hm2,ho⟩
      refine aa ?_
      have:=q (ys.take m) (ys.drop m) st5 (by rw [e4,List.take_append_drop]) (perm_take.trans hp4) (fun z=>by
       have h3:=congrArg List.length z
       rw [List.length_take,List.length_nil] at h3;omega) ho (kp3.trans kp4)
      rw [List.length_take,Nat.min_eq_left (by omega)] at this
      exact this
    clear_value jp2
    refine ae (fun hneq => ?_) (fun hneq => ?_)
    ·refine wpS_bind (iI (L:=L ++ D0) (B:=F) (R:=R) (by rw [ea];simp) (by simp <;> omega) (by simp <;> omega) fun st3 e3 kp3 => ?_)
     have kp3:=kp.trans kp3
     have e3:(arrOf st3).toList = L ++ ((D0 ++ F.reverse) ++ R):=by rw [e3];simp
     have hND:=oA hN hE
     have hpD:((D0 ++ F.reverse) ++ R).Perm xs:=(List.Perm.append_right _ (List.Perm.append_left _ (List.reverse_perm _))).trans hp
     have hDN:(D0 ++ F.reverse).length = (D0 ++ F).length:=by simp
     have hDl0 : 0 < (D0 ++ F.reverse).length:=by simp <;> omega
     exact hjp2 _ _ e3 hND hpD hDN hDl0 kp3
    ·exact hjp2 _ _ ea hN hp rfl (by simp <;> omega) kp
  clear_value jp
  refine ae (fun h1 => ?_) (fun h1 => ?_)
  ·obtain ⟨x0,hx0⟩:∃ x0,xs[0]? = some x0:=⟨_,List.getElem?_eq_getElem hpos⟩
   refine wpS_bind (dg c hk ((ca harr (n := 0) (by omega)).trans hx0) ((ca harr (by omega)).trans hy) (hP _ (List.mem_of_getElem? hx0)) (hP _ (List.mem_of_getElem? hy)) ?_)
   dsimp only
   refine ae (fun hr=>aa fin0) (fun hr => ?_)
   have hr:lt x0 y = false:=by simpa using hr
   have hx0m:∀ u ∈ xs.take n,lt u x0 = false:=fun u hu=>by
    obtain ⟨i,hi,eu⟩:=List.mem_iff_getElem.mp hu
    have hu':(xs.take n)[i]? = some u:=by rw [<- eu];exact List.getElem?_eq_getElem hi
    have hx0':(xs.take n)[0]? = some x0:=by rw [List.getElem?_take_of_lt (by omega)];exact hx0
    by_cases hi0:i = 0
    ·subst hi0;rw [hx0'] at hu';cases hu';exact c.irr
    ·exact dZ ho (by omega) hx0' hu'
   have hyl:∀ u ∈ xs.take n,lt y u = false:=gh c ho (by omega) hy c.irr
   have heq:∀ u ∈ xs.take n, ∀ v ∈ xs.take n,lt u v = false:=fun u hu v hv=>by
    exact c.le_trans (c.le_trans (hyl v hv) hr) (hx0m u hu)
   refine wpS_bind (iI (L:=L) (B:=xs.take n) (R:=x :: xs.drop (n + 1)) (by rw [harr];exact congrArg (L ++ ·) exs) rfl (by rw [List.length_take,Nat.min_eq_left hn2]) fun st1 e1 kp1 => ?_)
   have hB:(xs.take n).reverse.Perm (xs.take n):=List.reverse_perm _
   have hBl:(xs.take n).reverse.length = n:=by rw [List.length_reverse,List.length_take];omega
   have hBe:∀ u ∈ (xs.take n).reverse, ∀ v ∈ (xs.take n).reverse,lt u v = false:=fun u hu v hv=>heq u (List.mem_reverse.mp hu) v (List.mem_reverse.mp hv)
   have hyB:y ∈ (xs.take n).reverse:=List.mem_reverse.mpr hym
   exact hjp _ _ e1 hB hBl hBe hyB kp1
  ·have st1:=st'
   have hn:n = 1:=by omega
   have kp1:Kp st' st':=Kp.refl
   have e1:(arrOf st').toList = L ++ (xs.take n ++ x :: xs.drop (n + 1)):=by rw [harr];exact congrArg (L ++ ·) exs
   have hB:(xs.take n).Perm (xs.take n):=List.Perm.refl _
   have hBl:(xs.take n).length = n:=by rw [List.length_take];omega
   have hyB:=hym
   have hBe:∀ u ∈ xs.take n, ∀ v ∈ xs.take n,lt u v = false:=fun u hu v hv=>by
    have e0:xs.take n = [y]:=by
     subst hn
     rw [cE (by omega) hy];rfl
    rw [e0] at hu hv
    simp at hu hv;subst hu hv;exact c.irr
   exact hjp _ _ e1 hB hBl hBe hyB kp1
end
end Srt
end L2
namespace L2
namespace Srt
open PySem PySem.Spec PyProof.Rows
section
variable {prog:Program} {w:World} {A:Around} {E:Value -> Shared -> Prop} {s:Shared} {kd:SortKind} {P:Keyed -> Prop} {lt:Keyed -> Keyed -> Bool}
theorem sC (c:Cm prog w A s kd P lt) {L r R:List Keyed} {n:Nat} {st:SortSt} {Q:Bool -> SortSt -> Prop} (hk:kindOf st = kd) (harr:(arrOf st).toList = L ++ (r ++ R)) (h0:r ≠ []) (ho:Ord lt r) (hn:r.length <= n) (hn2:n <= (r ++ R).length) (hP:∀ x ∈ r ++ R,P x)
 (q:∀ r' R' st',(arrOf st').toList = L ++ (r' ++ R') -> (r' ++ R').Perm (r ++ R) -> r'.length = n -> Ord lt r' -> Kp st st' -> Q true st'):wpS (PySem.model prog w) A E s (binarySort' L.length n r.length) Q st:=by
 have hpos : 0 < r.length:=List.length_pos_iff.mpr h0
 rw [binarySort'_eq]
 refine wpS_bind (aB (Q:=fun x st'=>x = (none,()) /\ ∃ D T,Kp st st' /\ (arrOf st').toList = L ++ (D ++ T) /\ (D ++ T).Perm (r ++ R) /\ D.length = n /\ Ord lt D)
  (wpS_forRange (fun i x st'=>x = (none,()) /\ ∃ D T,Kp st st' /\ (arrOf st').toList = L ++ (D ++ T) /\ (D ++ T).Perm (r ++ R) /\ D.length = i /\ Ord lt D) ?_ ?_ ⟨rfl,r,R,Kp.refl,harr,List.Perm.refl _,by omega,ho⟩) ?_)
 ·rintro k x st1 hk1 hk2 ⟨rfl,D,T,kp,ea,hp,hD,hO⟩
  dsimp only
  subst hD
  have hlen:=hp.length_eq
  rw [List.length_append] at hlen
  obtain ⟨z,T',rfl⟩:∃ z T',T = z :: T':=by
   cases T with
   | nil=>simp at hlen hn2;omega
   | cons z T'=>exact ⟨z,T',rfl⟩
  have hPD:∀ u ∈ D,P u:=fun u hu=>hP u (hp.mem_iff.mp (List.mem_append_left _ hu))
  have hPz:P z:=hP z (hp.mem_iff.mp (by simp))
  have hz:(arrOf st1)[L.length + D.length]? = some z:=by
   rw [ca ea rfl,List.getElem?_append_right (by omega),Nat.sub_self];rfl
  refine wpS_bind (aB (Q:=fun x st'=>st' = st1 /\ ∃ k,x = (none,k,k) /\ Gal lt false z D k k)
   (wpS_forRange (fun i x st'=>st' = st1 /\ ∃ lo hi,x = (none,lo,hi) /\ Gal lt false z D lo hi /\ hi - lo + i <= D.length) ?_ ?_ ⟨rfl,0,D.length,rfl,⟨by omega,by omega,fun _ _ h=>by omega,fun i x hi hx=>by
     have:=(List.getElem?_eq_some_iff.mp hx).1
     omega⟩,by omega⟩) ?_)
  ·rintro i x st2 _ hi ⟨rfl,lo,hi',rfl,hG,hm⟩
   dsimp only
   have hl:=hG.le
   have hl2:=hG.len
   refine ae (fun hge => ?_) (fun hge => ?_)
   ·exact aa ⟨rfl,hi',by rw [show lo = hi' by omega],by rw [show lo = hi' by omega] at hG;exact hG⟩
   ·obtain ⟨u,hu⟩:∃ u,D[(lo + hi') / 2]? = some u:=⟨_,List.getElem?_eq_getElem (by omega)⟩
    have hu':(arrOf st2)[L.length + (lo + hi') / 2]? = some u:=by
     rw [ca ea rfl,List.getElem?_append_left (by omega)];exact hu
    refine wpS_bind (dg c (kp.kind.trans hk) hz hu' hPz (hPD _ (List.mem_of_getElem? hu)) ?_)
    dsimp only
    refine ae (fun hf => ?_) (fun hf => ?_)
    ·exact aa ⟨rfl,_,_,rfl,⟨by omega,by omega,hG.up,gf c hO hu (by simp [bey,hf])⟩,by omega⟩
    ·exact aa ⟨rfl,_,_,rfl,⟨by omega,hl2,gd c hO hu (by simpa [bey] using hf),hG.dn⟩,by omega⟩
  ·rintro x st2 ⟨rfl,lo,hi',rfl,hG,hm⟩
   have hl:=hG.le
   exact ⟨rfl,hi',by rw [show lo = hi' by omega],by rw [show lo = hi' by omega] at hG;exact hG⟩
  ·rintro x st2 ⟨rfl,l,rfl,hG⟩
   dsimp only
   obtain ⟨X,Y,e,hl,hX,hY⟩:=hG.out
   subst hl e
   rw [moveDown'_eq]
   refine wpS_bind (wpS_modify ?_)
   refine aa ⟨rfl,X ++ z :: Y,T',kp.trans ⟨rfl,rfl,rfl⟩,nL ea (by simp) (by simp;omega), ?_,by simp;omega, ?_⟩
   ·refine List.Perm.trans ?_ hp
    rw [List.append_assoc,List.append_assoc]
    refine List.Perm.append_left _ ?_
    rw [List.cons_append]
    exact List.perm_middle.symm
   ·obtain ⟨o1,o2,o3⟩:=List.pairwise_append.mp hO
    refine List.pairwise_append.mpr ⟨o1,List.pairwise_cons.mpr ⟨fun u hu=>c.asym _ _ (by have:=hY u hu;simpa [bey] using this),o2⟩,fun u hu v hv => ?_⟩
    rcases List.mem_cons.mp hv with g | g
    ·subst g;have:=hX u hu;simpa [bey] using this
    ·exact o3 u hu v g
 ·rintro x st1 ⟨rfl,D,T,kp,ea,hp,hD,hO⟩
  exact ⟨rfl,D,T,kp,ea,hp,by omega,hO⟩
 ·rintro x st1 ⟨rfl,D,T,kp,ea,hp,hD,hO⟩
  exact aa (q D T st1 ea hp hD hO kp)
noncomputable def Pd:Nat -> List (List Keyed) -> List (Nat × Nat × Nat) -> Prop
 | _,[],ps=>ps = []
 | s,r :: rs,ps => ∃ p t,ps = (s,r.length,p) :: t /\ Pd (s + r.length) rs t
theorem Pd.split:∀ {l t:List (List Keyed)} {s:Nat} {ps:List (Nat × Nat × Nat)},Pd s (l ++ t) ps -> ∃ pl pt,ps = pl ++ pt /\ pl.length = l.length /\ Pd s l pl /\ Pd (s + l.flatten.length) t pt
 | [],t,s,ps,h=>⟨[],ps,rfl,rfl,rfl,by simpa using h⟩
 | r :: l,t,s,ps,h=>by
   obtain ⟨p,q,e,h⟩:=h
   obtain ⟨pl,pt,e2,hl,h1,h2⟩:=Pd.split h
   refine ⟨(s,r.length,p) :: pl,pt,by rw [e,e2];rfl,by simp [hl],⟨p,pl,rfl,h1⟩, ?_⟩
   rw [List.flatten_cons,List.length_append, <- Nat.add_assoc];exact h2
theorem Pd.join:∀ {l t:List (List Keyed)} {s:Nat} {pl pt:List (Nat × Nat × Nat)},Pd s l pl -> Pd (s + l.flatten.length) t pt -> Pd s (l ++ t) (pl ++ pt)
 | [],t,s,pl,pt,h,g=>by
  have:pl = []:=h
  subst this;simpa using g
 | r :: l,t,s,pl,pt,h,g=>by
   obtain ⟨p,q,e,h⟩:=h
   subst e
   refine ⟨p,q ++ pt,rfl,Pd.join h ?_⟩
   rw [List.flatten_cons,List.length_append, <- Nat.add_assoc] at g;exact g
theorem Pd.length:∀ {l:List (List Keyed)} {s:Nat} {ps:List (Nat × Nat × Nat)},Pd s l ps -> ps.length = l.length
 | [],_,_,h=>by rw [show _ = [] from h];rfl
 | r :: l,s,ps,h=>by
   obtain ⟨p,q,e,h⟩:=h
   rw [e];simp [h.length]
structure Rn (lt:Keyed -> Keyed -> Bool) (kd:SortKind) (a₀:List Keyed) (st:SortSt) (rs:List (List Keyed)) (R:List Keyed):Prop where
 arr:(arrOf st).toList = rs.flatten ++ R
 perm:(rs.flatten ++ R).Perm a₀
 ord:∀ r ∈ rs,r ≠ [] /\ Ord lt r
 pend:Pd 0 rs (pendingOf st).toList
 kind:kindOf st = kd
 fail:failedOf st = none
theorem Rn.merge (c:Cm prog w A s kd P lt) {a₀:List Keyed} (hP:∀ x ∈ a₀,P x) {st:SortSt} {l t:List (List Keyed)} {r1 r2 R:List Keyed} (h:Rn lt kd a₀ st (l ++ r1 :: r2 :: t) R) {i:Nat} (hi:i = l.length) {Q:Bool -> SortSt -> Prop}
 (q:∀ m st',Rn lt kd a₀ st' (l ++ m :: t) R -> m.length = r1.length + r2.length -> Q true st'):wpS (PySem.model prog w) A E s (mergeAt' i) Q st:=by
 obtain ⟨g,lo,hi',⟨hg,hlo,hhi⟩,hat⟩:=Bm (E:=E) c
 obtain ⟨pl,pt,ep,hpl,hp1,hp2⟩:=h.pend.split
 obtain ⟨p1,t1,e1,hp3⟩:=hp2
 obtain ⟨p2,t2,e2,hp4⟩:=hp3
 subst e1 e2
 have o1:=h.ord r1 (by simp)
 have o2:=h.ord r2 (by simp)
 have hmem:∀ x,x ∈ r1 ∨ x ∈ r2 -> P x:=fun x hx=>hP x (h.perm.mem_iff.mp (by simp only [List.flatten_append,List.flatten_cons,List.mem_append];rcases hx with z | z <;> simp [z]))
 have ip:∀ (k:Nat) (v:Nat × Nat × Nat),(pendingOf st).toList[k]? = some v -> (pendingOf st)[k]? = some v:=fun k v e=>by rw [<- Array.getElem?_toList];exact e
 refine hat hg (hlo hg) (hhi hg) i (0 + l.flatten.length) r1.length p1 (0 + l.flatten.length + r1.length) r2.length p2 l.flatten r1 r2 (t.flatten ++ R) st Q h.kind h.fail (ip _ _ ?_) (ip _ _ ?_) (by rw [h.arr];simp) (Nat.zero_add _) rfl (by omega) rfl o1.1 o2.1 (fun x hx=>hmem x (.inl hx)) (fun x hx=>hmem x (.inr hx)) o1.2 o2.2 ?_
 ·rw [ep,hi, <- hpl,List.getElem?_append_right (by omega),Nat.sub_self];rfl
 ·rw [ep,hi, <- hpl,List.getElem?_append_right (by omega),show pl.length + 1 - pl.length = 1 by omega];rfl
 ·intro m st' ea hm om hk hf hpd
  have hml:m.length = r1.length + r2.length:=by rw [hm.length_eq];simp
  refine q m st' ⟨by rw [ea];simp, ?_, ?_, ?_,hk,hf⟩ hml
  ·refine List.Perm.trans ?_ h.perm
   simp only [List.flatten_append,List.flatten_cons,List.append_assoc]
   refine List.Perm.append_left _ ?_
   rw [<- List.append_assoc r1]
   exact List.Perm.append_right _ hm
  ·intro r hr
   rcases List.mem_append.mp hr with z | z
   ·exact h.ord r (List.mem_append_left _ z)
   ·rcases List.mem_cons.mp z with z | z
    ·subst z;exact ⟨fun z=>by rw [z] at hml;have:=List.length_pos_iff.mpr o1.1;simp at hml;omega,om⟩
    ·exact h.ord r (by simp [z])
  ·rw [hpd]
   have e3:(((pendingOf st).setIfInBounds i (0 + l.flatten.length,r1.length + r2.length,p1)).eraseIdxIfInBounds (i + 1)).toList = pl ++ (0 + l.flatten.length,r1.length + r2.length,p1) :: t2:=by
    rw [Array.toList_eraseIdxIfInBounds,Array.toList_setIfInBounds,ep,hi, <- hpl]
    rw [List.set_append_right _ _ (by omega),Nat.sub_self,List.eraseIdx_append_of_length_le (by omega),show pl.length + 1 - pl.length = 1 by omega];rfl
   rw [e3]
   refine hp1.join ⟨p1,t2,by rw [hml], ?_⟩
   rw [hml, <- Nat.add_assoc];exact hp4
theorem lW {α:Type} {l:List α} (h : 1 < l.length):∃ t a b,l = t ++ [a,b]:=by
 obtain ⟨t1,b,e1⟩:∃ t b,l = t ++ [b]:=⟨l.dropLast,l.getLast (fun z=>by rw [z] at h;simp at h),(List.dropLast_concat_getLast _).symm⟩
 obtain ⟨t2,a,e2⟩:∃ t b,t1 = t ++ [b]:=⟨t1.dropLast,t1.getLast (fun z=>by rw [e1,z] at h;simp at h),(List.dropLast_concat_getLast _).symm⟩
 exact ⟨t2,a,b,by rw [e1,e2];simp⟩
theorem Al {α:Type} {l:List α} {i:Nat} (h:i + 1 < l.length):∃ t a b u,l = t ++ a :: b :: u /\ t.length = i:=by
 refine ⟨l.take i,l[i],l[i + 1],l.drop (i + 2), ?_,by rw [List.length_take];omega⟩
 rw [<- List.drop_eq_getElem_cons (by omega), <- List.drop_eq_getElem_cons (by omega),List.take_append_drop]
theorem Rn.size {a₀:List Keyed} {st:SortSt} {rs:List (List Keyed)} {R:List Keyed} (h:Rn lt kd a₀ st rs R):rs.flatten.length + R.length = a₀.length:=by
 have:=h.perm.length_eq
 rw [List.length_append] at this;exact this
theorem oB:∀ {rs:List (List Keyed)},(∀ r ∈ rs,r ≠ []) -> rs.length <= rs.flatten.length
 | [],_=>by simp
 | r :: rs,h=>by
   have h1:=List.length_pos_iff.mpr (h r (by simp))
   have h2:=oB (rs:=rs) fun r hr=>h r (by simp [hr])
   rw [List.flatten_cons,List.length_append,List.length_cons];omega
theorem sD {l:List (List Keyed)} {s pw:Nat} {ps:Array (Nat × Nat × Nat)} (h:Pd s l ps.toList):Pd s l (ps.modify (ps.size - 1) fun x=>(x.1,x.2.1,pw)).toList:=by
 rw [Array.toList_modify]
 have g:∀ (l:List (List Keyed)) (s k:Nat) (ps:List (Nat × Nat × Nat)),Pd s l ps -> Pd s l (ps.modify k fun x=>(x.1,x.2.1,pw)):=by
  intro l
  induction l with
  | nil=>intro s k ps h;have:ps = []:=h;subst this;cases k <;> rfl
  | cons r l ih =>
    intro s k ps h
    obtain ⟨p,t,e,h⟩:=h
    subst e
    cases k with
    | zero=>exact ⟨pw,t,rfl,h⟩
    | succ k=>exact ⟨p,_,rfl,ih _ k t h⟩
 exact g _ _ _ _ h
theorem nN (c:Cm prog w A s kd P lt) {st:SortSt} {Q:Unit -> SortSt -> Prop} (hk:kindOf st = kd) (hf:failedOf st = none) (hp:pendingOf st = #[]) (hP:∀ x ∈ (arrOf st).toList,P x)
 (q:∀ st',(arrOf st').toList.Perm (arrOf st).toList -> Ord lt (arrOf st').toList -> failedOf st' = none -> Q () st'):wpS (PySem.model prog w) A E s sortRuns' Q st:=by
 rw [sortRuns'_eq]
 refine wpS_bind (wpS_get ?_)
 try dsimp only
 have hsz:(arrOf st).size = (arrOf st).toList.length:=by simp
 generalize hA:(arrOf st).toList = a₀ at hP q hsz
 generalize hS:(arrOf st).size = size at hsz
 generalize minRun' size size 0 = minrun
 refine wpS_bind (aB (Q:=fun r st' => ∃ rs lo,r = (none,lo) /\ Rn lt kd a₀ st' rs [])
  (wpS_forRange (fun i r st' => ∃ rs R,r = (none,rs.flatten.length) /\ Rn lt kd a₀ st' rs R /\ i <= rs.flatten.length) ?_ ?_ ⟨[],a₀,rfl,⟨by simpa using hA,by simp,by simp,by rw [hp];rfl,hk,hf⟩,by simp⟩) ?_)
 ·rintro i r st1 _ hi ⟨rs,R,rfl,hR,hil⟩
  try dsimp only
  have hRs:=hR.size
  refine ae (fun hge => ?_) (fun hge => ?_)
  ·have:R = []:=List.length_eq_zero_iff.mp (by omega)
   subst this
   exact aa ⟨rs,_,rfl,hR⟩
  ·have hRl:size - rs.flatten.length = R.length:=by omega
   have hR0:R ≠ []:=fun z=>by rw [z,List.length_nil] at hRl;omega
   have hPR:∀ x ∈ R,P x:=fun x hx=>hP x (hR.perm.mem_iff.mp (List.mem_append_right _ hx))
   rw [hRl]
   refine wpS_bind (nM c hR.kind hR.arr hR0 hPR fun r R1 st2 ea hpr hr0 ho kp => ?_)
   try dsimp only
   have hRn:Rn lt kd a₀ st2 rs (r ++ R1):=⟨ea,(List.Perm.append_left _ hpr).trans hR.perm,hR.ord,by rw [kp.pend];exact hR.pend,kp.kind.trans hR.kind,kp.fail.trans hR.fail⟩
   have hrl:r.length + R1.length = R.length:=by rw [<- hpr.length_eq];simp
   refine ae (fun hlt => ?_) (fun hlt => ?_)
   ·refine wpS_bind (cD ?_)
    refine wpS_bind (sC c hRn.kind hRn.arr hr0 ho (n:=min R.length minrun) (by omega) (by simp;omega) (fun x hx=>hPR x (hpr.mem_iff.mp hx)) fun r2 R2 st3 ea3 hpr3 hl3 ho3 kp3 => ?_)
    try dsimp only
    refine ae (fun h=>absurd h (by simp)) (fun _ => ?_)
    have hr20:r2 ≠ []:=fun z=>by
     rw [z] at hl3;simp at hl3
     have:=List.length_pos_iff.mpr hr0
     omega
    have hRn:Rn lt kd a₀ st3 rs (r2 ++ R2):=⟨ea3,(List.Perm.append_left _ hpr3).trans hRn.perm,hRn.ord,by rw [kp3.pend];exact hRn.pend,kp3.kind.trans hRn.kind,kp3.fail.trans hRn.fail⟩
    rw [<- hl3]
    clear hl3 hpr3 ea3 kp3 ea hpr kp hrl hlt
    generalize st3 = st2 at hRn
    clear ho hr0
    have ho:=ho3
    have hr0:=hr20
    generalize r2 = r at hRn ho hr0
    generalize R2 = R1 at hRn
    refine wpS_bind (wpS_get ?_)
    try dsimp only
    have hpl:(pendingOf st2).size = rs.length:=by rw [<- Array.length_toList];exact hRn.pend.length
    cases hb:(pendingOf st2).back? with
    | none =>
      try dsimp only
      have HL:rs.flatten.length = rs.flatten.length:=rfl
      refine wpS_bind (wpS_modify ?_)
      have hr1:=List.length_pos_iff.mpr hr0
      have hfl:(rs ++ [r]).flatten.length = rs.flatten.length + r.length:=by rw [List.flatten_append,List.length_append,HL];simp
      refine aa ⟨rs ++ [r],R1,by rw [hfl],⟨by rw [show _ = _ from hRn.arr];simp, ?_, ?_, ?_,hRn.kind,hRn.fail⟩,by rw [hfl];omega⟩
      ·refine List.Perm.trans (List.Perm.of_eq (by simp)) hRn.perm
      ·intro u hu
       rcases List.mem_append.mp hu with z | z
       ·exact hRn.ord u z
       ·simp at z;subst z;exact ⟨hr0,ho⟩
      ·have h8:(pendingOf (setPending st2 ((pendingOf st2).push (rs.flatten.length,r.length,0)))).toList = (pendingOf st2).toList ++ [(rs.flatten.length,r.length,0)]:=by
        show ((pendingOf st2).push _).toList = _
        rw [Array.toList_push]
       rw [show _ = _ from h8]
       exact hRn.pend.join ⟨0,[],by rw [HL,Nat.zero_add],rfl⟩
    | some v =>
      obtain ⟨s1,n1,p1⟩:=v
      try dsimp only
      refine wpS_bind (aB (Q:=fun x st'=>x = (none,()) /\ ∃ rs',Rn lt kd a₀ st' rs' (r ++ R1) /\ rs'.flatten.length = rs.flatten.length)
       (wpS_forRange (fun i x st'=>x = (none,()) /\ ∃ rs',Rn lt kd a₀ st' rs' (r ++ R1) /\ rs'.flatten.length = rs.flatten.length) ?_ ?_ ⟨rfl,rs,hRn,rfl⟩) ?_)
      ·rintro j x st3 _ hj ⟨rfl,rs',h3,hl3⟩
       refine wpS_bind (wpS_get ?_)
       try dsimp only
       have hpl3:(pendingOf st3).size = rs'.length:=by rw [<- Array.length_toList];exact h3.pend.length
       by_cases h1:(pendingOf st3).size > 1
       ·rw [if_pos h1]
        have h2:(pendingOf st3)[(pendingOf st3).size - 2]? = some ((pendingOf st3)[(pendingOf st3).size - 2]'(by omega)):=Array.getElem?_eq_getElem (by omega)
        rw [h2]
        try dsimp only
        refine ae (fun h => ?_) (fun h => ?_)
        ·exact aa ⟨rfl,rs',h3,hl3⟩
        ·obtain ⟨t,a,b,e⟩:=lW (l:=rs') (by omega)
         subst e
         refine wpS_bind (h3.merge c hP (by rw [hpl3];simp) fun m st4 h4 hm => ?_)
         refine ae (fun h=>absurd h (by simp)) (fun _=>aa ⟨rfl,_,h4, ?_⟩)
         rw [<- hl3];simp [hm]
       ·rw [if_neg h1]
        exact aa ⟨rfl,rs',h3,hl3⟩
      ·rintro x st3 ⟨rfl,rs',h3,hl3⟩
       exact ⟨rfl,rs',h3,hl3⟩
      ·rintro x st3 ⟨rfl,rs',h3,hl3⟩
       try dsimp only
       refine wpS_bind (wpS_modify ?_)
       have h4:Rn lt kd a₀ (setPending st3 ((pendingOf st3).modify ((pendingOf st3).size - 1) fun x=>(x.1,x.2.1,power' size (2 * s1 + n1) (2 * s1 + n1 + n1 + r.length) size))) rs' (r ++ R1):=⟨h3.arr,h3.perm,h3.ord,sD h3.pend,h3.kind,h3.fail⟩
       generalize hst4:setPending st3 ((pendingOf st3).modify ((pendingOf st3).size - 1) fun x=>(x.1,x.2.1,power' size (2 * s1 + n1) (2 * s1 + n1 + n1 + r.length) size)) = st4 at h4
       have HL:=hl3
       refine wpS_bind (wpS_modify ?_)
       have hr1:=List.length_pos_iff.mpr hr0
       have hfl:(rs' ++ [r]).flatten.length = rs.flatten.length + r.length:=by rw [List.flatten_append,List.length_append,HL];simp
       refine aa ⟨rs' ++ [r],R1,by rw [hfl],⟨by rw [show _ = _ from h4.arr];simp, ?_, ?_, ?_,h4.kind,h4.fail⟩,by rw [hfl];omega⟩
       ·refine List.Perm.trans (List.Perm.of_eq (by simp)) h4.perm
       ·intro u hu
        rcases List.mem_append.mp hu with z | z
        ·exact h4.ord u z
        ·simp at z;subst z;exact ⟨hr0,ho⟩
       ·have h8:(pendingOf (setPending st4 ((pendingOf st4).push (rs.flatten.length,r.length,0)))).toList = (pendingOf st4).toList ++ [(rs.flatten.length,r.length,0)]:=by
         show ((pendingOf st4).push _).toList = _
         rw [Array.toList_push]
        rw [show _ = _ from h8]
        exact h4.pend.join ⟨0,[],by rw [HL,Nat.zero_add],rfl⟩
   ·clear ea hpr kp hrl hlt
    refine wpS_bind (wpS_get ?_)
    try dsimp only
    have hpl:(pendingOf st2).size = rs.length:=by rw [<- Array.length_toList];exact hRn.pend.length
    cases hb:(pendingOf st2).back? with
    | none =>
      try dsimp only
      have HL:rs.flatten.length = rs.flatten.length:=rfl
      refine wpS_bind (wpS_modify ?_)
      have hr1:=List.length_pos_iff.mpr hr0
      have hfl:(rs ++ [r]).flatten.length = rs.flatten.length + r.length:=by rw [List.flatten_append,List.length_append,HL];simp
      refine aa ⟨rs ++ [r],R1,by rw [hfl],⟨by rw [show _ = _ from hRn.arr];simp, ?_, ?_, ?_,hRn.kind,hRn.fail⟩,by rw [hfl];omega⟩
      ·refine List.Perm.trans (List.Perm.of_eq (by simp)) hRn.perm
      ·intro u hu
       rcases List.mem_append.mp hu with z | z
       ·exact hRn.ord u z
       ·simp at z;subst z;exact ⟨hr0,ho⟩
      ·have h8:(pendingOf (setPending st2 ((pendingOf st2).push (rs.flatten.length,r.length,0)))).toList = (pendingOf st2).toList ++ [(rs.flatten.length,r.length,0)]:=by
        show ((pendingOf st2).push _).toList = _
        rw [Array.toList_push]
       rw [show _ = _ from h8]
       exact hRn.pend.join ⟨0,[],by rw [HL,Nat.zero_add],rfl⟩
    | some v =>
      obtain ⟨s1,n1,p1⟩:=v
      try dsimp only
      refine wpS_bind (aB (Q:=fun x st'=>x = (none,()) /\ ∃ rs',Rn lt kd a₀ st' rs' (r ++ R1) /\ rs'.flatten.length = rs.flatten.length)
       (wpS_forRange (fun i x st'=>x = (none,()) /\ ∃ rs',Rn lt kd a₀ st' rs' (r ++ R1) /\ rs'.flatten.length = rs.flatten.length) ?_ ?_ ⟨rfl,rs,hRn,rfl⟩) ?_)
      ·rintro j x st3 _ hj ⟨rfl,rs',h3,hl3⟩
       refine wpS_bind (wpS_get ?_)
       try dsimp only
       have hpl3:(pendingOf st3).size = rs'.length:=by rw [<- Array.length_toList];exact h3.pend.length
       by_cases h1:(pendingOf st3).size > 1
       ·rw [if_pos h1]
        have h2:(pendingOf st3)[(pendingOf st3).size - 2]? = some ((pendingOf st3)[(pendingOf st3).size - 2]'(by omega)):=Array.getElem?_eq_getElem (by omega)
        rw [h2]
        try dsimp only
        refine ae (fun h => ?_) (fun h => ?_)
        ·exact aa ⟨rfl,rs',h3,hl3⟩
        ·obtain ⟨t,a,b,e⟩:=lW (l:=rs') (by omega)
         subst e
         refine wpS_bind (h3.merge c hP (by rw [hpl3];simp) fun m st4 h4 hm => ?_)
         refine ae (fun h=>absurd h (by simp)) (fun _=>aa ⟨rfl,_,h4, ?_⟩)
         rw [<- hl3];simp [hm]
       ·rw [if_neg h1]
        exact aa ⟨rfl,rs',h3,hl3⟩
      ·rintro x st3 ⟨rfl,rs',h3,hl3⟩
       exact ⟨rfl,rs',h3,hl3⟩
      ·rintro x st3 ⟨rfl,rs',h3,hl3⟩
       try dsimp only
       refine wpS_bind (wpS_modify ?_)
       have h4:Rn lt kd a₀ (setPending st3 ((pendingOf st3).modify ((pendingOf st3).size - 1) fun x=>(x.1,x.2.1,power' size (2 * s1 + n1) (2 * s1 + n1 + n1 + r.length) size))) rs' (r ++ R1):=⟨h3.arr,h3.perm,h3.ord,sD h3.pend,h3.kind,h3.fail⟩
       generalize hst4:setPending st3 ((pendingOf st3).modify ((pendingOf st3).size - 1) fun x=>(x.1,x.2.1,power' size (2 * s1 + n1) (2 * s1 + n1 + n1 + r.length) size)) = st4 at h4
       have HL:=hl3
       refine wpS_bind (wpS_modify ?_)
       have hr1:=List.length_pos_iff.mpr hr0
       have hfl:(rs' ++ [r]).flatten.length = rs.flatten.length + r.length:=by rw [List.flatten_append,List.length_append,HL];simp
       refine aa ⟨rs' ++ [r],R1,by rw [hfl],⟨by rw [show _ = _ from h4.arr];simp, ?_, ?_, ?_,h4.kind,h4.fail⟩,by rw [hfl];omega⟩
       ·refine List.Perm.trans (List.Perm.of_eq (by simp)) h4.perm
       ·intro u hu
        rcases List.mem_append.mp hu with z | z
        ·exact h4.ord u z
        ·simp at z;subst z;exact ⟨hr0,ho⟩
       ·have h8:(pendingOf (setPending st4 ((pendingOf st4).push (rs.flatten.length,r.length,0)))).toList = (pendingOf st4).toList ++ [(rs.flatten.length,r.length,0)]:=by
         show ((pendingOf st4).push _).toList = _
         rw [Array.toList_push]
        rw [show _ = _ from h8]
        exact h4.pend.join ⟨0,[],by rw [HL,Nat.zero_add],rfl⟩
 ·rintro r st1 ⟨rs,R,rfl,hR,hil⟩
  have:=hR.size
  have:R = []:=List.length_eq_zero_iff.mp (by omega)
  subst this
  exact ⟨rs,_,rfl,hR⟩
 ·rintro r st1 ⟨rs,lo,rfl,hR⟩
  try dsimp only
  refine wpS_bind (aB (Q:=fun r st'=>r = (none,()) /\ ∃ rs,Rn lt kd a₀ st' rs [] /\ rs.length <= 1)
   (wpS_forRange (fun i r st'=>r = (none,()) /\ ∃ rs,Rn lt kd a₀ st' rs [] /\ rs.length + i <= size) ?_ ?_ ⟨rfl,rs,hR, ?_⟩) ?_)
  ·rintro i r st2 _ hi ⟨rfl,rs,hR,hil⟩
   refine wpS_bind (wpS_get ?_)
   try dsimp only
   have hpl:(pendingOf st2).size = rs.length:=by rw [<- Array.length_toList];exact hR.pend.length
   refine ae (fun h => ?_) (fun h => ?_)
   ·exact aa ⟨rfl,rs,hR,by omega⟩
   ·have go:∀ k,k + 1 < rs.length -> wpS (PySem.model prog w) A E s (mergeAt' k) (fun b st'=>b = true /\ ∃ rs',Rn lt kd a₀ st' rs' [] /\ rs'.length + 1 = rs.length) st2:=by
     intro k hk
     obtain ⟨t,a,b,u,e,ht⟩:=Al hk
     subst e
     refine hR.merge c hP ht.symm fun m st3 h3 _=>⟨rfl,_,h3,by simp;omega⟩
    refine wpS_bind (aB (go _ ?_) ?_)
    ·(repeat' split) <;> omega
    ·rintro b st3 ⟨rfl,rs',h3,hl3⟩
     refine ae (fun h=>absurd h (by simp)) (fun _=>aa ⟨rfl,rs',h3,by omega⟩)
  ·rintro r st2 ⟨rfl,rs,hR,hil⟩
   exact ⟨rfl,rs,hR,by omega⟩
  ·have h1:=oB fun r hr=>(hR.ord r hr).1
   have h2:=hR.size
   simp only [List.length_nil] at h2
   omega
  ·rintro r st2 ⟨rfl,rs,hR,hl⟩
   refine aa (q st2 (by rw [hR.arr];exact hR.perm) ?_ hR.fail)
   rw [hR.arr,List.append_nil]
   match rs,hl,hR with
   | [],_,_=>exact List.Pairwise.nil
   | [r],_,hR=>simpa using (hR.ord r (by simp)).2
end
end Srt
end L2
namespace L2
namespace Srt
open PySem PySem.Spec PyProof.Rows
inductive Ky where
 | int (i:Int)
 | tup (l:List Ky)
mutual
noncomputable def ay:Ky -> Ky -> Ordering
 | .int a, .int b=>if a < b then .lt else if a = b then .eq else .gt
 | .int _, .tup _ => .lt
 | .tup _, .int _ => .gt
 | .tup a, .tup b=>cmpKs a b
noncomputable def cmpKs:List Ky -> List Ky -> Ordering
 | [],[] => .eq
 | [],_ :: _ => .lt
 | _ :: _,[] => .gt
 | x :: xs,y :: ys=>(ay x y).then (cmpKs xs ys)
end
mutual
theorem cN:∀ a b,ay b a = (ay a b).swap
 | .int a, .int b=>by
  simp only [ay]
  by_cases h1:a < b
  ·rw [if_pos h1,if_neg (by omega),if_neg (by omega)];rfl
  ·by_cases h2:a = b
   ·rw [if_neg h1,if_pos h2,if_neg (by omega),if_pos h2.symm];rfl
   ·rw [if_neg h1,if_neg h2,if_pos (by omega)];rfl
 | .int _, .tup _=>by simp [ay]
 | .tup _, .int _=>by simp [ay]
 | .tup a, .tup b=>by simp only [ay];exact cmpKs_swap a b
theorem cmpKs_swap:∀ a b,cmpKs b a = (cmpKs a b).swap
 | [],[] => rfl
 | [],_ :: _=>rfl
 | _ :: _,[] => rfl
 | x :: xs,y :: ys=>by
   simp only [cmpKs]
   rw [cN x y,cmpKs_swap xs ys]
   cases ay x y <;> rfl
end
mutual
theorem gi:∀ a b,ay a b = .eq -> a = b
 | .int a, .int b,h=>by
  simp only [ay] at h
  by_cases h1:a < b
  ·rw [if_pos h1] at h;cases h
  ·by_cases h2:a = b
   ·rw [h2]
   ·rw [if_neg h1,if_neg h2] at h;cases h
 | .int _, .tup _,h=>by simp [ay] at h
 | .tup _, .int _,h=>by simp [ay] at h
 | .tup a, .tup b,h=>by simp only [ay] at h;rw [cmpKs_eq a b h]
theorem cmpKs_eq:∀ a b,cmpKs a b = .eq -> a = b
 | [],[],_=>rfl
 | [],_ :: _,h=>by simp [cmpKs] at h
 | _ :: _,[],h=>by simp [cmpKs] at h
 | x :: xs,y :: ys,h=>by
   simp only [cmpKs] at h
   cases e:ay x y with
   | lt=>rw [e] at h;cases h
   | gt=>rw [e] at h;cases h
   | eq=>rw [e] at h;rw [gi x y e,cmpKs_eq xs ys h]
end
mutual
theorem iJ:∀ a b c,ay a b = .lt -> ay b c = .lt -> ay a c = .lt
 | .int a, .int b, .int c,h,g=>by
  simp only [ay] at h g ⊢
  have h1:a < b:=by
   by_cases h1:a < b
   ·exact h1
   ·rw [if_neg h1] at h;split at h <;> cases h
  have h2:b < c:=by
   by_cases h1:b < c
   ·exact h1
   ·rw [if_neg h1] at g;split at g <;> cases g
  rw [if_pos (by omega)]
 | .int _, .tup _, .int _,_,g=>by simp [ay] at g
 | .int _, .int _, .tup _,_,_=>by simp [ay]
 | .int _, .tup _, .tup _,_,_=>by simp [ay]
 | .tup _, .int _,_,h,_=>by simp [ay] at h
 | .tup _, .tup _, .int _,_,g=>by simp [ay] at g
 | .tup a, .tup b, .tup c,h,g=>by simp only [ay] at h g ⊢;exact cmpKs_trans a b c h g
theorem cmpKs_trans:∀ a b c,cmpKs a b = .lt -> cmpKs b c = .lt -> cmpKs a c = .lt
 | [],[],_,h,_=>by simp [cmpKs] at h
 | [],_ :: _,[],_,g=>by simp [cmpKs] at g
 | [],_ :: _,_ :: _,_,_=>by simp [cmpKs]
 | _ :: _,[],_,h,_=>by simp [cmpKs] at h
 | _ :: _,_ :: _,[],_,g=>by simp [cmpKs] at g
 | x :: xs,y :: ys,z :: zs,h,g=>by
   simp only [cmpKs] at h g ⊢
   cases e:ay x y with
   | gt=>rw [e] at h;cases h
   | eq =>
     have:=gi x y e
     subst this
     rw [e] at h
     cases e2:ay x z with
     | gt=>rw [e2] at g;cases g
     | lt=>rfl
     | eq=>rw [e2] at g;exact cmpKs_trans xs ys zs h g
   | lt =>
     cases e2:ay y z with
     | gt=>rw [e2] at g;cases g
     | lt=>rw [iJ x y z e e2];rfl
     | eq =>
       have:=gi y z e2
       subst this
       rw [e];rfl
end
noncomputable def ltK (a b:Ky):Bool:=ay a b == .lt
noncomputable def lZ (a b:List Ky):Bool:=cmpKs a b == .lt
theorem vy (a b:Ky) (h:ltK a b = true):ltK b a = false:=by
 unfold ltK at h ⊢
 rw [cN a b,(by simpa using h:ay a b = .lt)];rfl
theorem jV (a b:Ky) (h:ltK a b = false) (g:ltK b a = false):a = b:=by
 unfold ltK at h g
 rw [cN a b] at g
 apply gi
 cases e:ay a b with
 | eq=>rfl
 | lt=>rw [e] at h;cases h
 | gt=>rw [e] at g;cases g
theorem yi (a b c:Ky) (h:ltK a c = true):ltK a b = true ∨ ltK b c = true:=by
 cases e:ltK a b with
 | true=>exact .inl rfl
 | false =>
   right
   cases e2:ltK b a with
   | false=>rw [jV a b e e2] at h;exact h
   | true =>
     unfold ltK at h e2 ⊢
     rw [iJ b a c (by simpa using e2) (by simpa using h)];rfl
theorem sF (x y:Ky) (xs ys:List Ky):lZ (x :: xs) (y :: ys) = if (!ltK x y && !ltK y x) = true then lZ xs ys else ltK x y:=by
 unfold lZ ltK
 rw [cN x y]
 simp only [cmpKs]
 cases ay x y <;> simp
mutual
noncomputable def toK:PyData -> Ky
 | .int i => .int i
 | .tuple xs => .tup (toKs xs)
 | _ => .int 0
noncomputable def toKs:List PyData -> List Ky
 | [] => []
 | x :: xs=>toK x :: toKs xs
end
inductive Cmpb:PyData -> PyData -> Prop where
 | int (a b:Int):Cmpb (.int a) (.int b)
 | nil (ys:List PyData):Cmpb (.tuple []) (.tuple ys)
 | nil' (xs:List PyData):Cmpb (.tuple xs) (.tuple [])
 | cons {x y:PyData} {xs ys:List PyData}:Cmpb x y -> Cmpb (.tuple xs) (.tuple ys) -> Cmpb (.tuple (x :: xs)) (.tuple (y :: ys))
theorem Cmpb.eqv {x y:PyData} (h:Cmpb x y):PyData.eqv x y = (!ltK (toK x) (toK y) && !ltK (toK y) (toK x)):=by
 have g:∀ {x y:PyData},Cmpb x y -> PyData.eqv x y = (ay (toK x) (toK y) == .eq):=by
  intro x y h
  induction h with
  | int a b =>
    simp only [PyData.eqv,toK,ay]
    by_cases h1:a < b
    ·rw [if_pos h1];simp;omega
    ·by_cases h2:a = b
     ·rw [if_neg h1,if_pos h2];simp [h2]
     ·rw [if_neg h1,if_neg h2];simp;omega
  | nil ys=>cases ys <;> simp [PyData.eqv,PyData.eqvAll,toK,toKs,ay,cmpKs]
  | nil' xs=>cases xs <;> simp [PyData.eqv,PyData.eqvAll,toK,toKs,ay,cmpKs]
  | @cons x y xs ys h1 h2 ih1 ih2 =>
   simp only [PyData.eqv] at ih2 ⊢
   simp only [PyData.eqvAll,toK,toKs,ay,cmpKs] at ih2 ⊢
   rw [ih1,ih2]
   cases ay (toK x) (toK y) <;> simp
 rw [g h]
 unfold ltK
 rw [cN (toK x) (toK y)]
 cases ay (toK x) (toK y) <;> rfl
section
variable {prog:Program} {w:World} {A:Around} {E:Value -> Shared -> Prop} {s:Shared}
theorem trd {b:Bool} {Q:Bool -> Shared -> Prop} (q:Q b s):wpAny (PySem.model prog w) A (truthOfDropped (.bool b)) Q E s:=by
 unfold truthOfDropped
 wp_walk
 exact q
theorem gj (a b:Int):ltK (.int a) (.int b) = decide (a < b):=by
 simp only [ltK,ay]
 by_cases h:a < b
 ·simp [h]
 ·by_cases h2:a = b <;> simp [h,h2]
theorem sH {a b:Int} {t u:Tok} {Q:Value -> Shared -> Prop} (q:Q (.bool (decide (a < b))) s):wpAny (PySem.model prog w) A (richCompare .Lt (.int a t) (.int b u)) Q E s :=
 wpAny_richCompare_same (T := "int") rfl rfl F.slot_int_lt (call_int_lt ⟨by simp,q⟩)
noncomputable def ce:List PyData -> List PyData -> Option Bool
 | x :: xs,y :: ys=>if PyData.eqv x y = true then ce xs ys else some (ltK (toK x) (toK y))
 | _,_=>none
theorem gQ:∀ {xs ys:List PyData},Cmpb (.tuple xs) (.tuple ys) -> ltK (toK (.tuple xs)) (toK (.tuple ys)) = match ce xs ys with | some b=>b | none=>decide (xs.length < ys.length)
 | [],[],_=>rfl
 | [],_ :: _,_=>by simp [ce,toK,toKs,ltK,ay,cmpKs]
 | _ :: _,[],_=>by simp [ce,toK,toKs,ltK,ay,cmpKs]
 | x :: xs,y :: ys,h=>by
   cases h with
   | cons h1 h2 =>
     have ih:=gQ h2
     have e:∀ a b:List Ky,ltK (.tup a) (.tup b) = lZ a b:=fun a b=>by simp [ltK,lZ,ay]
     simp only [toK,toKs,e] at ih ⊢
     rw [sF, <- h1.eqv]
     simp only [ce]
     split
     ·rw [ih];simp
     ·rfl
noncomputable def cv {α β:Type} (M:Model) (A:Around) (E:Value -> Shared -> Prop) (f : α -> β -> Sem (ForInStep β)) (Q : β -> Shared -> Prop):List α -> β -> Shared -> Prop
 | [],c,s=>Q c s
 | x :: xs,c,s=>wpAny M A (f x c) (fun r s'=>match r with | .done c'=>Q c' s' | .yield c'=>cv M A E f Q xs c' s') E s
theorem eV {α β:Type} {M:Model} {f : α -> β -> Sem (ForInStep β)} {Q : β -> Shared -> Prop}:∀ {l:List α} {c : β} {s:Shared},cv M A E f Q l c s -> wpAny M A (forIn l c f) Q E s
 | [],c,s,h=>by rw [List.forIn_nil];exact wpAny_pure h
 | x :: xs,c,s,h=>by
   rw [List.forIn_cons]
   refine wpAny_bind (wpAny_mono h (fun r s' hr => ?_) fun _ _ z=>z)
   cases r with
   | done c'=>exact wpAny_pure hr
   | yield c'=>exact eV hr
theorem bS {h:Heap}:∀ {vs:List Value} {xs:List PyData} {as:List Addr},ReadsAll h vs xs as -> vs.length = xs.length
 | _,_,_, .nil=>rfl
 | _,_,_, .cons _ r=>by simp [bS r]
theorem gR {α β:Type} {M:Model} {n:Nat} {f : α -> Option β × Unit -> Sem (ForInStep (Option β × Unit))} {g:Bool -> β} {pr : α -> Value × Value} {Q:Option β × Unit -> Shared -> Prop} :
 ∀ {l:List α} {vs us:List Value} {xs ys:List PyData} {as bs:List Addr},l.map pr = vs.zip us -> ReadsAll s.heap vs xs as -> ReadsAll s.heap us ys bs -> Cmpb (.tuple xs) (.tuple ys) -> PyData.canLayAll0 xs = true -> PyData.canLayAll0 ys = true -> PyData.depthAll xs <= n ->
  (∀ (z : α) (x y:Value) (d e:PyData) (as bs:List Addr) (R:ForInStep (Option β × Unit) -> Shared -> Prop),z ∈ l -> pr z = (x,y) -> Reads s.heap x d as -> Reads s.heap y e bs -> Cmpb d e -> d.canLay0 = true -> e.canLay0 = true -> d.depth <= n ->
   R (if PyData.eqv d e = true then .yield (none,()) else .done (some (g (ltK (toK d) (toK e))),())) s -> wpAny M A (f z (none,())) R E s) ->
  Q ((ce xs ys).map g,()) s -> cv M A E f Q l (none,()) s
 | [],vs,us,xs,ys,as,bs,e,hv,hu,hc,_,_,_,_,q=>by
  have h1:=bS hv
  have h2:=bS hu
  have:vs = [] ∨ us = []:=by
   cases vs with
   | nil=>exact .inl rfl
   | cons v vs=>cases us with
     | nil=>exact .inr rfl
     | cons u us=>simp at e
  have e2:ce xs ys = none:=by
   rcases this with rfl | rfl
   ·cases xs with
    | nil=>simp [ce]
    | cons x xs=>simp at h1
   ·cases ys with
    | nil=>cases xs <;> simp [ce]
    | cons y ys=>simp at h2
  rw [e2] at q
  exact q
 | z :: l,vs,us,xs,ys,as,bs,e,hv,hu,hc,lx,ly,hd,hf,q=>by
   cases hv with
   | nil=>simp at e
   | cons rx hv =>
     cases hu with
     | nil=>simp at e
     | cons ry hu =>
       simp only [List.map_cons,List.zip_cons_cons,List.cons.injEq] at e
       simp only [PyData.canLayAll0,Bool.and_eq_true] at lx ly
       simp only [PyData.depthAll] at hd
       cases hc with
       | cons c1 c2 =>
         simp only [cv]
         refine hf z _ _ _ _ _ _ _ (by simp) e.1 rx ry c1 lx.1 ly.1 (by omega) ?_
         simp only [ce] at q
         split at q
         ·next h =>
          rw [if_pos h]
          exact gR e.2 hv hu c2 lx.2 ly.2 (by omega) (fun z x y d e as bs R hz=>hf z x y d e as bs R (by simp [hz])) q
         ·next h =>
          rw [if_neg h]
          exact q
noncomputable def C8 (n:Nat):Prop := ∀ (prog:Program) (w:World) (A:Around) (s:Shared) (a b:Value) (d e:PyData) (as bs:List Addr) (E:Value -> Shared -> Prop) (Q:Value -> Shared -> Prop),d.depth <= n -> Cmpb d e -> Reads s.heap a d as -> Reads s.heap b e bs -> d.canLay0 = true -> e.canLay0 = true -> A.units + n + 1 < cLine ->
 Q (.bool (ltK (toK d) (toK e))) s -> wpAny (PySem.model prog w) A (richCompare .Lt a b) Q E s
theorem Bn:∀ n,C8 n:=by
 intro n
 induction n with
 | zero =>
   intro prog w A s a b d e as bs E Q hd hc ra rb ld le hu q
   cases hc with
   | int i j =>
     cases ra;cases rb
     exact sH (by rw [<- gj];exact q)
   | nil ys=>simp [PyData.depth] at hd
   | nil' xs=>simp [PyData.depth] at hd
   | cons _ _=>simp [PyData.depth] at hd
 | succ n ih =>
   intro prog w A s a b d e as bs E Q hd hc ra rb ld le hu q
   have tup:∀ xs ys,d = .tuple xs -> e = .tuple ys -> wpAny (PySem.model prog w) A (richCompare .Lt a b) Q E s:=by
    rintro xs ys rfl rfl
    cases ra with
    | tuple h1 h2 h3 h4 =>
      cases rb with
      | tuple g1 g2 g3 g4 =>
        rename_i l ol vl nl p ob vb nb
        have tl:s.TypeIs (.ref l) "tuple" := ⟨_,h1,h2⟩
        have tb:s.TypeIs (.ref p) "tuple" := ⟨_,g1,g2⟩
        refine wpAny_richCompare_same_room tl tb F.slot_tuple_lt (wpAny_call_entry F.slot_tuple_lt tl F.entry_tuple_lt ?_ (F.args_tuple_lt_2 _ _)) (by omega)
        unfold Builtin.«tuple.__lt__»
        refine wpAny_bind ?_
        have hsub:isSubtype (.type "tuple") (.type "tuple") = pure true:=by rw [isSubtype_type];kernel_rfl
        wp_walk
        rw [h3]
        wp_walk
        rw [g3]
        refine wpAny_pure ?_
        refine wpAny_pure ?_
        refine wpAny_bind (eV (gR (n:=n) (g:=fun b=>Fin.done (Flow.ret (Value.bool b))) (pr:=id) (List.map_id _) h4 g4 hc ld le (by simp [PyData.depth] at hd;omega) ?_ ?_))
        ·rintro ⟨x,y⟩ x' y' d e as bs R _ hz rx ry hc ld le hd r
         cases hz
         dsimp only
         refine wpAny_bind (SeqAt.eqAt_reads d e _ _ _ _ _ _ rx ry ld le ?_ prog w E _ ?_)
         ·show A.units + 1 + min d.depth e.depth < cLine
          omega
         ·by_cases hq:PyData.eqv d e = true
          ·rw [if_pos hq] at r
           rw [hq]
           exact wpAny_pure r
          ·rw [if_neg hq] at r
           have hq:PyData.eqv d e = false:=by simpa using hq
           rw [hq]
           refine wpAny_bind (wpAny_rule (wpAny_bind (ih prog w _ s x y d e as bs E _ hd hc rx ry ld le ?_ ?_)))
           ·show A.units + 1 + n + 1 < cLine
            omega
           ·exact wpAny_pure r
        ·have e1:=gQ hc
         cases e2:ce xs ys with
         | some b =>
           rw [e2] at e1
           dsimp only at e1
           rw [e1] at q
           exact wpAny_pure ⟨_,rfl,by simp,q⟩
         | none =>
           rw [e2] at e1
           dsimp only at e1
           rw [e1] at q
           have n1:=bS h4
           have n2:=bS g4
           refine wpAny_pure ⟨_,rfl, ?_, ?_⟩
           ·simp [Builtin.Tuple.tupleCompareSizes]
           ·simp only [Array.length_toList] at n1 n2
            simp only [Builtin.Tuple.tupleCompareSizes]
            rw [n1,n2]
            exact q
   cases hc with
   | int i j =>
     cases ra;cases rb
     exact sH (by rw [<- gj];exact q)
   | nil ys=>exact tup _ _ rfl rfl
   | nil' xs=>exact tup _ _ rfl rfl
   | cons _ _=>exact tup _ _ rfl rfl
end
end Srt
end L2
namespace L2
namespace Srt
open PySem PySem.Spec PyProof.Rows
section
variable {prog:Program} {w:World} {A:Around} {E:Value -> Shared -> Prop} {s:Shared}
theorem iK {α β:Type} {M:Model} {f : α -> Sem β} {g : α -> β}:∀ {l:List α} {Q:List β -> Shared -> Prop},(∀ x ∈ l, ∀ R : β -> Shared -> Prop,R (g x) s -> wpAny M A (f x) R E s) -> Q (l.map g) s -> wpAny M A (l.mapM f) Q E s
 | [],Q,_,q=>by rw [List.mapM_nil];exact wpAny_pure q
 | x :: xs,Q,h,q=>by
   rw [List.mapM_cons]
   refine wpAny_bind (h x (by simp) _ (wpAny_bind (iK (fun y hy=>h y (by simp [hy])) (wpAny_pure q))))
theorem dJ {α β:Type} {M:Model} {f : α -> Sem β} {g : α -> β} {xs:Array α} {Q:Array β -> Shared -> Prop} (h:∀ x ∈ xs.toList, ∀ R : β -> Shared -> Prop,R (g x) s -> wpAny M A (f x) R E s) (q:Q (xs.map g) s):wpAny M A (xs.mapM f) Q E s:=by
 rw [Array.mapM_eq_mapM_toList]
 rw [map_eq_pure_bind]
 refine wpAny_bind (iK h (wpAny_pure ?_))
 have:(xs.toList.map g).toArray = xs.map g:=by
  apply Array.toList_inj.mp;simp
 rw [this];exact q
theorem jW {a:Addr} {v:Value} {vs:List Value} {o:Obj} {n:Nat} (h1:s.heap.get? a = some o) (h2:o.cls = .type "tuple") (h3:o.data = .seq (v :: vs).toArray n) {Q:Option Value -> Shared -> Prop} (q:Q (some v) s):wpAny (PySem.model prog w) A (firstOfTuple' (.ref a)) Q E s:=by
 unfold firstOfTuple'
 have ty:s.TypeIs (.ref a) "tuple" := ⟨_,h1,h2⟩
 wp_walk
 rw [h3]
 refine wpAny_pure ?_
 refine wpAny_pure ?_
 exact wpAny_pure q
theorem yj {a:Addr} {o:Obj} {T:Value} (h1:s.heap.get? a = some o) (h2:o.cls = T) {Q:Value -> Shared -> Prop} (q:Q T s):wpAny (PySem.model prog w) A (typeOf (.ref a)) Q E s:=by
 wp_walk
 rw [h2];exact q
theorem sJ {n:Nat} {x y:Value} {d e:PyData} {as bs:List Addr} (hc:Cmpb d e) (rx:Reads s.heap x d as) (ry:Reads s.heap y e bs) (ld:d.canLay0 = true) (le:e.canLay0 = true) (hd:d.depth <= n) (hu:A.units + n + 1 < cLine) {Q:Bool -> Shared -> Prop} (q:Q (ltK (toK d) (toK e)) s):wpAny (PySem.model prog w) A (oneLt' false x y) Q E s:=by
 rw [oneLt'_eq]
 exact wpAny_bind (Bn n prog w A s x y d e as bs E _ hd hc rx ry ld le hu (trd q))
theorem jX {n:Nat} {b:Bool} {x y:Value} {xs ys:List PyData} {as bs:List Addr} (hb:b = true -> ∀ d e,xs.head? = some d -> ys.head? = some e -> (∃ i,d = .int i) /\ ∃ i,e = .int i)
 (hc:Cmpb (.tuple xs) (.tuple ys)) (rx:Reads s.heap x (.tuple xs) as) (ry:Reads s.heap y (.tuple ys) bs) (lx:PyData.canLayAll0 xs = true) (ly:PyData.canLayAll0 ys = true) (hd:PyData.depthAll xs <= n) (hu:A.units + n + 1 < cLine) {Q:Bool -> Shared -> Prop} (q:Q (ltK (toK (.tuple xs)) (toK (.tuple ys))) s) :
 wpAny (PySem.model prog w) A (keyLt' (tuples' b) x y) Q E s:=by
 cases rx with
 | tuple h1 h2 h3 h4 =>
   cases ry with
   | tuple g1 g2 g3 g4 =>
     refine wpAny_bind (listItems_at h1 h3 ?_)
     refine wpAny_bind (listItems_at g1 g3 ?_)
     refine wpAny_bind (eV (gR (n:=n) (g:=id) (pr:=Prod.fst) (List.zipIdx_map_fst _ _) h4 g4 hc lx ly hd ?_ ?_))
     ·rintro ⟨⟨x,y⟩,i⟩ x' y' d e as bs R hz hp rx ry hc ld le hd r
      cases hp
      dsimp only
      refine wpAny_bind (SeqAt.eqAt_reads d e _ _ _ _ _ _ rx ry ld le (by omega) prog w E _ ?_)
      by_cases hq:PyData.eqv d e = true
      ·rw [if_pos hq] at r
       rw [hq]
       exact wpAny_pure r
      ·rw [if_neg hq] at r
       have hq:PyData.eqv d e = false:=by simpa using hq
       rw [hq]
       refine wpAny_bind ?_
       by_cases hbi:(b && i == 0) = true
       ·rw [hbi]
        simp only [Bool.and_eq_true,beq_iff_eq] at hbi
        obtain ⟨rfl,rfl⟩:=hbi
        have hz0:=List.mem_zipIdx_iff_getElem?.mp hz
        obtain ⟨i1,j1,t1,t2,e1,e2⟩:∃ (i1 j1:Int) (t1 t2:Tok),x = .int i1 t1 /\ y = .int j1 t2:=by
         generalize hV:Array.toList _ = vl at h4 hz0
         generalize hU:Array.toList _ = ul at g4 hz0
         cases h4 with
         | nil=>simp at hz0
         | cons p1 p2 =>
           cases g4 with
           | nil=>simp at hz0
           | cons q1 q2 =>
             simp at hz0
             obtain ⟨⟨i1,ei⟩,⟨j1,ej⟩⟩:=hb rfl _ _ rfl rfl
             subst ei ej
             cases p1;cases q1
             exact ⟨_,_,_,_,hz0.1.symm,hz0.2.symm⟩
        subst e1 e2
        cases rx;cases ry
        refine oneLt_int ?_
        rw [<- gj]
        exact wpAny_pure r
       ·have hbi:(b && i == 0) = false:=by simpa using hbi
        rw [hbi]
        exact sJ hc rx ry ld le hd hu (wpAny_pure r)
     ·have e1:=gQ hc
      cases e2:ce xs ys with
      | some b =>
        rw [e2] at e1
        dsimp only at e1
        rw [e1] at q
        exact wpAny_pure q
      | none =>
        rw [e2] at e1
        dsimp only at e1
        rw [e1] at q
        have n1:=bS h4
        have n2:=bS g4
        refine wpAny_pure ?_
        simp only [Array.length_toList] at n1 n2
        rw [n1,n2]
        exact q
end
end Srt
end L2
namespace L2
namespace Srt
open PySem PySem.Spec PyProof.Rows
structure m8 (n:Nat) (ds:List PyData):Prop where
 cmp:∀ d ∈ ds, ∀ e ∈ ds,Cmpb d e
 lay:∀ d ∈ ds,d.canLay0 = true /\ d.depth <= n
 kind:(∀ d ∈ ds, ∃ i,d = .int i) ∨ (∀ d ∈ ds, ∃ i xs,d = .tuple (.int i :: xs)) ∨ (∀ d ∈ ds, ∃ ys xs,d = .tuple (.tuple ys :: xs))
noncomputable def cz (h:Heap):Value -> Option Value
 | .ref a=>(h.get? a).bind fun o=>match o.data with | .seq xs _=>xs[0]? | _=>none
 | _=>none
section
variable {prog:Program} {w:World} {A:Around} {E:Value -> Shared -> Prop} {s:Shared}
noncomputable def dc (h:Heap) (x:Keyed):Ky:=toK (SeqAt.readOf h x.1)
noncomputable def RdL (h:Heap) (vs:List Value) (ds:List PyData):Prop := ∀ v ∈ vs, ∃ d ∈ ds, ∃ as,Reads h v d as
theorem fF {arr:Array Value} {T:String} (h0 : 0 < arr.size) (h:∀ v ∈ arr.toList, ∀ R:Value -> Shared -> Prop,R (.type T) s -> wpAny (PySem.model prog w) A (typeOf v) R E s) {Q:Option Value -> Shared -> Prop} (q:Q (some (.type T)) s):wpAny (PySem.model prog w) A (oneTypeOnly' arr) Q E s:=by
 rw [oneTypeOnly'_eq]
 refine wpAny_bind (dJ (g:=fun _=>Value.type T) h ?_)
 have e:(Array.map (fun _=>Value.type T) arr)[0]? = some (Value.type T):=by
  rw [Array.getElem?_map,Array.getElem?_eq_getElem h0];rfl
 rw [e]
 dsimp only
 have e2:((Array.map (fun _=>Value.type T) arr).all fun x=>x == Value.type T) = true:=by
  rw [Array.all_eq_true]
  intro i hi
  simp
 rw [e2]
 exact wpAny_pure q
theorem qh {n:Nat} {kd:SortKind} {vs:List Value} {ds:List PyData} (hr:RdL s.heap vs ds) (hs:m8 n ds)
 (h:∀ (x y:Value) (d e:PyData) (as bs:List Addr) (E:Value -> Shared -> Prop) (Q:Bool -> Shared -> Prop),d ∈ ds -> e ∈ ds -> Reads s.heap x d as -> Reads s.heap y e bs -> Q (ltK (toK d) (toK e)) s -> wpAny (PySem.model prog w) A (keyLt' kd x y) Q E s) :
 Cm prog w A s kd (fun x=>x.1 ∈ vs) (fun x y=>ltK (dc s.heap x) (dc s.heap y)) where
 asym:=fun x y=>vy _ _
 neg:=fun x y z=>yi _ _ _
 run:=fun x y E Q hx hy q=>by
  obtain ⟨d,hd,as,ra⟩:=hr _ hx
  obtain ⟨e,he,bs,rb⟩:=hr _ hy
  have e1:=SeqAt.readOf_eq (hs.lay d hd).1 ra
  have e2:=SeqAt.readOf_eq (hs.lay e he).1 rb
  unfold dc at q
  rw [e1,e2] at q
  exact h _ _ d e as bs E Q hd he ra rb q
theorem m9 {h:Heap} {vs:List Value} (hv:∀ v ∈ vs, ∃ u,cz h v = some u):((vs.toArray.map (cz h)).all fun x=>x.isSome) = true:=by
 rw [Array.all_eq_true]
 intro i hi
 simp at hi
 obtain ⟨u,hu⟩:=hv vs[i] (List.getElem_mem hi)
 simp [hu]
theorem sK {h:Heap} {vs:List Value} {x:Value} (hx:x ∈ (Array.filterMap id (vs.toArray.map (cz h))).toList):∃ v ∈ vs,cz h v = some x:=by
 simp at hx
 exact hx
theorem sL {h:Heap} {v:Value} {vs:List Value} {u:Value} (hv:cz h v = some u) : 0 < (Array.filterMap id ((v :: vs).toArray.map (cz h))).size:=by
 rw [<- Array.length_toList]
 simp [hv]
theorem jY {h:Heap} {v:Value} {d:PyData} {xs:List PyData} {as:List Addr} (r:Reads h v (.tuple (d :: xs)) as):∃ a o u us n bs,v = .ref a /\ h.get? a = some o /\ o.cls = .type "tuple" /\ o.data = .seq (u :: us).toArray n /\ Reads h u d bs:=by
 cases r with
 | @tuple a o vs n xs as h1 h2 h3 h4 =>
  generalize hV:vs.toList = vl at h4
  cases h4 with
  | @cons u us _ _ bs _ p1 p2=>exact ⟨_,_,u,us,n,bs,rfl,h1,h2,by rw [h3];congr 1;apply Array.toList_inj.mp;simpa using hV,p1⟩
theorem Bo {n:Nat} {v:Value} {vs:List Value} {ds:List PyData} (hr:RdL s.heap (v :: vs) ds) (hs:m8 n ds) (hu:A.units + n + 1 < cLine) :
 ∃ kd,(∀ (E:Value -> Shared -> Prop) (Q:SortKind -> Shared -> Prop),Q kd s -> wpAny (PySem.model prog w) A (keyKind' (v :: vs).toArray) Q E s) /\ Cm prog w A s kd (fun x=>x.1 ∈ v :: vs) (fun x y=>ltK (dc s.heap x) (dc s.heap y)):=by
 rcases hs.kind with hk | hk | hk
 ·refine ⟨oneType',fun E Q q => ?_,qh hr hs fun x y d e as bs E Q hd he ra rb q => ?_⟩
  ·have aJ:∀ u ∈ v :: vs, ∃ i t,u = .int i t:=fun u hu=>by
    obtain ⟨d,hd,as,ra⟩:=hr u hu
    obtain ⟨i,rfl⟩:=hk d hd
    cases ra
    exact ⟨_,_,rfl⟩
   rw [keyKind'_eq]
   refine wpAny_bind (dJ (g:=fun _=>(none:Option Value)) (fun u hu R r => ?_) ?_)
   ·obtain ⟨i,t,rfl⟩:=aJ u (by simpa using hu)
    rw [firstOfTuple'_int];exact wpAny_pure r
   ·have e1:((Array.map (fun _=>(none:Option Value)) (v :: vs).toArray).all fun x=>x.isSome) = false:=by
     simp
    rw [e1]
    have e2:((Array.map (fun _=>(none:Option Value)) (v :: vs).toArray)[0]?.bind id).isSome = false:=by simp
    simp only [e2,Bool.false_eq_true,if_false]
    refine wpAny_bind (fF (T := "int") (by simp) (fun u hu R r => ?_) ?_)
    ·obtain ⟨i,t,rfl⟩:=aJ u (by simpa using hu)
     exact wpAny_pure r
    ·exact wpAny_pure q
  ·obtain ⟨i,rfl⟩:=hk d hd
   obtain ⟨j,rfl⟩:=hk e he
   cases ra;cases rb
   rw [keyLt'_oneType]
   exact oneLt_int (by rw [<- gj];exact q)
 ·refine ⟨tuples' true,fun E Q q => ?_,qh hr hs fun x y d e as bs E Q hd he ra rb q => ?_⟩
  ·have hf:∀ u ∈ v :: vs, ∃ a o i t us n,u = .ref a /\ s.heap.get? a = some o /\ o.cls = .type "tuple" /\ o.data = .seq (.int i t :: us).toArray n:=fun u hu=>by
    obtain ⟨d,hd,as,ra⟩:=hr u hu
    obtain ⟨i,xs,rfl⟩:=hk d hd
    obtain ⟨a,o,u1,us,n,bs,e1,e2,e3,e4,e5⟩:=jY ra
    cases e5
    exact ⟨a,o,_,_,us,n,e1,e2,e3,e4⟩
   have hf2:∀ u ∈ v :: vs, ∃ i t,cz s.heap u = some (.int i t):=fun u hu=>by
    obtain ⟨a,o,i,t,us,n,rfl,e2,e3,e4⟩:=hf u hu
    exact ⟨i,t,by simp [cz,e2,e4]⟩
   rw [keyKind'_eq]
   refine wpAny_bind (dJ (g:=cz s.heap) (fun u hu R r => ?_) ?_)
   ·obtain ⟨a,o,i,t,us,n,rfl,e2,e3,e4⟩:=hf u (by simpa using hu)
    refine jW e2 e3 e4 ?_
    simpa [cz,e2,e4] using r
   ·rw [m9 (fun u hu=>let ⟨i,t,e⟩:=hf2 u hu; ⟨_,e⟩)]
    refine wpAny_bind (wpAny_rule ?_)
    obtain ⟨i0,t0,e0⟩:=hf2 v (by simp)
    refine wpAny_bind (fF (T := "int") (sL e0) (fun u hu R r => ?_) ?_)
    ·obtain ⟨u',hu',e⟩:=sK hu
     obtain ⟨i,t,e'⟩:=hf2 u' hu'
     rw [e'] at e;cases e
     exact wpAny_pure r
    ·exact wpAny_pure q
  ·obtain ⟨i,xs,rfl⟩:=hk d hd
   obtain ⟨j,ys,rfl⟩:=hk e he
   have l1:=hs.lay _ hd
   have l2:=hs.lay _ he
   refine jX (n:=n) (fun _ d e hd he => ?_) (hs.cmp _ hd _ he) ra rb (by simpa [PyData.canLay0] using l1.1) (by simpa [PyData.canLay0] using l2.1) (by have:=l1.2;simp [PyData.depth] at this;omega) hu q
   simp at hd he;subst hd he
   exact ⟨⟨_,rfl⟩,_,rfl⟩
 ·refine ⟨tuples' false,fun E Q q => ?_,qh hr hs fun x y d e as bs E Q hd he ra rb q => ?_⟩
  ·have hf:∀ u ∈ v :: vs, ∃ a o b ob us n,u = .ref a /\ s.heap.get? a = some o /\ o.cls = .type "tuple" /\ o.data = .seq (.ref b :: us).toArray n /\ s.heap.get? b = some ob /\ ob.cls = .type "tuple" := fun u hu=>by
    obtain ⟨d,hd,as,ra⟩:=hr u hu
    obtain ⟨ys,xs,rfl⟩:=hk d hd
    obtain ⟨a,o,u1,us,n,bs,e1,e2,e3,e4,e5⟩:=jY ra
    cases e5 with
    | tuple h1 h2 h3 h4=>exact ⟨a,o,_,_,us,n,e1,e2,e3,e4,h1,h2⟩
   have hf2:∀ u ∈ v :: vs, ∃ b ob,cz s.heap u = some (.ref b) /\ s.heap.get? b = some ob /\ ob.cls = .type "tuple" := fun u hu=>by
    obtain ⟨a,o,b,ob,us,n,rfl,e2,e3,e4,e5,e6⟩:=hf u hu
    exact ⟨b,ob,by simp [cz,e2,e4],e5,e6⟩
   rw [keyKind'_eq]
   refine wpAny_bind (dJ (g:=cz s.heap) (fun u hu R r => ?_) ?_)
   ·obtain ⟨a,o,b,ob,us,n,rfl,e2,e3,e4,e5,e6⟩:=hf u (by simpa using hu)
    refine jW e2 e3 e4 ?_
    simpa [cz,e2,e4] using r
   ·rw [m9 (fun u hu=>let ⟨i,t,e,_⟩:=hf2 u hu; ⟨_,e⟩)]
    refine wpAny_bind (wpAny_rule ?_)
    obtain ⟨i0,t0,e0,_⟩:=hf2 v (by simp)
    refine wpAny_bind (fF (T := "tuple") (sL e0) (fun u hu R r => ?_) ?_)
    ·obtain ⟨u',hu',e⟩:=sK hu
     obtain ⟨b,ob,e',e5,e6⟩:=hf2 u' hu'
     rw [e'] at e;cases e
     exact yj e5 e6 r
    ·exact wpAny_pure q
  ·obtain ⟨zs,xs,rfl⟩:=hk d hd
   obtain ⟨zs',ys,rfl⟩:=hk e he
   have l1:=hs.lay _ hd
   have l2:=hs.lay _ he
   exact jX (n:=n) (fun h=>by cases h) (hs.cmp _ hd _ he) ra rb (by simpa [PyData.canLay0] using l1.1) (by simpa [PyData.canLay0] using l2.1) (by have:=l1.2;simp [PyData.depth] at this;omega) hu q
end
end Srt
end L2
namespace L2
namespace Srt
open PySem PySem.Spec PyProof.Rows
inductive Pl:PyData -> Prop where
 | int (i:Int):Pl (.int i)
 | tup (xs:List PyData):(∀ x ∈ xs,Pl x) -> Pl (.tuple xs)
theorem bw {h h':Heap} (k:∀ b o,h.get? b = some o -> o.cls = .type "tuple" -> h'.get? b = some o) {d:PyData} (p:Pl d):∀ {v:Value} {as:List Addr},Reads h v d as -> Reads h' v d as:=by
 induction p with
 | int i=>intro v as r;cases r;exact .int _ _
 | tup xs hx ih =>
   intro v as r
   cases r with
   | tuple h1 h2 h3 h4 =>
     refine .tuple (k _ _ h1 h2) h2 h3 ?_
     have g:∀ (xs:List PyData),(∀ x ∈ xs, ∀ {v:Value} {as:List Addr},Reads h v x as -> Reads h' v x as) -> ∀ (vs:List Value) (as:List Addr),ReadsAll h vs xs as -> ReadsAll h' vs xs as:=by
      intro xs
      induction xs with
      | nil=>intro _ vs as r;cases r;exact .nil
      | cons x xs ihx =>
        intro hk vs as r
        cases r with
        | cons p1 p2=>exact .cons (hk x (by simp) p1) (ihx (fun y hy=>hk y (by simp [hy])) _ _ p2)
     exact g xs ih _ _ h4
section
variable {prog:Program} {w:World} {A:Around} {E:Value -> Shared -> Prop} {s:Shared}
theorem yk {m:Nat} {a:Addr} {vs:List Value} {n:Nat} {ds:List PyData} (ha:s.heap.get? a = some (seqObj "list" vs.toArray n)) (hr:RdL s.heap vs ds) (hs:m8 m ds) (hp:∀ d ∈ ds,Pl d) (hl:vs.length <= sizeLine) (hu:A.units + m + 1 < cLine) {Q:PySem.Fin -> Shared -> Prop}
 (q:∀ (h':Heap) (out:List Value) (n':Nat),(∀ b o,b ≠ a -> s.heap.get? b = some o -> h'.get? b = some o) -> h'.get? a = some (seqObj "list" out.toArray n') -> out.Perm vs -> out.Pairwise (fun x y=>ltK (toK (SeqAt.readOf s.heap y)) (toK (SeqAt.readOf s.heap x)) = false) -> Q (.done (.ret .none)) { s with heap:=h' }) :
 wpAny (PySem.model prog w) A (Builtin.«list.sort» ⟨[.ref a],[]⟩) Q E s:=by
 rw [list_sort_plain]
 refine wpAny_bind (listItems_at ha rfl ?_)
 refine wpAny_bind (listUpdate_at ha rfl ?_ (by simpa using hl) (by simp))
 have g1:=get?_update_seq ha (fun _ => #[])
 generalize h1e:s.heap.update a (Obj.mapSeq fun _ => #[]) = h1 at g1
 generalize (if ((#[]:Array Value).size == vs.toArray.size) = true then n else n + 1) = n1 at g1
 refine wpAny_bind (seqEpoch_at g1 rfl ?_)
 refine wpAny_bind (wpAny_newTuple ?_ (by simpa using hl))
 refine wpAny_bind (wpAny_newList ?_ (by simp))
 refine wpAny_holding ?_
 dsimp only
 generalize hs3:({ heap:=(h1.push { cls:=Value.type "tuple",data:=Data.seq vs.toArray.toList.toArray }).push { cls:=Value.type "list",data:=Data.seq [].toArray },gens:=s.gens,drawn:=s.drawn,toks:=s.toks,os:=s.os }:Shared) = s3
 have g3:s3.heap.get? a = some (seqObj "list" #[] n1):=by
  rw [<- hs3];exact Heap.get?_push_of_some _ (Heap.get?_push_of_some _ g1)
 have keep:∀ b o,b ≠ a -> s.heap.get? b = some o -> s3.heap.get? b = some o:=fun b o hb hbo=>by
  rw [<- hs3, <- h1e]
  exact Heap.get?_push_of_some _ (Heap.get?_push_of_some _ (by rw [Heap.get?_update_ne _ _ _ _ hb];exact hbo))
 have keepT:∀ b o,s.heap.get? b = some o -> o.cls = .type "tuple" -> s3.heap.get? b = some o:=fun b o hb hc=>keep b o (fun z=>by
  rw [z,ha] at hb;cases hb;simp at hc) hb
 have hr3:RdL s3.heap vs ds:=fun v hv=>by
  obtain ⟨d,hd,as,r⟩:=hr v hv
  exact ⟨d,hd,as,bw keepT (hp d hd) r⟩
 have same:∀ v ∈ vs,SeqAt.readOf s3.heap v = SeqAt.readOf s.heap v:=fun v hv=>by
  obtain ⟨d,hd,as,r⟩:=hr v hv
  rw [SeqAt.readOf_eq (hs.lay d hd).1 r,SeqAt.readOf_eq (hs.lay d hd).1 (bw keepT (hp d hd) r)]
 have q:∀ (h':Heap) (out:List Value) (n':Nat),(∀ b o,b ≠ a -> s.heap.get? b = some o -> h'.get? b = some o) -> h'.get? a = some (seqObj "list" out.toArray n') -> out.Perm vs -> out.Pairwise (fun x y=>ltK (toK (SeqAt.readOf s.heap y)) (toK (SeqAt.readOf s.heap x)) = false) -> Q (.done (.ret .none)) { s3 with heap:=h' }:=by
  rw [<- hs3];exact q
 have hA3:∀ A':Around,A'.units = A.units -> True:=fun _ _=>trivial
 clear hs3
 let Good:SortSt -> Prop:=fun st'=>failedOf st' = none /\ (arrOf st').toList.Perm (vs.zip vs) /\ (arrOf st').toList.Pairwise (fun x y=>ltK (dc s3.heap y) (dc s3.heap x) = false)
 by_cases hlt:vs.toArray.size < 2
 ·rw [if_pos hlt,if_pos hlt]
  refine wpAny_bind (wpAny_pure ?_)
  have hlt2:vs.length < 2:=by simpa using hlt
  have run:wpAny (PySem.model prog w) A ((pure ():StateT SortSt Sem Unit).run (SortSt.mk' general' (vs.toArray.zip vs.toArray) #[] 7 none)) (fun r s'=>s' = s3 /\ Good r.2) E s3:=by
   refine wpAny_pure ⟨rfl,rfl, ?_, ?_⟩
   ·show (vs.toArray.zip vs.toArray).toList.Perm _
    simp
   ·show List.Pairwise _ (vs.toArray.zip vs.toArray).toList
    match vs,hlt2 with
    | [],_=>simp
    | [x],_=>simp
  refine wpAny_bind (wpAny_mono (Q:=fun r s'=>s' = s3 /\ Good r.2) run (fun r s' hr => ?_) (fun _ _ z=>z))
  obtain ⟨rfl,hg1,hg2,hg3⟩:=hr
  obtain ⟨u,st'⟩:=r
  refine wpAny_bind (seqEpoch_at g3 rfl ?_)
  refine wpAny_bind (listUpdate_at g3 rfl ?_ (by simp) (by simp only [Array.size_map];have:=hg2.length_eq;simp at this;rw [this];omega))
  dsimp only at hg1
  rw [hg1]
  simp only [bne_self_eq_false,Bool.false_eq_true,if_false]
  refine wpAny_pure ?_
  have gq:=get?_update_seq g3 (fun _=>Array.map (fun x=>x.snd) (arrOf st'))
  have eo:Array.map (fun x=>x.snd) (arrOf st') = ((arrOf st').toList.map fun x=>x.snd).toArray:=by apply Array.toList_inj.mp;simp
  refine q _ ((arrOf st').toList.map fun x=>x.snd) _ (fun b o hb hbo => ?_) (by rw [gq,eo]) ?_ ?_
  ·rw [Heap.get?_update_ne _ _ _ _ hb]
   exact keep b o hb hbo
  ·have h8:=hg2.map (fun x:Keyed=>x.snd)
   rw [List.map_snd_zip (by simp)] at h8
   exact h8
  ·rw [List.pairwise_map]
   refine hg3.imp_of_mem fun {x y} hx hy hxy => ?_
   have mx:=mem_zip_self (hg2.mem_iff.mp hx)
   have my:=mem_zip_self (hg2.mem_iff.mp hy)
   unfold dc at hxy
   rw [mx.1,my.1,same y.2 (by rw [<- my.1];exact my.2),same x.2 (by rw [<- mx.1];exact mx.2)] at hxy
   exact hxy
 ·rw [if_neg hlt,if_neg hlt]
  have hlt2 : 2 <= vs.length:=by simpa using hlt
  obtain ⟨v0,vs0,hv0⟩:∃ v0 vs0,vs = v0 :: vs0:=by
   match vs,hlt2 with
   | v :: t,_=>exact ⟨v,t,rfl⟩
  obtain ⟨kd,hkd,hcm⟩:=Bo (prog:=prog) (w:=w) (A:=A) (v:=v0) (vs:=vs0) (by rw [<- hv0];exact hr3) hs hu
  rw [<- hv0] at hkd hcm
  refine wpAny_bind (hkd E _ ?_)
  have run:wpAny (PySem.model prog w) A (sortRuns'.run (SortSt.mk' kd (vs.toArray.zip vs.toArray) #[] 7 none)) (fun r s'=>s' = s3 /\ Good r.2) E s3:=by
   have ez:(arrOf (SortSt.mk' kd (vs.toArray.zip vs.toArray) #[] 7 none)).toList = vs.zip vs:=by
    show (vs.toArray.zip vs.toArray).toList = _
    simp
   have h9:wpS (PySem.model prog w) A E s3 sortRuns' (fun _ st'=>Good st') (SortSt.mk' kd (vs.toArray.zip vs.toArray) #[] 7 none):=by
    refine nN (st:=SortSt.mk' kd (vs.toArray.zip vs.toArray) #[] 7 none) hcm rfl rfl rfl (fun x hx => ?_) fun st' p1 p2 p3=>⟨p3,by rw [ez] at p1;exact p1,p2⟩
    rw [ez] at hx
    exact (mem_zip_self hx).2
   exact h9
  refine wpAny_bind (wpAny_mono (Q:=fun r s'=>s' = s3 /\ Good r.2) run (fun r s' hr => ?_) (fun _ _ z=>z))
  obtain ⟨rfl,hg1,hg2,hg3⟩:=hr
  obtain ⟨u,st'⟩:=r
  refine wpAny_bind (seqEpoch_at g3 rfl ?_)
  refine wpAny_bind (listUpdate_at g3 rfl ?_ (by simp) (by simp only [Array.size_map];have:=hg2.length_eq;simp at this;rw [this];omega))
  dsimp only at hg1
  rw [hg1]
  simp only [bne_self_eq_false,Bool.false_eq_true,if_false]
  refine wpAny_pure ?_
  have gq:=get?_update_seq g3 (fun _=>Array.map (fun x=>x.snd) (arrOf st'))
  have eo:Array.map (fun x=>x.snd) (arrOf st') = ((arrOf st').toList.map fun x=>x.snd).toArray:=by apply Array.toList_inj.mp;simp
  refine q _ ((arrOf st').toList.map fun x=>x.snd) _ (fun b o hb hbo => ?_) (by rw [gq,eo]) ?_ ?_
  ·rw [Heap.get?_update_ne _ _ _ _ hb]
   exact keep b o hb hbo
  ·have h8:=hg2.map (fun x:Keyed=>x.snd)
   rw [List.map_snd_zip (by simp)] at h8
   exact h8
  ·rw [List.pairwise_map]
   refine hg3.imp_of_mem fun {x y} hx hy hxy => ?_
   have mx:=mem_zip_self (hg2.mem_iff.mp hx)
   have my:=mem_zip_self (hg2.mem_iff.mp hy)
   unfold dc at hxy
   rw [mx.1,my.1,same y.2 (by rw [<- my.1];exact my.2),same x.2 (by rw [<- mx.1];exact mx.2)] at hxy
   exact hxy
theorem qi (u:Value):checkBuiltinCall "sorted" ⟨[u],[]⟩ = pure ():=by kernel_rfl
theorem sM {m:Nat} {u:Value} {ds:List PyData} {C:Heap -> List Value -> Prop} {Q:Value -> Shared -> Prop} (hu:A.units + m + 3 < cLine) (hs:m8 m ds) (hp:∀ d ∈ ds,Pl d)
 (hcol:∀ (E:Value -> Shared -> Prop) (R:List Value -> Shared -> Prop),(∀ (h':Heap) (vs':List Value) (t':Nat),C h' vs' -> RdL h' vs' ds -> vs'.length <= sizeLine -> s.toks <= t' -> R vs' { s with heap:=h',toks:=t' }) -> wpAny (PySem.model prog w) A.in1 (collect u) R E s)
 (q:∀ (h1 h2:Heap) (vs out:List Value) (n' t':Nat),C h1 vs -> (∀ b o,h1.get? b = some o -> h2.get? b = some o) -> h2.get? h1.objs.size = some (seqObj "list" out.toArray n') -> out.Perm vs -> out.Pairwise (fun x y=>ltK (toK (SeqAt.readOf h2 y)) (toK (SeqAt.readOf h2 x)) = false) -> RdL h2 out ds -> vs.length <= sizeLine -> s.toks <= t' -> Q (.ref h1.objs.size) { s with heap:=h2,toks:=t' }) :
 wpAny (PySem.model prog w) A (call (.builtin "sorted") [u]) Q E s:=by
 refine wpAny_call (codeAny_call_builtin plain_sorted entry_sorted (wpAny_of_eq (qi u) ?_))
 unfold Builtin.sorted
 refine wpAny_bind (wpAny_of_eq (a:=()) (by kernel_rfl) ?_)
 refine wpAny_bind (hcol _ _ fun h1 vs t' hC hr hl ht => ?_)
 refine wpAny_bind (wpAny_newList ?_ hl)
 refine wpAny_bind (wpAny_holding ?_)
 have hr1:RdL (h1.push { cls:=Value.type "list",data:=Data.seq vs.toArray }) vs ds:=fun v hv=>by
  obtain ⟨d,hd,as,r⟩:=hr v hv
  exact ⟨d,hd,as,bw (fun b o hb _=>Heap.get?_push_of_some _ hb) (hp d hd) r⟩
 have ha:(h1.push { cls:=Value.type "list",data:=Data.seq vs.toArray }).get? h1.objs.size = some (seqObj "list" vs.toArray 0):=Heap.get?_push_size _ rfl
 refine wpAny_call_entry slot_list_sort (T := "list") ⟨_,ha,rfl⟩ entry_list_sort ?_ (args_list_sort _)
 refine yk (m:=m) ha hr1 hs hp hl (by show A.units + 1 + 1 + m + 1 < cLine;omega) fun h2 out n' keep g2 hperm hpw=>⟨_,rfl,wpAny_pure ?_⟩
 have old:∀ b o,h1.get? b = some o -> h2.get? b = some o:=fun b o hb=>keep b o (Nat.ne_of_lt (Heap.lt_size hb)) (Heap.get?_push_of_some _ hb)
 have hr2:RdL h2 vs ds:=fun v hv=>by
  obtain ⟨d,hd,as,r⟩:=hr v hv
  exact ⟨d,hd,as,bw (fun b o hb _=>old b o hb) (hp d hd) r⟩
 refine q h1 h2 vs out n' t' hC old g2 hperm ?_ (fun v hv=>hr2 v (hperm.mem_iff.mp hv)) hl ht
 have same:∀ v ∈ vs,SeqAt.readOf (h1.push { cls:=Value.type "list",data:=Data.seq vs.toArray }) v = SeqAt.readOf h2 v:=fun v hv=>by
  obtain ⟨d,hd,as,r⟩:=hr v hv
  rw [SeqAt.readOf_eq (hs.lay d hd).1 (bw (fun b o hb _=>old b o hb) (hp d hd) r),SeqAt.readOf_eq (hs.lay d hd).1 (bw (fun b o hb _=>Heap.get?_push_of_some _ hb) (hp d hd) r)]
 refine hpw.imp_of_mem fun {x y} hx hy hxy => ?_
 rw [same y (hperm.mem_iff.mp hy),same x (hperm.mem_iff.mp hx)] at hxy
 exact hxy
end
end Srt
end L2
namespace L2
namespace It
open PySem PySem.Spec PyProof.Rows
end It
end L2
namespace L2
namespace It
open PySem PySem.Spec PyProof.Rows
end It
end L2
namespace L2
namespace It
open PySem PySem.Spec PyProof.Rows
end It
end L2
namespace L2
open PySem PySem.Spec PyProof.Rows
section
section
variable {P:Program} {w:World} {H:Hp} {h:Heap} {a:Addr} {o:HO}
theorem ObjOk.there (x:ObjOk P w H h a o):∃ ob,h.get? a = some ob:=by
 cases o with
 | lst xs=>obtain ⟨_,_,_,_,e⟩:=x;exact ⟨_,e⟩
 | tup xs=>obtain ⟨_,_,_,_,e,_⟩:=x;exact ⟨_,e⟩
 | dK kvs=>obtain ⟨_,_,_,_,o,_,_,e,_⟩:=x;exact ⟨_,e⟩
 | dT kvs=>obtain ⟨_,_,_,_,o,_,_,e,_⟩:=x;exact ⟨_,e⟩
 | set S n=>obtain ⟨o,_,_,_,e,_⟩:=x;exact ⟨_,e⟩
 | ins C dx fs=>obtain ⟨_,_,_,e,_⟩:=x;exact ⟨_,e⟩
 | own y=>obtain ⟨_,e⟩:=x;exact ⟨_,e⟩
 | xd fs=>obtain ⟨_,⟨_,_,_,e,_⟩,_⟩:=x;exact ⟨_,e⟩
 | rng lo hi=>obtain ⟨_,_,_,e⟩:=x;exact ⟨_,e⟩
 | frz ob u=>obtain ⟨e,_⟩:=x;exact ⟨_,e⟩
 | tbl ps=>exact ⟨_,show h.get? a = some _ from x⟩
 | met f y=>exact ⟨_,show h.get? a = some _ from x⟩
 | ext φ => obtain ⟨_,⟨_,e⟩,_⟩:=x;exact ⟨_,e⟩
end
noncomputable def lay (H:Hp) (N:Addr -> Option HO):Hp:=fun b=>match N b with | some o=>some o | none=>H b
section
variable {X:Cx} {pins:List (Addr × Obj)} {σ:List (Option V)} {H:Hp} {s:Shared} {h':Heap} {N:Addr -> Option HO}
theorem ym {b:Addr} {o:HO} (e:N b = some o):lay H N b = some o:=by unfold lay;rw [e]
theorem jk {b:Addr} (e:N b = none):lay H N b = H b:=by unfold lay;rw [e]
theorem Inv.fresh' (I:Inv X pins σ H s) {b:Addr} (e:s.heap.get? b = none):H b = none:=by
 cases q:H b with
 | none=>rfl
 | some o=>obtain ⟨ob,eo⟩:=(I.hok b o q).there;rw [e] at eo;cases eo
theorem Inv.laidN {t':Nat} (I:Inv X pins σ H s) (k:∀ b u,s.heap.get? b = some u -> h'.get? b = some u) (hN:∀ b o,N b = some o -> s.heap.get? b = none) (new:∀ b o,N b = some o -> ObjOk X.prog X.w (lay H N) h' b o):Inv X pins σ (lay H N) { s with heap:=h',toks:=t' }:=by
 have old:∀ b u,s.heap.get? b = some u -> N b = none:=fun b u e=>by
  cases q:N b with
  | none=>rfl
  | some o=>rw [hN b o q] at e;cases e
 have oldH:∀ b o,H b = some o -> lay H N b = some o:=fun b o e=>by
  obtain ⟨ob,eo⟩:=(I.hok b o e).there
  rw [jk (old b ob eo)];exact e
 refine I.un ⟨fun b u q _ _ _=>k b u q,fun b u q _ _ _=>⟨u.slots,k b u q⟩,fun b u q n _=>by rw [jk (old b u q)];exact n,fun b u q _=>⟨u,k b u q⟩,fun b xs q=>oldH b _ q,fun b u xs q=>oldH b _ q,fun b ps q=>⟨#[],by rw [oldH b _ q];simp⟩⟩ fun b o e => ?_
 cases q:N b with
 | some o'=>rw [ym q] at e;cases e;exact new b o q
 | none =>
   rw [jk q] at e
   exact (I.hok b o e).stay (fun c v _ q=>k c v q) (fun c q=>oldH c _ q) fun c xs q=>oldH c _ q
end
namespace Mi
open L2.Srt
inductive Sh where
 | int
 | tup (l:List Sh)
mutual
noncomputable def hs:Sh -> D -> Bool
 | .int, .int _=>true
 | .tup l, .tup ds=>hss l ds
 | _,_=>false
noncomputable def hss:List Sh -> List D -> Bool
 | [],[] => true
 | s :: l,d :: ds=>hs s d && hss l ds
 | _,_=>false
end
mutual
noncomputable def pd:D -> PyData
 | .int i => .int i
 | .tup ds => .tuple (pds ds)
 | _ => .none
noncomputable def pds:List D -> List PyData
 | [] => []
 | d :: ds=>pd d :: pds ds
end
mutual
noncomputable def dep:Sh -> Nat
 | .int => 0
 | .tup l=>deps l + 1
noncomputable def deps:List Sh -> Nat
 | [] => 0
 | s :: l=>max (dep s) (deps l)
end
noncomputable def jl:Sh -> Bool
 | .int=>true
 | .tup (.int :: l)=>decide (deps l <= 6)
 | .tup (.tup a :: l)=>decide (deps (.tup a :: l) <= 6)
 | .tup [] => false
noncomputable def kyD (d:D):Ky:=toK (pd d)
mutual
theorem sN:∀ (s:Sh) (x y:D),hs s x = true -> hs s y = true -> Cmpb (pd x) (pd y)
 | .int, .int a, .int b,_,_=>by simp only [pd];exact .int a b
 | .tup l, .tup a, .tup b,h,g=>by simp only [hs] at h g;simp only [pd];exact hss_cmp l a b h g
 | .int, .int _, .non,_,g=>by simp [hs] at g
 | .int, .int _, .bl _,_,g=>by simp [hs] at g
 | .int, .int _, .str _,_,g=>by simp [hs] at g
 | .int, .int _, .tup _,_,g=>by simp [hs] at g
 | .int, .int _, .con _,_,g=>by simp [hs] at g
 | .int, .int _, .ref _,_,g=>by simp [hs] at g
 | .int, .non,_,h,_=>by simp [hs] at h
 | .int, .bl _,_,h,_=>by simp [hs] at h
 | .int, .str _,_,h,_=>by simp [hs] at h
 | .int, .tup _,_,h,_=>by simp [hs] at h
 | .int, .con _,_,h,_=>by simp [hs] at h
 | .int, .ref _,_,h,_=>by simp [hs] at h
 | .tup _, .non,_,h,_=>by simp [hs] at h
 | .tup _, .bl _,_,h,_=>by simp [hs] at h
 | .tup _, .int _,_,h,_=>by simp [hs] at h
 | .tup _, .str _,_,h,_=>by simp [hs] at h
 | .tup _, .con _,_,h,_=>by simp [hs] at h
 | .tup _, .ref _,_,h,_=>by simp [hs] at h
 | .tup _, .tup _, .non,_,g=>by simp [hs] at g
 | .tup _, .tup _, .bl _,_,g=>by simp [hs] at g
 | .tup _, .tup _, .int _,_,g=>by simp [hs] at g
 | .tup _, .tup _, .str _,_,g=>by simp [hs] at g
 | .tup _, .tup _, .con _,_,g=>by simp [hs] at g
 | .tup _, .tup _, .ref _,_,g=>by simp [hs] at g
theorem hss_cmp:∀ (l:List Sh) (a b:List D),hss l a = true -> hss l b = true -> Cmpb (.tuple (pds a)) (.tuple (pds b))
 | [],[],[],_,_=>by simp only [pds];exact .nil _
 | [],[],_ :: _,_,g=>by simp [hss] at g
 | [],_ :: _,_,h,_=>by simp [hss] at h
 | _ :: _,[],_,h,_=>by simp [hss] at h
 | _ :: _,_ :: _,[],_,g=>by simp [hss] at g
 | s :: l,x :: a,y :: b,h,g=>by
   simp only [hss,Bool.and_eq_true] at h g
   simp only [pds]
   exact .cons (sN s x y h.1 g.1) (hss_cmp l a b h.2 g.2)
end
mutual
theorem qj:∀ (s:Sh) (x:D),hs s x = true -> Pl (pd x) /\ (pd x).canLay0 = true /\ (pd x).depth <= dep s
 | .int, .int a,_=>by simp only [pd];exact ⟨.int a,rfl,by simp [PyData.depth]⟩
 | .tup l, .tup a,h=>by
  simp only [hs] at h
  obtain ⟨h1,h2,h3⟩:=hss_pl l a h
  simp only [pd]
  exact ⟨.tup _ h1,by simpa [PyData.canLay0] using h2,by simp [PyData.depth,dep];omega⟩
 | .int, .non,h=>by simp [hs] at h
 | .int, .bl _,h=>by simp [hs] at h
 | .int, .str _,h=>by simp [hs] at h
 | .int, .tup _,h=>by simp [hs] at h
 | .int, .con _,h=>by simp [hs] at h
 | .int, .ref _,h=>by simp [hs] at h
 | .tup _, .non,h=>by simp [hs] at h
 | .tup _, .bl _,h=>by simp [hs] at h
 | .tup _, .int _,h=>by simp [hs] at h
 | .tup _, .str _,h=>by simp [hs] at h
 | .tup _, .con _,h=>by simp [hs] at h
 | .tup _, .ref _,h=>by simp [hs] at h
theorem hss_pl:∀ (l:List Sh) (a:List D),hss l a = true -> (∀ x ∈ pds a,Pl x) /\ PyData.canLayAll0 (pds a) = true /\ PyData.depthAll (pds a) <= deps l
 | [],[],_=>by simp [pds,PyData.canLayAll0,PyData.depthAll]
 | [],_ :: _,h=>by simp [hss] at h
 | _ :: _,[],h=>by simp [hss] at h
 | s :: l,x :: a,h=>by
   simp only [hss,Bool.and_eq_true] at h
   obtain ⟨h1,h2,h3⟩:=qj s x h.1
   obtain ⟨g1,g2,g3⟩:=hss_pl l a h.2
   simp only [pds]
   refine ⟨fun y hy => ?_,by simp [PyData.canLayAll0,h2,g2],by simp [PyData.depthAll,deps];omega⟩
   rcases List.mem_cons.mp hy with z | z
   ·rw [z];exact h1
   ·exact g1 y z
end
mutual
theorem wL (M:Mem):∀ (s:Sh) (x:D) (n:Nat),hs s x = true -> dep s <= n -> rb n M x = some (pd x)
 | .int, .int a,n,_,_=>by cases n <;> simp [rb,pd]
 | .tup l, .tup a,n,h,hn=>by
  simp only [hs] at h
  simp only [dep] at hn
  obtain ⟨k,rfl⟩:∃ k,n = k + 1:=⟨n - 1,by omega⟩
  simp only [rb,pd]
  rw [hss_rb M l a k h (by omega)];rfl
 | .int, .non,_,h,_=>by simp [hs] at h
 | .int, .bl _,_,h,_=>by simp [hs] at h
 | .int, .str _,_,h,_=>by simp [hs] at h
 | .int, .tup _,_,h,_=>by simp [hs] at h
 | .int, .con _,_,h,_=>by simp [hs] at h
 | .int, .ref _,_,h,_=>by simp [hs] at h
 | .tup _, .non,_,h,_=>by simp [hs] at h
 | .tup _, .bl _,_,h,_=>by simp [hs] at h
 | .tup _, .int _,_,h,_=>by simp [hs] at h
 | .tup _, .str _,_,h,_=>by simp [hs] at h
 | .tup _, .con _,_,h,_=>by simp [hs] at h
 | .tup _, .ref _,_,h,_=>by simp [hs] at h
theorem hss_rb (M:Mem):∀ (l:List Sh) (a:List D) (n:Nat),hss l a = true -> deps l <= n -> aF (rb n M) a = some (pds a)
 | [],[],_,_,_=>by simp [pds,aF]
 | [],_ :: _,_,h,_=>by simp [hss] at h
 | _ :: _,[],_,h,_=>by simp [hss] at h
 | s :: l,x :: a,n,h,hn=>by
   simp only [hss,Bool.and_eq_true] at h
   simp only [deps] at hn
   simp only [pds,aF]
   rw [wL M s x n h.1 (by omega),hss_rb M l a n h.2 (by omega)];rfl
end
theorem md {s:Sh} (h:jl s = true):dep s <= 7:=by
 match s,h with
 | .int,_=>simp [dep]
 | .tup (.int :: l),h=>simp [jl] at h;simp [dep,deps];omega
 | .tup (.tup a :: l),h=>simp only [jl,decide_eq_true_eq] at h;simp only [dep];omega
theorem yn {s:Sh} (h:jl s = true) {xs:List D} (hx:∀ x ∈ xs,hs s x = true):m8 7 (xs.map pd) /\ ∀ d ∈ xs.map pd,Pl d:=by
 refine ⟨⟨?_, ?_, ?_⟩, ?_⟩
 ·intro d hd e he
  obtain ⟨x,h1,rfl⟩:=List.mem_map.mp hd
  obtain ⟨y,h2,rfl⟩:=List.mem_map.mp he
  exact sN s x y (hx x h1) (hx y h2)
 ·intro d hd
  obtain ⟨x,h1,rfl⟩:=List.mem_map.mp hd
  obtain ⟨_,g2,g3⟩:=qj s x (hx x h1)
  exact ⟨g2,by have:=md h;omega⟩
 ·match s,h with
  | .int,_ =>
   left
   intro d hd
   obtain ⟨x,h1,rfl⟩:=List.mem_map.mp hd
   have:=hx x h1
   cases x <;> simp [hs] at this
   exact ⟨_,rfl⟩
  | .tup (.int :: l),_ =>
   right;left
   intro d hd
   obtain ⟨x,h1,rfl⟩:=List.mem_map.mp hd
   have:=hx x h1
   cases x <;> simp [hs] at this
   rename_i ds
   cases ds with
   | nil=>simp [hss] at this
   | cons y ys =>
     simp [hss] at this
     cases y <;> simp [hs] at this
     exact ⟨_,_,rfl⟩
  | .tup (.tup a :: l),_ =>
   right;right
   intro d hd
   obtain ⟨x,h1,rfl⟩:=List.mem_map.mp hd
   have:=hx x h1
   cases x <;> simp [hs] at this
   rename_i ds
   cases ds with
   | nil=>simp [hss] at this
   | cons y ys =>
     simp [hss] at this
     cases y <;> simp [hs] at this
     exact ⟨_,_,rfl⟩
 ·intro d hd
  obtain ⟨x,h1,rfl⟩:=List.mem_map.mp hd
  exact (qj s x (hx x h1)).1
theorem jZ {α β:Type} (f : α -> β):∀ {l m:List β},l.Perm m -> ∀ {t:List α},t.map f = m -> ∃ t':List α,t'.Perm t /\ t'.map f = l:=by
 intro l m h
 induction h with
 | nil=>intro t e;exact ⟨[],by rw [List.map_eq_nil_iff.mp e],rfl⟩
 | cons x h ih =>
   intro t e
   cases t with
   | nil=>simp at e
   | cons a t =>
     simp at e
     obtain ⟨t',h1,h2⟩:=ih e.2
     exact ⟨a :: t',h1.cons a,by simp [h2,e.1]⟩
 | swap x y l =>
   intro t e
   match t,e with
   | a :: b :: t,e =>
     simp at e
     exact ⟨b :: a :: t, .swap _ _ _,by simp [e]⟩
 | trans h1 h2 ih1 ih2 =>
   intro t e
   obtain ⟨t2,p2,e2⟩:=ih2 e
   obtain ⟨t1,p1,e1⟩:=ih1 e2
   exact ⟨t1,p1.trans p2,e1⟩
noncomputable def mf (ys:List D):Prop:=ys.Pairwise fun a b=>ltK (kyD b) (kyD a) = false
theorem oC {K:Frag} {H:Hp}:∀ {ds:List D} {vs:List V} {us:List Value},RDs K H ds vs -> Vals vs us -> ∃ t:List (D × V × Value),t.map (·.1) = ds /\ t.map (·.2.1) = vs /\ t.map (·.2.2) = us /\ ∀ p ∈ t,RD K H p.1 p.2.1 /\ RelV p.2.1 p.2.2
 | [],vs,us,h,g=>by
  cases RDs.nil_iff.mp h
  cases g
  exact ⟨[],rfl,rfl,rfl,fun _ h=>by simp at h⟩
 | d :: ds,vs,us,h,g=>by
   obtain ⟨v,r,rfl,h1,h2⟩:=RDs.cons_iff.mp h
   cases g with
   | cons g1 g2 =>
     rename_i u us
     obtain ⟨t,e1,e2,e3,e4⟩:=oC h2 g2
     exact ⟨(d,v,u) :: t,by simp [e1],by simp [e2],by simp [e3],fun p hp=>by
      rcases List.mem_cons.mp hp with z | z
      ·rw [z];exact ⟨h1,g1⟩
      ·exact e4 p z⟩
theorem oD {K:Frag} {H:Hp}:∀ {t:List (D × V × Value)},(∀ p ∈ t,RD K H p.1 p.2.1 /\ RelV p.2.1 p.2.2) -> RDs K H (t.map (·.1)) (t.map (·.2.1)) /\ Vals (t.map (·.2.1)) (t.map (·.2.2))
 | [],_=>⟨RDs.nil, .nil⟩
 | p :: t,h=>by
   obtain ⟨h1,h2⟩:=oD (t:=t) fun q hq=>h q (by simp [hq])
   exact ⟨RDs.cons (h p (by simp)).1 h1, .cons (h p (by simp)).2 h2⟩
section
variable {X:Cx}
theorem nO (hu:X.A.units + 16 < cLine) {pins:List (Addr × Obj)} {s:Shared} {σ:St} {H:Hp} {Q:VK} (I:Inv X pins σ H s) {M:Mem} (rm:RM X.K M H) {es:List D} {sh:Sh} {vs:List V} {p:Addr} (rvs:RDs X.K H es vs) (hok:jl sh = true) (hsh:∀ d ∈ es,hs sh d = true)
 (q:∀ p ys,M p = none -> ys.Perm es -> mf ys -> KE' X.K M H Q (.ref p) (aj M p (.lst ys))) {its:List Value} (hv:Vals vs its) (hl:vs.length <= sizeLine)
 (hcol:∀ (E:Value -> Shared -> Prop) (R:List Value -> Shared -> Prop),(∀ (h':Heap) (tk:Nat),(∀ b o,s.heap.get? b = some o -> h'.get? b = some o) -> s.toks <= tk -> R its { s with heap:=h',toks:=tk }) -> wpAny (PySem.model X.prog X.w) X.A.in1 (collect (.ref p)) R E s) :
 wpAny (PySem.model X.prog X.w) X.A (call (.builtin "sorted") [.ref p]) (EP X pins σ Q) X.xe s:=by
 obtain ⟨hS,hPl⟩:=yn hok hsh
 have hdep:=md hok
 obtain ⟨t,t1,t2,t3,t4⟩:=oC rvs hv
 have hrd:∀ pp ∈ t, ∃ as,Reads s.heap pp.2.2 (pd pp.1) as:=fun pp hpp=>by
  have hm:pp.1 ∈ es:=by rw [<- t1];exact List.mem_map_of_mem hpp
  exact bR I rm 16 pp.1 (pd pp.1) pp.2.1 pp.2.2 (wL M sh pp.1 16 (hsh _ hm) (by omega)) (t4 pp hpp).1 (t4 pp hpp).2
 have hrd0:RdL s.heap its (es.map pd):=fun u hu=>by
  rw [<- t3] at hu
  obtain ⟨pp,hpp,rfl⟩:=List.mem_map.mp hu
  obtain ⟨as,ra⟩:=hrd pp hpp
  exact ⟨pd pp.1,List.mem_map_of_mem (by rw [<- t1];exact List.mem_map_of_mem hpp),as,ra⟩
 refine sM (m := 7) (ds:=es.map pd) (C:=fun h' vs'=>vs' = its /\ ∀ b o,s.heap.get? b = some o -> h'.get? b = some o) (by omega) hS hPl (fun E R hR => ?_) fun h1 h2 vs' out n' tk hC old g2 hperm hpw hr2 hl2 ht => ?_
 ·refine hcol E R fun h' tk kp htk=>hR h' its tk ⟨rfl,kp⟩ (fun u hu => ?_) (by rw [<- hv.length];exact hl) htk
  obtain ⟨d,hd,as,ra⟩:=hrd0 u hu
  exact ⟨d,hd,as,bw (fun b o e _=>kp b o e) (hPl d hd) ra⟩
 ·obtain ⟨rfl,kp⟩:=hC
  rw [<- t3] at hperm
  obtain ⟨t',p1,p2⟩:=jZ (fun pp:D × V × Value=>pp.2.2) hperm rfl
  have hz:=oD (t:=t') fun pp hpp=>t4 pp (p1.mem_iff.mp hpp)
  have kp2:∀ b o,s.heap.get? b = some o -> h2.get? b = some o:=fun b o e=>old b o (kp b o e)
  have hfresh:s.heap.get? h1.objs.size = none:=by
   cases hq:s.heap.get? h1.objs.size with
   | none=>rfl
   | some o=>exact absurd (Heap.lt_size (kp _ _ hq)) (Nat.lt_irrefl _)
  have hHn:=I.fresh' hfresh
  have hlen:(t'.map (·.2.1)).length <= sizeLine:=by
   rw [List.length_map,p1.length_eq, <- List.length_map (f:=fun pp:D × V × Value=>pp.2.1),t2];exact hl
  have I2:=I.laidN (t':=tk) (h':=h2) (N:=fun b=>if b = h1.objs.size then some (.lst (t'.map (·.2.1))) else none) kp2 (fun b o e=>by
   by_cases hb:b = h1.objs.size
   ·rw [hb];exact hfresh
   ·rw [if_neg hb] at e;cases e) (fun b o e=>by
   by_cases hb:b = h1.objs.size
   ·subst hb
    rw [if_pos rfl] at e;cases e
    exact ⟨hlen,out,n',by rw [<- p2];exact hz.2,g2⟩
   ·rw [if_neg hb] at e;cases e)
  have eH:lay H (fun b=>if b = h1.objs.size then some (.lst (t'.map (·.2.1))) else none) = upd H h1.objs.size (.lst (t'.map (·.2.1))):=by
   funext b
   unfold lay upd
   dsimp only
   by_cases hb:b = h1.objs.size
   ·rw [if_pos hb,if_pos hb]
   ·rw [if_neg hb,if_neg hb]
  rw [eH] at I2
  refine ⟨.ref h1.objs.size,_,I2,rfl, ?_⟩
  refine cC rm hz.1 (fun p' n=>q p' _ n ?_ ?_) hHn
  ·have:=p1.map (fun pp:D × V × Value=>pp.1)
   rw [t1] at this;exact this
  ·unfold mf
   rw [List.pairwise_map]
   rw [<- p2,List.pairwise_map] at hpw
   refine hpw.imp_of_mem fun {a b} ha hb hab => ?_
   have rd:∀ pp ∈ t',SeqAt.readOf h2 pp.2.2 = pd pp.1:=fun pp hpp=>by
    have hpp':=p1.mem_iff.mp hpp
    obtain ⟨as,ra⟩:=hrd pp hpp'
    have hm:pp.1 ∈ es:=by rw [<- t1];exact List.mem_map_of_mem hpp'
    exact SeqAt.readOf_eq (hS.lay _ (List.mem_map_of_mem hm)).1 (bw (fun b o e _=>kp2 b o e) (hPl _ (List.mem_map_of_mem hm)) ra)
   rw [rd a ha,rd b hb] at hab
   exact hab
end
end Mi
end
end L2
namespace L2
namespace Mi
open PySem PySem.Spec PyProof.Rows L2.Srt
noncomputable def jm (K:Frag) (H:Hp) (kv:D × D) (e:DictEntry):Prop := ∃ kV vV,RD K H kv.1 kV /\ RelV kV e.key /\ RD K H kv.2 vV /\ RelV vV e.val
theorem oE {K:Frag} {H:Hp} {d:D} {k:Key} (h:RKey d k):RD K H d (kV k):=by
 cases d <;> first
  | exact h.elim
  | (cases h;first | exact RD.int_iff.mpr rfl | exact RD.str_iff.mpr rfl)
theorem ka {K:Frag} {H:Hp}:∀ {ds:List D} {ks:List Key},Paired RKey ds ks -> RDs K H ds (ks.map kV)
 | _,_, .nil=>RDs.nil
 | _,_, .cons r t=>RDs.cons (oE r) (ka t)
theorem wM {P:Program} {w:World} {K:Frag} {H:Hp}:∀ {kvs:List (D × D)} {ps:List (Key × V)} {vs:List (Key × Value)} {es:List DictEntry},Paired (fun (p:D × D) (q:Key × V)=>RKey p.1 q.1 /\ RD K H p.2 q.2) kvs ps -> KV ps vs -> Pairs (aG P w) es vs -> Paired (jm K H) kvs es
 | _,_,_,_, .nil, .nil, .nil => .nil
 | _,_,_,_, .cons r1 t1, .cons r2 t2, .cons h1 h2 t3=>by
   refine .cons ⟨kV _,_,oE r1.1, ?_,r1.2,by rw [h2];exact r2.2⟩ (wM t1 t2 t3)
   rw [<- r2.1] at h1
   rcases aQ h1 with ⟨i,t,e1,e2⟩ | ⟨x,t,e1,e2⟩
   ·rw [e1,e2];exact ⟨t,rfl⟩
   ·rw [e1,e2];exact ⟨t,rfl⟩
theorem wN {P:Program} {w:World} {K:Frag} {H:Hp}:∀ {kvs:List (D × D)} {ps:List (List Key × V)} {xs:List (List Key × Addr × Value)},Paired (fun (p:D × D) (q:List Key × V)=>RKeys p.1 q.1 /\ RD K H p.2 q.2) kvs ps -> Paired (fun (p:List Key × V) (q:List Key × Addr × Value)=>p.1 = q.1 /\ H q.2.1 = some (.tup (p.1.map kV)) /\ RelV p.2 q.2.2) ps xs -> Paired (jm K H) kvs (xs.map (entryOfKey (tupleKind (aG P w))))
 | _,_,_, .nil, .nil => .nil
 | kv :: _,_,_, .cons r1 t1, .cons r2 t2=>by
   refine .cons ?_ (wN t1 t2)
   obtain ⟨d,v⟩:=kv
   have r11:=r1.1
   cases d <;> first
    | exact r11.elim
    | exact ⟨.ref _,_,RD.tup_iff.mpr ⟨_,_,rfl,r2.2.1,ka r11⟩,rfl,r1.2,r2.2.2⟩
theorem aY {α β:Type} {R : α -> β -> Prop}:∀ {l:List α} {m:List β},Paired R l m -> l.length = m.length
 | _,_, .nil=>rfl
 | _,_, .cons _ t=>by simp [aY t]
section
variable {X:Cx}
theorem mj {H:Hp} {h:Heap} {P:Program} {w:World} {K:Frag} {a:Addr} {ps:List (List Key × V)} {kvs:List (D × D)} (ok:ObjOk P w H h a (.dT ps)) (pr:Paired (fun (p:D × D) (q:List Key × V)=>RKeys p.1 q.1 /\ RD K H p.2 q.2) kvs ps) :
 ∃ cd dd sl es ep,h.get? a = some { cls:=cd,dict:=dd,data := .dict es ep,slots:=sl } /\ es.size <= sizeLine /\ Paired (jm K H) kvs es.toList:=by
 obtain ⟨hl,hsm,xs,hkv,o,es,ep,h1,h2,h3,h4,h5⟩:=ok
 obtain ⟨cd,dd,dat,sl⟩:=o
 dsimp only at h3
 subst h3
 have pp:=wN (P:=P) (w:=w) pr hkv
 rw [<- h4] at pp
 refine ⟨cd,dd,sl,es,ep,h1, ?_,pp⟩
 have:=aY pp
 have:=aY pr
 simp at *;omega
theorem yo {pins:List (Addr × Obj)} {σ:St} {H:Hp} {s:Shared} {M:Mem} (I:Inv X pins σ H s) (rm:RM X.K M H) {a:Addr} {t:Bool} {kvs:List (D × D)} (e:M a = some (.dct t kvs)) :
 ∃ cd dd sl es ep,s.heap.get? a = some { cls:=cd,dict:=dd,data := .dict es ep,slots:=sl } /\ es.size <= sizeLine /\ Paired (jm X.K H) kvs es.toList /\ IsD H a:=by
 have ro:=rm a _ e
 cases t with
 | false =>
   obtain ⟨ps,hp,pr⟩:=ro
   obtain ⟨hl,hsm,vs,hkv,o,es,ep,h1,h2,h3,h4,h5,h6⟩:=I.hok a _ hp
   obtain ⟨cd,dd,dat,sl⟩:=o
   dsimp only at h3
   subst h3
   have pp:=wM pr hkv h5
   refine ⟨cd,dd,sl,es,ep,h1, ?_,pp, .inl ⟨_,Rd.of hp⟩⟩
   have:=aY pp
   have:=aY pr
   simp at *;omega
 | true =>
   obtain ⟨ps,hp,pr⟩:=ro
   obtain ⟨cd,dd,sl,es,ep,h1,h2,h3⟩:=mj (I.hok a _ hp) pr
   exact ⟨cd,dd,sl,es,ep,h1,h2,h3, .inr ⟨_,Rd.of hp⟩⟩
end
section
noncomputable def iL (to tk tx:TEd):TEd:=fun ρ M Q=>to ρ M fun x M1 => ∃ a t kvs,x = .ref a /\ M1 a = some (.dct t kvs) /\ tk ρ M1 fun k M2=>tx ρ M2 fun z M3 => ∃ t' kvs',M3 a = some (.dct t' kvs') /\ fS t' k = true /\ Q ((dget kvs' k).getD z) M3
theorem sP {to tk tx:TEd} (h1:ad to) (h2:ad tk) (h3:ad tx):ad (iL to tk tx):=fun ρ M Q Q' i q=>h1 _ _ _ _ (fun x M1 ⟨a,t,kvs,e,e1,q1⟩=>⟨a,t,kvs,e,e1,h2 _ _ _ _ (fun k M2 q2=>h3 _ _ _ _ (fun z M3 ⟨t',kvs',e3,ok,q3⟩=>⟨t',kvs',e3,ok,i _ _ q3⟩) q2) q1⟩) q
section
variable {X:Cx}
theorem Am {K:Frag} {M:Mem} {H:Hp} (rm:RM K M H) {a:Addr} {t:Bool} {kvs:List (D × D)} (e:M a = some (.dct t kvs)):IsD H a:=by
 have ro:=rm a _ e
 cases t with
 | false=>obtain ⟨ps,hp,_⟩:=ro;exact .inl ⟨_,Rd.of hp⟩
 | true=>obtain ⟨ps,hp,_⟩:=ro;exact .inr ⟨_,Rd.of hp⟩
theorem yp {o e f:Expr} {to tk tx:TEd} {apos cpos:Pos} (hu:X.A.units + 1 < cLine) (mo:ad to) (mk:ad tk) (mx:ad tx) (ho:PE X o (lE X.K to)) (he:PE X e (lE X.K tk)) (hf:PE X f (lE X.K tx)) (m:M2 X o "get" apos e f cpos) :
 PE X (.Call (.Attribute o "get" apos) [e,f] [] cpos) (lE X.K (iL to tk tx)):=by
 refine PE.imp (uD hu ho he hf m) fun σ H Q h => ?_
 obtain ⟨ρ,M,rs,rm,q⟩:=h
 refine ⟨ρ,M,rs,rm,mo _ _ _ _ (fun x M1 ⟨a,t,kvs,e,e1,q1⟩ v H1 x1 rm1 rd1 => ?_) q⟩
 subst e
 cases RD.ref_iff.mp rd1
 have rs1:=rs.mono (x1.stab rm)
 refine ⟨a,rfl,Am rm1 e1, ρ,M1,rs1,rm1,mk _ _ _ _ (fun k M2 q2 v2 H2 x2 rm2 rd2 => ?_) q1⟩
 have rs2:=rs1.mono (x2.stab rm1)
 refine ⟨ρ,M2,rs2,rm2,mx _ _ _ _ (fun z M3 ⟨t',kvs',e3,ok,q3⟩ v3 H3 x3 rm3 rd3 => ?_) q2⟩
 obtain ⟨w,g,g1,g2⟩:=on rm3 e3 ok (rd2.mono (x3.stab rm2))
 refine ⟨w,g, ?_⟩
 refine q3 _ H3 (x1.trans (x2.trans x3)) rm3 ?_
 cases e4:dget kvs' k with
 | none=>rw [g2 e4];exact rd3
 | some d =>
   obtain ⟨w',e5,r5⟩:=g1 d e4
   rw [e5];exact r5
end
end
end Mi
end L2
namespace L2
open PySem PySem.Spec PyProof.Rows
namespace Mi
end Mi
end L2
namespace L2
open PySem PySem.Spec PyProof.Rows
namespace Mi
end Mi
end L2
namespace L2
open PySem PySem.Spec PyProof.Rows
namespace Mi
end Mi
end L2
namespace L2
open PySem PySem.Spec PyProof.Rows
section
section
variable {prog:Program} {w:World} {A:Around} {E:Value -> Shared -> Prop} {s:Shared}
theorem yq:typeLookup (.type "list") "keys" = pure none:=by rw [typeLookup_type,builtinLookup_eq_fast];kernel_rfl
theorem yr {l:Addr} {o:Obj} {xs:Array Value} {k:Nat} {Q:Option Value -> Shared -> Prop} (hn:A.handled = none) (ho:s.heap.get? l = some o) (hc:o.cls = .type "list") (hd:o.data = .seq xs k) (hdi:o.dict = none)
 (q:∀ h' tk,(∀ b o,s.heap.get? b = some o -> h'.get? b = some o) -> Q none { s with heap:=h',toks:=tk }):wpAny (model prog w) A (getAttr? (.ref l) "keys") Q E s:=by
 have ty:s.TypeIs (.ref l) "list" := ⟨_,ho,hc⟩
 unfold getAttr?
 unfold mkText
 refine wpAny_bind ?_
 refine wpAny_bind (wpAny_fresh ?_)
 refine wpAny_pure ?_
 unfold getAttrBy?
 refine wpAny_bind (wpAny_attempt ?_)
 unfold getAttrBy
 refine wpAny_holding ?_
 refine wpAny_bind (wpAny_typeOf (s := { s with toks:=s.toks + 1 }) ty ?_)
 refine wpAny_bind (wpAny_of_eq F.slot_list_getattribute.lookup ?_)
 refine wpAny_ite_false (by decide) ?_
 unfold getAttrByItsOwn hookBefore
 rw [if_neg (by decide)]
 refine wpAny_bind (wpAny_pure ?_)
 refine wpAny_bind (wpAny_attempt (wpAny_holding ?_))
 unfold callGetattribute boundAndCalled
 rw [if_neg (by decide)]
 refine wpAny_bind (wpAny_of_eq (F.slot_list_getattribute.bind _) ?_)
 dsimp only
 obtain ⟨cls,dd,dat,sl⟩:=o
 dsimp only at hc hd hdi
 subst hc hd hdi
 refine call_meetsIn F.slot_list_getattribute (s := { s with toks:=s.toks + 1 }) ty am_entry_list_getattribute (F.args_list_getattribute_2 _ _) ((meets_getattribute_miss_list l xs k sl "keys" s.toks yq (by decide) (by decide)).inModel prog w) ⟨ho,hn,fun h' tk a ne => ?_⟩
 ·have ne:s.heap.NewAttrErr h' a (.ref l) "keys" := ne
  obtain ⟨t,u,he⟩:=ne.there
  unfold getattributeRaised
  refine wpAny_bind (wpAny_isInstance (T := "AttributeError") (b:=true) ⟨_,he,rfl⟩ (by rw [isSubtype_type];kernel_rfl) ?_)
  rw [if_pos rfl]
  unfold hookBehind
  rw [if_neg (by decide)]
  refine wpAny_bind (wpAny_of_eq am_list_getattr_none ?_)
  unfold hookOrError attributeErrorLeaves
  dsimp only
  rw [if_pos (by decide)]
  refine wpAny_bind (wpAny_throw ?_)
  refine wpAny_bind (wpAny_isInstance (T := "AttributeError") (b:=true) ⟨_,he,rfl⟩ (by rw [isSubtype_type];kernel_rfl) ?_)
  rw [if_pos rfl]
  exact wpAny_pure (q h' tk ne.keeps)
end
end
section
theorem mn:entryFor table "dict.update.loop" = some Builtin.«dict.update.loop» := entryFor_of_tree (by kernel_rfl)
theorem mq:plainId "dict.update.loop" = true:=by decide +kernel
section
variable {X:Cx} {pins:List (Addr × Obj)} {σ:St} {H:Hp}
noncomputable def PrV (H:Hp) (v:V) (kv:List Key × V):Prop := ∃ t b,v = .ref t /\ H t = some (.tup [.ref b,kv.2]) /\ H b = some (.tup (kv.1.map kV))
noncomputable abbrev bF (kvs:List (List Key × V)):List (List Key × V):=kvs.foldl (fun a kv=>bo a kv.1 kv.2) []
theorem qk (kvs:List (List Key × V)):(bF kvs).length <= kvs.length:=by
 have g:∀ (r:List (List Key × V)) (a:List (List Key × V)),(r.foldl (fun a kv=>bo a kv.1 kv.2) a).length <= a.length + r.length:=by
  intro r
  induction r with
  | nil=>intro a;simp
  | cons x r ih =>
    intro a
    have h1:=ih (bo a x.1 x.2)
    have h2:=cK a x.1 x.2
    simp only [List.foldl_cons,List.length_cons]
    omega
 have:=g kvs []
 simpa using this
theorem iM {α β:Type} {R : α -> β -> Prop}:∀ {l:List α} {m:List β} {i:Nat} {x : α},Paired R l m -> l[i]? = some x -> ∃ y,m[i]? = some y /\ R x y
 | _,_,_,_, .nil,e=>by simp at e
 | _,_,0,_, .cons r _,e=>by simp at e;subst e;exact ⟨_,rfl,r⟩
 | _,_,i + 1,x, .cons _ t,e=>by
   simp at e
   obtain ⟨y,h1,h2⟩:=iM t e
   exact ⟨y,by simpa using h1,h2⟩
theorem yt {A:Around} (hu:A.units + 1 < cLine) (hn:A.handled = none) {l it p:Addr} {vs:List V} {kvs:List (List Key × V)} (hp:H p = none) (hl:H l = some (.lst vs)) (hpr:Paired (PrV H) vs kvs) (hz:vs.length < sizeLine) {R:Result -> Shared -> Prop} (hf:bW X pins H it) (hip:it ≠ p) :
 ∀ (k i:Nat) (s:Shared),vs.length - i = k -> i <= vs.length -> Inv X pins σ (upd H p (.dT (bF (kvs.take i)))) s -> s.heap.IsListIter it l i ->
  (∀ s',Inv X pins σ (upd H p (.dT (bF kvs))) s' -> R (.ok (.ret .none)) s') ->
  codeAny (model X.prog X.w) A (.builtin "dict.update.loop" ⟨[.ref p, .ref it,rawInt i, .none],[]⟩) R s:=by
 have hlp:l ≠ p:=fun z=>by rw [z,hp] at hl;cases hl
 have hlen:vs.length = kvs.length:=Paired.length hpr
 obtain ⟨f0,f1,f2,f3,f4,f5⟩:=hf
 intro k
 induction k with
 | zero =>
   intro i s hk hi I st q
   have hie:i = vs.length:=by omega
   obtain ⟨its,rv,pl,_⟩:=I.list (SqL.of (K:=X.K) ((ai hlp).trans hl))
   refine codeAny_builtin mn ?_
   unfold Builtin.«dict.update.loop»
   dsimp only
   refine wpAny_bind (wpAny_pyNext_list_end hn st pl.isList (by have:=rv.length;simp;omega) fun h' eb => ?_)
   refine wpAny_bind ?_
   unfold Builtin.Dict.addKeywords
   refine wpAny_bind ?_
   have I1:=I.turned (t':=s.toks) (h':=h') (fun b o hb e=>eb b o hb e) ((ai hip).trans f0) f1 f3 f4 f5
   rw [hie,hlen,List.take_length] at I1
   exact wpAny_pure (wpAny_pure (wpAny_pure (q _ I1)))
 | succ k ih =>
   intro i s hk hi I st q
   have hlt:i < vs.length:=by omega
   obtain ⟨its,rv,pl,_⟩:=I.list (SqL.of (K:=X.K) ((ai hlp).trans hl))
   obtain ⟨u,hu1,ru⟩:=rv.get (List.getElem?_eq_getElem hlt)
   obtain ⟨kv,hkv,t,b,hv,ht,hb⟩:=iM hpr (List.getElem?_eq_getElem hlt)
   rw [hv] at ru
   cases (show u = Value.ref t from ru)
   refine codeAny_builtin mn ?_
   rw [Around.under_plain (by rfl) (by rfl)]
   unfold Builtin.«dict.update.loop»
   dsimp only
   refine wpAny_bind (wpAny_pyNext_list_item st pl.isList (x := .ref t) (by simpa using hu1) fun h' st' sb => ?_)
   have I1:=I.turned (t':=s.toks) (h':=h') (fun b o hb e=>(sb.2 b hb).trans e) ((ai hip).trans f0) f1 f3 f4 f5
   dsimp only
   have htp:t ≠ p:=fun z=>by rw [z,hp] at ht;cases ht
   have hbp:b ≠ p:=fun z=>by rw [z,hp] at hb;cases hb
   obtain ⟨tits,rt,tt,_⟩:=I1.tuple (SqT.of (K:=X.K) ((ai htp).trans ht))
   obtain ⟨ob,hob,hoc,nt,hod⟩:=id tt
   cases rt with
   | cons r1 rt =>
     cases rt with
     | cons r2 rt =>
       cases rt
       cases (show _ = Value.ref b from r1)
       rename_i uv
       refine wpAny_bind (wpAny_holding ?_)
       refine wpAny_bind (wpAny_tryCatch ?_)
       unfold Builtin.Dict.pairItems
       refine wpAny_bind (wpAny_typeOf (T := "tuple") (s := { s with heap:=h' }) ⟨ob,hob,hoc⟩ ?_)
       rw [if_pos (by decide)]
       refine wpAny_bind (wpAny_seqItems (s := { s with heap:=h' }) hob hod ?_)
       refine wpAny_pure ?_
       refine wpAny_holding ?_
       obtain ⟨z,hd,xs,rel,dd⟩:=wz (a:=p) I1.hok av
       have hzx:xs.length <= sizeLine:=by rw [<- Paired.length rel];exact z
       have hbH:upd H p (.dT (bF (kvs.take i))) b = some (.tup (kv.1.map kV)):=(ai hbp).trans hb
       have hl2:(bo (bF (kvs.take i)) kv.1 kv.2).length <= sizeLine:=by
        have h1:=cK (bF (kvs.take i)) kv.1 kv.2
        have h2:=qk (kvs.take i)
        rw [List.length_take] at h2
        omega
       have etk:bo (bF (kvs.take i)) kv.1 kv.2 = bF (kvs.take (i + 1)):=by
        unfold bF
        rw [List.take_succ,hkv,List.foldl_append];rfl
       refine wpAny_dictSet_heap (hsz:=hzx) (knd:=tupleKind (aG X.prog X.w)) (tupleKind_room_in1 hu) (fq I1.hok hbH) dd fun h2 dd' hs => ?_
       obtain ⟨q',es,ep,hq,g2,g3,g4,_,g5⟩:=dd'
       have I2:=j8 (t':=s.toks + (tupleKind (aG X.prog X.w)).draws kv.1) I1 (a:=p) (ob := .dT (bo (bF (kvs.take i)) kv.1 kv.2)) (by rw [av];exact True.intro) hs ⟨q',hq⟩ ⟨hl2,hd,_,(rel.put kv.1 hbH r2).keeps fun c ys ec => ?_,q',es,ep,hq,g2,g3,g4,g5⟩
       ·rw [xk,etk] at I2
        refine wpAny_pure ⟨plainId_quiet mq _,ih (i + 1) _ (by omega) (by omega) I2 ?_ q⟩
        exact st'.at fun o e=>(hs.2 it hip).trans e
       ·rw [ai (wk ec av (fun z=>nomatch z))]
        exact ec
end
section
variable {X:Cx}
theorem iN (hu:X.A.units + 16 < cLine) (hc:X.calm = true):CallR X (.type "dict") (fun xs H Q => ∃ l vs kvs,xs = [V.ref l] /\ H l = some (.lst vs) /\ Paired (PrV H) vs kvs /\ vs.length < sizeLine /\ ∀ p,H p = none -> Q (.ref p) (upd H p (.dT (bF kvs)))):=by
 intro pins s σ H xs us Q I r h
 obtain ⟨l,vs,kvs,rfl,hl,hpr,hz,q⟩:=h
 cases r with
 | cons r1 rr =>
 cases rr
 cases (show _ = Value.ref l from r1)
 have hn:=I.ok.hd hc
 have hp:H s.heap.objs.size = none:=I.hok.fresh (Nat.le_refl _)
 have I1:=I.laid (a:=s.heap.objs.size) (o := .dT []) (t':=s.toks) (fun _ _ q=>Heap.get?_push_of_some _ q) (Nat.le_refl _) (kK s.heap I.big)
 have hlp:l ≠ s.heap.objs.size:=fun z=>by rw [z,hp] at hl;cases hl
 refine callType_codes (Q₁ := fun obj s₁ => obj = .ref s.heap.objs.size /\ s₁ = { s with heap:=s.heap.push { cls := .type "dict",data := .dict #[] } }) F.kt_called_dict (F.kt_typeCall_dict_1 _) F.entry_dict_init (kt_code_dict_new _ ⟨rfl,rfl⟩) fun obj s₁ h₁ => ?_
 obtain ⟨rfl,rfl⟩:=h₁
 refine ⟨⟨_,Heap.get?_push_size _ rfl,rfl⟩,F.args_dict_init_2 _ _, ?_⟩
 unfold Builtin.«dict.__init__»
 refine wpAny_bind ?_
 unfold Builtin.Dict.selfAndRest
 unfold Builtin.Dict.notOrdered
 rw [if_pos (by decide)]
 have tyd:Shared.TypeIs { s with heap:=s.heap.push { cls := .type "dict",data := .dict #[] } } (.ref s.heap.objs.size) "dict" := ⟨_,Heap.get?_push_size _ rfl,rfl⟩
 refine wpAny_bind (wpAny_bind (wpAny_typeOf tyd ?_))
 rw [if_neg (by decide)]
 refine wpAny_pure ?_
 refine wpAny_bind (wpAny_pure (wpAny_pure ?_))
 unfold Builtin.Dict.updateCommon Builtin.Dict.updateFrom
 dsimp only
 obtain ⟨its,rv,pl,_⟩:=I1.list (SqL.of (K:=X.K) ((ai hlp).trans hl))
 have il:=pl.isList
 refine wpAny_bind (wpAny_typeOf il.typeIs ?_)
 rw [if_pos (by decide)]
 obtain ⟨ob,nn,e1,hcl,hdc,hda⟩:=id pl
 refine wpAny_bind (yr hn e1 hcl hda hdc fun h1 tk kp => ?_)
 rw [if_pos (show (none:Option Value).isNone = true from rfl)]
 refine wpAny_bind (wpAny_rule ?_)
 have I2:=I1.kept (t':=tk) kp
 refine wpAny_bind (wpAny_pyIter_list (s := { s with heap:=h1,toks:=tk }) (PlainL.isList (⟨ob,nn,kp _ _ e1,hcl,hdc,hda⟩)) ?_)
 have I3:=I2.kept (t':=tk) (h':=h1.push { cls := .type "list_iterator",data := .fields #[.ref l, .int 0 0] }) fun b o e=>Heap.get?_push_of_some _ e
 refine wpAny_pure ⟨plainId_quiet mq _, ?_⟩
 have hle:s.heap.objs.size < h1.objs.size:=Heap.lt_size (kp _ _ (Heap.get?_push_size _ rfl))
 have hf:bW X pins H h1.objs.size:=by
  have:=I2.fpOk (H':=upd H s.heap.objs.size (.dT [])) (Nat.le_refl _) (I2.hok.fresh (Nat.le_refl _))
  exact ⟨by rw [<- this.1,ai (Nat.ne_of_gt hle)],this.2⟩
 refine yt (A:=X.A.in1) (X:=X) (pins:=pins) (σ := σ) (H:=H) (p:=s.heap.objs.size) (kvs:=kvs) (by have:X.A.in1.units = X.A.units + 1:=rfl;omega) hn hp hl hpr hz hf (Nat.ne_of_gt hle) vs.length 0 _ (by omega) (by omega) I3 ⟨_,Heap.get?_push_size _ rfl,rfl,rfl⟩ fun s' I' => ?_
 exact ⟨rfl, .ref s.heap.objs.size,_,I',rfl,q _ hp⟩
end
end
end L2
namespace L2
namespace Mi
open PySem PySem.Spec PyProof.Rows
section
section
variable {X:Cx}
noncomputable def ql (kvs:List (D × D)):List (D × D):=kvs.foldl (fun a kv=>cj a kv.1 kv.2) []
noncomputable def qm:RAd:=fun ds M Q => ∃ a kvs,ds = [.ref a] /\ M a = some (.lst (kvs.map fun kv:D × D => .tup [kv.1,kv.2])) /\ (∀ kv ∈ kvs,bZ kv.1 = true) /\ kvs.length < sizeLine /\ ∀ p,M p = none -> Q (.ref p) (aj M p (.dct true (ql kvs)))
theorem kb:aZ qm:=fun _ _ _ _ h ⟨a,kvs,e,e1,e2,e3,q⟩=>⟨a,kvs,e,e1,e2,e3,fun p n=>h _ _ (q p n)⟩
theorem mv {K:Frag} {H:Hp}:∀ {kvs:List (D × D)} {vs:List V},RDs K H (kvs.map fun kv:D × D => .tup [kv.1,kv.2]) vs -> (∀ kv ∈ kvs,bZ kv.1 = true) ->
 ∃ ps:List (List Key × V),Paired (PrV H) vs ps /\ Paired (fun (p:D × D) (q:List Key × V)=>RKeys p.1 q.1 /\ RD K H p.2 q.2) kvs ps
 | [],vs,r,_=>by rw [RDs.nil_iff.mp r];exact ⟨[], .nil, .nil⟩
 | kv :: kvs,vs,r,h=>by
   rw [List.map_cons] at r
   obtain ⟨v,vr,rfl,r1,r2⟩:=RDs.cons_iff.mp r
   obtain ⟨ps,h1,h2⟩:=mv r2 fun x hx=>h x (List.mem_cons_of_mem _ hx)
   obtain ⟨t,us,rfl,ht,ru⟩:=RD.tup_iff.mp r1
   obtain ⟨u1,ur,rfl,q1,ru⟩:=RDs.cons_iff.mp ru
   obtain ⟨u2,ur2,rfl,q2,ru⟩:=RDs.cons_iff.mp ru
   rw [RDs.nil_iff.mp ru] at ht
   have hk:=h kv (List.mem_cons_self ..)
   obtain ⟨k,v⟩:=kv
   obtain ⟨ks,hks⟩:=ja hk
   cases k <;> first
    | exact hks.elim
    | (obtain ⟨b,ws,rfl,hb,rw'⟩:=RD.tup_iff.mp q1
       rw [eO hks rw'] at hb
       exact ⟨(ks,u2) :: ps, .cons ⟨t,b,rfl,ht,hb⟩ h1, .cons ⟨hks,q2⟩ h2⟩)
theorem mw {K:Frag} {H:Hp}:∀ {kvs:List (D × D)} {ps:List (List Key × V)} {a:List (D × D)} {b:List (List Key × V)},Paired (fun (p:D × D) (q:List Key × V)=>RKeys p.1 q.1 /\ RD K H p.2 q.2) kvs ps -> Paired (fun (p:D × D) (q:List Key × V)=>RKeys p.1 q.1 /\ RD K H p.2 q.2) a b ->
 Paired (fun (p:D × D) (q:List Key × V)=>RKeys p.1 q.1 /\ RD K H p.2 q.2) (kvs.foldl (fun a kv=>cj a kv.1 kv.2) a) (ps.foldl (fun a kv=>bo a kv.1 kv.2) b)
 | _,_,_,_, .nil,h=>h
 | _,_,_,_, .cons r t,h=>by
   have g:=mw t (gO (RK:=RKeys) RKeys.inj RKeys.fun r.1 r.2 h)
   exact g
theorem nP (hu:X.A.units + 16 < cLine) (hc:X.calm = true):CallR X (.type "dict") (lR X.K qm):=by
 refine CallR.of (iN hu hc) fun vs H Q h => ?_
 obtain ⟨ds,M,rm,rs,a,kvs,rfl,e,hk,hz,q⟩:=h
 obtain ⟨v,rfl,r⟩:=rs.one
 cases RD.ref_iff.mp r
 obtain ⟨us,ha,ru⟩:=rm _ _ e
 obtain ⟨ps,h1,h2⟩:=mv ru hk
 refine ⟨a,us,ps,rfl,ha,h1,by rw [ru.length,List.length_map];exact hz,fun p n => ?_⟩
 have st:Stab H (upd H p (.dT (bF ps))):=(Ext.new' (M:=M) n).stab rm
 exact q p (rm.out n) (.ref p) _ (Ext.lay n) (rm.lay n ⟨_,av,Paired.mapP (mw h2 .nil) fun _ _ z=>⟨z.1,z.2.mono st⟩⟩) (RD.ref_iff.mpr rfl)
end
end
section
section
variable {K:Frag} {p:Addr}
theorem Paired.len {α β:Type} {R : α -> β -> Prop}:∀ {a:List α} {b:List β},Paired R a b -> a.length = b.length
 | _,_, .nil=>rfl
 | _,_, .cons _ t=>by rw [List.length_cons,List.length_cons,Paired.len t]
end
end
end Mi
end L2
namespace L2
namespace Dk
open PySem PySem.Spec PyProof.Rows
section
variable {prog:Program} {w:World} {A:Around} {E:Value -> Shared -> Prop} {s:Shared}
noncomputable def kO (d:Addr) (i n ep:Nat):Obj := { cls := .type "dict_keyiterator",data := .fields #[.ref d, .int i 0, .int n 0, .int ep 0] }
theorem slot_next:Slot "dict_keyiterator" "__next__" "dict_keyiterator.__next__" := .of (owner := "dict_keyiterator") (n := "__next__") (by rw [typeLookup_type,builtinLookup_eq_fast];kernel_rfl) (by decide +kernel) (by decide +kernel) (by decide +kernel) (.inl (by decide +kernel)) (by rw [isSubtype_type];kernel_rfl)
theorem iO:entryFor table "dict_keyiterator.__next__" = some Builtin.«dict_keyiterator.__next__» := entryFor_of_tree (by kernel_rfl)
theorem kc (a:Value):argsOk "dict_keyiterator.__next__" ⟨[a],[]⟩:=by unfold argsOk;kernel_rfl
theorem sQ {it:Addr} (ty:s.TypeIs (.ref it) "dict_keyiterator") {types:List String} {Q:Bool -> Shared -> Prop} (q:Q (types.any fun t => [Value.type "dict_keyiterator",Value.type "object"].contains (Value.type t)) s):wpAny (model prog w) A (Builtin.Dict_items.isOneOf (.ref it) types) Q E s:=by
 have hm:=mroOf_keyiter
 unfold Builtin.Dict_items.isOneOf
 wp_walk
 exact q
theorem nx_item {it d:Addr} {i ep:Nat} {cd:Value} {dd:Option Addr} {sl:Array (Option Value)} {es:Array DictEntry} {e:DictEntry} {Q:Option Value -> Shared -> Prop} (hi:s.heap.get? it = some (kO d i es.size ep)) (hd:s.heap.get? d = some { cls:=cd,dict:=dd,data := .dict es ep,slots:=sl }) (he:es[i]? = some e)
 (q:∀ h',h'.get? it = some (kO d (i + 1) es.size ep) -> Heap.SameBut it s.heap h' -> Q (some e.key) { s with heap:=h' }):wpAny (model prog w) A (pyNext (.ref it)) Q E s:=by
 have ty:s.TypeIs (.ref it) "dict_keyiterator" := ⟨_,hi,rfl⟩
 unfold pyNext
 refine wpAny_bind (wpAny_attempt (wpAny_callSpecial?_slot (name:=Str.ofString "__next__") ty slot_next (wpAny_call_entry slot_next ty iO ?_ (kc _))))
 unfold Builtin.«dict_keyiterator.__next__»
 have hm:=mroOf_keyiter
 wp_walk
 dsimp only
 rw [if_neg (by simp)]
 simp only [Int.toNat_natCast,he]
 refine wpAny_bind (wpAny_mono (Q:=fun n s'=>n = 0 /\ s' = s) ?_ (fun n s' hs => ?_) fun _ _ z=>z)
 ·wp_walk
  exact ⟨by kernel_rfl,rfl⟩
 obtain ⟨rfl,rfl⟩:=hs
 refine wpAny_bind (sQ ty ?_)
 refine wpAny_bind (wpAny_setField_rec hi (by simp) fun h1 e1 s1 => ?_)
 rw [if_neg (by decide +kernel)] at e1
 have e1:h1.get? it = some (kO d (i + 1) es.size ep):=e1
 have ty1:Shared.TypeIs { s' with heap:=h1 } (.ref it) "dict_keyiterator" := ⟨_,e1,rfl⟩
 refine wpAny_bind (wpAny_holding ?_)
 refine wpAny_bind (sQ ty1 ?_)
 refine wpAny_ite_true (by decide +kernel) ?_
 refine wpAny_pure (wpAny_pure ⟨_,rfl,wpAny_pure ?_⟩)
 exact q h1 e1 s1
theorem nx_end {it d:Addr} {ep:Nat} {cd:Value} {dd:Option Addr} {sl:Array (Option Value)} {es:Array DictEntry} {Q:Option Value -> Shared -> Prop} (hn:A.handled = none) (hi:s.heap.get? it = some (kO d es.size es.size ep)) (hd:s.heap.get? d = some { cls:=cd,dict:=dd,data := .dict es ep,slots:=sl })
 (q:∀ h',(∀ b o,b ≠ it -> s.heap.get? b = some o -> h'.get? b = some o) -> Q none { s with heap:=h' }):wpAny (model prog w) A (pyNext (.ref it)) Q E s:=by
 have ty:s.TypeIs (.ref it) "dict_keyiterator" := ⟨_,hi,rfl⟩
 unfold pyNext
 refine wpAny_bind (wpAny_attempt (wpAny_callSpecial?_slot (name:=Str.ofString "__next__") ty slot_next (wpAny_call_entry slot_next ty iO ?_ (kc _))))
 unfold Builtin.«dict_keyiterator.__next__»
 have hm:=mroOf_keyiter
 wp_walk
 dsimp only
 rw [if_neg (by simp)]
 have he:es[es.size]? = none:=Array.getElem?_eq_none (Nat.le_refl _)
 simp only [Int.toNat_natCast,he]
 refine wpAny_bind (wpAny_mono (Q:=fun n s'=>n = 0 /\ s' = s) ?_ (fun n s' hs => ?_) fun _ _ z=>z)
 ·wp_walk
  exact ⟨by kernel_rfl,rfl⟩
 obtain ⟨rfl,rfl⟩:=hs
 refine wpAny_bind (wpAny_setField_rec hi (by simp) fun h1 e1 s1 => ?_)
 refine wpAny_bind (m:=newExc (.type "StopIteration") []) ?_
 simp only [newExc,newTuple]
 refine wpAny_bind (wpAny_newObj_type ?_ (by size_fits))
 refine wpAny_bind (m:=firstArgMember _ _) (wpAny_of_eq (a:=Value.none) (by first | rfl | (simp only [firstArgMember];rfl)) (wpAny_newObj_type ?_ (by size_fits)))
 simp only [raiseNew]
 refine wpAny_bind (wpAny_handled ?_)
 first | rw [show A.in1.handled = none from hn] | rw [hn]
 refine wpAny_bind (wpAny_pure (wpAny_throw ?_))
 exact wpAny_bind (wpAny_isInstance (T := "StopIteration") (b:=true) ⟨_,Heap.get?_push_size _ rfl,rfl⟩ isSubtype_stop (wpAny_pure (q _ fun b o hb e=>Heap.get?_push_of_some _ (Heap.get?_push_of_some _ (s1.extBut b o hb e)))))
theorem it_dict {d:Addr} {es:Array DictEntry} {ep:Nat} {dd:Option Addr} {sl:Array (Option Value)} {Q:Value -> Shared -> Prop} (hsm:(d == sysModules) = false) (hd:s.heap.get? d = some { cls := .type "dict",dict:=dd,data := .dict es ep,slots:=sl })
 (q:Q (.ref s.heap.objs.size) { s with heap:=s.heap.push (kO d 0 es.size ep) }):wpAny (model prog w) A (pyIter (.ref d)) Q E s:=by
 have ty:s.TypeIs (.ref d) "dict" := ⟨_,hd,rfl⟩
 refine wpAny_pyIter_slot ty F.slot_dict_iter (wpAny_call_entry F.slot_dict_iter ty F.entry_dict_iter ?_ (F.args_dict_iter_1 _))
 unfold Builtin.«dict.__iter__»
 wp_walk
 exact ⟨_,rfl, "dict_keyiterator",_,⟨_,Heap.get?_push_size _ rfl,rfl⟩,slot_next.lookup,q⟩
theorem walk (hn:A.handled = none) (it d:Addr) (hne:d ≠ it) (es:Array DictEntry) (ep:Nat) :
 Walks prog w A it [it,d] [it] es.size (fun i v => ∃ e,es[i]? = some e /\ v = e.key) (fun i h=>h.get? it = some (kO d i es.size ep) /\ ∃ cd dd sl,h.get? d = some { cls:=cd,dict:=dd,data := .dict es ep,slots:=sl }) where
 sub:=fun b hb=>by simp at hb;simp [hb]
 frame:=fun _ _ _ st k=>⟨k it (by simp) _ st.1,by obtain ⟨cd,dd,sl,h⟩:=st.2;exact ⟨cd,dd,sl,k d (by simp) _ h⟩⟩
 item:=fun i s Q E hi st q=>by
  obtain ⟨h1,cd,dd,sl,h2⟩:=st
  refine nx_item (e:=es[i]) h1 h2 (Array.getElem?_eq_getElem hi) fun h' e' s' => ?_
  exact q _ h' s.toks ⟨_,Array.getElem?_eq_getElem hi,rfl⟩ ⟨e',cd,dd,sl,s'.extBut d _ hne h2⟩ fun b o hb x=>s'.extBut b o (fun z=>hb (by simp [z])) x
 done:=fun s Q E st q=>by
  obtain ⟨h1,cd,dd,sl,h2⟩:=st
  exact nx_end hn h1 h2 fun h' k=>q h' s.toks fun b o hb x=>k b o (fun z=>hb (by simp [z])) x
 self:=fun i s Q E st q=>wpAny_pyIter_keyiter ⟨_,st.1,rfl,rfl⟩ q
theorem sR {d:Addr} {Q:Bool -> Shared -> Prop} (ty:s.TypeIs (.ref d) "dict") (q:Q false s):wpAny (model prog w) A (Builtin.List.listLengthHint (.ref d)) Q E s:=by
 unfold Builtin.List.listLengthHint
 refine wpAny_bind (wpAny_specialOf ty F.slot_dict_len.lookup ?_)
 generalize hid:("dict.__len__":String) = id0
 (fail_if_success (clear hid id0));wp_delta
 rw [show splitId id0 = some ("dict", "__len__") from by subst hid;decide +kernel]
 subst hid
 refine wpAny_bind (wpAny_isInstance (b:=true) ty (by rw [isSubtype_type];kernel_rfl) ?_)
 rw [if_neg (by decide)]
 refine wpAny_ite_true (by decide +kernel) ?_
 refine wpAny_bind (wpAny_typeOf ty ?_)
 exact wpAny_pure q
open Builtin.List in
theorem vz (hn:A.handled = none) {S d:Addr} {es:Array DictEntry} {ep c:Nat} {dd:Option Addr} {sl:Array (Option Value)} {R:Result -> Shared -> Prop} (res:Value) (hsm:(d == sysModules) = false) (hd:s.heap.get? d = some { cls := .type "dict",dict:=dd,data := .dict es ep,slots:=sl }) (hS:s.heap.get? S = some { cls := .type "list",data := .seq #[] c }) (hz:es.size <= sizeLine)
 (q:∀ (h':Heap) (tk:Nat) (acc':Array Value) (c':Nat),(∀ b o,b ≠ S -> s.heap.get? b = some o -> h'.get? b = some o) -> h'.get? S = some { cls := .type "list",data := .seq acc' c' } -> acc'.toList = es.toList.map (·.key) -> s.toks <= tk -> R (.ok (.ret res)) { s with heap:=h',toks:=tk }) :
 wpAny (model prog w) A.in1 (listExtendWith (.ref S) (.ref d) res) (fun fin s'=>match fin with | .done f=>R (.ok f) s' | .again c'=>c'.quiet = true /\ codeAny (model prog w) A c' R s') (fun e s'=>R (.error e) s') s:=by
 have ty:s.TypeIs (.ref d) "dict" := ⟨_,hd,rfl⟩
 have hSd:S ≠ d:=fun e=>by rw [e,hd] at hS;simp at hS
 have h1:listSameRef (.ref S) (.ref d) = false:=by simp [listSameRef,hSd]
 unfold listExtendWith
 refine wpAny_bind (wpAny_typeOf ty ?_)
 rw [if_neg (by rw [h1];decide)]
 refine wpAny_bind (it_dict hsm hd ?_)
 refine wpAny_bind (wpAny_holding (sR (s := { s with heap:=s.heap.push (kO d 0 es.size ep) }) ⟨_,Heap.get?_push_of_some _ hd,rfl⟩ ?_))
 have hSlt:=Heap.lt_size hS
 have hdlt:=Heap.lt_size hd
 have W:=(walk (prog:=prog) (w:=w) (A:=A.in1) hn s.heap.objs.size d (Nat.ne_of_lt hdlt) es ep).toS
 have hSf:S ∉ [s.heap.objs.size,d]:=fun hm=>by
  simp only [List.mem_cons,List.not_mem_nil,or_false] at hm
  rcases hm with e | e
  ·exact absurd (e ▸ hSlt) (Nat.lt_irrefl _)
  ·exact hSd e
 refine wpAny_ite_true (by decide +kernel) ?_
 refine wpAny_bind (wpAny_rule ?_)
 unfold listTouch
 have hS1:(s.heap.push (kO d 0 es.size ep)).get? S = some (seqObj "list" #[] c):=Heap.get?_push_of_some _ hS
 refine wpAny_bind (wpAny_bind (listUpdate_at hS1 rfl ?_ (by simp) (by simp)))
 have hS2:=get?_update_seq hS1 (fun x=>x.push Value.none)
 refine listUpdate_at hS2 rfl ?_ (by simp;decide) (by simp)
 have hS3:=get?_update_seq hS2 (fun x=>x.pop)
 have oth:∀ b o,b ≠ S -> s.heap.get? b = some o -> (((s.heap.push (kO d 0 es.size ep)).update S (Obj.mapSeq fun x=>x.push Value.none)).update S (Obj.mapSeq fun x=>x.pop)).get? b = some o:=fun b o hb e=>by
  rw [Heap.get?_update_ne _ _ _ _ hb,Heap.get?_update_ne _ _ _ _ hb]
  exact Heap.get?_push_of_some _ e
 have hit:(((s.heap.push (kO d 0 es.size ep)).update S (Obj.mapSeq fun x=>x.push Value.none)).update S (Obj.mapSeq fun x=>x.pop)).get? s.heap.objs.size = some (kO d 0 es.size ep):=by
  rw [Heap.get?_update_ne _ _ _ _ (Nat.ne_of_gt hSlt),Heap.get?_update_ne _ _ _ _ (Nat.ne_of_gt hSlt)]
  exact Heap.get?_push_size _ rfl
 refine wpAny_pure ⟨plainId_quiet F.plain_extend_loop _,codeAny_extend_loopS W hz _ hSf _ es.size 0 _ _ _ rfl (Nat.zero_le _) ⟨hit,_,_,_,oth d _ hSd.symm hd⟩ hS3 (ItemsOf.nil _) fun s' acc c' hm hS' ha => ?_⟩
 rw [hm.eq_with]
 refine q _ _ acc c' (fun b o hb e => ?_) hS' ?_ hm.toks
 ·exact hm.heap b o (fun z=>by
   simp only [List.mem_cons,List.not_mem_nil,or_false] at z
   rcases z with z | z
   ·exact hb z
   ·exact absurd (z ▸ Heap.lt_size e) (Nat.lt_irrefl _)) (oth b o hb e)
 ·obtain ⟨g1,g2⟩:=ha
  apply List.ext_getElem?
  intro j
  rw [Array.getElem?_toList,List.getElem?_map,Array.getElem?_toList]
  by_cases hj:j < es.size
  ·obtain ⟨e,he,hv⟩:=g2 j (acc[j]'(by omega)) (Array.getElem?_eq_getElem (by omega))
   rw [Array.getElem?_eq_getElem (by omega),hv,he];rfl
  ·rw [Array.getElem?_eq_none (by omega),Array.getElem?_eq_none (by omega)];rfl
theorem collect_dict (hn:A.handled = none) {d:Addr} {es:Array DictEntry} {ep:Nat} {dd:Option Addr} {sl:Array (Option Value)} {Q:List Value -> Shared -> Prop} (hsm:(d == sysModules) = false) (hd:s.heap.get? d = some { cls := .type "dict",dict:=dd,data := .dict es ep,slots:=sl }) (hz:es.size <= sizeLine)
 (q:∀ (h':Heap) (tk:Nat),(∀ b o,s.heap.get? b = some o -> h'.get? b = some o) -> s.toks <= tk -> Q (es.toList.map (·.key)) { s with heap:=h',toks:=tk }):wpAny (model prog w) A (collect (.ref d)) Q E s:=by
 unfold collect
 refine wpAny_bind (wpAny_runValue (codeAny_builtin F.entry_proto_collect ?_))
 unfold Builtin.«proto.collect»
 dsimp only
 refine wpAny_bind (wpAny_newList ?_ (by simp))
 refine wpAny_pure ⟨Code.quiet_builtin _ (by decide +kernel), ?_⟩
 refine codeAny_builtin entry_list_iadd' ?_
 unfold Builtin.«list.__iadd__»
 refine wpAny_bind (wpAny_of_eq (a:=(Value.ref s.heap.objs.size,[Value.ref d])) (by kernel_rfl) ?_)
 have hS0:(s.heap.push { cls:=Value.type "list",data:=Data.seq [].toArray }).get? s.heap.objs.size = some { cls:=Value.type "list",data:=Data.seq #[] 0 }:=Heap.get?_push_size _ rfl
 rw [Around.under_plain (by rfl) (by rfl)]
 refine wpAny_mono (vz (s := { s with heap:=s.heap.push { cls:=Value.type "list",data:=Data.seq [].toArray } }) (R:=fun r s'=>r = .ok (.ret (.ref s.heap.objs.size)) /\ wpAny (model prog w) A (do
  let o <- load s.heap.objs.size
  match o.data with
  | .seq xs _=>pure xs.toList
  | _=>unsupported "internal:collect") Q E s') hn (Value.ref s.heap.objs.size) hsm (Heap.get?_push_of_some _ hd) hS0 hz fun h' tk acc c' kp hS' ha htk=>⟨rfl, ?_⟩) (fun fn s' h => ?_) (fun e s' h => ?_)
 ·refine wpAny_bind (wpAny_load hS' ?_)
  refine wpAny_pure ?_
  rw [ha]
  exact q h' tk (fun b o e=>kp b o (Nat.ne_of_lt (Heap.lt_size e)) (Heap.get?_push_of_some _ e)) htk
 ·cases fn with
  | done f =>
    obtain ⟨e,h⟩:=h
    cases e
    exact h
  | again c' =>
    refine ⟨h.1,codeAny_mono h.2 fun r s1 hr => ?_⟩
    obtain ⟨rfl,hr⟩:=hr
    exact hr
 ·cases h.1
end
end Dk
end L2
namespace L2
namespace Mi
open PySem PySem.Spec PyProof.Rows L2.Srt
noncomputable def mz:RAd:=fun ds M Q => ∃ a t kvs sh,ds = [.ref a] /\ M a = some (.dct t kvs) /\ jl sh = true /\ (∀ kv ∈ kvs,hs sh kv.1 = true) /\ ∀ p ys,M p = none -> ys.Perm (kvs.map (·.1)) -> mf ys -> Q (.ref p) (aj M p (.lst ys))
theorem iP:aZ mz:=fun _ _ _ _ h ⟨a,t,kvs,sh,e,e1,e2,e3,q⟩=>⟨a,t,kvs,sh,e,e1,e2,e3,fun p ys n hp hs=>h _ _ (q p ys n hp hs)⟩
theorem oF {K:Frag} {H:Hp}:∀ {kvs:List (D × D)} {es:List DictEntry},Paired (jm K H) kvs es -> ∃ vs,RDs K H (kvs.map (·.1)) vs /\ Vals vs (es.map (·.key))
 | _,_, .nil=>⟨[],RDs.nil, .nil⟩
 | _,_, .cons r t=>by
   obtain ⟨vs,h1,h2⟩:=oF t
   obtain ⟨kV,vV,g1,g2,_,_⟩:=r
   exact ⟨kV :: vs,RDs.cons g1 h1, .cons g2 h2⟩
section
variable {X:Cx}
theorem mC (hu:X.A.units + 16 < cLine) (hc:X.calm = true):CallR X (.builtin "sorted") (lR X.K mz):=by
 intro pins s σ H xs us Q I r h
 obtain ⟨ds,M,rm,rs,a,t,kvs,sh,rfl,e,hok,hsh,q⟩:=h
 obtain ⟨v,rfl,rv⟩:=rs.one
 obtain ⟨u,rfl,ru⟩:=dD r
 cases RD.ref_iff.mp rv
 cases (show u = Value.ref a from ru)
 obtain ⟨cd,dd,sl,es,ep,hd,hz,hpr,hD⟩:=yo I rm e
 obtain ⟨t1,t2,hsm⟩:=ic I hD
 obtain ⟨vs,h1,h2⟩:=oF hpr
 have hcd:cd = .type "dict" := by
  obtain ⟨o,g1,g2⟩:=t1
  rw [hd] at g1;cases g1;exact g2
 subst hcd
 have hn:X.A.in1.handled = none:=I.ok.hd hc
 exact nO hu I rm h1 hok (fun d hd=>by
  obtain ⟨kv,hkv,rfl⟩:=List.mem_map.mp hd
  exact hsh kv hkv) q h2 (by have:=h2.length;rw [List.length_map] at this;simp at this;omega) fun E R hR=>Dk.collect_dict hn hsm hd hz fun h' tk kp htk=>hR h' tk kp htk
end
end Mi
end L2
namespace L2
open PySem PySem.Spec PyProof.Rows
section
section
variable {X:Cx} {pins:List (Addr × Obj)} {σ:St} {H:Hp} {s:Shared}
theorem yu {x:V} {u:Value} {t:String} (I:Inv X pins σ H s) (rx:RelV x u) (ty:bX X.K H x (.type t)):∃ P,PySem.W.KitX X.K u (.type t) P /\ P s.heap /\ u ≠ Value.builtin "__main__.__loader__#opaque" := by
 generalize hT:Value.type t = T at ty
 cases ty with
 | non=>cases (show u = Value.none from rx);exact ⟨_,PySem.W.kitx_none,True.intro,fun z=>nomatch z⟩
 | bl y=>cases (show u = Value.bool y from rx);exact ⟨_,PySem.W.kitx_bool,True.intro,fun z=>nomatch z⟩
 | int i=>obtain ⟨t,rfl⟩:=(show ∃ t,u = Value.int i t from rx);exact ⟨_,PySem.W.kitx_int,True.intro,fun z=>nomatch z⟩
 | str y=>obtain ⟨t,rfl⟩:=(show ∃ t,u = Value.str y t from rx);exact ⟨_,PySem.W.kitx_str,True.intro,fun z=>nomatch z⟩
 | flt y=>obtain ⟨t,rfl⟩:=(show ∃ t,u = Value.float y t from rx);exact ⟨_,PySem.W.kitx_float,True.intro,fun z=>nomatch z⟩
 | @lst a xs ea =>
  cases (show u = Value.ref a from rx)
  obtain ⟨_,_,n,_,h1⟩:=(show ObjOk X.prog X.w H s.heap a (.lst xs) from I.hok a _ ea)
  exact ⟨_,PySem.W.kitx_list,⟨_,h1,rfl⟩,fun z=>nomatch z⟩
 | @frz a ob xs ea =>
  cases (show u = Value.ref a from rx)
  obtain ⟨_,_,_,n,_,h1⟩:=(show ObjOk X.prog X.w H s.heap a (.frz ob (.lst xs)) from I.hok a _ ea)
  exact ⟨_,PySem.W.kitx_list,⟨_,h1,rfl⟩,fun z=>nomatch z⟩
 | @tup a xs ea =>
  cases (show u = Value.ref a from rx)
  obtain ⟨_,_,_,o,h1,h2,_⟩:=(show ObjOk X.prog X.w H s.heap a (.tup xs) from I.hok a _ ea)
  exact ⟨_,PySem.W.kitx_tuple,⟨o,h1,h2⟩,fun z=>nomatch z⟩
 | @dK a kvs ea =>
  cases (show u = Value.ref a from rx)
  obtain ⟨_,_,vs,_,o,es,ep,h1,h2,_⟩:=(show ObjOk X.prog X.w H s.heap a (.dK kvs) from I.hok a _ ea)
  exact ⟨_,PySem.W.kitx_dict,⟨o,h1,h2.1⟩,fun z=>nomatch z⟩
 | @dT a kvs ea =>
  cases (show u = Value.ref a from rx)
  obtain ⟨_,_,xs,_,o,es,ep,h1,h2,_⟩:=(show ObjOk X.prog X.w H s.heap a (.dT kvs) from I.hok a _ ea)
  exact ⟨_,PySem.W.kitx_dict,⟨o,h1,h2.1⟩,fun z=>nomatch z⟩
 | ins=>cases hT
end
namespace Mi
section
variable {X:Cx}
theorem yv (K:Frag) {T U:String} (hT:T ∈ ["bool", "int", "str", "tuple", "list", "dict"]) (hU:U ∈ ["bool", "int", "str", "tuple", "list", "dict"]) {t:String} (ht:t ∈ cq):PySem.W.kitAny K (.type t) [.type T, .type U] = some (du T t || du U t):=by
 have h1:=jg K T hT t ht
 have h2:=jg K U hU t ht
 unfold PySem.W.kitAny
 rw [h1]
 cases e1:du T t with
 | true=>rfl
 | false =>
   dsimp only
   unfold PySem.W.kitAny
   rw [h2]
   cases du U t <;> rfl
theorem qo {T U:String} (hT:T ∈ ["bool", "int", "str", "tuple", "list", "dict"]) (hU:U ∈ ["bool", "int", "str", "tuple", "list", "dict"]):CallR X (.builtin "isinstance") (fun vs H Q => ∃ v t p,vs = [v, .ref p] /\ H p = some (.tup [.ty T, .ty U]) /\ bX X.K H v (.type t) /\ t ∈ cq /\ Q (.bl (du T t || du U t)) H):=by
 intro pins s σ H xs us Q I r h
 obtain ⟨v,t,p,rfl,hp,ty,ht,q⟩:=h
 obtain ⟨u,c,rfl,ru,rc⟩:=kr r
 cases (show c = Value.ref p from rc)
 obtain ⟨P,g1,g2,g3⟩:=yu I ru ty
 obtain ⟨_,its,rv,⟨cls,dd,dat,sl⟩,h1,h2,n,h3⟩:=(show ObjOk X.prog X.w H s.heap p (.tup [.ty T, .ty U]) from I.hok p _ hp)
 dsimp only at h2 h3
 subst h2 h3
 cases rv with
 | cons r1 rv =>
 cases rv with
 | cons r2 rv =>
 cases rv
 cases r1
 cases r2
 exact PySem.W.kia_tup g1 I.kIn g2 h1 (yv X.K hT hU ht) g3 fun tk=>⟨.bl _,H,I.tok tk,rfl,q⟩
noncomputable def fG (T U:String) (ta:TEd):TEd:=fun ρ M Q=>ta ρ M fun x M1 => ∃ t,tyN M1 x = some t /\ Q (.bl (du T t || du U t)) M1
theorem qp {T U:String} {ta:TEd} (h:ad ta):ad (fG T U ta):=fun ρ M Q Q' i q=>h _ _ _ _ (fun x M1 ⟨t,e,q1⟩=>⟨t,e,i _ _ q1⟩) q
theorem vA {e:Expr} {ta:TEd} {T U:String} {y z:Str} {k:Nat} {p p2 p3 p4 pos:Pos} (hT:T ∈ ["bool", "int", "str", "tuple", "list", "dict"]) (hU:U ∈ ["bool", "int", "str", "tuple", "list", "dict"]) (m:ad ta) (he:PE X e (lE X.K ta)) (hg:Gl X "isinstance") (hm:X.mg "isinstance" = none)
 (hg2:Gl X y) (hm2:X.mg y = none) (hv:bootBuiltins y = some (.type T)) (hn:y ≠ "__name__") (hdb:(y == ("__debug__":Str)) = false)
 (hg3:Gl X z) (hm3:X.mg z = none) (hv3:bootBuiltins z = some (.type U)) (hn3:z ≠ "__name__") (hdb3:(z == ("__debug__":Str)) = false)
 (hs:starEach [e, .Tuple [.Name y p2, .Name z p3] k p4] X.env = (false,eval e X.env) :: starEach [.Tuple [.Name y p2, .Name z p3] k p4] X.env) :
 PE X (.Call (.Name "isinstance" p) [e, .Tuple [.Name y p2, .Name z p3] k p4] [] pos) (lE X.K (fG T U ta)):=by
 have h2:PE X (.Name y p2) (tC (.ty T)):=j6 hg2 hm2 hv rfl hn hdb
 have h3:PE X (.Name z p3) (tC (.ty U)):=j6 hg3 hm3 hv3 rfl hn3 hdb3
 have h4:PE X (.Tuple [.Name y p2, .Name z p3] k p4) _:=rh (cB h2 (cB h3 i6 rfl) rfl)
 refine PE.imp (ci (qo hT hU) hg hm (by decide +kernel) (cB he (cB h4 i6 rfl) hs) (by decide) (by decide) hs rfl) fun σ H Q h => ?_
 obtain ⟨ρ,M,rs,rm,q⟩:=h
 refine ⟨ρ,M,rs,rm,m _ _ _ _ (fun x M1 ⟨t,e,q1⟩ v H1 x1 rm1 rd1 => ?_) q⟩
 refine ⟨by simp;decide,fun pp n => ?_⟩
 have st:=(Ext.new' (M:=M1) (ho := .tup [.ty T, .ty U]) n).stab rm1
 have rm2:=rm1.new (ho := .tup [.ty T, .ty U]) n
 exact ⟨v,t,pp,rfl,av,wF rm2 (rd1.mono st) e,oo e,q1 _ _ (x1.trans (Ext.new' n)) rm2 (RD.bl_iff.mpr rfl)⟩
end
end Mi
end
section
section
variable {X:Cx} {pins:List (Addr × Obj)} {σ:St} {H:Hp} {s:Shared}
theorem Inv.freeze (I:Inv X pins σ H s) {a:Addr} {ps:List (List Key × V)} (e:H a = some (.dT ps)):∃ o,Inv X pins σ (upd H a (.frz o (.dT ps))) s:=by
 obtain ⟨hl,hsm,xs,pr,o,es,ep,h1,h2,h3,h4,h5⟩:=id (I.hok a _ e)
 have mu:Mut (H a):=by rw [e];exact True.intro
 have u:Un X.fs [] H (upd H a (.frz o (.dT ps))) s.heap s.heap:=Un.write mu (.inl rfl) (fun b u _ q=>q) ⟨_,h1⟩
 have ok:HOk X.prog X.w (upd H a (.frz o (.dT ps))) s.heap:=HOk.write I.hok mu (.inl rfl) (fun b u _ q=>q) ⟨_,h1⟩
  ⟨h1,(I.hok a _ e).stay (fun b u _ q=>q) (fun b q=>by rw [ai (fun z=>by subst z;rw [e] at q;cases q)];exact q) (fun b xs q=>by rw [ai (fun z=>by subst z;rw [e] at q;cases q)];exact q)⟩
 exact ⟨o,I.un (t':=s.toks) u ok⟩
end
noncomputable def Itk (n:Nat) (G:Hp -> Prop) (yl:Nat -> V -> Hp -> Prop):It:=⟨fun i H=>i < n /\ G H,fun i H x H'=>H' = H /\ yl i x H,fun i H=>n <= i /\ G H⟩
theorem sU {P:Program} {w:World} {K:Frag} {tg:Expr} (a it:Addr) {cd:Value} {dd:Option Addr} {sl:Array (Option Value)} {es:Array DictEntry} {ep:Nat} {G:Hp -> Prop} {yl:Nat -> V -> Hp -> Prop}
 (hG:∀ H,G H -> ∃ u,H a = some (.frz { cls:=cd,dict:=dd,data := .dict es ep,slots:=sl } u)) (hy:∀ i H h,HOk P w H h -> G H -> ∀ e,es[i]? = some e -> ∃ x,RelV x e.key /\ yl i x H) :
 fi P w K tg (Itk es.size G yl) [it] it (fun i h=>i <= es.size /\ h.get? it = some (Dk.kO a i es.size ep)) where
 mem:=by simp
 obj:=fun i h st b hb=>by
  have e:b = it:=by simpa using hb
  subst e
  exact ⟨_,st.2,fun v z=>by cases z⟩
 keep:=fun i h h' st k=>⟨st.1,k it (by simp) _ st.2⟩
 item:=by
  intro X hP hw hK hc i pins s σ H E I hf st hg
  subst hP hw hK
  obtain ⟨hi,hg⟩:=hg
  obtain ⟨u,ha⟩:=hG H hg
  obtain ⟨f0,f1,f2,f3,f4,f5⟩:=hf it (by simp)
  obtain ⟨x,rx,yx⟩:=hy i H s.heap I.hok hg es[i] (Array.getElem?_eq_getElem hi)
  refine Dk.nx_item (e:=es[i]) st.2 (I.hok a _ ha).1 (Array.getElem?_eq_getElem hi) fun h' st' sb => ?_
  have I1:Inv X pins σ H { s with heap:=h' }:=I.turned (t':=s.toks) (fun b o hb e=>(sb.2 b hb).trans e) f0 f1 f3 f4 f5
  exact ⟨_,rfl,ko (s := { s with heap:=h' }) (n := "dict_keyiterator") st' rfl rfl (by decide) ⟨x,H,I1,rx,⟨rfl,yx⟩,⟨hi,st'⟩,fun b hb=>(hf b hb).1⟩⟩
 done:=by
  intro X hP hw hK hc i pins s σ H E I hf st hg
  subst hP hw hK
  obtain ⟨hi,hg⟩:=hg
  obtain ⟨u,ha⟩:=hG H hg
  obtain ⟨f0,f1,f2,f3,f4,f5⟩:=hf it (by simp)
  have e:i = es.size:=by have:=st.1;omega
  subst e
  exact Dk.nx_end (I.ok.hd hc) st.2 (I.hok a _ ha).1 fun h' k=>⟨rfl,I.turned (t':=s.toks) (fun b o hb e=>k b o hb e) f0 f1 f3 f4 f5⟩
 self:=fun A i s Q E st h=>wpAny_pyIter_keyiter ⟨_,st.2,rfl,rfl⟩ h
namespace Mi
section
variable {X:Cx}
noncomputable def qq (i:Nat) (t:TSd):TSd:=fun A ρ M => ∃ a kvs, ρ[i]? = some (some (.ref a)) /\ ((M a = some (.dct true kvs) /\ t A ρ (aj M a (.fdc kvs))) ∨ (M a = some (.fdc kvs) /\ t A ρ M))
theorem vB {i:Nat} {t:TSd} (h:aI t):aI (qq i t):=fun a b ρ M l ⟨p,kvs,e,q⟩=>⟨p,kvs,e,q.imp (fun q=>⟨q.1,h _ _ _ _ l q.2⟩) fun q=>⟨q.1,h _ _ _ _ l q.2⟩⟩
theorem An {st:Stmt} {i:Nat} {t:TSd} (h:PS X st (lS X.K t)):PS X st (lS X.K (qq i t)):=by
 intro pins s σ H D I ⟨ρ,M,A,rs,rm,lk,a,kvs,e,q⟩
 rcases q with ⟨m,q⟩ | ⟨m,q⟩
 ·obtain ⟨ps,hp,pr⟩:=rm a _ m
  obtain ⟨o,I'⟩:=I.freeze hp
  have sb:Stab H (upd H a (.frz o (.dT ps))):=rm.stabPut m
  exact h pins s σ _ D I' ⟨ρ,aj M a (.fdc kvs),A,rs.mono sb,rm.put m ⟨o,ps,av,Paired.mapP pr fun _ _ z=>⟨z.1,z.2.mono sb⟩⟩,lk.ext (Ext.put m),q⟩
 ·exact h pins s σ H D I ⟨ρ,M,A,rs,rm,lk,q⟩
noncomputable def iQ (ta:TEd):TId:=fun ρ M R=>ta ρ M fun x M1 => ∃ a kvs,x = .ref a /\ M1 a = some (.fdc kvs) /\ R (kvs.map (·.1)) (fun _=>True) M1
theorem sV {ta:TEd} (h:ad ta):cb (iQ ta):=fun ρ M Q Q' i q=>h _ _ _ _ (fun x M1 ⟨a,ds,e,e1,q1⟩=>⟨a,ds,e,e1,i _ _ _ q1⟩) q
theorem oG {K:Frag} {H:Hp}:∀ {kvs:List (D × D)} {es:List DictEntry},Paired (jm K H) kvs es -> ∀ (i:Nat) (e:DictEntry),es[i]? = some e -> ∃ (kv:D × D) (v:V),kvs[i]? = some kv /\ RD K H kv.1 v /\ RelV v e.key
 | _,_, .nil,_,_,h=>by simp at h
 | _,_, .cons r t,0,_,h=>by
   simp at h;subst h
   obtain ⟨kV,vV,g1,g2,_,_⟩:=r
   exact ⟨_,kV,rfl,g1,g2⟩
 | _,_, .cons _ t,i + 1,e,h=>by
   obtain ⟨kv,v,h1,h2⟩:=oG t i e (by simpa using h)
   exact ⟨kv,v,by simpa using h1,h2⟩
theorem yw {tg e:Expr} {ta:TEd} (m:ad ta) (he:PE X e (lE X.K ta)):PI X tg e (lI X.K (iQ ta)):=by
 intro pins s σ H R I h
 obtain ⟨ρ,M,rs,rm,q⟩:=h
 have hq:lE X.K ta σ H (fun v H1 => ∃ a kvs M1,v = .ref a /\ Ext M H M1 H1 /\ RM X.K M1 H1 /\ M1 a = some (.fdc kvs) /\ ∀ J,fx X.K H1 (kvs.map (·.1)) (fun _=>True) J -> R J H1) :=
  ⟨ρ,M,rs,rm,m _ _ _ _ (fun x M1 ⟨a,kvs,e,e1,q1⟩ v H1 x1 rm1 rd1=>by
    subst e
    cases RD.ref_iff.mp rd1
    exact ⟨a,kvs,M1,rfl,x1,rm1,e1,fun J ij=>q1 J H1 x1 rm1 ij⟩) q⟩
 refine thn (he pins s σ H _ I hq) fun u s1 ⟨x,H1,I1,r1,a,kvs,M1,e0,x1,rm1,e1,q1⟩ => ?_
 subst e0
 cases r1
 obtain ⟨o,ps,hp,pr⟩:=rm1 _ _ e1
 obtain ⟨g0,ok⟩:=I1.hok a _ hp
 obtain ⟨cd,dd,sl,es,ep,g1,g2,g3⟩:=mj ok pr
 obtain ⟨ty,_,hsm⟩:=ic I1 (.inr ⟨ps, .inr ⟨o,hp⟩⟩)
 rw [g0] at g1
 cases g1
 have hcd:cd = .type "dict" := by
  obtain ⟨o,h1,h2⟩:=ty
  rw [g0] at h1;cases h1;exact h2
 subst hcd
 have lz:kvs.length = es.size:=by have:=aY g3;simpa using this
 refine Dk.it_dict hsm g0 ?_
 refine ⟨s1.heap.objs.size,[s1.heap.objs.size],_,_,H1,rfl,I1.kept (t':=s1.toks) fun b o e=>Heap.get?_push_of_some _ e,sU (G:=fun H=>H a = some (.frz { cls := .type "dict",dict:=dd,data := .dict es ep,slots:=sl } (.dT ps)) /\ Paired (fun (p:D × D) (q:List Key × V)=>RKeys p.1 q.1 /\ RD X.K H p.2 q.2) kvs ps) (yl:=fun i x H => ∃ kv,kvs[i]? = some kv /\ RD X.K H kv.1 x) a _ (fun H h=>⟨_,h.1⟩) (fun i H h hok ⟨ha,pr'⟩ e he => ?_),⟨Nat.zero_le _,Heap.get?_push_size _ rfl⟩,fun b hb => ?_,q1 _ ?_⟩
 ·obtain ⟨z0,ok'⟩:=hok a _ ha
  obtain ⟨cd,dd,sl',es',ep',z1,_,z3⟩:=mj ok' pr'
  rw [z0] at z1
  cases z1
  obtain ⟨kv,v,y1,y2,y3⟩:=oG z3 i e (by simpa using he)
  exact ⟨v,y3,kv,y1,y2⟩
 ·have e:b = s1.heap.objs.size:=by simpa using hb
  subst e
  exact I1.fpOk (Nat.le_refl _) (I1.hok.fresh (Nat.le_refl _))
 ·intro M' H' st rm' _ i
  have hp':=st.frz _ _ _ hp
  have pr':Paired (fun (p:D × D) (q:List Key × V)=>RKeys p.1 q.1 /\ RD X.K H' p.2 q.2) kvs ps:=Paired.mapP pr fun _ _ z=>⟨z.1,z.2.mono st⟩
  rw [List.length_map,lz]
  refine ⟨fun hi=>⟨hi,hp',pr'⟩,fun hi=>⟨⟨hi,hp',pr'⟩,fun x H'' y => ?_⟩⟩
  obtain ⟨e,kv,y1,y2⟩:=y
  subst e
  exact ⟨.inl rfl,kv.1,by rw [List.getElem?_map,y1];rfl,y2⟩
end
end Mi
end
section
section
variable {prog:Program} {w:World} {K:Type} [DecidableEq K] {knd:HeapKind prog w K} {A:Around} {E:Value -> Shared -> Prop} {s:Shared}
noncomputable def cF (ev:Value -> Value -> Bool) (xb:List (K × Addr × Value)) (x:K × Addr × Value):Bool:=match atKey xb x.1 with
 | some p=>ev x.2.2 p.2
 | none=>false
theorem sW {nm:String} {a b:Addr} {xa xb:List (K × Addr × Value)} {ev:Value -> Value -> Bool} {Q:Bool -> Shared -> Prop} (hu:knd.room A) (ha:(a == sysModules) = false) (hb:(b == sysModules) = false)
 (da:s.heap.DictOfH knd a xa) (db:s.heap.DictOfH knd b xb) (hev:∀ x ∈ xa, ∀ y ∈ xb,SeqAt.EqAt A s x.2.2 y.2.2 (ev x.2.2 y.2.2)) (h:Q (xa.length == xb.length && xa.all (cF ev xb)) s) :
 wpAny (model prog w) A (Builtin.Dict.samePairs nm a b) Q E s:=by
 obtain ⟨oa,es,ep,hoa,_,hda,hea,hia,hna⟩:=da
 obtain ⟨ob,es',ep',hob,_,hdb,heb,hib,hnb⟩:=db
 have hla:xa.length = es.size:=(size_of_entries hea).symm
 have hlb:xb.length = es'.size:=(size_of_entries heb).symm
 rw [hla,hlb] at h
 unfold Builtin.Dict.samePairs Builtin.Dict.showsAll
 rw [if_neg (show ¬ (a == sysModules) = true by rw [ha];exact Bool.false_ne_true),if_neg (show ¬ (b == sysModules) = true by rw [hb];exact Bool.false_ne_true)]
 refine wpAny_bind (wpAny_pure (wpAny_bind (wpAny_pure ?_)))
 refine wpAny_bind (wpAny_dictEntries hoa hda ?_)
 dsimp only
 refine wpAny_bind (wpAny_dictEntries hob hdb ?_)
 by_cases hsz:es.size = es'.size
 case neg =>
  rw [if_pos (by simpa using hsz)]
  have hbf:(es.size == es'.size) = false:=by simpa using hsz
  rw [hbf,Bool.false_and] at h
  exact wpAny_bind (wpAny_rule (wpAny_pure h))
 case pos =>
  have h':Q (xa.all (cF ev xb)) s:=by simpa [hsz] using h
  rw [if_neg (by rw [hsz];simp)]
  refine wpAny_bind (wpAny_dictEpoch hoa hda ?_)
  refine wpAny_bind ?_
  rw [Std.Legacy.Range.forIn_eq_forIn_range']
  simp only [Std.Legacy.Range.size,Nat.sub_zero,Nat.add_sub_cancel,Nat.div_one]
  refine wpAny_forIn_list _
   (fun rest q s'=>s' = s /\ q = (none,()) /\ ∃ i,rest = List.range' i (es.size - i) /\ i <= es.size /\ xa.all (cF ev xb) = (xa.drop i).all (cF ev xb))
   _ ?_ ?_ _ _ ⟨rfl,rfl,0,by simp,Nat.zero_le _,by simp⟩
  ·rintro x rest q s' ⟨rfl,rfl,i,hr,hi,hpre⟩
   have hlt:i < es.size:=by
    rcases Nat.lt_or_ge i es.size with h | h
    ·exact h
    ·rw [Nat.sub_eq_zero_of_le h] at hr;simp at hr
   obtain ⟨rfl,hrest⟩:x = i /\ rest = List.range' (i + 1) (es.size - (i + 1)):=by
    have e:es.size - i = (es.size - (i + 1)) + 1:=by omega
    rw [e,List.range'_succ] at hr
    injection hr with h1 h2
    exact ⟨h1,h2⟩
   have hlt':x < xa.length:=by rw [hla];exact hlt
   refine wpAny_bind (wpAny_dictEntries hoa hda ?_)
   rw [entry_at hea x,List.getElem?_eq_getElem hlt']
   have hdrop:xa.drop x = xa[x] :: xa.drop (x + 1):=List.drop_eq_getElem_cons hlt'
   have hmem:xa[x] ∈ xa:=List.getElem_mem hlt'
   rw [hdrop,List.all_cons] at hpre
   show wpAny _ _ (holding [_,_] _ >>= _) _ _ _
   refine wpAny_bind (wpAny_holding (wpAny_bind (wpAny_dictFind_heap (k:=xa[x].1) (a:=xa[x].2.1) hu (hia _ hmem) hob hdb heb hib hnb (fun hno => ?_) (fun j p hj => ?_))))
   ·have hn:cF ev xb xa[x] = false:=by unfold cF;rw [atKey_none_of_get hno]
    rw [hpre,hn,Bool.false_and] at h'
    refine wpAny_pure ?_
    show wpAny _ _ (if (!false) = true then _ else _) _ _ _
    rw [if_pos (by decide)]
    exact wpAny_pure (wpAny_pure h')
   ·have hn:cF ev xb xa[x] = ev xa[x].2.2 p.2:=by unfold cF;rw [atKey_of_get hnb hj]
    refine wpAny_bind (wpAny_dictEntries hob hdb ?_)
    rw [entry_at heb j,hj]
    refine wpAny_holding (hev _ hmem _ (List.mem_of_getElem? hj) prog w _ _ ?_)
    show wpAny _ _ (if (!(ev xa[x].2.2 p.2)) = true then _ else _) _ _ _
    rw [hn] at hpre
    cases e:ev xa[x].2.2 p.2 with
    | false =>
      rw [e,Bool.false_and] at hpre
      rw [hpre] at h'
      rw [if_pos (by decide)]
      exact wpAny_pure (wpAny_pure h')
    | true =>
      rw [e,Bool.true_and] at hpre
      rw [if_neg (by decide)]
      refine wpAny_bind (wpAny_dictEpoch hoa hda ?_)
      rw [if_neg (by simp)]
      exact wpAny_pure ⟨rfl,rfl,x + 1,hrest,hlt,hpre⟩
  ·rintro q s' ⟨rfl,rfl,i,hr,hi,hpre⟩
   have hin:i = es.size:=by
    rcases Nat.lt_or_ge i es.size with h | h
    ·have e:es.size - i = (es.size - (i + 1)) + 1:=by omega
     rw [e,List.range'_succ] at hr;exact nomatch hr
    ·exact Nat.le_antisymm hi h
   refine wpAny_pure ?_
   rw [hin, <- hla,List.drop_length] at hpre
   rw [hpre] at h'
   exact h'
theorem Bp {a b:Addr} {xa xb:List (K × Addr × Value)} {ev:Value -> Value -> Bool} {Q:Value -> Shared -> Prop} (hu:A.units < cLine) (hr:knd.room A.in1) (ha:(a == sysModules) = false) (hb:(b == sysModules) = false)
 (da:s.heap.DictOfH knd a xa) (db:s.heap.DictOfH knd b xb) (hev:∀ x ∈ xa, ∀ y ∈ xb,SeqAt.EqAt A.in1 s x.2.2 y.2.2 (ev x.2.2 y.2.2)) (h:Q (.bool (xa.length == xb.length && xa.all (cF ev xb))) s) :
 wpAny (model prog w) A (compareOp .Eq (.ref a) (.ref b)) Q E s:=by
 refine wpAny_richCompare_same_room (op := .Eq) da.typeIs db.typeIs PySem.F.slot_dict_eq (wpAny_call_entry PySem.F.slot_dict_eq da.typeIs PySem.F.entry_dict_eq ?_ (PySem.F.args_dict_eq_2 _ _)) hu
 show wpAny _ _ (Builtin.Dict.dictSlotArgs "__eq__" ⟨[.ref a, .ref b],[]⟩ >>= _) _ _ s
 refine wpAny_bind ?_
 unfold Builtin.Dict.dictSlotArgs
 refine wpAny_bind (wpAny_notOrdered_dict da.typeIs ?_)
 show wpAny _ _ (pure (Value.ref a,Value.ref b)) _ _ s
 refine wpAny_pure ?_
 refine wpAny_bind (wpAny_isInstance (T := "dict") db.typeIs PySem.F.sub_dict_dict ?_)
 simp only [Bool.not_true,Bool.false_eq_true,if_false]
 refine wpAny_bind (wpAny_pure (wpAny_bind (wpAny_pure ?_)))
 refine wpAny_bind (sW hr ha hb da db hev ?_)
 refine wpAny_pure ⟨_,rfl, ?_, ?_⟩
 ·exact fun x=>nomatch x
 ·simpa using h
theorem Bq {a b:Addr} {xa xb:List (K × Addr × Value)} {ev:Value -> Value -> Bool} {Q:Value -> Shared -> Prop} (hu:A.units < cLine) (hr:knd.room A.in1) (ha:(a == sysModules) = false) (hb:(b == sysModules) = false)
 (da:s.heap.DictOfH knd a xa) (db:s.heap.DictOfH knd b xb) (hev:∀ x ∈ xa, ∀ y ∈ xb,SeqAt.EqAt A.in1 s x.2.2 y.2.2 (ev x.2.2 y.2.2)) (h:Q (.bool (!(xa.length == xb.length && xa.all (cF ev xb)))) s) :
 wpAny (model prog w) A (compareOp .NotEq (.ref a) (.ref b)) Q E s:=by
 refine wpAny_richCompare_same_room (op := .NotEq) da.typeIs db.typeIs PySem.F.slot_dict_ne (wpAny_call_entry PySem.F.slot_dict_ne da.typeIs PySem.F.entry_dict_ne ?_ (PySem.F.args_dict_ne_2 _ _)) hu
 show wpAny _ _ (Builtin.Dict.dictSlotArgs "__ne__" ⟨[.ref a, .ref b],[]⟩ >>= _) _ _ s
 refine wpAny_bind ?_
 unfold Builtin.Dict.dictSlotArgs
 refine wpAny_bind (wpAny_notOrdered_dict da.typeIs ?_)
 show wpAny _ _ (pure (Value.ref a,Value.ref b)) _ _ s
 refine wpAny_pure ?_
 refine wpAny_bind (wpAny_isInstance (T := "dict") db.typeIs PySem.F.sub_dict_dict ?_)
 simp only [Bool.not_true,Bool.false_eq_true,if_false]
 refine wpAny_bind (wpAny_pure (wpAny_bind (wpAny_pure ?_)))
 refine wpAny_bind (sW hr ha hb da db hev ?_)
 refine wpAny_pure ⟨_,rfl, ?_, ?_⟩
 ·exact fun x=>nomatch x
 ·simpa using h
end
namespace Mi
section
variable {X:Cx}
noncomputable def dI (M:Mem) (a:Addr) (kvs:List (D × D)):Prop:=(M a = some (.dct true kvs) ∨ M a = some (.fdc kvs)) /\ ∀ kv ∈ kvs, ∃ i,kv.2 = .int i
noncomputable def eqD (ps qs:List (D × D)):Bool:=ps.length == qs.length && ps.all fun kv=>decide (dget qs kv.1 = some kv.2)
noncomputable def qr:R2d:=fun x y M Q => ∃ a b ps qs,x = .ref a /\ y = .ref b /\ dI M a ps /\ dI M b qs /\ Q (.bl (!eqD ps qs)) M
theorem vC:aX qr:=fun _ _ _ _ _ h ⟨a,b,ps,qs,e1,e2,e3,e4,q⟩=>⟨a,b,ps,qs,e1,e2,e3,e4,h _ _ q⟩
noncomputable def evI:Value -> Value -> Bool
 | .int i _, .int j _=>i == j
 | _,_=>false
theorem dI.at {K:Frag} {M:Mem} {H:Hp} {a:Addr} {kvs:List (D × D)} (rm:RM K M H) (h:dI M a kvs):∃ ps,Rd H a (.dT ps) /\ Paired (fun (p:D × D) (q:List Key × V)=>RKeys p.1 q.1 /\ RD K H p.2 q.2) kvs ps:=by
 rcases h.1 with e | e
 ·obtain ⟨ps,hp,pr⟩:=rm a _ e;exact ⟨ps, .inl hp,pr⟩
 ·obtain ⟨o,ps,hp,pr⟩:=rm a _ e;exact ⟨ps, .inr ⟨o,hp⟩,pr⟩
theorem eW {K:Frag} {H:Hp} {kvs:List (D × D)} {ps:List (List Key × V)} {xs:List (List Key × Addr × Value)} (pr:Paired (fun (p:D × D) (q:List Key × V)=>RKeys p.1 q.1 /\ RD K H p.2 q.2) kvs ps) (kt:KT H ps xs) (hi:∀ kv ∈ kvs, ∃ i,kv.2 = .int i):∀ x ∈ xs, ∃ i t,x.2.2 = .int i t:=by
 induction pr generalizing xs with
 | nil=>cases kt;intro x hx;exact nomatch hx
 | @cons p q ps qs h t ih =>
  cases kt with
  | cons g gt =>
    intro x hx
    rcases List.mem_cons.mp hx with e | hx
    ·subst e
     obtain ⟨i,ei⟩:=hi p (by simp)
     have:=h.2
     rw [ei] at this
     have z:=g.2.2
     rw [RD.int_iff.mp this] at z
     obtain ⟨t,ht⟩:=z
     exact ⟨i,t,ht⟩
    ·exact ih gt (fun kv hkv=>hi kv (by simp [hkv])) x hx
theorem Ao {K:Frag} {H:Hp} {kvs:List (D × D)} {ps:List (List Key × V)} {xs:List (List Key × Addr × Value)} (pr:Paired (fun (p:D × D) (q:List Key × V)=>RKeys p.1 q.1 /\ RD K H p.2 q.2) kvs ps) (kt:KT H ps xs) (hi:∀ kv ∈ kvs, ∃ i,kv.2 = .int i)
 {k:D} {q:List Key} (hk:RKeys k q) (i:Int) (t:Tok) (b:Addr):cF evI xs (q,b, .int i t) = decide (dget kvs k = some (.int i)):=by
 obtain ⟨g1,g2⟩:=eP (RK:=RKeys) RKeys.inj RKeys.fun hk pr
 have hv:=KT.val kt q
 unfold cF
 dsimp only
 cases e:dget kvs k with
 | none =>
   rw [g2 e] at hv
   cases z:atKey xs q with
   | none=>simp
   | some p=>rw [z] at hv;exact hv.elim
 | some d =>
   obtain ⟨v,e1,e2⟩:=g1 d e
   rw [e1] at hv
   cases z:atKey xs q with
   | none=>rw [z] at hv;exact hv.elim
   | some p =>
     rw [z] at hv
     obtain ⟨j,ej⟩:∃ j,d = .int j:=by
      unfold dget at e
      obtain ⟨kv,h1,h2⟩:=Option.map_eq_some_iff.mp e
      obtain ⟨j,hj⟩:=hi kv (List.mem_of_find?_eq_some h1)
      exact ⟨j,by rw [<- h2];exact hj⟩
     subst ej
     cases RD.int_iff.mp e2
     obtain ⟨t',ht⟩:∃ t',p.2 = .int j t':=hv
     dsimp only
     rw [ht]
     show (i == j) = decide (some (D.int j) = some (D.int i))
     by_cases hij:i = j
     ·subst hij;simp
     ·have hji : ¬ j = i:=fun z=>hij z.symm
      simp [hij,hji]
theorem sX {K:Frag} {H:Hp} {kvs ls:List (D × D)} {ps us:List (List Key × V)} {xs ys:List (List Key × Addr × Value)} (pr:Paired (fun (p:D × D) (q:List Key × V)=>RKeys p.1 q.1 /\ RD K H p.2 q.2) kvs ps) (kt:KT H ps xs) (hi:∀ kv ∈ kvs, ∃ i,kv.2 = .int i)
 (pr':Paired (fun (p:D × D) (q:List Key × V)=>RKeys p.1 q.1 /\ RD K H p.2 q.2) ls us) (kt':KT H us ys) (hi':∀ kv ∈ ls, ∃ i,kv.2 = .int i) :
 (xs.length == ys.length && xs.all (cF evI ys)) = eqD kvs ls:=by
 have l1:xs.length = kvs.length:=by rw [aY pr,aY kt]
 have l2:ys.length = ls.length:=by rw [aY pr',aY kt']
 unfold eqD
 rw [l1,l2]
 congr 1
 clear l1 l2
 induction pr generalizing xs with
 | nil=>cases kt;rfl
 | @cons p q ps qs h t ih =>
  cases kt with
  | @cons _ x _ xs g gt =>
   rw [List.all_cons,List.all_cons,ih gt (fun kv hkv=>hi kv (by simp [hkv]))]
   congr 1
   obtain ⟨i,ei⟩:=hi p (by simp)
   have:=h.2
   rw [ei] at this
   have z:=g.2.2
   rw [RD.int_iff.mp this] at z
   obtain ⟨t,ht⟩:∃ t',x.2.2 = .int i t':=z
   obtain ⟨x1,x2,x3⟩:=x
   dsimp only at ht g
   subst ht
   rw [ei, <- g.1]
   exact Ao pr' kt' hi' h.1 i t x2
theorem C9 {pins:List (Addr × Obj)} {σ:St} {H:Hp} {s:Shared} {M:Mem} {A:Around} {E:Value -> Shared -> Prop} {Q:Value -> Shared -> Prop} {ps qs:List (D × D)} {a b:Addr} (hu:A.units + 2 < cLine) (I:Inv X pins σ H s) (rm:RM X.K M H) (h1:dI M a ps) (h2:dI M b qs) (h:Q (.bool (eqD ps qs)) s):wpAny (model X.prog X.w) A (compareOp .Eq (.ref a) (.ref b)) Q E s:=by
 obtain ⟨us,hp,pr⟩:=h1.at rm
 obtain ⟨vs,hp',pr'⟩:=h2.at rm
 obtain ⟨_,sm,xs,kt,dd⟩:=dF I.hok hp
 obtain ⟨_,sm',ys,kt',dd'⟩:=dF I.hok hp'
 have i1:=eW pr kt h1.2
 have i2:=eW pr' kt' h2.2
 refine Bp (ev:=evI) (by omega) (tupleKind_room_in1 (by omega)) sm sm' dd dd' (fun x hx y hy => ?_) (by rw [sX pr kt h1.2 pr' kt' h2.2];exact h)
 obtain ⟨i,t,e⟩:=i1 x hx
 obtain ⟨j,u,e'⟩:=i2 y hy
 rw [e,e']
 exact SeqAt.EqAt.int_int i t j u
theorem vD {pins:List (Addr × Obj)} {σ:St} {H:Hp} {s:Shared} {M:Mem} {A:Around} {E:Value -> Shared -> Prop} {Q:Value -> Shared -> Prop} {ps qs:List (D × D)} {a b:Addr} (hu:A.units + 2 < cLine) (I:Inv X pins σ H s) (rm:RM X.K M H) (h1:dI M a ps) (h2:dI M b qs) (h:Q (.bool (!eqD ps qs)) s):wpAny (model X.prog X.w) A (compareOp .NotEq (.ref a) (.ref b)) Q E s:=by
 obtain ⟨us,hp,pr⟩:=h1.at rm
 obtain ⟨vs,hp',pr'⟩:=h2.at rm
 obtain ⟨_,sm,xs,kt,dd⟩:=dF I.hok hp
 obtain ⟨_,sm',ys,kt',dd'⟩:=dF I.hok hp'
 have i1:=eW pr kt h1.2
 have i2:=eW pr' kt' h2.2
 refine Bq (ev:=evI) (by omega) (tupleKind_room_in1 (by omega)) sm sm' dd dd' (fun x hx y hy => ?_) (by rw [sX pr kt h1.2 pr' kt' h2.2];exact h)
 obtain ⟨i,t,e⟩:=i1 x hx
 obtain ⟨j,u,e'⟩:=i2 y hy
 rw [e,e']
 exact SeqAt.EqAt.int_int i t j u
theorem vE (hu:X.A.units + 2 < cLine):OpR X (compareOp .NotEq) (l2 X.K qr):=by
 intro pins s σ H x y v u Q I rx ry h
 obtain ⟨x',y',M,rm,rdx,rdy,a,b,ps,qs,rfl,rfl,h1,h2,q⟩:=h
 cases RD.ref_iff.mp rdx
 cases RD.ref_iff.mp rdy
 cases rx
 cases ry
 exact vD hu I rm h1 h2 ⟨.bl (!eqD ps qs),H,I,rfl,q _ H Ext.refl rm (RD.bl_iff.mpr rfl)⟩
end
end Mi
end
section
section
variable {X:Cx}
noncomputable def oH:V -> List V -> Hp -> VK -> Prop:=fun x vs H Q => ∃ (l:Addr) (xs:List V) (i:Int) (y:V),x = .ref l /\ vs = [.int i,y] /\ H l = some (.lst xs) /\ 0 <= i /\ i.toNat <= xs.length /\ xs.length < sizeLine /\ Q .non (upd H l (.lst (xs.take i.toNat ++ y :: xs.drop i.toNat)))
theorem Vals.take':∀ {xs:List V} {us:List Value} (n:Nat),Vals xs us -> Vals (xs.take n) (us.take n)
 | _,_,0,_=>by simp only [List.take_zero];exact .nil
 | _,_,_ + 1, .nil => .nil
 | _,_,n + 1, .cons r t => .cons r (Vals.take' n t)
theorem Vals.drop':∀ {xs:List V} {us:List Value} (n:Nat),Vals xs us -> Vals (xs.drop n) (us.drop n)
 | _,_,0,r=>r
 | _,_,_ + 1, .nil => .nil
 | _,_,n + 1, .cons _ t=>Vals.drop' n t
theorem sY:MtM X "list.insert" oH:=by
 intro pins s σ H x vs v us Q I rx rv h
 obtain ⟨l,xs,i,y,rfl,rfl,hH,h0,hk,hz,q⟩:=h
 cases rx
 obtain ⟨u,u2,rfl,ru,ru2⟩:=kr rv
 obtain ⟨t,rfl⟩:=ru
 obtain ⟨z,its,n,r,hl,e⟩:=I.lstM hH
 have hf : ¬(!Builtin.List.listFitsIndex i) = true:=by
  have:Builtin.List.listFitsIndex i = true:=by
   unfold Builtin.List.listFitsIndex
   rw [sizeLine_eq] at hz
   rw [Bool.and_eq_true]
   exact ⟨decide_eq_true (by omega),decide_eq_true (by omega)⟩
  rw [this];decide
 have hs:its.toArray.size <= sizeLine:=by rw [List.size_toArray];omega
 have mt:=PySem.AutoSeq1.list_insert_list_int_val_1 l its.toArray n i t u2 hf hs
 refine call_meets PySem.F.slot_list_insert ⟨_,e,rfl⟩ PySem.F.entry_list_insert (PySem.F.args_list_insert_3 _ _ _) mt ⟨e, ?_⟩
 refine ⟨.non,_,I.lset (its':=its.take i.toNat ++ u2 :: its.drop i.toNat) hH e ?_ ((Vals.take' i.toNat r).append (.cons ru2 (Vals.drop' i.toNat r))) ?_,rfl,q⟩
 ·have hm:(if i < 0 then (i + (its.toArray.size:Int)).toNat else min i.toNat its.toArray.size) = i.toNat:=by
   rw [if_neg (by omega),List.size_toArray];omega
  show (its.toArray.extract 0 (if i < 0 then (i + (its.toArray.size:Int)).toNat else min i.toNat its.toArray.size)).push u2 ++ its.toArray.extract (if i < 0 then (i + (its.toArray.size:Int)).toNat else min i.toNat its.toArray.size) = _
  rw [hm]
  apply Array.ext'
  simp only [List.extract_toArray,List.push_toArray,List.append_toArray]
  simp [List.take_of_length_le]
 ·rw [List.length_append,List.length_cons,List.length_take,List.length_drop];omega
end
namespace Mi
noncomputable def jn:D -> List D -> Mem -> QD -> Prop:=fun x ds M Q => ∃ (a:Addr) (xs:List D) (i:Int) (y:D),x = .ref a /\ ds = [.int i,y] /\ M a = some (.lst xs) /\ 0 <= i /\ i.toNat <= xs.length /\ xs.length < sizeLine /\ Q .non (aj M a (.lst (xs.take i.toNat ++ y :: xs.drop i.toNat)))
theorem gE:cZ jn:=fun _ _ _ _ _ h ⟨a,xs,k,y,e1,e2,e3,z0,z,z2,q⟩=>⟨a,xs,k,y,e1,e2,e3,z0,z,z2,h _ _ q⟩
theorem vF {K:Frag} (v:V) (vs:List V) (H:Hp) (Q:VK) (h:lMt K jn v vs H Q):oH v vs H Q:=by
 obtain ⟨x,ds,M,rm,rx,rs,a,xs,i,y,rfl,rfl,e,z0,z,z2,q⟩:=h
 cases RD.ref_iff.mp rx
 obtain ⟨w1,w,rfl,r1,rw'⟩:=rs.two
 cases RD.int_iff.mp r1
 obtain ⟨us,ha,ru⟩:=rm _ _ e
 exact ⟨a,us,i,w,rfl,rfl,ha,z0,by rw [ru.length];exact z,by rw [ru.length];exact z2,fV rm e ((ru.take i.toNat).append (RDs.cons rw' (ru.drop i.toNat))) (RD.non_iff.mpr rfl) q⟩
end Mi
end
end L2
namespace L2
namespace Mi
open PySem PySem.Spec PyProof.Rows
section
section
variable {X:Cx}
theorem RDs.eraseIdx {K:Frag} {H:Hp}:∀ {ds:List D} {vs:List V} (i:Nat),RDs K H ds vs -> RDs K H (ds.eraseIdx i) (vs.eraseIdx i):=by
 intro ds vs i r
 rw [List.eraseIdx_eq_take_drop_succ,List.eraseIdx_eq_take_drop_succ]
 exact (r.take i).append (r.drop (i + 1))
end
end
end Mi
end L2
namespace L2
namespace It
open PySem PySem.Spec PyProof.Rows
end It
open PySem PySem.Spec PyProof.Rows
namespace Mi
end Mi
end L2
namespace L2
open PySem PySem.Spec PyProof.Rows
section
section
variable {X:Cx}
noncomputable def PF (X:Cx) (es:List Expr) (t:Str -> TE):Prop :=
 ∀ (acc:Str) (pins:List (Addr × Obj)) (s:Shared) (σ:St) (H:Hp) (Q:VK),Inv X pins σ H s -> t acc σ H Q ->
  Joins (model X.prog X.w) X.A X.xe (evalEach es X.env) acc (fun out s1=>out.length <= sizeLine /\ EP X pins σ Q (.str out s1.toks) { s1 with toks:=s1.toks + 1 }) s
noncomputable def Br (acc:Str):TE:=fun _ H Q=>acc.length <= sizeLine /\ Q (.str acc) H
noncomputable def Bs (te:TE) (tr:Str -> TE) (acc:Str):TE:=fun σ H Q=>te σ H fun x H1 => ∃ y,x = .str y /\ (acc ++ y).length <= sizeLine /\ tr (acc ++ y) σ H1 Q
theorem Ap:PF X [] Br:=fun acc pins s σ H Q I ⟨hz,q⟩=>⟨hz, .str acc,H,I.tok _,⟨_,rfl⟩,q⟩
theorem yz {e:Expr} {es:List Expr} {te:TE} {tr:Str -> TE} (he:PE X e te) (hr:PF X es tr):PF X (e :: es) (Bs te tr):=by
 intro acc pins s σ H Q I h
 refine thn (he pins s σ H _ I h) fun v s1 ⟨x,H1,I1,r1,y,hx,hz,q⟩ => ?_
 subst hx
 obtain ⟨t,rfl⟩:=r1
 exact ⟨y,t,rfl,hz,hr _ pins s1 σ H1 Q I1 q⟩
end
namespace Mi
section
variable {X:Cx}
noncomputable def qt (acc:Str):TEd:=fun _ M Q=>acc.length <= sizeLine /\ Q (.str acc) M
noncomputable def qu (te:TEd) (tr:Str -> TEd) (acc:Str):TEd:=fun ρ M Q=>te ρ M fun x M1 => ∃ y,x = .str y /\ (acc ++ y).length <= sizeLine /\ tr (acc ++ y) ρ M1 Q
theorem sZ {acc:Str}:ad (qt acc):=fun _ _ _ _ h ⟨z,q⟩=>⟨z,h _ _ q⟩
theorem t5 {te:TEd} {tr:Str -> TEd} {acc:Str} (m:ad te) (mr:∀ a,ad (tr a)):ad (qu te tr acc):=fun ρ M Q Q' i q =>
 m _ _ _ _ (fun x M1 ⟨y,e,z,q1⟩=>⟨y,e,z,mr _ _ _ _ _ i q1⟩) q
noncomputable def PFd (X:Cx) (es:List Expr) (t:Str -> TEd):Prop:=PF X es fun acc=>lE X.K (t acc)
theorem Aq:PFd X [] qt:=fun acc pins s σ H Q I ⟨ρ,M,rs,rm,z,q⟩=>Ap acc pins s σ H Q I ⟨z,q _ H Ext.refl rm (RD.str_iff.mpr rfl)⟩
theorem yA {e:Expr} {es:List Expr} {te:TEd} {tr:Str -> TEd} (m:ad te) (mr:∀ a,ad (tr a)) (he:PE X e (lE X.K te)) (hr:PFd X es tr):PFd X (e :: es) (qu te tr):=by
 intro acc pins s σ H Q I ⟨ρ,M,rs,rm,q⟩
 refine yz he hr acc pins s σ H Q I ⟨ρ,M,rs,rm,m _ _ _ _ (fun x M1 ⟨y,e,z,q1⟩ v H1 x1 rm1 rd1 => ?_) q⟩
 subst e
 refine ⟨y,RD.str_iff.mp rd1,z, ρ,M1,rs.mono (x1.stab rm),rm1,mr _ _ _ _ _ (fun d M2 k=>k.ext x1) q1⟩
end
section
inductive BOp where | add | sub | mul | fdiv | mod | pow
inductive COp where | eq | ne | lt | gt | ge | neD
inductive BF where | len | abs | min2 | int | list | tuple | all | dict | sortk
inductive MF where | append
inductive MF0 where | clear | reverse
mutual
inductive MG where
 | name (i:Nat)
 | tup (gs:MGs)
inductive MGs where
 | nil
 | cons (g:MG) (r:MGs)
end
mutual
inductive ME where
 | var (i:Nat)
 | int (i:Int)
 | bl (b:Bool)
 | bin (op:BOp) (a b:ME)
 | neg (a:ME)
 | cmp (op:COp) (a b:ME)
 | and (es:MEs)
 | not (a:ME)
 | ite (c:MT) (a b:ME)
 | tup (es:MEs)
 | lst (es:MEs)
 | ix (a b:ME)
 | sl (a:ME) (lo hi:MO)
 | call (f:Nat) (es:MEs)
 | blt (f:BF) (es:MEs)
 | isin (a:ME) (T:String)
 | isin2 (a:ME) (T U:String)
 | dnew (t:Bool)
 | dget (o k x:ME)
 | meth (m:MF) (o a:ME)
 | meth0 (m:MF0) (o:ME)
 | ins (o i a:ME)
 | comp (fr:List (Option Nat)) (N:List Str) (c:MC)
inductive MEs where
 | nil
 | cons (e:ME) (r:MEs)
inductive MO where
 | none
 | some (e:ME)
inductive MT where
 | tru (e:ME)
 | cmp (op:COp) (a b:ME)
 | and (ts:MTs)
 | or (ts:MTs)
 | not (t:MT)
inductive MTs where
 | nil
 | cons (t:MT) (r:MTs)
inductive MI where
 | seq (e:ME)
 | rng1 (a:ME)
 | zip (a b:ME)
 | enum (a:ME)
 | keys (a:ME)
inductive MC where
 | last (src:MI) (g:MG) (ifs:MTs) (elt:ME)
 | more (src:MI) (g:MG) (ifs:MTs) (rest:MC)
end
mutual
inductive MS where
 | asg (g:MG) (e:ME)
 | par (i j:Nat) (a b:ME)
 | put (o i e:ME)
 | drop (e:ME)
 | ret (e:ME)
 | ite (c:MT) (a b:MSs)
 | for (g:MG) (src:MI) (b:MSs)
 | while (c:MT) (b:MSs)
 | frz (i:Nat) (s:MS)
 | pass | brk | cnt
inductive MSs where
 | nil
 | cons (s:MS) (r:MSs)
end
noncomputable def opB:BOp -> R2d
 | .add=>gJ | .sub=>jd | .mul=>je | .fdiv=>kx | .mod=>pW | .pow=>pX
noncomputable def opC:COp -> R2d
 | .eq=>wEq | .ne=>wNe | .lt=>wLt| .gt=>wGt | .ge=>wGe| .neD=>qr
noncomputable def opF:BF -> RAd
 | .len=>eQ | .abs=>kX| .min2=>ky | .int=>kY | .list=>q9 | .tuple=>lf| .all=>qf| .dict=>qm | .sortk=>mz
noncomputable def opM:MF -> D -> List D -> Mem -> QD -> Prop
 | .append=>ji
noncomputable def qv:MF0 -> D -> List D -> Mem -> QD -> Prop
 | .clear=>ln | .reverse=>gM
theorem mD:∀ o,aX (opB o)
 | .add=>uK | .sub=>uL | .mul=>uM | .fdiv=>rN | .mod=>uN | .pow=>uO
theorem eX:∀ o,aX (opC o)
 | .eq=>xL | .ne=>xM | .lt=>xP| .gt=>xQ | .ge=>xR| .neD=>vC
theorem vG:∀ o,aZ (opF o)
 | .len=>kW | .abs=>kZ| .min2=>jM | .int=>lc | .list=>jN | .tuple=>io| .all=>lK| .dict=>kb | .sortk=>iP
theorem vH:∀ o,cZ (opM o)
 | .append=>gB
theorem t6:∀ o,cZ (qv o)
 | .clear=>iA | .reverse=>fw
noncomputable abbrev Phi:=Nat -> RAd
mutual
noncomputable def bG:MG -> BT
 | .name i=>bu i
 | .tup gs=>jj (bGs gs)
noncomputable def bGs:MGs -> BTs
 | .nil=>eS
 | .cons g r=>bC (bG g) (bGs r)
end
mutual
noncomputable def wE (Φ:Phi):ME -> TEd
 | .var i=>ck i
 | .int i=>wC (.int i)
 | .bl b=>wC (.bl b)
 | .bin op a b=>wOp (opB op) (wE Φ a) (wE Φ b)
 | .neg a=>wUn pY (wE Φ a)
 | .cmp op a b=>wOp (opC op) (wE Φ a) (wE Φ b)
 | .and es=>wAnds Φ es
 | .not a=>iw (wE Φ a)
 | .ite c a b=>wIf (wT Φ c) (wE Φ a) (wE Φ b)
 | .tup es=>wAr kQ (wA Φ es)
 | .lst es=>wAr kR (wA Φ es)
 | .ix a b=>wOp wIx (wE Φ a) (wE Φ b)
 | .sl a lo hi=>wSl (wE Φ a) (wO Φ lo) (wO Φ hi)
 | .call f es=>wAr (Φ f) (wA Φ es)
 | .blt f es=>wAr (opF f) (wA Φ es)
 | .isin a T=>iz T (wE Φ a)
 | .isin2 a T U=>fG T U (wE Φ a)
 | .dnew t=>iG t
 | .dget o k x=>iL (wE Φ o) (wE Φ k) (wE Φ x)
 | .meth m o a=>wBM (opM m) (wE Φ o) (aK (wE Φ a) bx)
 | .meth0 m o=>wBM (qv m) (wE Φ o) bx
 | .ins o i a=>wBM jn (wE Φ o) (aK (wE Φ i) (aK (wE Φ a) bx))
 | .comp fr _ c=>wCmp Φ fr c
noncomputable def wA (Φ:Phi):MEs -> TAd
 | .nil=>bx
 | .cons e r=>aK (wE Φ e) (wA Φ r)
noncomputable def wFs (Φ:Phi):MEs -> Str -> TEd
 | .nil=>qt
 | .cons e r=>qu (wE Φ e) (wFs Φ r)
noncomputable def wAnds (Φ:Phi):MEs -> TEd
 | .nil=>fun _ _ _=>False
 | .cons e .nil=>wE Φ e
 | .cons e (.cons f r)=>iu (wE Φ e) (wAnds Φ (.cons f r))
noncomputable def wO (Φ:Phi):MO -> TOd
 | .none=>dX
 | .some e=>iy (wE Φ e)
noncomputable def wT (Φ:Phi):MT -> TTd
 | .tru e=>lh (wE Φ e)
 | .cmp op a b=>gH (wOp (opC op) (wE Φ a) (wE Φ b))
 | .and ts=>wAndTs Φ ts
 | .or ts=>wOrTs Φ ts
 | .not t=>iq (wT Φ t)
noncomputable def wAndTs (Φ:Phi):MTs -> TTd
 | .nil=>fun _ _ _=>False
 | .cons e .nil=>wT Φ e
 | .cons e (.cons f r)=>ir (wT Φ e) (wAndTs Φ (.cons f r))
noncomputable def wOrTs (Φ:Phi):MTs -> TTd
 | .nil=>fun _ _ _=>False
 | .cons e .nil=>wT Φ e
 | .cons e (.cons f r)=>lj (wT Φ e) (wOrTs Φ (.cons f r))
noncomputable def wTl (Φ:Phi):MTs -> List TTd
 | .nil => []
 | .cons t r=>wT Φ t :: wTl Φ r
noncomputable def wI (Φ:Phi):MI -> TId
 | .seq e=>lp (wE Φ e)
 | .rng1 a=>iB (aK (wE Φ a) bx)
 | .zip a b=>lq (wE Φ a) (wE Φ b)
 | .enum a=>iC (wE Φ a)
 | .keys a=>iQ (wE Φ a)
noncomputable def wCl (Φ:Phi):MC -> TCd
 | .last src g ifs elt=>df (wI Φ src) (bG g) (bv (wTl Φ ifs) (cc (wE Φ elt)))
 | .more src g ifs rest=>df (wI Φ src) (bG g) (bv (wTl Φ ifs) (wCl Φ rest))
noncomputable def wCmp (Φ:Phi) (fr:List (Option Nat)):MC -> TEd
 | .last src g ifs elt=>fY fr (wI Φ src) (bG g) (bv (wTl Φ ifs) (cc (wE Φ elt)))
 | .more src g ifs rest=>fY fr (wI Φ src) (bG g) (bv (wTl Φ ifs) (wCl Φ rest))
end
mutual
noncomputable def wS (Φ:Phi):MS -> TSd
 | .asg g e=>gN (wE Φ e) (bG g)
 | .par i j a b=>lD (aK (wE Φ a) (aK (wE Φ b) bx)) (bC (bu i) (bC (bu j) eS))
 | .put o i e=>lH (wE Φ e) (wE Φ o) (wE Φ i)
 | .drop e=>iF (wE Φ e)
 | .ret e=>lB (wE Φ e)
 | .ite c a b=>sIf (wT Φ c) (wSs Φ a) (wSs Φ b)
 | .for g src b=>lF (wI Φ src) (bG g) (wSs Φ b)
 | .while c b=>fC (wT Φ c) (wSs Φ b)
 | .frz i s=>qq i (wS Φ s)
 | .pass=>fZ
 | .brk=>fB
 | .cnt=>iE
noncomputable def wSs (Φ:Phi):MSs -> TSd
 | .nil=>fZ
 | .cons s r=>lw (wS Φ s) (wSs Φ r)
end
section
variable {Φ:Phi} (hΦ:∀ f,aZ (Φ f))
include hΦ
mutual
theorem mE:∀ m,ad (wE Φ m)
 | .var _=>uH
 | .int _=>rH
 | .bl _=>rH
 | .bin op a b=>dW (mD op) (mE a) (mE b)
 | .neg a=>xI kT (mE a)
 | .cmp op a b=>dW (eX op) (mE a) (mE b)
 | .and es=>mAnds es
 | .not a=>rV (mE a)
 | .ite c a b=>xX (mT c) (mE a) (mE b)
 | .tup es=>fT rK (mA es)
 | .lst es=>fT rL (mA es)
 | .ix a b=>dW oj (mE a) (mE b)
 | .sl a lo hi=>y4 (mE a) (mO lo) (mO hi)
 | .call f es=>fT (hΦ f) (mA es)
 | .blt f es=>fT (vG f) (mA es)
 | .isin a T=>rX (mE a)
 | .isin2 a T U=>qp (mE a)
 | .dnew _=>su
 | .dget o k x=>sP (mE o) (mE k) (mE x)
 | .meth m o a=>jh (vH m) (mE o) (ar (mE a) aw)
 | .meth0 m o=>jh (t6 m) (mE o) aw
 | .ins o i a=>jh gE (mE o) (ar (mE i) (ar (mE a) aw))
 | .comp fr _ c=>mCmp fr c
theorem mA:∀ m,bq (wA Φ m)
 | .nil=>aw
 | .cons e r=>ar (mE e) (mA r)
theorem mFs:∀ m acc,ad (wFs Φ m acc)
 | .nil,_=>sZ
 | .cons e r,_=>t5 (mE e) (mFs r)
theorem mAnds:∀ m,ad (wAnds Φ m)
 | .nil=>fun _ _ _ _ _ q=>q.elim
 | .cons e .nil=>mE e
 | .cons e (.cons f r)=>rT (mE e) (mAnds (.cons f r))
theorem mO:∀ m,eR (wO Φ m)
 | .none=>nJ
 | .some e=>rW (mE e)
theorem mT:∀ m,aE (wT Φ m)
 | .tru e=>uX (mE e)
 | .cmp op a b=>uI (dW (eX op) (mE a) (mE b))
 | .and ts=>mAndTs ts
 | .or ts=>mOrTs ts
 | .not t=>rR (mT t)
theorem mAndTs:∀ m,aE (wAndTs Φ m)
 | .nil=>fun _ _ _ _ _ q=>q.elim
 | .cons e .nil=>mT e
 | .cons e (.cons f r)=>rS (mT e) (mAndTs (.cons f r))
theorem mOrTs:∀ m,aE (wOrTs Φ m)
 | .nil=>fun _ _ _ _ _ q=>q.elim
 | .cons e .nil=>mT e
 | .cons e (.cons f r)=>uY (mT e) (mOrTs (.cons f r))
theorem mTl:∀ m, ∀ t ∈ wTl Φ m,aE t
 | .nil=>by rw [wTl];intro t ht;simp at ht
 | .cons t r=>by
  rw [wTl];intro t' ht
  rcases List.mem_cons.mp ht with e | e
  ·rw [e];exact mT t
  ·exact mTl r t' e
theorem mI:∀ m,cb (wI Φ m)
 | .seq e=>v7 (mE e)
 | .rng1 a=>sd (ar (mE a) aw)
 | .zip a b=>v8 (mE a) (mE b)
 | .enum a=>se (mE a)
 | .keys a=>sV (mE a)
theorem mCl:∀ m,bV (wCl Φ m)
 | .last src g ifs elt=>gC (mI src) (aO (bA (mE elt)) (mTl ifs))
 | .more src g ifs rest=>gC (mI src) (aO (mCl rest) (mTl ifs))
theorem mCmp (fr:List (Option Nat)):∀ m,ad (wCmp Φ fr m)
 | .last src g ifs elt=>jO (mI src) (aO (bA (mE elt)) (mTl ifs))
 | .more src g ifs rest=>jO (mI src) (aO (mCl rest) (mTl ifs))
end
mutual
theorem mS:∀ m,aI (wS Φ m)
 | .asg g e=>vc (mE hΦ e)
 | .par i j a b=>vd (ar (mE hΦ a) (ar (mE hΦ b) aw))
 | .put o i e=>vm (mE hΦ e) (mE hΦ o) (mE hΦ i)
 | .drop e=>si (mE hΦ e)
 | .ret e=>v9 (mE hΦ e)
 | .ite c a b=>va (mT hΦ c) (mSs a) (mSs b)
 | .for g src b=>ve (mI hΦ src) (mSs b)
 | .while c b=>qc (mT hΦ c) (mSs b)
 | .frz i s=>vB (mS s)
 | .pass=>jQ
 | .brk=>qb
 | .cnt=>sf
theorem mSs:∀ m,aI (wSs Φ m)
 | .nil=>jQ
 | .cons s r=>sg (mS s) (mSs r)
end
end
end
section
structure Ctx where
 Γ:List Str
 N:List Str
 sc:Scope
 fn:List Str
 cs:List (Str × Int)
noncomputable def glB (sc:Scope) (x:Str):Bool:=sc.names.lookup x == some .globalImplicit
noncomputable def vI (sc:Scope) (x:Str):Bool:=sc.names.lookup x == some .local || sc.names.lookup x == some .cell || sc.names.lookup x == some .free
noncomputable def vJ (sc:Scope) (x:Str):Bool:=sc.names.lookup x == some .local || sc.names.lookup x == some .cell
noncomputable def aN:Expr -> Bool
 | .Starred .. => false
 | _=>true
noncomputable def mF:Expr -> Bool
 | .Name .. | .Call .. | .Subscript .. | .Constant .. | .BinOp .. | .Attribute .. => true
 | _=>false
noncomputable def ee:Expr -> Bool
 | .Slice .. => false
 | _=>true
noncomputable def fH:Expr -> Bool
 | .ListComp .. | .SetComp .. | .DictComp .. => false
 | _=>true
noncomputable def iR:Expr -> Bool
 | .Set .. => false
 | _=>true
noncomputable def dh:Expr -> Bool
 | .Call .. => false
 | _=>true
noncomputable def opO:BOp -> Operator
 | .add => .Add | .sub => .Sub | .mul => .Mult | .fdiv => .FloorDiv | .mod => .Mod | .pow => .Pow
noncomputable def vK:COp -> CmpOp
 | .eq => .Eq | .ne => .NotEq | .lt => .Lt| .gt => .Gt | .ge => .GtE| .neD => .NotEq
noncomputable def mG:BF -> Str
 | .len => "len" | .abs => "abs"| .min2 => "min" | .int => "int" | .list => "list" | .tuple => "tuple"| .all => "all"| .dict => "dict" | .sortk => "sorted"
noncomputable def Ar:MF -> Str
 | .append => "append"
noncomputable def yB:MF0 -> Str
 | .clear => "clear" | .reverse => "reverse"
noncomputable def gS:List Str := ["len", "abs", "max", "min", "int", "list", "tuple", "sum", "isinstance", "range", "bool", "str", "dict", "zip", "enumerate", "reversed", "sorted", "all", "any", "set"]
noncomputable def gT (sc osc:Scope):Scope :=
 { sc with names:=sc.names.map fun (n,k)=>if (k == .free && osc.kind == .function && osc.names.lookup n == some .cell) then (n, .cell) else (n,k) }
theorem nQ (sc:Scope) (env:Env):relabel sc env = gT sc env.scope:=rfl
noncomputable def vL (sc osc:Scope) (oN N':List Str) (fr:List (Option Nat)):Bool :=
 decide (sc.kind = .function) && decide ((sc.names.map (·.1)).Nodup) && decide (N'.Nodup)
  && sc.names.all (fun x => !(x.2 == .free) || osc.names.lookup x.1 == some .cell || osc.names.lookup x.1 == some .free)
  && decide (fr.length = N'.length)
  && (List.range N'.length).all fun i=>match fr[i]?,N'[i]? with
   | some (some j),some x=>decide (oN[j]? = some x) && sc.names.any (fun y=>decide (y = (x,NameKind.free)))
   | _,_=>true
mutual
noncomputable def okG:MG -> Ctx -> Expr -> Bool
 | .name i,C,e=>match e with
  | .Name x _=>decide (C.N[i]? = some x) && vJ C.sc x && (C.sc.names.lookup x == some .local || C.fn.contains x)
  | _=>false
 | .tup gs,C,e=>match e with
  | .Tuple es _ _=>okGs gs C es
  | _=>false
noncomputable def okGs:MGs -> Ctx -> List Expr -> Bool
 | .nil,_,es=>es.isEmpty
 | .cons g r,C,es=>match es with
  | e :: es=>aN e && okG g C e && okGs r C es
  | [] => false
end
noncomputable def eY:Expr -> Option Str
 | .Name x _=>some x
 | _=>none
noncomputable def dL:Expr -> Option (List Expr)
 | .Tuple ts _ _=>some ts
 | _=>none
noncomputable def wP:Stmt -> Option (List Expr × Expr)
 | .Assign ts e _=>some (ts,e)
 | _=>none
theorem di {e:Expr} {x:Str} (h:eY e = some x):∃ p,e = .Name x p:=by
 cases e <;> first
  | (cases h;exact ⟨_,rfl⟩)
  | cases h
theorem dz {e:Expr} {ts:List Expr} (h:dL e = some ts):∃ k p,e = .Tuple ts k p:=by
 cases e <;> first
  | (cases h;exact ⟨_,_,rfl⟩)
  | cases h
theorem vM {s:Stmt} {ts:List Expr} {e:Expr} (h:wP s = some (ts,e)):∃ p,s = .Assign ts e p:=by
 cases s <;> first
  | (cases h;exact ⟨_,rfl⟩)
  | cases h
noncomputable def cOf:Expr -> Option (Expr × List Expr × List Keyword × Pos)
 | .Call f xs ks p=>some (f,xs,ks,p)
 | _=>none
noncomputable def kz:Expr -> Option (Expr × Str × Pos)
 | .Attribute o n p=>some (o,n,p)
 | _=>none
noncomputable def kA:Expr -> Option (Expr × Expr)
 | .Subscript x y _=>some (x,y)
 | _=>none
noncomputable def qw:Expr -> Option (Option Expr × Option Expr × Option Expr)
 | .Slice l u s _=>some (l,u,s)
 | _=>none
noncomputable def iS:Expr -> Option (Expr × List CmpOp × List Expr)
 | .Compare l os rs _=>some (l,os,rs)
 | _=>none
noncomputable def As:Expr -> Option (Expr × Expr × Comprehension × Scope)
 | .DictComp k v [g] sc _=>some (k,v,g,sc)
 | _=>none
theorem t7 {e f:Expr} {xs:List Expr} {ks:List Keyword} {p:Pos} (h:cOf e = some (f,xs,ks,p)):e = .Call f xs ks p:=by
 cases e <;> first
  | (cases h;rfl)
  | cases h
theorem vN {e o:Expr} {n:Str} {p:Pos} (h:kz e = some (o,n,p)):e = .Attribute o n p:=by
 cases e <;> first
  | (cases h;rfl)
  | cases h
theorem vO {e x y:Expr} (h:kA e = some (x,y)):∃ p,e = .Subscript x y p:=by
 cases e <;> first
  | (cases h;exact ⟨_,rfl⟩)
  | cases h
theorem yC {e:Expr} {l u s:Option Expr} (h:qw e = some (l,u,s)):∃ p,e = .Slice l u s p:=by
 cases e <;> first
  | (cases h;exact ⟨_,rfl⟩)
  | cases h
theorem mH {e l:Expr} {os:List CmpOp} {rs:List Expr} (h:iS e = some (l,os,rs)):∃ p,e = .Compare l os rs p:=by
 cases e <;> first
  | (cases h;exact ⟨_,rfl⟩)
  | cases h
noncomputable def bT (e:Expr):Option (Str × List Expr):=match cOf e with
 | some (f,xs,[],_)=>match eY f with
   | some x=>some (x,xs)
   | none=>none
 | _=>none
noncomputable def cO (e:Expr):Option (Expr × Str × List Expr × Pos × Pos):=match cOf e with
 | some (f,xs,[],p)=>match kz f with
   | some (o,n,q)=>some (o,n,xs,q,p)
   | none=>none
 | _=>none
noncomputable def eh (e:Expr):Option (Expr × Option Expr × Option Expr × Option Expr):=match kA e with
 | some (x,y)=>match qw y with
   | some (l,u,s)=>some (x,l,u,s)
   | none=>none
 | none=>none
theorem bU {e:Expr} {x:Str} {xs:List Expr} (h:bT e = some (x,xs)):∃ p pos,e = .Call (.Name x p) xs [] pos:=by
 unfold bT at h
 split at h
 ·next f ys q h1 =>
  split at h
  ·next y h2 =>
   cases h
   obtain ⟨p,rfl⟩:=di h2
   exact ⟨p,q,t7 h1⟩
  ·cases h
 ·cases h
theorem dM {e o:Expr} {n:Str} {xs:List Expr} {q p:Pos} (h:cO e = some (o,n,xs,q,p)):e = .Call (.Attribute o n q) xs [] p:=by
 unfold cO at h
 split at h
 ·next f ys p' h1 =>
  split at h
  ·next o' n' q' h2 =>
   cases h
   rw [t7 h1,vN h2]
  ·cases h
 ·cases h
theorem qz {e x:Expr} {l u s:Option Expr} (h:eh e = some (x,l,u,s)):∃ p pos,e = .Subscript x (.Slice l u s p) pos:=by
 unfold eh at h
 split at h
 ·next x' y h1 =>
  split at h
  ·next l' u' s' h2 =>
   cases h
   obtain ⟨pos,rfl⟩:=vO h1
   obtain ⟨p,rfl⟩:=yC h2
   exact ⟨p,pos,rfl⟩
  ·cases h
 ·cases h
mutual
noncomputable def okE:ME -> Ctx -> Expr -> Bool
 | .var i,C,e=>match e with
  | .Name x _=>decide (C.N[i]? = some x) && vI C.sc x && !(x == ("__debug__":Str)) && !(x == ("__classdict__":Str))
  | _=>false
 | .int i,_,e=>match e with
  | .Constant (.int j) _ _=>decide (i = j)
  | _=>false
 | .bl i,_,e=>match e with
  | .Constant (.bool j) _ _=>i == j
  | _=>false
 | .bin op a b,C,e=>match e with
  | .BinOp l o r _=>decide (o = opO op) && okE a C l && okE b C r
  | _=>false
 | .neg a,C,e=>match e with
  | .UnaryOp .USub x _=>okE a C x
  | _=>false
 | .cmp op a b,C,e=>match iS e with
  | some (l,[o],[r])=>decide (o = vK op) && okE a C l && okE b C r && !(behindInMarks o r)
  | _=>false
 | .and es,C,e=>match e with
  | .BoolOp .And xs _ => !xs.isEmpty && okEs es C xs
  | _=>false
 | .not a,C,e=>match e with
  | .UnaryOp .Not x _=>okE a C x
  | _=>false
 | .ite c a b,C,e=>match e with
  | .IfExp t x y _=>okT c C t && okE a C x && okE b C y
  | _=>false
 | .tup es,C,e=>match e with
  | .Tuple xs _ _=>okEs es C xs
  | _=>false
 | .lst es,C,e=>match e with
  | .List xs _=>okEs es C xs
  | _=>false
 | .ix a b,C,e=>match e with
  | .Subscript x y _=>ee y && okE a C x && okE b C y
  | _=>false
 | .sl a lo hi,C,e=>match eh e with
  | some (x,l,u,none)=>okE a C x && okO lo C l && okO hi C u
  | _=>false
 | .call f es,C,e=>match bT e with
  | some (x,xs)=>decide (C.Γ[f]? = some x) && glB C.sc x && !(x == ("__debug__":Str)) && okEs es C xs
  | _=>false
 | .blt f es,C,e=>match bT e with
  | some (x,xs)=>decide (x = mG f) && glB C.sc x && !xs.isEmpty && okEs es C xs
  | _=>false
 | .isin2 a T U,C,e=>match bT e with
  | some (x,[y,w])=>match dL w with
    | some [z',v'] => match eY z' with
      | some z=>match eY v' with
        | some v=>decide (x = "isinstance") && glB C.sc x && glB C.sc z && glB C.sc v && decide (z = Str.ofString T) && decide (v = Str.ofString U) && decide (T ∈ ["bool", "int", "str", "tuple", "list", "dict"]) && decide (U ∈ ["bool", "int", "str", "tuple", "list", "dict"]) && aN y && okE a C y
        | none=>false
      | none=>false
    | _=>false
  | _=>false
 | .isin a T,C,e=>match bT e with
  | some (x,[y,z'])=>match eY z' with
    | some z=>decide (x = "isinstance") && glB C.sc x && glB C.sc z && decide (z = Str.ofString T) && decide (T ∈ ["bool", "int", "str", "tuple", "list", "dict"]) && aN y && okE a C y
    | none=>false
  | _=>false
 | .dnew _,_,e=>match e with
  | .Dict [] [] _=>true
  | _=>false
 | .dget o k x,C,e=>match cO e with
  | some (y,n,[e1,e2],ap,cp)=>decide (n = "get") && dh y && (ap.endLine == cp.line) && aN e1 && aN e2 && okE o C y && okE k C e1 && okE x C e2
  | _=>false
 | .meth m o a,C,e=>match cO e with
  | some (x,n,[y],ap,cp)=>decide (n = Ar m) && dh x && (ap.endLine == cp.line) && aN y && okE o C x && okE a C y
  | _=>false
 | .ins o i a,C,e=>match cO e with
  | some (x,n,[y,z],ap,cp)=>decide (n = "insert") && dh x && (ap.endLine == cp.line) && aN y && aN z && okE o C x && okE i C y && okE a C z
  | _=>false
 | .meth0 m o,C,e=>match cO e with
  | some (x,n,[],ap,cp)=>decide (n = yB m) && dh x && (ap.endLine == cp.line) && okE o C x
  | _=>false
 | .comp fr N' c,C,e=>match e with
  | .ListComp elt gens sc _=>vL sc C.sc C.N N' fr && okC c C ⟨C.Γ,N',gT sc C.sc,(sc.names.filter (·.2 == .cell)).map (·.1),C.cs⟩ gens elt
  | _=>false
noncomputable def okEs:MEs -> Ctx -> List Expr -> Bool
 | .nil,_,es=>es.isEmpty
 | .cons m r,C,es=>match es with
  | e :: es=>aN e && okE m C e && okEs r C es
  | [] => false
noncomputable def okO:MO -> Ctx -> Option Expr -> Bool
 | .none,_,e=>e.isNone
 | .some m,C,e=>match e with
  | some e=>okE m C e
  | none=>false
noncomputable def okT:MT -> Ctx -> Expr -> Bool
 | .tru m,C,e=>mF e && okE m C e
 | .cmp op a b,C,e=>match iS e with
  | some (l,[o],[r])=>decide (o = vK op) && okE a C l && okE b C r && !(behindInMarks o r)
  | _=>false
 | .and ts,C,e=>match e with
  | .BoolOp .And xs _ => !xs.isEmpty && okTs ts C xs
  | _=>false
 | .or ts,C,e=>match e with
  | .BoolOp .Or xs _ => !xs.isEmpty && okTs ts C xs
  | _=>false
 | .not t,C,e=>match e with
  | .UnaryOp .Not x _=>okT t C x
  | _=>false
noncomputable def okTs:MTs -> Ctx -> List Expr -> Bool
 | .nil,_,es=>es.isEmpty
 | .cons m r,C,es=>match es with
  | e :: es=>okT m C e && okTs r C es
  | [] => false
noncomputable def okI:MI -> Ctx -> Expr -> Expr -> Bool
 | .seq m,C,_,e=>iR e && okE m C e
 | .keys m,C,_,e=>iR e && okE m C e
 | .rng1 a,C,_,e=>match bT e with
  | some (x,[y])=>decide (x = "range") && glB C.sc x && aN y && okE a C y
  | _=>false
 | .enum a,C,t,e=>match bT e with
  | some (x,[y])=>(dL t).isSome && decide (x = "enumerate") && glB C.sc x && aN y && okE a C y
  | _=>false
 | .zip a b,C,t,e=>match bT e with
  | some (x,[y,z])=>(dL t).isSome && decide (x = "zip") && glB C.sc x && aN y && aN z && okE a C y && okE b C z
  | _=>false
noncomputable def okC:MC -> Ctx -> Ctx -> List Comprehension -> Expr -> Bool
 | .last src g ifs m,Cs,C,gens,elt=>match gens with
  | [⟨t,it,fs,a⟩] => decide (a = 0) && okI src Cs t it && okG g C t && okTs ifs C fs && okE m C elt
  | _=>false
 | .more src g ifs rest,Cs,C,gens,elt=>match gens with
  | ⟨t,it,fs,a⟩ :: g2 :: gs=>decide (a = 0) && okI src Cs t it && okG g C t && okTs ifs C fs && okC rest C C (g2 :: gs) elt
  | _=>false
end
noncomputable def bb (sc:Scope) (ts:List Expr):List Str:=ts.filterMap fun
 | .Name id pos=>if sc.names.lookup id == some .local && pos.line == (ts.head?.map (·.pos.line)).getD 0 then some id else none
 | _=>none
noncomputable def qA (sc:Scope) (ts vs:List Expr):Bool := !(ts.length == 2 || ts.length == 3) || vs.length != ts.length || (bb sc ts).length != ts.length || (bb sc ts).eraseDups.length != (bb sc ts).length || vs.all (foldedForSure 8)
noncomputable def qB (C:Ctx) (i:Nat) (x:Str):Bool:=decide (C.N[i]? = some x) && decide (C.sc.names.lookup x = some .local)
noncomputable def qC (sc:Scope) (ts vs:List Expr) (ns:List Str):Bool := !(!(ts.length == 2 || ts.length == 3) || vs.length != ts.length) && !(vs.any fun | .Starred .. => true | _=>false) && decide (bb sc ts = ns) && !((bb sc ts).length != ts.length || (bb sc ts).eraseDups.length != (bb sc ts).length) && !(vs.all (foldedForSure 8)) && !(vs.all (constantsAlone 8))
noncomputable def iT (sc:Scope) (tg e:Expr):Bool:=match tg,e with
 | .Tuple ts _ _, .Tuple vs _ _=>qA sc ts vs
 | .Tuple ..,_=>true
 | .Name ..,_=>true
 | _,_=>false
noncomputable def Au (sc:Scope) (x:Str) (px:Pos) (e:Expr):Bool:=match e with
 | .DictComp _ _ _ s _ => !(sc.names.lookup x == some .local && px.line == e.pos.line && !(s.names.any fun (n,k)=>n == x && (k == .local || k == .cell)))
 | _=>true
noncomputable def qD (sc:Scope) (x:Str) (px:Pos) (e:Expr):Bool:=match e with
 | .ListComp _ _ s _=>sc.names.lookup x == some .local && px.line == e.pos.line && !(s.names.any fun (n,k)=>n == x && (k == .local || k == .cell))
 | _=>false
noncomputable def qE (s:Stmt):Option (List Expr × List Expr):=match wP s with
 | some ([t],e)=>match dL t with
   | some ts=>match dL e with
     | some es=>some (ts,es)
     | none=>none
   | none=>none
 | _=>none
theorem vP {s:Stmt} {ts es:List Expr} (h:qE s = some (ts,es)):∃ k p k' p' pos,s = .Assign [.Tuple ts k p] (.Tuple es k' p') pos:=by
 unfold qE at h
 split at h
 ·next t e h1 =>
  split at h
  ·next ts' h2 =>
   split at h
   ·next es' h3 =>
    cases h
    obtain ⟨k,p,rfl⟩:=dz h2
    obtain ⟨k',p',rfl⟩:=dz h3
    obtain ⟨pos,rfl⟩:=vM h1
    exact ⟨k,p,k',p',pos,rfl⟩
   ·cases h
  ·cases h
 ·cases h
mutual
noncomputable def okS:MS -> Ctx -> Stmt -> Bool
 | .asg g m,C,s=>match s with
  | .Assign [tg] e _=>okG g C tg && okE m C e && iT C.sc tg e && (match tg with | .Name x px=>Au C.sc x px e | _=>fH e)
  | _=>false
 | .par i j a b,C,s=>match qE s with
  | some ([t,u],[e,f])=>match eY t with
    | some x=>match eY u with
      | some y=>qB C i x && qB C j y && decide (i ≠ j) && aN e && aN f && okE a C e && okE b C f && qC C.sc [t,u] [e,f] [x,y]
      | none=>false
    | none=>false
  | _=>false
 | .put o i m,C,s=>match s with
  | .Assign [.Subscript x y _] e _=>ee y && fH e && okE o C x && okE i C y && okE m C e
  | _=>false
 | .drop m,C,s=>match s with
  | .Expr e _=>fH e && okE m C e
  | _=>false
 | .ret m,C,s=>match s with
  | .Return (some e) _=>okE m C e
  | _=>false
 | .ite c a b,C,s=>match s with
  | .If t x y _=>okT c C t && okSs a C x && okSs b C y
  | _=>false
 | .for g src b,C,s=>match s with
  | .For tg it body [] _=>iR it && okG g C tg && okI src C tg it && okSs b C body
  | _=>false
 | .while c b,C,s=>match s with
  | .While t body [] _=>okT c C t && okSs b C body
  | _=>false
 | .frz _ m,C,s=>okS m C s
 | .pass,_,s=>match s with
  | .Pass _=>true
  | _=>false
 | .brk,_,s=>match s with
  | .Break _=>true
  | _=>false
 | .cnt,_,s=>match s with
  | .Continue _=>true
  | _=>false
noncomputable def okSs:MSs -> Ctx -> List Stmt -> Bool
 | .nil,_,ss=>ss.isEmpty
 | .cons m r,C,ss=>match ss with
  | s :: ss=>okS m C s && okSs r C ss
  | [] => false
end
theorem ak {e:Expr} {es:List Expr} {env:Env} (h:aN e = true):starEach (e :: es) env = (false,eval e env) :: starEach es env:=by
 cases e <;> first | rfl | (simp [aN] at h;done)
theorem ke {e:Expr} {es:List Expr} {env:Env} (h:aN e = true):assignEach (e :: es) env = (false,assign e env) :: assignEach es env:=by
 cases e <;> first | rfl | (simp [aN] at h;done)
theorem qF {e:Expr} {env:Env} (h:mF e = true):∀ whole,isTrue e env whole = (do let v <- whole;standAt e.pos;holding [v] (truthy v)):=by
 intro w
 cases e <;> first | rfl | (simp [mF] at h;done)
theorem vQ {e:Expr} (h:ee e = true):j7 e:=by
 intro o i
 cases e <;> first | rfl | (simp [ee] at h;done)
theorem mJ {e:Expr} {env:Env} (h:iR e = true):∀ x,foldedSetIterable e env x = pure x:=by
 intro x
 cases e <;> first | rfl | (simp [iR] at h;done)
theorem dA {e:Expr} {n:Str} {env:Env} (h:dh e = true):attributeBase e n env (eval e env) = eval e env:=by
 cases e <;> first | rfl | (simp [dh] at h;done)
theorem jo {e:Expr} {t:Option Expr} {l:Nat} {env:Env} (h:fH e = true):swapsWith e t l env = pure false:=by
 cases e <;> first | rfl | (simp [fH] at h;done)
end
section
noncomputable def lSp (K:Frag) (r:RAd):Sp:=fun vs H Q _=>lR K r vs H Q
structure Good (C:Ctx) (Φ:Phi) (k:Nat) (X:Cx):Prop where
 hx:∀ e s,X.xe e s -> False
 calm:X.calm = true
 N:X.N = C.N
 sc:X.env.scope = C.sc
 nd:X.N.Nodup
 fn:∀ x ∈ C.fn,X.fn x = true
 room:Room k X.A
 mgB:∀ x ∈ gS,X.mg x = none
 fns:∀ (i:Nat) (x:Str),C.Γ[i]? = some x -> ∃ f fd ps,X.mg x = some (.ref f) /\ PySem.W.keepIn X.K (.ref f) = true /\ Binds X.K fd ps [] /\ FnOk X.prog X.w X.K X.mg X.base CX0 k f fd ps (lSp X.K (Φ i))
 mono:∀ f,aZ (Φ f)
 cs:∀ x i,(x,i) ∈ C.cs -> ∃ t,X.mg x = some (.int i t)
section
variable {C:Ctx} {Φ:Phi} {k:Nat} {X:Cx}
theorem Good.units (G:Good C Φ k X):X.A.units + 64 < cLine:=G.room.units
theorem Good.gl (G:Good C Φ k X) {x:Str} (h:glB C.sc x = true):Gl X x:=by
 show X.env.scope.names.lookup x = _
 rw [G.sc]
 simpa [glB] using h
theorem Good.vis (G:Good C Φ k X) {x:Str} (h:vI C.sc x = true):Vis X.env.scope x:=by
 unfold Vis
 rw [G.sc]
 simp [vI] at h
 rcases h with (h | h) | h
 ·exact .inl h
 ·exact .inr (.inl h)
 ·exact .inr (.inr h)
theorem Good.loc (G:Good C Φ k X) {x:Str} (h:vJ C.sc x = true):Loc X.env.scope x:=by
 unfold Loc
 rw [G.sc]
 simpa [vJ] using h
theorem Good.own (G:Good C Φ k X) {x:Str} (h:(C.sc.names.lookup x == some .local || C.fn.contains x) = true):X.fn x = true ∨ X.env.scope.names.lookup x = some .local:=by
 rw [G.sc]
 simp at h
 rcases h with h | h
 ·exact .inr h
 ·exact .inl (G.fn x h)
theorem Av (G:Good C Φ k X):∀ o:BOp,OpR X (binaryOp (opO o)) (l2 X.K (opB o))
 | .add=>uP | .sub=>uQ | .mul=>uR | .fdiv=>rO | .mod=>uT | .pow=>uU
theorem oI (G:Good C Φ k X):∀ o:COp,OpR X (compareOp (vK o)) (l2 X.K (opC o))
 | .eq=>xN (by have:=G.units;omega) | .ne=>xO (by have:=G.units;omega) | .lt=>xS| .gt=>xT | .ge=>xU| .neD=>vE (by have:=G.units;omega)
theorem Aw (G:Good C Φ k X) {f:BF} {e:Expr} {es:List Expr} {t:TAd} {p pos:Pos} (mt:bq t) (hg:Gl X (mG f)) (ha:PA X (e :: es) (lA X.K t))
 (he:starEach (e :: es) X.env = (false,eval e X.env) :: starEach es X.env) (hpl:(backTo pos (starEach es X.env)).any (·.1) = false):PE X (.Call (.Name (mG f) p) (e :: es) [] pos) (lE X.K (wAr (opF f) t)):=by
 cases f with
 | len=>exact PE.imp (ci pZ hg (G.mgB _ (by decide)) PySem.boot_len ha (by decide) (by decide) he hpl) (bJ kW mt)
 | abs=>exact PE.imp (ci q0 hg (G.mgB _ (by decide)) (by decide +kernel) ha (by decide) (by decide) he hpl) (bJ kZ mt)
 | min2=>exact PE.imp (ci (nH G.calm) hg (G.mgB _ (by decide)) (by decide +kernel) ha (by decide) (by decide) he hpl) (bJ jM mt)
 | int=>exact PE.imp (dE q8 hg (G.mgB _ (by decide)) (by decide +kernel) ha (by decide) (by decide) he hpl) (bJ lc mt)
 | list=>exact PE.imp (dE nI hg (G.mgB _ (by decide)) (by decide +kernel) ha (by decide) (by decide) he hpl) (bJ jN mt)
 | tuple=>exact PE.imp (dE lg hg (G.mgB _ (by decide)) (by decide +kernel) ha (by decide) (by decide) he hpl) (bJ io mt)
 | all=>exact PE.imp (ci (qg G.calm) hg (G.mgB _ (by decide)) (by decide +kernel) ha (by decide) (by decide) he hpl) (bJ lK mt)
 | dict=>exact PE.imp (dE (nP (by have:=G.units;omega) G.calm) hg (G.mgB _ (by decide)) (by decide +kernel) ha (by decide) (by decide) he hpl) (bJ kb mt)
 | sortk=>exact PE.imp (ci (mC (by have:=G.units;omega) G.calm) hg (G.mgB _ (by decide)) (by decide +kernel) ha (by decide) (by decide) he hpl) (bJ iP mt)
theorem yD (G:Good C Φ k X) {f:Nat} {x:Str} {e:Expr} {es:List Expr} {t:TAd} {p pos:Pos} (mt:bq t) (hf:C.Γ[f]? = some x) (hg:Gl X x) (hdb:(x == ("__debug__":Str)) = false) (ha:PA X (e :: es) (lA X.K t))
 (he:starEach (e :: es) X.env = (false,eval e X.env) :: starEach es X.env) (hpl:(backTo pos (starEach es X.env)).any (·.1) = false):PE X (.Call (.Name x p) (e :: es) [] pos) (lE X.K (wAr (Φ f) t)):=by
 obtain ⟨a,fd,ps,hm,hk,hb,F⟩:=G.fns f x hf
 refine PE.imp (xA F G.room hg hm hk hb .nil ww ha hdb he hpl) fun σ H Q h => ?_
 have h2:=bJ (G.mono f) mt σ H Q h
 have:(fun vs H1=>lSp X.K (Φ f) (vs ++ []) H1 Q E0) = fun vs H1=>lR X.K (Φ f) vs H1 Q:=by
  funext vs H1;rw [List.append_nil];rfl
 show (lA X.K t) σ H _
 rw [this]
 exact h2
theorem vR (G:Good C Φ k X) {f:Nat} {x:Str} {p pos:Pos} (hf:C.Γ[f]? = some x) (hg:Gl X x) (hdb:(x == ("__debug__":Str)) = false):PE X (.Call (.Name x p) [] [] pos) (lE X.K (wAr (Φ f) bx)):=by
 obtain ⟨a,fd,ps,hm,hk,hb,F⟩:=G.fns f x hf
 refine PE.imp (um F G.room hg hm hk hb .nil ww hdb) fun σ H Q h => ?_
 obtain ⟨ρ,M,rs,rm,q⟩:=h
 exact ⟨[],M,rm,RDs.nil,q⟩
theorem gU {env:Env} {pos:Pos}:∀ {es:List Expr},es.all aN = true -> (backTo pos (starEach es env)).any (·.1) = false
 | [],_=>rfl
 | e :: es,h=>by
   simp only [List.all_cons,Bool.and_eq_true] at h
   rw [ak h.1]
   show (false || (backTo pos (starEach es env)).any (·.1)) = false
   rw [gU h.2];rfl
theorem fI:∀ {ms:MEs} {es:List Expr},okEs ms C es = true -> es.all aN = true
 | .nil,[],_=>rfl
 | .nil,_ :: _,h=>by simp [okEs] at h
 | .cons m r,[],h=>by simp [okEs] at h
 | .cons m r,e :: es,h=>by
  simp only [okEs,Bool.and_eq_true] at h
  simp only [List.all_cons,Bool.and_eq_true]
  exact ⟨h.1.1,fI h.2⟩
theorem oJ:∀ {gs:MGs} {es:List Expr},okGs gs C es = true -> ∀ ds ρ ρ',bGs gs ds ρ = some ρ' -> ds.length = es.length
 | .nil,es,h,ds, ρ, ρ',e=>by
  simp [okGs] at h;subst h
  rw [bGs] at e
  cases ds with
  | nil=>rfl
  | cons _ _=>cases e
 | .cons g r,[],h,_,_,_,_=>by simp [okGs] at h
 | .cons g r,x :: es,h,ds, ρ, ρ',e=>by
  simp only [okGs,Bool.and_eq_true] at h
  rw [bGs] at e
  cases ds with
  | nil=>cases e
  | cons d ds =>
    simp only [bC] at e
    cases e1:bG g d ρ with
    | none=>rw [e1] at e;cases e
    | some ρ1 =>
      rw [e1] at e
      simp [oJ h.2 ds ρ1 ρ' e]
theorem mK {env:Env}:∀ {gs:MGs} {es:List Expr},okGs gs C es = true -> (assignEach es env).length = es.length /\ (assignEach es env).findIdx? (·.1) = none
 | .nil,es,h=>by simp [okGs] at h;subst h;exact ⟨rfl,rfl⟩
 | .cons g r,[],h=>by simp [okGs] at h
 | .cons g r,x :: es,h=>by
  simp only [okGs,Bool.and_eq_true] at h
  obtain ⟨a,b⟩:=mK (env:=env) h.2
  rw [ke h.1.1]
  refine ⟨by simp [a], ?_⟩
  rw [List.findIdx?_cons]
  simp [b]
mutual
theorem sG (G:Good C Φ k X):∀ (m:MG) (e:Expr),okG m C e = true -> PG X e (lG X.K (bG m))
 | .name i,e,h=>by
  simp only [okG] at h
  split at h
  ·simp only [Bool.and_eq_true] at h
   exact y9 G.nd (by rw [G.N];exact of_decide_eq_true h.1.1) (G.loc h.1.2) (G.own h.2)
  ·cases h
 | .tup gs,e,h=>by
  simp only [okG] at h
  split at h
  ·rw [bG]
   obtain ⟨a,b⟩:=mK (env:=X.env) h
   exact Aa G.calm (oJ h) (sGs G gs _ h) a b
  ·cases h
theorem sGs (G:Good C Φ k X):∀ (m:MGs) (es:List Expr),okGs m C es = true -> PGs X es (lGs X.K (bGs m))
 | .nil,es,h=>by
  simp [okGs] at h;subst h
  exact ya
 | .cons g r,[],h=>by simp [okGs] at h
 | .cons g r,e :: es,h=>by
  simp only [okGs,Bool.and_eq_true] at h
  exact v6 (sG G g e h.1.2) (sGs G r es h.2) (by rw [ke h.1.1];rfl)
end
theorem PB.imp {F:Sem Fin -> Sem Fin} {t t':TC} (h:PB X F t) (i:∀ σ H N,t' σ H N -> t σ H N):PB X F t':=fun pins s σ H N k Q E I q hk=>h pins s σ H N k Q E I (i _ _ _ q) hk
theorem iU {sc osc:Scope} {oN N':List Str} {fr:List (Option Nat)} (h:vL sc osc oN N' fr = true):bf sc osc oN N' fr:=by
 simp only [vL,Bool.and_eq_true,decide_eq_true_eq] at h
 obtain ⟨⟨⟨⟨⟨h1,h2⟩,h3⟩,h4⟩,h5⟩,h6⟩:=h
 refine ⟨h1,h2,h3,fun x hx e => ?_,h5,fun i j x hi hf => ?_⟩
 ·have h4':=List.all_eq_true.mp h4 x hx
  rw [e] at h4'
  simpa using h4'
 ·have hlt:i < N'.length:=(List.getElem?_eq_some_iff.mp hi).1
  have h6':=List.all_eq_true.mp h6 i (List.mem_range.mpr hlt)
  rw [hf,hi] at h6'
  simp only [Bool.and_eq_true,decide_eq_true_eq,List.any_eq_true] at h6'
  obtain ⟨a,y,hy,e⟩:=h6'
  exact ⟨a,by rw [<- e];exact hy⟩
theorem Good.blk (G:Good C Φ k X) {sc:Scope} {N':List Str} {fr:List (Option Nat)} (B:bf sc C.sc C.N N' fr) (s:Shared) (H:Hp) (fp:List Addr) :
 Good ⟨C.Γ,N',gT sc C.sc,(sc.names.filter (·.2 == .cell)).map (·.1),C.cs⟩ Φ k (aH X sc N' s H fp):=by
 refine ⟨fun _ _ h=>h,G.calm,rfl, ?_,B.ndN,fun x hx => ?_,G.room,G.mgB,G.fns,G.mono,G.cs⟩
 ·show relabel sc X.env = _
  rw [nQ,G.sc]
 ·obtain ⟨y,hy,e⟩:=List.mem_map.mp hx
  obtain ⟨h1,h2⟩:=List.mem_filter.mp hy
  obtain ⟨n,kd⟩:=y
  have h2':kd = .cell:=by simpa using h2
  subst h2'
  have e':n = x:=e
  subst e'
  show (sc.names.lookup n == some .cell) = true
  rw [aS B.nd h1]
  rfl
end
end
section
section
variable {Φ:Phi} {k:Nat}
theorem dj {C:Ctx} {X:Cx} (G:Good C Φ k X) {F:Sem Fin -> Sem Fin} {p:Addr} {tb:TCd} {ifs:List Expr} {ts:List TTd} (mb:bV tb) (mt:∀ t ∈ ts,aE t) (hb:PB X F (lC X.K p tb)) (hp:Paired (fun c t=>PT X c t) ifs (ts.map (lT X.K))) :
 PB X (fun k=>bp ifs X.env >>= fun ok=>if ok = true then F k else k) (lC X.K p (bv ts tb)) :=
 PB.imp (uE G.hx hb hp) (iD mb mt)
theorem fJ {m:MC} {Cs C:Ctx} {g2:Comprehension} {gs:List Comprehension} {elt:Expr} (h:okC m Cs C (g2 :: gs) elt = true):g2.is_async = 0:=by
 obtain ⟨t,i,f,a⟩:=g2
 cases m with
 | last src g ifs m =>
   cases gs with
   | nil=>simp only [okC,Bool.and_eq_true,decide_eq_true_eq] at h;exact h.1.1.1.1
   | cons _ _=>simp [okC] at h
 | more src g ifs rest =>
   cases gs with
   | nil=>simp [okC] at h
   | cons _ _=>simp only [okC,Bool.and_eq_true,decide_eq_true_eq] at h;exact h.1.1.1.1
theorem gW {C:Ctx} {X:Cx} (G:Good C Φ k X):∀ T ∈ ["bool", "int", "str", "tuple", "list", "dict"],X.mg (Str.ofString T) = none /\ bootBuiltins (Str.ofString T) = some (.type T) /\ Str.ofString T ≠ "__name__" /\ (Str.ofString T == ("__debug__":Str)) = false:=by
 intro T hT
 simp only [List.mem_cons,List.not_mem_nil,or_false] at hT
 rcases hT with rfl | rfl | rfl | rfl | rfl | rfl
 all_goals exact ⟨G.mgB _ (by decide),by decide +kernel,by decide,by decide⟩
mutual
theorem sE:∀ (m:ME) {C:Ctx} {X:Cx} (G:Good C Φ k X) (e:Expr),okE m C e = true -> PE X e (lE X.K (wE Φ m))
 | .var i,C,X,G,e,h=>by
  simp only [okE] at h
  split at h
  ·simp only [Bool.and_eq_true,Bool.not_eq_true',decide_eq_true_eq] at h
   exact zV (by rw [G.N];exact h.1.1.1) (G.vis h.1.1.2) h.1.2 h.2
  ·cases h
 | .int i,C,X,G,e,h=>by
  simp only [okE] at h
  split at h
  ·rw [of_decide_eq_true h];exact zW
  ·cases h
 | .bl i,C,X,G,e,h=>by
  simp only [okE] at h
  split at h
  ·rw [eq_of_beq h];exact Bd
  ·cases h
 | .bin op a b,C,X,G,e,h=>by
  simp only [okE] at h
  split at h
  ·simp only [Bool.and_eq_true,decide_eq_true_eq] at h
   rw [h.1.1]
   exact Be (Av G op) (mD op) (mE G.mono a) (mE G.mono b) (sE a G _ h.1.2) (sE b G _ h.2)
  ·cases h
 | .neg a,C,X,G,e,h=>by
  simp only [okE] at h
  split at h
  ·exact Bf uV kT (mE G.mono a) (sE a G _ h)
  ·cases h
 | .cmp op a b,C,X,G,e,h=>by
  simp only [okE] at h
  split at h
  ·next l o r hc =>
   obtain ⟨pos,rfl⟩:=mH hc
   simp only [Bool.and_eq_true,decide_eq_true_eq] at h
   obtain ⟨⟨⟨ho,ha⟩,hb⟩,hm⟩:=h
   rw [Bool.not_eq_true'] at hm
   subst ho
   exact zX (oI G op) (eX op) (mE G.mono a) (mE G.mono b) (sE a G _ ha) (sE b G _ hb) hm
  ·cases h
 | .and es,C,X,G,e,h=>by
  simp only [okE] at h
  split at h
  ·simp only [Bool.and_eq_true] at h
   exact sAnds es G _ _ h.2 (by intro z;rw [z] at h;simp at h)
  ·cases h
 | .not a,C,X,G,e,h=>by
  simp only [okE] at h
  split at h
  ·exact A9 (mE G.mono a) (sE a G _ h)
  ·cases h
 | .ite c a b,C,X,G,e,h=>by
  simp only [okE] at h
  split at h
  ·simp only [Bool.and_eq_true] at h
   exact Bk (mT G.mono c) (mE G.mono a) (mE G.mono b) (sT c G _ h.1.1) (sE a G _ h.1.2) (sE b G _ h.2)
  ·cases h
 | .tup es,C,X,G,e,h=>by
  simp only [okE] at h
  split at h
  ·exact zZ (mA G.mono es) (sA es G _ h)
  ·cases h
 | .lst es,C,X,G,e,h=>by
  simp only [okE] at h
  split at h
  ·exact A0 (mA G.mono es) (sA es G _ h)
  ·cases h
 | .ix a b,C,X,G,e,h=>by
  simp only [okE] at h
  split at h
  ·simp only [Bool.and_eq_true] at h
   exact Bg (C6 (by have:=G.units;omega)) oj (mE G.mono a) (mE G.mono b) (sE a G _ h.1.2) (sE b G _ h.2) (vQ h.1.1)
  ·cases h
 | .sl a lo hi,C,X,G,e,h=>by
  simp only [okE] at h
  split at h
  ·next x l u hc =>
   obtain ⟨p,pos,rfl⟩:=qz hc
   simp only [Bool.and_eq_true] at h
   exact Bl (mE G.mono a) (mO G.mono lo) (mO G.mono hi) (sE a G _ h.1.1) (sO lo G _ h.1.2) (sO hi G _ h.2)
  ·cases h
 | .call f es,C,X,G,e,h=>by
  simp only [okE] at h
  split at h
  ·next x xs hc =>
   obtain ⟨p,pos,rfl⟩:=bU hc
   simp only [Bool.and_eq_true,decide_eq_true_eq,Bool.not_eq_true'] at h
   have hA:=sA es G _ h.2
   have hst:=fI h.2
   cases xs with
   | nil =>
     cases es with
     | nil=>exact vR G h.1.1.1 (G.gl h.1.1.2) h.1.2
     | cons _ _=>simp [okEs] at h
   | cons y ys =>
     simp only [List.all_cons,Bool.and_eq_true] at hst
     exact yD G (mA G.mono es) h.1.1.1 (G.gl h.1.1.2) h.1.2 hA (ak hst.1) (gU hst.2)
  ·cases h
 | .blt f es,C,X,G,e,h=>by
  simp only [okE] at h
  split at h
  ·next x xs hc =>
   obtain ⟨p,pos,rfl⟩:=bU hc
   simp only [Bool.and_eq_true,decide_eq_true_eq,Bool.not_eq_true'] at h
   have hA:=sA es G _ h.2
   have hst:=fI h.2
   obtain ⟨⟨⟨rfl,hg⟩,hne⟩,_⟩:=h
   cases xs with
   | nil=>simp at hne
   | cons y ys =>
     simp only [List.all_cons,Bool.and_eq_true] at hst
     exact Aw G (mA G.mono es) (G.gl hg) hA (ak hst.1) (gU hst.2)
  ·cases h
 | .dnew t,C,X,G,e,h=>by
  simp only [okE] at h
  split at h
  ·exact yf
  ·cases h
 | .dget o k' x,C,X,G,e,h=>by
  simp only [okE] at h
  split at h
  ·next y n e1 e2 ap cp hc =>
   cases dM hc
   simp only [Bool.and_eq_true,decide_eq_true_eq] at h
   obtain ⟨⟨⟨⟨⟨⟨⟨rfl,hsu⟩,hl⟩,hs1⟩,hs2⟩,ho⟩,hk⟩,hx⟩:=h
   have st:starEach [e1,e2] X.env = [(false,eval e1 X.env),(false,eval e2 X.env)]:=by
    rw [ak hs1,ak hs2];rfl
   refine yp (by have:=G.units;omega) (mE G.mono o) (mE G.mono k') (mE G.mono x) (sE o G _ ho) (sE k' G _ hk) (sE x G _ hx) ⟨dA hsu, ?_,hl, ?_⟩
   ·rw [st];rfl
   ·rw [st];rfl
  ·cases h
 | .isin2 a T U,C,X,G,e,h=>by
  simp only [okE] at h
  split at h
  ·next x y w hc =>
   obtain ⟨p,pos,rfl⟩:=bU hc
   split at h
   ·next z' v' ht =>
    obtain ⟨k1,p1,rfl⟩:=dz ht
    split at h
    ·next z hz0 =>
     obtain ⟨p2,rfl⟩:=di hz0
     split at h
     ·next v hv0 =>
      obtain ⟨p3,rfl⟩:=di hv0
      simp only [Bool.and_eq_true,decide_eq_true_eq] at h
      obtain ⟨⟨⟨⟨⟨⟨⟨⟨⟨rfl,hg⟩,hg2⟩,hg3⟩,hz⟩,hy⟩,hT⟩,hU⟩,hs⟩,ha⟩:=h
      obtain ⟨n1,n2,n3,n4⟩:=gW G T hT
      obtain ⟨m1,m2,m3,m4⟩:=gW G U hU
      subst hz hy
      exact vA hT hU (mE G.mono a) (sE a G _ ha) (G.gl hg) (G.mgB _ (by decide)) (G.gl hg2) n1 n2 n3 n4 (G.gl hg3) m1 m2 m3 m4 (ak hs)
     ·cases h
    ·cases h
   ·cases h
  ·cases h
 | .isin a T,C,X,G,e,h=>by
  simp only [okE] at h
  split at h
  ·next x y z' hc =>
   obtain ⟨p,pos,rfl⟩:=bU hc
   split at h
   ·next z hz0 =>
    obtain ⟨p2,rfl⟩:=di hz0
    simp only [Bool.and_eq_true,decide_eq_true_eq] at h
    obtain ⟨⟨⟨⟨⟨⟨rfl,hg⟩,hg2⟩,hz⟩,hT⟩,hs⟩,ha⟩:=h
    obtain ⟨n1,n2,n3,n4⟩:=gW G T hT
    subst hz
    exact y7 hT (mE G.mono a) (sE a G _ ha) (G.gl hg) (G.mgB _ (by decide)) (G.gl hg2) n1 n2 n3 n4 (ak hs) rfl
   ·cases h
  ·cases h
 | .meth m o a,C,X,G,e,h=>by
  simp only [okE] at h
  split at h
  ·next x n y ap cp hc =>
   cases dM hc
   simp only [Bool.and_eq_true,decide_eq_true_eq] at h
   obtain ⟨⟨⟨⟨⟨hn,hsu⟩,hl⟩,hs⟩,ho⟩,ha⟩:=h
   subst hn
   have pa:PA X [y] (lA X.K (aK (wE Φ a) bx)):=bI (mE G.mono a) aw (sE a G _ ha) dq (ak hs)
   have few:((backTo cp (starEach [y] X.env)).all (fun x => !x.1) && (backToKw cp (keywordEach [] X.env)).all (fun x=>x.1.isSome) && decide (([y]:List Expr).length + ([]:List Keyword).length + (if ([]:List Keyword).isEmpty then 0 else 1) < 30)) = true:=by
    rw [ak hs];rfl
   cases m with
   | append=>exact PE.imp (wv PySem.F.plainAttrs_list PySem.F.slot_list_append PySem.F.type_list_append jF (sE o G _ ho) pa (dA hsu) few hl (ak hs) rfl) (ot gB (mE G.mono o) (ar (mE G.mono a) aw) uZ)
  ·cases h
 | .ins o i a,C,X,G,e,h=>by
  simp only [okE] at h
  split at h
  ·next x n y z ap cp hc =>
   cases dM hc
   simp only [Bool.and_eq_true,decide_eq_true_eq] at h
   obtain ⟨⟨⟨⟨⟨⟨⟨hn,hsu⟩,hl⟩,hs⟩,hs2⟩,ho⟩,hi⟩,ha⟩:=h
   subst hn
   have pa:PA X [y,z] (lA X.K (aK (wE Φ i) (aK (wE Φ a) bx))):=bI (mE G.mono i) (ar (mE G.mono a) aw) (sE i G _ hi) (bI (mE G.mono a) aw (sE a G _ ha) dq (ak hs2)) (ak hs)
   have few:((backTo cp (starEach [y,z] X.env)).all (fun x => !x.1) && (backToKw cp (keywordEach [] X.env)).all (fun x=>x.1.isSome) && decide (([y,z]:List Expr).length + ([]:List Keyword).length + (if ([]:List Keyword).isEmpty then 0 else 1) < 30)) = true:=by
    rw [ak hs,ak hs2];rfl
   exact PE.imp (wv PySem.F.plainAttrs_list PySem.F.slot_list_insert PySem.F.type_list_insert sY (sE o G _ ho) pa (dA hsu) few hl (ak hs) (by rw [ak hs2];rfl)) (ot gE (mE G.mono o) (ar (mE G.mono i) (ar (mE G.mono a) aw)) vF)
  ·cases h
 | .meth0 m o,C,X,G,e,h=>by
  simp only [okE] at h
  split at h
  ·next x n ap cp hc =>
   cases dM hc
   simp only [Bool.and_eq_true,decide_eq_true_eq] at h
   obtain ⟨⟨⟨hn,hsu⟩,hl⟩,ho⟩:=h
   subst hn
   cases m with
   | clear=>exact PE.imp (rp PySem.F.plainAttrs_list PySem.F.slot_list_clear PySem.F.type_list_clear uu (sE o G _ ho) (dA hsu) hl) (lm iA (mE G.mono o) y8)
   | reverse=>exact PE.imp (rp PySem.F.plainAttrs_list PySem.F.slot_list_reverse PySem.F.type_list_reverse pS (sE o G _ ho) (dA hsu) hl) (lm fw (mE G.mono o) rZ)
  ·cases h
 | .comp fr N' c,C,X,G,e,h=>by
  simp only [okE] at h
  split at h
  ·rename_i elt gens sc pos
   simp only [Bool.and_eq_true] at h
   have B:bf sc X.env.scope X.N N' fr:=by rw [G.sc,G.N];exact iU h.1
   have B':bf sc C.sc C.N N' fr:=iU h.1
   cases c with
   | last src g ifs m =>
     have h2:=h.2
     simp only [okC] at h2
     split at h2
     ·rename_i t it fs a
      simp only [Bool.and_eq_true,decide_eq_true_eq] at h2
      obtain ⟨⟨⟨⟨rfl,hi⟩,hg⟩,ht⟩,he⟩:=h2
      refine PE.imp (gA G.calm G.hx B (fun g' z=>by simp at z) (sI src G _ t hi).1 (fun s H fp=>sG (G.blk B' s H fp) g t hg) (tb:=fun p=>lC X.K p (bv (wTl Φ ifs) (cc (wE Φ m)))) (fun s H fp p => ?_) (sI src G _ t hi).2) (dG (mI G.mono src) (aO (bA (mE G.mono m)) (mTl G.mono ifs)))
      have G':=G.blk B' s H fp
      exact dj (p:=p) G' (bA (mE G.mono m)) (mTl G.mono ifs) (PB.imp (j9 G'.hx (sE m G' elt he) rfl) (fA (mE G.mono m))) (sTl ifs G' fs ht)
     ·cases h2
   | more src g ifs rest =>
     have h2:=h.2
     simp only [okC] at h2
     split at h2
     ·rename_i t it fs a g2 gs
      simp only [Bool.and_eq_true,decide_eq_true_eq] at h2
      obtain ⟨⟨⟨⟨rfl,hi⟩,hg⟩,ht⟩,he⟩:=h2
      have as0:∀ g',(g2 :: gs)[0]? = some g' -> g'.is_async = 0:=fun g' z=>by
       have z':g2 = g':=by simpa using z
       subst z'
       exact fJ he
      refine PE.imp (gA G.calm G.hx B as0 (sI src G _ t hi).1 (fun s H fp=>sG (G.blk B' s H fp) g t hg) (tb:=fun p=>lC X.K p (bv (wTl Φ ifs) (wCl Φ rest))) (fun s H fp p => ?_) (sI src G _ t hi).2) (dG (mI G.mono src) (aO (mCl G.mono rest) (mTl G.mono ifs)))
      have G':=G.blk B' s H fp
      exact dj (p:=p) G' (mCl G.mono rest) (mTl G.mono ifs) (sCl rest G' elt (⟨t,it,fs,0⟩ :: g2 :: gs) sc pos 0 (.inl rfl) p he) (sTl ifs G' fs ht)
     ·cases h2
  ·cases h
theorem sA:∀ (m:MEs) {C:Ctx} {X:Cx} (G:Good C Φ k X) (es:List Expr),okEs m C es = true -> PA X es (lA X.K (wA Φ m))
 | .nil,C,X,G,es,h=>by
  simp [okEs] at h;subst h
  exact dq
 | .cons m r,C,X,G,[],h=>by simp [okEs] at h
 | .cons m r,C,X,G,e :: es,h=>by
  simp only [okEs,Bool.and_eq_true] at h
  exact bI (mE G.mono m) (mA G.mono r) (sE m G e h.1.2) (sA r G es h.2) (ak h.1.1)
theorem sFs:∀ (m:MEs) {C:Ctx} {X:Cx} (G:Good C Φ k X) (es:List Expr),okEs m C es = true -> PFd X es (wFs Φ m)
 | .nil,C,X,G,es,h=>by
  simp [okEs] at h;subst h
  exact Aq
 | .cons m r,C,X,G,[],h=>by simp [okEs] at h
 | .cons m r,C,X,G,e :: es,h=>by
  simp only [okEs,Bool.and_eq_true] at h
  exact yA (mE G.mono m) (mFs G.mono r) (sE m G e h.1.2) (sFs r G es h.2)
theorem sAnds:∀ (m:MEs) {C:Ctx} {X:Cx} (G:Good C Φ k X) (es:List Expr) (pos:Pos),okEs m C es = true -> es ≠ [] -> PE X (.BoolOp .And es pos) (lE X.K (wAnds Φ m))
 | .nil,C,X,G,es,pos,h,hne=>by simp [okEs] at h;exact absurd h hne
 | .cons m r,C,X,G,[],pos,h,hne=>absurd rfl hne
 | .cons m .nil,C,X,G,e :: es,pos,h,_=>by
  simp only [okEs,Bool.and_eq_true] at h
  obtain ⟨h1,h2⟩:=h
  simp at h2;subst h2
  exact A7 (sE m G e h1.2)
 | .cons m (.cons m2 r),C,X,G,e :: es,pos,h,_=>by
  simp only [okEs,Bool.and_eq_true] at h
  obtain ⟨h1,h2⟩:=h
  cases es with
  | nil=>simp at h2
  | cons f fs =>
    exact A8 (mE G.mono m) (mAnds G.mono _) (sE m G e h1.2) (sAnds (.cons m2 r) G (f :: fs) pos (by simpa only [okEs,Bool.and_eq_true] using h2) (by simp))
theorem sO:∀ (m:MO) {C:Ctx} {X:Cx} (G:Good C Φ k X) (e:Option Expr),okO m C e = true -> PO X e (lO X.K (wO Φ m))
 | .none,C,X,G,e,h=>by
  simp [okO] at h;subst h
  exact xY
 | .some m,C,X,G,none,h=>by simp [okO] at h
 | .some m,C,X,G,some e,h=>by
  simp only [okO] at h
  exact xZ (mE G.mono m) (sE m G e h)
theorem sT:∀ (m:MT) {C:Ctx} {X:Cx} (G:Good C Φ k X) (e:Expr),okT m C e = true -> PT X e (lT X.K (wT Φ m))
 | .tru m,C,X,G,e,h=>by
  simp only [okT,Bool.and_eq_true] at h
  exact A2 (mE G.mono m) (sE m G e h.2) (qF h.1)
 | .cmp op a b,C,X,G,e,h=>by
  simp only [okT] at h
  split at h
  ·next l o r hc =>
   obtain ⟨pos,rfl⟩:=mH hc
   simp only [Bool.and_eq_true,decide_eq_true_eq] at h
   obtain ⟨⟨⟨ho,ha⟩,hb⟩,hm⟩:=h
   rw [Bool.not_eq_true'] at hm
   subst ho
   exact zY (oI G op) (eX op) (mE G.mono a) (mE G.mono b) (sE a G _ ha) (sE b G _ hb) hm
  ·cases h
 | .and ts,C,X,G,e,h=>by
  simp only [okT] at h
  split at h
  ·simp only [Bool.and_eq_true] at h
   exact (sAndTs ts G _ _ h.2 (by intro z;rw [z] at h;simp at h)).pt
  ·cases h
 | .or ts,C,X,G,e,h=>by
  simp only [okT] at h
  split at h
  ·simp only [Bool.and_eq_true] at h
   exact (sOrTs ts G _ _ h.2 (by intro z;rw [z] at h;simp at h)).pt
  ·cases h
 | .not t,C,X,G,e,h=>by
  simp only [okT] at h
  split at h
  ·exact A3 (mT G.mono t) (sT t G _ h)
  ·cases h
theorem sAndTs:∀ (m:MTs) {C:Ctx} {X:Cx} (G:Good C Φ k X) (es:List Expr) (pos:Pos),okTs m C es = true -> es ≠ [] -> PW X (.BoolOp .And es pos) (lT X.K (wAndTs Φ m))
 | .nil,C,X,G,es,pos,h,hne=>by simp [okTs] at h;exact absurd h hne
 | .cons m r,C,X,G,[],pos,h,hne=>absurd rfl hne
 | .cons m .nil,C,X,G,e :: es,pos,h,_=>by
  simp only [okTs,Bool.and_eq_true] at h
  obtain ⟨h1,h2⟩:=h
  simp at h2;subst h2
  exact xW (sT m G e h1)
 | .cons m (.cons m2 r),C,X,G,e :: es,pos,h,_=>by
  simp only [okTs,Bool.and_eq_true] at h
  obtain ⟨h1,h2⟩:=h
  cases es with
  | nil=>simp at h2
  | cons f fs =>
    exact A5 (mT G.mono m) (mAndTs G.mono _) (sT m G e h1) (sAndTs (.cons m2 r) G (f :: fs) pos (by simpa only [okTs,Bool.and_eq_true] using h2) (by simp))
theorem sOrTs:∀ (m:MTs) {C:Ctx} {X:Cx} (G:Good C Φ k X) (es:List Expr) (pos:Pos),okTs m C es = true -> es ≠ [] -> PW X (.BoolOp .Or es pos) (lT X.K (wOrTs Φ m))
 | .nil,C,X,G,es,pos,h,hne=>by simp [okTs] at h;exact absurd h hne
 | .cons m r,C,X,G,[],pos,h,hne=>absurd rfl hne
 | .cons m .nil,C,X,G,e :: es,pos,h,_=>by
  simp only [okTs,Bool.and_eq_true] at h
  obtain ⟨h1,h2⟩:=h
  simp at h2;subst h2
  exact A4 (sT m G e h1)
 | .cons m (.cons m2 r),C,X,G,e :: es,pos,h,_=>by
  simp only [okTs,Bool.and_eq_true] at h
  obtain ⟨h1,h2⟩:=h
  cases es with
  | nil=>simp at h2
  | cons f fs =>
    exact Bj (mT G.mono m) (mOrTs G.mono _) (sT m G e h1) (sOrTs (.cons m2 r) G (f :: fs) pos (by simpa only [okTs,Bool.and_eq_true] using h2) (by simp))
theorem sTl:∀ (m:MTs) {C:Ctx} {X:Cx} (G:Good C Φ k X) (es:List Expr),okTs m C es = true -> Paired (fun c t=>PT X c t) es ((wTl Φ m).map (lT X.K))
 | .nil,C,X,G,es,h=>by
  simp [okTs] at h;subst h
  exact .nil
 | .cons m r,C,X,G,[],h=>by simp [okTs] at h
 | .cons m r,C,X,G,e :: es,h=>by
  simp only [okTs,Bool.and_eq_true] at h
  exact .cons (sT m G e h.1) (sTl r G es h.2)
theorem sI:∀ (m:MI) {C:Ctx} {X:Cx} (G:Good C Φ k X) (e tg:Expr),okI m C tg e = true -> PI X tg e (lI X.K (wI Φ m)) /\ ∀ x,foldedSetIterable e X.env x = pure x
 | .seq m,C,X,G,e,tg,h=>by
  simp only [okI,Bool.and_eq_true] at h
  exact ⟨Ad (mE G.mono m) (sE m G e h.2),mJ h.1⟩
 | .keys m,C,X,G,e,tg,h=>by
  simp only [okI,Bool.and_eq_true] at h
  exact ⟨yw (mE G.mono m) (sE m G e h.2),mJ h.1⟩
 | .rng1 a,C,X,G,e,tg,h=>by
  simp only [okI] at h
  split at h
  ·next x y hc =>
   obtain ⟨p,pos,rfl⟩:=bU hc
   simp only [Bool.and_eq_true,decide_eq_true_eq] at h
   obtain ⟨⟨⟨rfl,hg⟩,hs⟩,ha⟩:=h
   exact ⟨yb (ar (mE G.mono a) aw) (G.gl hg) (G.mgB _ (by decide)) (bI (mE G.mono a) aw (sE a G _ ha) dq (ak hs)) (ak hs),fun x=>rfl⟩
  ·cases h
 | .enum a,C,X,G,e,tg,h=>by
  simp only [okI] at h
  split at h
  ·next x y hc =>
   obtain ⟨p,pos,rfl⟩:=bU hc
   simp only [Bool.and_eq_true,decide_eq_true_eq] at h
   obtain ⟨⟨⟨⟨ht,rfl⟩,hg⟩,hs⟩,ha⟩:=h
   obtain ⟨ts,ht⟩:=Option.isSome_iff_exists.mp ht
   obtain ⟨kt,pt,rfl⟩:=dz ht
   exact ⟨yc (mE G.mono a) (G.gl hg) (G.mgB _ (by decide)) (bI (mE G.mono a) aw (sE a G _ ha) dq (ak hs)) (ak hs),fun x=>rfl⟩
  ·cases h
 | .zip a b,C,X,G,e,tg,h=>by
  simp only [okI] at h
  split at h
  ·next x y z hc =>
   obtain ⟨p,pos,rfl⟩:=bU hc
   simp only [Bool.and_eq_true,decide_eq_true_eq] at h
   obtain ⟨⟨⟨⟨⟨⟨ht,rfl⟩,hg⟩,hs⟩,hs2⟩,ha⟩,hb⟩:=h
   obtain ⟨ts,ht⟩:=Option.isSome_iff_exists.mp ht
   obtain ⟨kt,pt,rfl⟩:=dz ht
   exact ⟨Ag (mE G.mono a) (mE G.mono b) (G.gl hg) (G.mgB _ (by decide)) (bI (mE G.mono a) (ar (mE G.mono b) aw) (sE a G _ ha) (bI (mE G.mono b) aw (sE b G _ hb) dq (ak hs2)) (ak hs)) (by rw [ak hs,ak hs2];rfl) (ak hs2),fun x=>rfl⟩
  ·cases h
theorem sCl:∀ (m:MC) {C:Ctx} {X:Cx} (G:Good C Φ k X) (elt:Expr) (gens:List Comprehension) (sc:Scope) (pos:Pos) (d:Nat) (_:d = 0 ∨ d = d) (p:Addr),okC m C C (gens.drop (d + 1)) elt = true ->
 PB X (be elt gens sc pos d (.ref p) X.env) (lC X.K p (wCl Φ m))
 | .last src g ifs m,C,X,G,elt,gens,sc,pos,d,_,p,h=>by
  simp only [okC] at h
  split at h
  ·rename_i t it fs a hd
   simp only [Bool.and_eq_true,decide_eq_true_eq] at h
   obtain ⟨⟨⟨⟨rfl,hi⟩,hg⟩,ht⟩,he⟩:=h
   have e1:gens[d + 1]? = some ⟨t,it,fs,0⟩:=by
    have z:(gens.drop (d + 1))[0]? = some ⟨t,it,fs,0⟩:=by rw [hd];rfl
    rw [List.getElem?_drop] at z;simpa using z
   have e2:gens[d + 1 + 1]? = none:=by
    have z:(gens.drop (d + 1))[1]? = none:=by rw [hd];rfl
    rw [List.getElem?_drop] at z;simpa using z
   refine PB.imp (jJ G.hx G.calm e1 (fun g' z=>by rw [e2] at z;cases z) (sI src G _ t hi).1 (sG G g t hg) (dj (p:=p) G (bA (mE G.mono m)) (mTl G.mono ifs) (PB.imp (j9 G.hx (sE m G elt he) e2) (fA (mE G.mono m))) (sTl ifs G fs ht)) (sI src G _ t hi).2) (gD (mI G.mono src) (aO (bA (mE G.mono m)) (mTl G.mono ifs)))
  ·cases h
 | .more src g ifs rest,C,X,G,elt,gens,sc,pos,d,_,p,h=>by
  simp only [okC] at h
  split at h
  ·rename_i t it fs a g2 gs hd
   simp only [Bool.and_eq_true,decide_eq_true_eq] at h
   obtain ⟨⟨⟨⟨rfl,hi⟩,hg⟩,ht⟩,he⟩:=h
   have e1:gens[d + 1]? = some ⟨t,it,fs,0⟩:=by
    have z:(gens.drop (d + 1))[0]? = some ⟨t,it,fs,0⟩:=by rw [hd];rfl
    rw [List.getElem?_drop] at z;simpa using z
   have e2:gens[d + 1 + 1]? = some g2:=by
    have z:(gens.drop (d + 1))[1]? = some g2:=by rw [hd];rfl
    rw [List.getElem?_drop] at z;simpa using z
   have e3:gens.drop (d + 1 + 1) = g2 :: gs:=by
    have z:(gens.drop (d + 1)).drop 1 = g2 :: gs:=by rw [hd];rfl
    rw [List.drop_drop] at z;simpa using z
   have as0:∀ g',gens[d + 1 + 1]? = some g' -> g'.is_async = 0:=fun g' z=>by
    rw [e2] at z;cases z
    exact fJ he
   refine PB.imp (jJ G.hx G.calm e1 as0 (sI src G _ t hi).1 (sG G g t hg) (dj (p:=p) G (mCl G.mono rest) (mTl G.mono ifs) (sCl rest G elt gens sc pos (d + 1) (.inr rfl) p (by rw [e3];exact he)) (sTl ifs G fs ht)) (sI src G _ t hi).2) (gD (mI G.mono src) (aO (mCl G.mono rest) (mTl G.mono ifs)))
  ·cases h
end
end
end
section
section
variable {Φ:Phi} {k:Nat} {C:Ctx} {X:Cx}
theorem vS {sc:Scope} {ts vs:List Expr} {kk k2:Nat} {pp p2:Pos} {env:Env} (hs:env.scope = sc) (hk:sc.kind = .function) (h:qA sc ts vs = true):swappedStores [.Tuple ts kk pp] (.Tuple vs k2 p2) env = pure none:=by
 have hb:env.blockKind = .function:=by unfold Env.blockKind;rw [hs,hk];rfl
 have h':qA sc ts vs = true:=h
 unfold swappedStores
 dsimp only
 rw [hb]
 by_cases c1:(!(ts.length == 2 || ts.length == 3) || vs.length != ts.length) = true
 ·simp only [c1,Bool.true_or,if_true]
 ·simp only [Bool.not_eq_true] at c1
  rw [c1]
  simp only [Bool.false_or,bne_self_eq_false,Bool.false_eq_true,if_false]
  split
  ·rfl
  ·
    generalize hL:List.filterMap _ ts = L
    obtain rfl:L = bb sc ts:=by
     rw [<- hL]
     unfold bb
     congr 1
     funext x
     cases x <;> first | rfl | (unfold Env.kindOf;rw [hs])
    unfold qA at h'
    rw [c1] at h'
    simp only [Bool.false_or,Bool.or_eq_true] at h'
    by_cases c3:((bb sc ts).length != ts.length || (bb sc ts).eraseDups.length != (bb sc ts).length) = true
    ·rw [if_pos c3]
    ·rw [if_neg c3]
     have c4:vs.all (foldedForSure 8) = true:=by
      rcases h' with h' | h'
      ·exact absurd (Bool.or_eq_true _ _ |>.mpr h') c3
      ·exact h'
     rw [if_pos c4]
theorem yE {sc:Scope} {ts vs:List Expr} {ns:List Str} {kk k2:Nat} {pp p2:Pos} {env:Env} (hs:env.scope = sc) (hk:sc.kind = .function) (h:qC sc ts vs ns = true):swappedStores [.Tuple ts kk pp] (.Tuple vs k2 p2) env = pure (some ns):=by
 have hb:env.blockKind = .function:=by unfold Env.blockKind;rw [hs,hk];rfl
 simp only [qC,Bool.and_eq_true,Bool.not_eq_true',decide_eq_true_eq] at h
 obtain ⟨⟨⟨⟨⟨c1,c2⟩,c3⟩,c4⟩,c5⟩,c6⟩:=h
 unfold swappedStores
 dsimp only
 rw [hb,c1]
 simp only [Bool.false_or,bne_self_eq_false,Bool.false_eq_true,if_false]
 split
 ·next z=>exact absurd z (by rw [Bool.not_eq_true];exact c2)
 ·generalize hL:List.filterMap _ ts = L
  obtain rfl:L = bb sc ts:=by
   rw [<- hL]
   unfold bb
   congr 1
   funext x
   cases x <;> first | rfl | (unfold Env.kindOf;rw [hs])
  rw [c4,c5,c6,c3]
  rfl
theorem oK {C:Ctx} {i:Nat} {x:Str} (h:qB C i x = true):C.N[i]? = some x /\ C.sc.names.lookup x = some .local:=by
 simpa [qB] using h
theorem dk {tg e:Expr} {l:Nat} {env:Env} {b:Bool} (h:swapsWith e (some tg) l env = pure b):swapsWithSole [tg] e l env = pure b:=by
 unfold swapsWithSole
 exact h
theorem yF {sc:Scope} {tg e:Expr} {env:Env} (hs:env.scope = sc) (hk:sc.kind = .function) (h:iT sc tg e = true):swappedStores [tg] e env = pure none:=by
 cases tg with
 | Tuple ts kk pp =>
   cases e with
   | Tuple vs k2 p2=>exact vS hs hk h
   | _=>rfl
 | _=>first | rfl | (simp [iT] at h;done)
theorem mL {elt:Expr} {gens:List Comprehension} {s sc:Scope} {pos px:Pos} {x:Str} {l:Nat} {env:Env} (hs:env.scope = sc) (hk:sc.kind = .function) :
 swapsWith (.ListComp elt gens s pos) (some (.Name x px)) l env = pure (qD sc x px (.ListComp elt gens s pos)):=by
 have hb:env.blockKind = .function:=by unfold Env.blockKind;rw [hs,hk];rfl
 unfold swapsWith
 dsimp only
 rw [hb]
 unfold qD Env.kindOf
 rw [hs]
 rfl
theorem t8 {ek ev:Expr} {gens:List Comprehension} {s sc:Scope} {pos px:Pos} {x:Str} {l:Nat} {env:Env} (hs:env.scope = sc) (hk:sc.kind = .function) :
 swapsWith (.DictComp ek ev gens s pos) (some (.Name x px)) l env = pure (sc.names.lookup x == some .local && px.line == (Expr.DictComp ek ev gens s pos).pos.line && !(s.names.any fun (n,k)=>n == x && (k == .local || k == .cell))):=by
 have hb:env.blockKind = .function:=by unfold Env.blockKind;rw [hs,hk];rfl
 unfold swapsWith
 dsimp only
 rw [hb]
 unfold Env.kindOf
 rw [hs]
 rfl
mutual
theorem sS:∀ (m:MS) (G:Good C Φ k X) (hk:C.sc.kind = .function) (s:Stmt),okS m C s = true -> PS X s (lS X.K (wS Φ m))
 | .asg g m,G,hk,s,h=>by
  simp only [okS] at h
  split at h
  ·rename_i tg e pos
   simp only [Bool.and_eq_true] at h
   obtain ⟨⟨⟨hg,he⟩,ha⟩,hc⟩:=h
   have hw:=yF G.sc hk ha
   have pg:=sG G g tg hg
   have plain:swapsWithSole [tg] e pos.line X.env = pure false -> PS X (.Assign [tg] e pos) (lS X.K (gN (wE Φ m) (bG g))):=fun hs =>
    PS.imp (qX (sE m G e he) pg hs hw (by cases tg <;> first | rfl | (simp [iT] at ha;done))) (vh (mE G.mono m))
   cases tg with
   | Tuple ts a b=>exact plain (dk (jo hc))
   | Name x px =>
     cases e with
     | ListComp elt gens sc cpos =>
       by_cases sw:qD C.sc x px (.ListComp elt gens sc cpos) = true
       ·cases g with
        | tup gs=>simp [okG] at hg
        | name i =>
          cases m with
          | comp fr N' c =>
            simp only [okE,Bool.and_eq_true] at he
            have B:bf sc X.env.scope X.N N' fr:=by rw [G.sc,G.N];exact iU he.1
            have B':bf sc C.sc C.N N' fr:=iU he.1
            have hgx:PG X (.Name x px) (i3 i):=by
             simp only [okG,Bool.and_eq_true] at hg
             exact nW G.nd (by rw [G.N];exact of_decide_eq_true hg.1.1) (G.loc hg.1.2) (G.own hg.2)
            have hsw:∀ l,swapsWith (.ListComp elt gens sc cpos) (some (.Name x px)) l X.env = pure true:=fun l=>by rw [mL G.sc hk,sw]
            have mc:=mCmp G.mono fr c
            cases c with
            | last src g ifs m =>
              have h2:=he.2
              simp only [okC] at h2
              split at h2
              ·rename_i t it fs a
               simp only [Bool.and_eq_true,decide_eq_true_eq] at h2
               obtain ⟨⟨⟨⟨rfl,hi⟩,hg'⟩,ht⟩,hel⟩:=h2
               refine PS.imp (im (i:=i) (g:=lG X.K (bG g)) (wi:=lI X.K (wI Φ src)) G.calm G.hx B (fun g' z=>by simp at z) (sI src G _ t hi).1 (fun s H fp=>sG (G.blk B' s H fp) g t hg') (tb:=fun p=>lC X.K p (bv (wTl Φ ifs) (cc (wE Φ m)))) (fun s H fp p => ?_) (sI src G _ t hi).2 hgx (hsw _)) fun D σ H h => ?_
               ·have G':=G.blk B' s H fp
                exact dj (p:=p) G' (bA (mE G.mono m)) (mTl G.mono ifs) (PB.imp (j9 G'.hx (sE m G' elt hel) rfl) (fA (mE G.mono m))) (sTl ifs G' fs ht)
               ·exact dG (mI G.mono src) (aO (bA (mE G.mono m)) (mTl G.mono ifs)) σ H _ (jS mc D σ H h)
              ·cases h2
            | more src g ifs rest =>
              have h2:=he.2
              simp only [okC] at h2
              split at h2
              ·rename_i t it fs a g2 gs
               simp only [Bool.and_eq_true,decide_eq_true_eq] at h2
               obtain ⟨⟨⟨⟨rfl,hi⟩,hg'⟩,ht⟩,hel⟩:=h2
               have as0:∀ g',(g2 :: gs)[0]? = some g' -> g'.is_async = 0:=fun g' z=>by
                have z':g2 = g':=by simpa using z
                subst z'
                exact fJ hel
               refine PS.imp (im (i:=i) (g:=lG X.K (bG g)) (wi:=lI X.K (wI Φ src)) G.calm G.hx B as0 (sI src G _ t hi).1 (fun s H fp=>sG (G.blk B' s H fp) g t hg') (tb:=fun p=>lC X.K p (bv (wTl Φ ifs) (wCl Φ rest))) (fun s H fp p => ?_) (sI src G _ t hi).2 hgx (hsw _)) fun D σ H h => ?_
               ·have G':=G.blk B' s H fp
                exact dj (p:=p) G' (mCl G.mono rest) (mTl G.mono ifs) (sCl rest G' elt (⟨t,it,fs,0⟩ :: g2 :: gs) sc cpos 0 (.inl rfl) p hel) (sTl ifs G' fs ht)
               ·exact dG (mI G.mono src) (aO (mCl G.mono rest) (mTl G.mono ifs)) σ H _ (jS mc D σ H h)
              ·cases h2
          | _=>simp [okE,eY,dL,cOf,kz,kA,qw,iS,bT,cO,eh,As] at he
       ·refine plain ?_
        simp only [Bool.not_eq_true] at sw
        refine dk ?_
        rw [mL G.sc hk,sw]
     | SetComp _ _ _ _=>cases m <;> simp [okE,eY,dL,cOf,kz,kA,qw,iS,bT,cO,eh,As] at he
     | DictComp _ _ _ _ _ =>
       refine plain (dk ?_)
       rw [t8 G.sc hk]
       unfold Au at hc
       simp only [Bool.not_eq_true'] at hc
       rw [hc]
     | _=>exact plain (dk rfl)
   | _=>simp [iT] at ha
  ·cases h
 | .par i j a b,G,hk,s,h=>by
  simp only [okS] at h
  split at h
  ·next t u e f hp =>
   split at h
   ·next x hx =>
    split at h
    ·next y hy =>
     obtain ⟨k,p,k',p',pos,rfl⟩:=vP hp
     obtain ⟨px,rfl⟩:=di hx
     obtain ⟨py,rfl⟩:=di hy
     simp only [Bool.and_eq_true,decide_eq_true_eq] at h
     obtain ⟨⟨⟨⟨⟨⟨⟨hi,hj⟩,hij⟩,n1⟩,n2⟩,ha⟩,hb⟩,hw⟩:=h
     obtain ⟨i1,i2⟩:=oK hi
     obtain ⟨j1,j2⟩:=oK hj
     exact PS.imp (zA G.calm G.nd (by rw [G.N];exact i1) (by rw [G.N];exact j1) hij (by rw [G.sc];exact i2) (by rw [G.sc];exact j2) (bI (mE G.mono a) (ar (mE G.mono b) aw) (sE a G _ ha) (bI (mE G.mono b) aw (sE b G _ hb) dq (ak n2)) (ak n1)) (yE G.sc hk hw) (dk rfl)) (sr (ar (mE G.mono a) (ar (mE G.mono b) aw)))
    ·cases h
   ·cases h
  ·cases h
 | .put o i m,G,hk,s,h=>by
  simp only [okS] at h
  split at h
  ·rename_i x y tp e pos
   simp only [Bool.and_eq_true] at h
   obtain ⟨⟨⟨⟨hsl,hc⟩,ho⟩,hi⟩,he⟩:=h
   exact Ai (by have:=G.units;omega) (mE G.mono m) (mE G.mono o) (mE G.mono i) (sE m G e he) (sE o G x ho) (sE i G y hi) (dk (jo hc)) rfl (fun v=>by cases y <;> first | rfl | (simp [ee] at hsl;done))
  ·cases h
 | .drop m,G,hk,s,h=>by
  simp only [okS] at h
  split at h
  ·simp only [Bool.and_eq_true] at h
   exact PS.imp (xu (sE m G _ h.2) (jo h.1)) (sk (mE G.mono m))
  ·cases h
 | .ret m,G,hk,s,h=>by
  simp only [okS] at h
  split at h
  ·rw [wS]
   exact PS.imp (zv (sE m G _ h)) (vg (mE G.mono m))
  ·cases h
 | .ite c a b,G,hk,s,h=>by
  simp only [okS] at h
  split at h
  ·simp only [Bool.and_eq_true] at h
   exact PS.imp (AZ (sT c G _ h.1.1) (sSs a G hk _ h.1.2) (sSs b G hk _ h.2)) (yd (mT G.mono c))
  ·cases h
 | .for g src b,G,hk,s,h=>by
  simp only [okS] at h
  split at h
  ·simp only [Bool.and_eq_true] at h
   obtain ⟨⟨⟨hs,hg⟩,hi⟩,hb⟩:=h
   exact PS.imp (zC (fun e s z=>(G.hx e s z).elim) G.calm (sI src G _ _ hi).1 (sG G g _ hg) (sSs b G hk _ hb) (mJ hs)) (vj (mI G.mono src) (mSs G.mono b))
  ·cases h
 | .while c b,G,hk,s,h=>by
  simp only [okS] at h
  split at h
  ·simp only [Bool.and_eq_true] at h
   exact PS.imp (ud (fun e s z=>(G.hx e s z).elim) (sT c G _ h.1) (sSs b G hk _ h.2)) (qe (mT G.mono c) (mSs G.mono b))
  ·cases h
 | .frz i m,G,hk,s,h=>by
  simp only [okS] at h
  exact An (sS m G hk s h)
 | .pass,G,hk,s,h=>by
  simp only [okS] at h
  split at h
  ·exact PS.imp xt jR
  ·cases h
 | .brk,G,hk,s,h=>by
  simp only [okS] at h
  split at h
  ·exact PS.imp ub qd
  ·cases h
 | .cnt,G,hk,s,h=>by
  simp only [okS] at h
  split at h
  ·exact PS.imp nG sj
  ·cases h
theorem sSs:∀ (m:MSs) (G:Good C Φ k X) (hk:C.sc.kind = .function) (s:List Stmt),okSs m C s = true -> PSs X s (lS X.K (wSs Φ m))
 | .nil,G,hk,s,h=>by
  simp [okSs] at h;subst h
  exact PSs.imp xr jR
 | .cons m r,G,hk,[],h=>by simp [okSs] at h
 | .cons m r,G,hk,s :: ss,h=>by
  simp only [okSs,Bool.and_eq_true] at h
  exact PSs.imp (ua (sS m G hk s h.1) (sSs r G hk ss h.2)) (vf (mS G.mono m) (mSs G.mono r))
end
end
end
section
structure FD where
 name:Str
 st:Stmt
 N:List Str
 np:Nat
 body:MSs
noncomputable def et (N:List Str) (ds:List D):au:=ds.map some ++ List.replicate (N.length - ds.length) none
noncomputable def phi (T:List FD):Nat -> Phi
 | 0=>fun _ _ _ _=>False
 | k + 1=>fun f ds M Q => ∃ d,T[f]? = some d /\ ds.length = d.np /\ wSs (phi T k) d.body { nx:=fun _ M'=>Q .non M',rt:=Q } (et d.N ds) M
theorem gX (T:List FD):∀ k f,aZ (phi T k f)
 | 0,f=>fun _ _ _ _ _ q=>q.elim
 | k + 1,f=>fun ds M Q Q' h ⟨d,e,l,q⟩=>⟨d,e,l,mSs (gX T k) d.body { nx:=fun _ M'=>Q .non M',rt:=Q } { nx:=fun _ M'=>Q' .non M',rt:=Q' } _ _ ⟨fun _ M' q'=>h _ _ q',h,fun _ _ z=>z,fun _ _ z=>z⟩ q⟩
noncomputable def qG (Γ:List Str) (cs:List (Str × Int)) (d:FD):Bool :=
 decide ((ag d.st).kind = .function) && !(ag d.st).isCoroutine && !(ag d.st).isGenerator && decide (d.N.Nodup) && decide (d.np <= d.N.length)
  && (d.N.take d.np).all (fun x=>(ag d.st).names.lookup x == some .local || (ag d.st).names.lookup x == some .cell)
  && (ag d.st).names.all (fun y => !(y.2 == .free)) && okSs d.body ⟨Γ,d.N,ag d.st,d.N,cs⟩ (al d.st)
theorem vT {Γ:List Str} {cs:List (Str × Int)} {d:FD} (h:qG Γ cs d = true):fR d.N (d.N.take d.np) (ag d.st) /\ (d.N.take d.np).length = d.np /\ okSs d.body ⟨Γ,d.N,ag d.st,d.N,cs⟩ (al d.st) = true:=by
 simp only [qG,Bool.and_eq_true,decide_eq_true_eq,Bool.not_eq_true'] at h
 obtain ⟨⟨⟨⟨⟨⟨⟨h1,h2⟩,h3⟩,h4⟩,h5⟩,h6⟩,h7⟩,h8⟩:=h
 have hl:(d.N.take d.np).length = d.np:=by rw [List.length_take];omega
 refine ⟨⟨h1,h2,h3,h4,by rw [hl],fun x hx => ?_,fun y hy e => ?_⟩,hl,h8⟩
 ·have z:=List.all_eq_true.mp h6 x hx
  simpa using z
 ·have z:=List.all_eq_true.mp h7 y hy
  rw [e] at z
  simp at z
section
variable {P:Program} {w:World} {K:Frag} {mg:Str -> Option Value} {base:Heap}
structure wQ (K:Frag) (mg:Str -> Option Value) (T:List FD) (cs:List (Str × Int)):Prop where
 blt:∀ x ∈ gS,mg x = none
 fns:∀ (i:Nat) (d:FD),T[i]? = some d -> ∃ f fd,Fun K d.name d.name d.st f fd /\ mg d.name = some (.ref f) /\ Binds K fd (d.N.take d.np) []
 ok:∀ d ∈ T,qG (T.map (·.name)) cs d = true
 cst:∀ x i,(x,i) ∈ cs -> ∃ t,mg x = some (.int i t)
theorem t9 {T:List FD} {cs:List (Str × Int)} (O:wQ K mg T cs):∀ (k i:Nat) (d:FD) (f:Addr) (fd:FuncData),T[i]? = some d -> Fun K d.name d.name d.st f fd -> FnOk P w K mg base CX0 k f fd (d.N.take d.np) (lSp K (phi T k i))
 | 0,i,d,f,fd,e,F=>⟨fun vs H Q E h=>by obtain ⟨ds,M,_,_,q⟩:=h;exact q.elim,fun A outer s H args us vs Q E _ _ _ _ h=>by obtain ⟨ds,M,_,_,q⟩:=h;exact q.elim⟩
 | k + 1,i,d,f,fd,e,F=>by
   obtain ⟨S,hl,hb⟩:=vT (O.ok d (List.mem_of_getElem? e))
   refine F.ok S (fun vs H Q E h => ?_) fun cdv A outer s H vs Q E hr h => ?_
   ·obtain ⟨ds,M,rm,rs,d',e',l,q⟩:=h
    rw [e] at e';cases e'
    rw [rs.length,l,hl]
   ·obtain ⟨ds,M,rm,rs,d',e',l,q⟩:=h
    rw [e] at e';cases e'
    have G:Good ⟨T.map (·.name),d.N,ag d.st,d.N,cs⟩ (phi T k) k ((gG CX0 P w K mg base d.N d.name (ag d.st) f cdv A outer s H E).nox):=by
     refine ⟨fun _ _ z=>z,rfl,rfl,rfl,S.nd,fun _ _=>rfl,hr,O.blt,fun j x hx => ?_,gX T k,O.cst⟩
     have hx':(T.map (·.name))[j]? = some x:=hx
     rw [List.getElem?_map] at hx'
     cases e2:T[j]? with
     | none=>rw [e2] at hx';cases hx'
     | some d2 =>
       rw [e2] at hx';cases hx'
       obtain ⟨f2,fd2,F2,m2,b2⟩:=O.fns j d2 e2
       exact ⟨f2,fd2,_,m2,F2.kp,b2,t9 O k j d2 f2 fd2 e2 F2⟩
    refine ⟨_,sSs d.body G S.kind _ hb,et d.N ds,M, { nx:=fun _ M'=>KE' K M H Q .non M',rt:=KE' K M H Q }, ?_,rm,⟨fun ρ M' σ H' x rs' rm' q' => ?_,fun d M' v H' x rm' rd' q'=>q' v H' x rm' rd',fun _ _ _ _ _ _ _ z=>z,fun _ _ _ _ _ _ _ z=>z⟩,q⟩
    ·refine ⟨by simp [cJ,et,rs.length],fun j dd hj => ?_⟩
     unfold et at hj
     unfold cJ
     by_cases hlt:j < ds.length
     ·rw [List.getElem?_append_left (by simpa using hlt),List.getElem?_map] at hj
      cases e3:ds[j]? with
      | none=>rw [e3] at hj;cases hj
      | some z =>
        rw [e3] at hj;cases hj
        obtain ⟨v,hv,rv⟩:=rs.get e3
        refine ⟨v, ?_,rv⟩
        rw [List.getElem?_append_left (by rw [List.length_map,rs.length];exact hlt),List.getElem?_map,hv];rfl
     ·rw [List.getElem?_append_right (by simpa using hlt),List.getElem?_replicate] at hj
      split at hj <;> cases hj
    ·exact q' .non H' x rm' (RD.non_iff.mpr rfl)
theorem Ax {T:List FD} {k i:Nat} {H:Hp} {a:Addr} {ns:List Int} (hO:pT H) (hS:SqL K H a (ns.map V.int)) (h:phi T k i [.con (ns.map D.int)] (fun _=>none) fun d _=>d = .bl true) :
 lSp K (phi T k i) [.ref a] H (fun v _=>v = .bl true) fun _ _ _=>False:=by
 have rm0:RM K (fun _=>none) H:=fun _ _ z=>by cases z
 refine ⟨[.con (ns.map D.int)],fun _=>none,rm0,RDs.cons (RD.con_iff.mpr ⟨a,ns.map V.int,rfl, ?_,RDs.ints ns⟩) RDs.nil,gX T k i [.con (ns.map D.int)] (fun _=>none) (fun d _=>d = .bl true) (KE' K (fun _=>none) H fun v _=>v = .bl true) (fun d M' e=>fun v H' x rm rd => ?_) h⟩
 ·rcases hS with (z | ⟨o,z⟩) | z
  ·rcases hO a with q | ⟨o,xs,q⟩
   ·rw [z] at q;cases q
   ·rw [z] at q;cases q
  ·exact .inl ⟨o,z⟩
  ·exact .inr z
 ·subst e
  exact RD.bl_iff.mp rd
end
theorem Bt (us:List Value) (h:us.length = 0):us = []:=List.length_eq_zero_iff.mp h
theorem cL (us:List Value) (h:us.length = 1):∃ a,us = [a]:=List.length_eq_one_iff.mp h
theorem cg (us:List Value) (h:us.length = 2):∃ a b,us = [a,b]:=by
 cases us with
 | nil=>cases h
 | cons a us=>obtain ⟨b,rfl⟩:=cL us (Nat.succ.inj h);exact ⟨a,b,rfl⟩
theorem kB (us:List Value) (h:us.length = 3):∃ a b c,us = [a,b,c]:=by
 cases us with
 | nil=>cases h
 | cons a us=>obtain ⟨b,c,rfl⟩:=cg us (Nat.succ.inj h);exact ⟨a,b,c,rfl⟩
theorem Bu (us:List Value) (h:us.length = 4):∃ a b c d,us = [a,b,c,d]:=by
 cases us with
 | nil=>cases h
 | cons a us=>obtain ⟨b,c,d,rfl⟩:=kB us (Nat.succ.inj h);exact ⟨a,b,c,d,rfl⟩
end
section
theorem Ay {T:List FD} {k f:Nat} {d:FD} {ds:List D} {M:Mem} {Q:QD} (e:T[f]? = some d) (l:ds.length = d.np) {ρ:au} (r:et d.N ds = ρ)
 (h:wSs (phi T k) d.body { nx:=fun _ M'=>Q .non M',rt:=Q } ρ M):phi T (k + 1) f ds M Q:=⟨d,e,l,by rw [r];exact h⟩
theorem aq {T:List FD} {n f:Nat} {d:FD} {ds:List D} {M:Mem} {Q:QD} (hn : 1 <= n) (e:T[f]? = some d) (l:ds.length = d.np) {ρ:au} (r:et d.N ds = ρ)
 (h:wSs (phi T (n - 1)) d.body { nx:=fun _ M'=>Q .non M',rt:=Q } ρ M):phi T n f ds M Q:=by
 obtain ⟨k,rfl⟩:∃ k,n = k + 1:=⟨n - 1,by omega⟩
 exact Ay e l r h
theorem yG {Φ:Phi} {D:br} {ρ:au} {M:Mem}:wSs Φ .nil D ρ M = D.nx ρ M:=by rw [wSs];rfl
theorem dB {Φ:Phi} {s:MS} {r:MSs} {D:br} {ρ:au} {M:Mem}:wSs Φ (.cons s r) D ρ M = wS Φ s { D with nx:=wSs Φ r D } ρ M:=by rw [wSs];rfl
theorem oM {ds:List D} {y:D} {M:Mem} {Q:QD}:wIx (.tup ds) y M Q = ∃ i d,y = .int i /\ atI ds i = some d /\ Q d M:=rfl
theorem oO {ds:List D} {y:D} {M:Mem} {Q:QD}:wIx (.con ds) y M Q = ∃ i d,y = .int i /\ atI ds i = some d /\ Q d M:=rfl
theorem bH {a:Addr} {i:Int} {ds:List D} {d:D} {M:Mem} {Q:QD} (h:M a = some (.lst ds)) (e:atI ds i = some d) (q:Q d M):wIx (.ref a) (.int i) M Q := .inl ⟨ds,i,d,h,rfl,e,q⟩
theorem cG {a:Addr} {i:Int} {ds:List D} {v:D} {j:Nat} {M:Mem} {Q:Mem -> Prop} (h:M a = some (.lst ds)) (e:ixN ds.length i = some j) (q:Q (aj M a (.lst (ds.set j v)))):ga (.ref a) (.int i) v M Q:=⟨a,rfl, .inl ⟨ds,i,j,rfl,h,e,q⟩⟩
theorem jq {a:Addr} {ds:List D} {M:Mem} {Q:QD} (h:M a = some (.lst ds)) (q:Q (.int ds.length) M):eQ [.ref a] M Q:=⟨_,_,rfl,by simp only [gK,h],q⟩
theorem ah {a:Addr} {ds:List D} {M:Mem} (h:M a = some (.lst ds)):ax M (.ref a) = some ds:=by simp only [ax,h]
theorem Az {i:Int} {M:Mem} {Q:QD}:kY [.int i] M Q = Q (.int i) M:=by
 apply propext;constructor
 ·rintro (⟨j,e,q⟩ | ⟨k,e,q⟩)
  ·cases e;exact q
  ·cases e
 ·exact fun q => .inl ⟨i,rfl,q⟩
theorem AA {b:Bool} {M:Mem} {Q:QD}:kY [.bl b] M Q = Q (.int (if b then 1 else 0)) M:=by
 apply propext;constructor
 ·rintro (⟨j,e,q⟩ | ⟨k,e,q⟩)
  ·cases e
  ·cases e;exact q
 ·exact fun q => .inr ⟨b,rfl,q⟩
theorem Bv {i j:Int} {M:Mem} {Q:QD}:wEq (.int i) (.int j) M Q = Q (.bl (i == j)) M:=by
 simp [wEq,rb,PyData.eqv]
theorem Bw {i j:Int} {M:Mem} {Q:QD}:wNe (.int i) (.int j) M Q = Q (.bl (!(i == j))) M:=by
 simp [wNe,rb,PyData.eqv]
theorem tf {i j:Int} {M:Mem} {Q:QD}:gJ (.int i) (.int j) M Q = Q (.int (i + j)) M:=rfl
theorem tj {a b:List D} {M:Mem} {Q:QD}:gJ (.tup a) (.tup b) M Q = ((a ≠ [] ∨ True) /\ a.length + b.length <= sizeLine /\ Q (.tup (a ++ b)) M):=rfl
theorem tq {i j:Int} {M:Mem} {Q:QD}:jd (.int i) (.int j) M Q = Q (.int (i - j)) M:=rfl
theorem tw {i j:Int} {M:Mem} {Q:QD}:je (.int i) (.int j) M Q = (MulOk i j /\ Q (.int (i * j)) M):=rfl
theorem tz {ds:List D} {k:Int} {M:Mem} {Q:QD}:je (.tup ds) (.int k) M Q = (-(2 ^ 63) <= k /\ k < 2 ^ 63 /\ ds.length * k.toNat <= sizeLine /\ Q (.tup (List.replicate k.toNat ds).flatten) M):=rfl
theorem oP {i j:Int} {M:Mem} {Q:QD}:kx (.int i) (.int j) M Q = (0 < j /\ j < 2 ^ 256 /\ Q (.int (i / j)) M):=rfl
theorem tD {i j:Int} {M:Mem} {Q:QD}:pW (.int i) (.int j) M Q = (0 < j /\ Q (.int (i % j)) M):=rfl
theorem tE {i j:Int} {M:Mem} {Q:QD}:pX (.int i) (.int j) M Q = (0 <= j /\ j <= 1000000 /\ i.natAbs < 2 ^ 64 /\ Q (.int (i ^ j.toNat)) M):=rfl
theorem wR {i j:Int} {M:Mem} {Q:QD}:wLt (.int i) (.int j) M Q = Q (.bl (decide (i < j))) M:=rfl
theorem wU {i j:Int} {M:Mem} {Q:QD}:wLe (.int i) (.int j) M Q = Q (.bl (decide (i <= j))) M:=rfl
theorem qH {i j:Int} {M:Mem} {Q:QD}:wGt (.int i) (.int j) M Q = Q (.bl (decide (j < i))) M:=rfl
theorem wV {i j:Int} {M:Mem} {Q:QD}:wGe (.int i) (.int j) M Q = Q (.bl (decide (j <= i))) M:=rfl
theorem tF {i:Int} {M:Mem} {Q:QD}:pY (.int i) M Q = Q (.int (-i)) M:=rfl
theorem AB {i:Int} {M:Mem} {Q:QD}:kX [.int i] M Q = Q (.int (if i < 0 then -i else i)) M:=by simp [kX]
theorem yH {i j:Int} {M:Mem} {Q:QD}:ky [.int i, .int j] M Q = Q (.int (if j < i then j else i)) M:=by
 apply propext;constructor
 ·rintro ⟨a,b,e,q⟩;cases e;exact q
 ·exact fun q=>⟨i,j,rfl,q⟩
theorem AC {ds:List D} {M:Mem} {Q:QD}:eQ [.con ds] M Q = Q (.int ds.length) M:=by simp [eQ,gK]
theorem AD {ds:List D} {M:Mem} {Q:QD}:eQ [.tup ds] M Q = Q (.int ds.length) M:=by simp [eQ,gK]
theorem tG {ds:List D} {M:Mem}:ax M (.tup ds) = some ds:=rfl
theorem tH {ds:List D} {M:Mem}:ax M (.con ds) = some ds:=rfl
theorem wW {α:Sort _} {a b : α}:(if true = true then a else b) = a:=rfl
theorem wX {α:Sort _} {a b : α}:(if false = true then a else b) = b:=rfl
theorem yI {ta tb:TEd} {ρ:au} {M:Mem} {R:List D -> (Mem -> Prop) -> Mem -> Prop}:lq ta tb ρ M R = ta ρ M fun x M1=>tb ρ M1 fun y M2 => ∃ xs ys,ax M2 x = some xs /\ ax M2 y = some ys /\ R (List.zipWith fW xs ys) (fun M=>ax M x = some xs /\ ax M y = some ys) M2:=by
 unfold lq aK
 congr 1;funext x M1
 unfold bx
 congr 1;funext y M2
 apply propext;constructor
 ·rintro ⟨x',y',xs,ys,e,q⟩
  cases e;exact ⟨xs,ys,q⟩
 ·rintro ⟨xs,ys,q⟩
  exact ⟨x,y,xs,ys,rfl,q⟩
local macro_rules | `(tactic| walk_at "wp") => `(tactic| ((try dsimp only [wS,wE,wA,wAnds,wO,wT,wAndTs,wOrTs,wTl,wI,wCl,wCmp,bG,bGs,opB,opC,opF,opM,qv,opI,ck,wC,wOp,wUn,bx,aK,wAr,gH,kQ,kR,lh,iq,ir,lj,iu,A6,iw,wIf,dX,iy,wSl,iz,fG,iG,iL,wBM,bu,eS,bC,jj,lp,iC,iQ,iB,cc,bv,df,fY,jb,fZ,lw,fB,iE,iF,lB,sIf,gN,lD,lF,fC,lH,tf,tj,tq,tw,tz,oP,tD,tE,wR,wU,qH,wV,tF,tG,tH,oM,oO,wW,wX,List.getElem?_cons_zero,List.getElem?_cons_succ,List.set_cons_zero,List.set_cons_succ,Option.bind_some,Option.map_some,Option.join_some,Option.bind_none,Option.join_none,List.map_cons,List.map_nil,List.length_cons,List.length_nil]);(try simp only [wS,wE,wA,wAnds,wO,wT,wAndTs,wOrTs,wTl,wI,wCl,wCmp,bG,bGs,opB,opC,opF,opM,qv,opI,ck,wC,wOp,wUn,bx,aK,wAr,gH,kQ,kR,lh,iq,ir,lj,iu,A6,iw,wIf,dX,iy,wSl,iz,fG,iG,iL,wBM,bu,eS,bC,jj,lp,yI,iC,iQ,iB,cc,bv,df,fY,jb,fZ,lw,fB,iE,iF,lB,sIf,gN,lD,lF,fC,lH,yG,
 tf,tj,tq,tw,tz,oP,tD,tE,wR,wU,qH,wV,tF,Az,AA,Bv,Bw,AB,yH,AC,AD,tG,tH,oM,oO,wW,wX,Bool.false_eq_true,if_false,if_true,
 List.getElem?_cons_zero,List.getElem?_cons_succ,List.set_cons_zero,List.set_cons_succ,Option.some.injEq,exists_eq_left',exists_eq_left,exists_eq_right,exists_and_left,exists_and_right,D.bl.injEq,D.int.injEq,D.ref.injEq,D.tup.injEq,Option.bind_some,Option.map_some,Option.join_some,Option.bind_none,Option.join_none,List.map_cons,List.map_nil,decide_eq_true_eq,List.cons.injEq,and_true,true_and,List.length_cons,List.length_nil])))
local macro_rules | `(tactic| walk_at "st") => `(tactic| ((first | rw [dB] | (dsimp only;rw [dB]));walk_at "wp"))
theorem AE {a:Addr} {t:Bool} {kvs:List (D × D)} {k d:D} {M:Mem} {Q:QD} (h:M a = some (.dct t kvs)) (ok:fS t k = true) (e:dget kvs k = some d) (q:Q d M):wIx (.ref a) k M Q := .inr (.inl ⟨t,kvs,d,h,ok,e,q⟩)
theorem tI {a:Addr} {kvs:List (D × D)} {k d:D} {M:Mem} {Q:QD} (h:M a = some (.fdc kvs)) (ok:bZ k = true) (e:dget kvs k = some d) (q:Q d M):wIx (.ref a) k M Q := .inr (.inr ⟨kvs,d,h,ok,e,q⟩)
theorem yJ {i:Nat} {t:TSd} {A:br} {ρ:au} {M:Mem} {a:Addr} {kvs:List (D × D)} (e : ρ[i]? = some (some (.ref a))) (m:M a = some (.dct true kvs)) (h:t A ρ (aj M a (.fdc kvs))):qq i t A ρ M:=⟨a,kvs,e, .inl ⟨m,h⟩⟩
theorem mM {a:Addr} {t:Bool} {kvs:List (D × D)} {k v:D} {M:Mem} {Q:Mem -> Prop} (h:M a = some (.dct t kvs)) (ok:fS t k = true) (hl:kvs.length < sizeLine) (q:Q (aj M a (.dct t (cj kvs k v)))):ga (.ref a) k v M Q:=⟨a,rfl, .inr ⟨t,kvs,h,ok,hl,q⟩⟩
noncomputable def Ge (M M':Mem):Prop := ∀ a o,M a = some o -> M' a = some o
theorem Ge.refl {M:Mem}:Ge M M:=fun _ _ h=>h
theorem Ge.trans {M M' M'':Mem} (h:Ge M M') (g:Ge M' M''):Ge M M'':=fun _ _ e=>g _ _ (h _ _ e)
theorem Ge.new {M:Mem} {p:Addr} {o:O} (h:M p = none):Ge M (aj M p o):=fun a o' e=>by
 rw [aU (fun z=>by rw [z,h] at e;cases e)];exact e
noncomputable def Box (b:Addr) (M:Mem):Prop := ∃ x y z:Int,M b = some (.lst [.int x, .int y, .int z])
structure Bx (b:Addr) (M M':Mem):Prop where
 box:Box b M'
 keep:∀ a o,a ≠ b -> M a = some o -> M' a = some o
theorem Bx.refl {b:Addr} {M:Mem} (h:Box b M):Bx b M M:=⟨h,fun _ _ _ e=>e⟩
theorem Bx.trans {b:Addr} {M M' M'':Mem} (h:Bx b M M') (g:Bx b M' M''):Bx b M M'':=⟨g.box,fun a o n e=>g.keep a o n (h.keep a o n e)⟩
theorem Bx.ge {b:Addr} {M M' M'':Mem} (h:Bx b M M') (g:Ge M' M''):Bx b M M'':=⟨by obtain ⟨x,y,z,e⟩:=h.box;exact ⟨x,y,z,g _ _ e⟩,fun a o n e=>g _ _ (h.keep a o n e)⟩
theorem Bx.put {b:Addr} {M:Mem} {x y z:Int}:Bx b M (aj M b (.lst [.int x, .int y, .int z])):=⟨⟨x,y,z,af⟩,fun a o n e=>by rw [aU n];exact e⟩
theorem Bx.of {b:Addr} {M M':Mem} (h:Box b M) (g:Ge M M'):Bx b M M':=(Bx.refl h).ge g
section
variable {T:List FD}
noncomputable def iV (s:Stmt):FD:=⟨"_law_cell_at",s,["_law_script", "_law_k"],2,
 (.cons (.ite (.cmp .lt (.var 1) (.blt .len (.cons (.var 0) .nil))) (.cons (.ret (.ix (.var 0) (.var 1)))
 .nil) .nil)
 (.cons (.ret (.int 0))
 .nil))⟩
theorem vU {α:Type} {xs:List α} {i:Int} (h0 : 0 <= i) (h1:i < xs.length):∃ x,atI xs i = some x /\ xs[i.toNat]? = some x:=by
 have:i.toNat < xs.length:=by omega
 refine ⟨xs[i.toNat], ?_,List.getElem?_eq_getElem this⟩
 unfold atI ixN
 simp [h0,h1,List.getElem?_eq_getElem this]
theorem yK {f:Nat} {s:Stmt} (hf:T[f]? = some (iV s)) {n:Nat} (hn : 1 <= n) {ns:List Int} {k:Int} {M:Mem} {Q:QD} (h0 : 0 <= k) (q:∀ i,Q (.int i) M):phi T n f [.con (ns.map D.int), .int k] M Q:=by
 refine aq hn hf rfl (ρ := [some _,some _]) rfl ?_
 unfold iV
 walk_at "st"
 split
 ·next h =>
  walk_at "st"
  obtain ⟨x,e,e2⟩:=vU (xs:=ns.map D.int) h0 h
  rw [List.getElem?_map] at e2
  cases e3:ns[k.toNat]? with
  | none=>rw [e3] at e2;cases e2
  | some y=>rw [e3] at e2;cases e2;exact ⟨_,e,q y⟩
 ·walk_at "st"
  exact q 0
theorem cH {i j:Int} (h : -(2 ^ 64) < i /\ i < 2 ^ 64):MulOk i j := .inl h
theorem jr {i j:Int} (h : -(2 ^ 64) < j /\ j < 2 ^ 64):MulOk i j := .inr (.inl h)
noncomputable def oQ (s:Stmt):FD:=⟨"_law_mixed",s,["_law_number_here", "_law_k", "_law_once", "_law_twice"],2,
 (.cons (.asg (.name 2) (.bin .mod (.bin .mul (.bin .add (.bin .add (.bin .mod (.var 0) (.int 1000000007)) (.bin .mul (.int 7) (.var 1))) (.int 1)) (.int 48271)) (.int 2147483647)))
 (.cons (.asg (.name 3) (.bin .mod (.bin .mul (.var 2) (.bin .add (.bin .add (.bin .mod (.var 2) (.int 1009)) (.var 1)) (.int 3))) (.int 998244353)))
 (.cons (.ret (.bin .fdiv (.bin .mod (.bin .add (.bin .mul (.var 3) (.int 39373)) (.var 2)) (.int 2147483629)) (.int 64)))
 .nil)))⟩
noncomputable def qI (s:Stmt) (fc fm:Nat):FD:=⟨"_law_box",s,["_law_script", "_law_k", "_law_cell"],2,
 (.cons (.asg (.name 2) (.call fc (.cons (.var 0) (.cons (.var 1) .nil))))
 (.cons (.ret (.lst (.cons (.bin .mul (.blt .abs (.cons (.var 2) .nil)) (.blt .int (.cons (.cmp .ge (.blt .abs (.cons (.var 2) .nil)) (.bin .pow (.int 10) (.int 18))) .nil))) (.cons (.call fm (.cons (.var 2) (.cons (.bin .add (.int 900) (.var 1)) .nil))) (.cons (.int 0) .nil)))))
 .nil))⟩
theorem AF {f fc fm:Nat} {s sc:Stmt} (hf:T[f]? = some (qI s fc fm)) (hfc:T[fc]? = some (iV sc)) {n:Nat} (hfm:∀ {x k:Int} {M:Mem} {Q:QD},(∀ i,Q (.int i) M) -> phi T (n - 1) fm [.int x, .int k] M Q) (hn : 2 <= n) {ns:List Int} {k:Int} {M:Mem} {Q:QD} (h0 : 0 <= k)
 (q:∀ p x y,M p = none -> Q (.ref p) (aj M p (.lst [.int x, .int y, .int 0]))):phi T n f [.con (ns.map D.int), .int k] M Q:=by
 refine aq (by omega) hf rfl (ρ := [some _,some _,none]) rfl ?_
 unfold qI
 walk_at "st"
 refine yK hfc (by omega) h0 fun i => ?_
 walk_at "st"
 refine ⟨by decide,by decide,by decide,jr ?_, ?_⟩
 ·split <;> omega
 refine hfm fun j => ?_
 exact ⟨by rw [sizeLine_eq];first | decide | omega,fun p hp=>q p _ _ hp⟩
noncomputable def mN (s:Stmt) (fm:Nat):FD:=⟨"_law_take",s,["_law_box_here", "_law_many", "_law_found", "_law_reach"],2,
 (.cons (.ite (.cmp .gt (.ix (.var 0) (.int 0)) (.int 0)) (.cons (.asg (.name 2) (.bin .mod (.ix (.var 0) (.int 0)) (.var 1)))
 (.cons (.put (.var 0) (.int 0) (.bin .fdiv (.ix (.var 0) (.int 0)) (.var 1)))
 (.cons (.ret (.var 2))
 .nil))) .nil)
 (.cons (.asg (.tup (.cons (.name 2) (.cons (.name 3) .nil))) (.tup (.cons (.int 0) (.cons (.int 1) .nil))))
 (.cons (.while (.cmp .lt (.var 3) (.var 1)) (.cons (.put (.var 0) (.int 2) (.bin .add (.ix (.var 0) (.int 2)) (.int 1)))
 (.cons (.asg (.name 2) (.bin .add (.bin .mul (.var 2) (.int 33554432)) (.call fm (.cons (.ix (.var 0) (.int 1)) (.cons (.ix (.var 0) (.int 2)) .nil)))))
 (.cons (.asg (.name 3) (.bin .mul (.var 3) (.int 33554432)))
 .nil))))
 (.cons (.ret (.bin .mod (.var 2) (.var 1)))
 .nil))))⟩
noncomputable def qJ (T:List FD) (n fm:Nat):Prop := ∀ {x k:Int} {M:Mem} {Q:QD},(∀ i,Q (.int i) M) -> phi T n fm [.int x, .int k] M Q
theorem yL {f fm:Nat} {s:Stmt} (hf:T[f]? = some (mN s fm)) {n:Nat} (hfm:qJ T (n - 1) fm) (hn : 2 <= n) {b:Addr} {m:Int} {M:Mem} {Q:QD} (hb:Box b M) (h1 : 0 < m) (h2:m <= 2 ^ 100)
 (q:∀ r M',0 <= r -> r < m -> Bx b M M' -> Q (.int r) M'):phi T n f [.ref b, .int m] M Q:=by
 refine aq (by omega) hf rfl (ρ := [some _,some _,none,none]) rfl ?_
 unfold mN
 obtain ⟨x,y,z,hM⟩:=hb
 walk_at "st"
 refine bH hM (d := .int x) rfl ?_
 simp only [qH]
 walk_at "wp"
 split
 ·next hx =>
  walk_at "st"
  refine bH hM (d := .int x) rfl ?_
  walk_at "wp"
  refine ⟨h1, ?_⟩
  walk_at "st"
  refine bH hM (d := .int x) rfl ?_
  walk_at "wp"
  refine ⟨h1,by omega, ?_⟩
  refine cG hM (j := 0) rfl ?_
  walk_at "st"
  exact q _ _ (Int.emod_nonneg _ (by omega)) (Int.emod_lt_of_pos _ h1) Bx.put
 ·next hx =>
  walk_at "st"
  refine ⟨by rw [sizeLine_eq];first | decide | omega, ?_⟩
  walk_at "st"
  refine ⟨5, ?_⟩
  have go:∀ (f:Nat) (found reach z:Int) (M':Mem),m <= reach * 33554432 ^ f -> M' b = some (.lst [.int x, .int y, .int z]) -> Bx b M M' ->
   bm (gH (wOp wLt (ck 3) (ck 1))) (wSs (phi T (n - 1)) (MSs.cons (MS.put (ME.var 0) (ME.int 2) (ME.bin BOp.add ((ME.var 0).ix (ME.int 2)) (ME.int 1)))
    (MSs.cons (MS.asg (MG.name 2) (ME.bin BOp.add (ME.bin BOp.mul (ME.var 2) (ME.int 33554432)) (ME.call fm (MEs.cons ((ME.var 0).ix (ME.int 1)) (MEs.cons ((ME.var 0).ix (ME.int 2)) MEs.nil)))))
      (MSs.cons (MS.asg (MG.name 3) (ME.bin BOp.mul (ME.var 3) (ME.int 33554432))) MSs.nil))))
    { nx:=wSs (phi T (n - 1)) (MSs.cons (MS.ret (ME.bin BOp.mod (ME.var 2) (ME.var 1))) MSs.nil) { nx:=fun x M'=>Q D.non M',rt:=Q },rt:=Q } (f + 1) [some (.ref b),some (.int m),some (.int found),some (.int reach)] M':=by
   intro f
   induction f with
   | zero =>
     intro found reach z M' hm hM' hx'
     simp only [bm]
     walk_at "wp"
     rw [if_neg (by omega)]
     walk_at "st"
     exact ⟨h1,q _ _ (Int.emod_nonneg _ (by omega)) (Int.emod_lt_of_pos _ h1) hx'⟩
   | succ f ih =>
     intro found reach z M' hm hM' hx'
     rw [bm]
     walk_at "wp"
     split
     ·next hr =>
      walk_at "st"
      refine bH hM' (d := .int z) rfl ?_
      walk_at "wp"
      refine cG hM' (j := 2) rfl ?_
      walk_at "st"
      refine ⟨jr (by decide), ?_⟩
      refine bH af (d := .int y) rfl ?_
      refine bH af (d := .int (z + 1)) rfl ?_
      refine hfm fun i => ?_
      walk_at "wp"
      walk_at "st"
      refine ⟨jr (by decide), ?_⟩
      exact ih _ _ (z + 1) _ (by rw [Int.mul_assoc, <- Int.pow_succ'];exact hm) af (hx'.trans Bx.put)
     ·walk_at "st"
      exact ⟨h1,q _ _ (Int.emod_nonneg _ (by omega)) (Int.emod_lt_of_pos _ h1) hx'⟩
  exact go 4 0 1 z M (by omega) hM (Bx.refl ⟨x,y,z,hM⟩)
noncomputable def eA (T:List FD) (n f:Nat):Prop := ∀ {b:Addr} {m:Int} {M:Mem} {Q:QD},Box b M -> 0 < m -> m <= 2 ^ 100 -> (∀ r M',0 <= r -> r < m -> Bx b M M' -> Q (.int r) M') -> phi T n f [.ref b, .int m] M Q
end
section
variable {T:List FD}
theorem am {α:Type} {xs l r:List α} {x : α} (e:xs = l ++ x :: r):l.length < xs.length:=by rw [e];simp
noncomputable abbrev Pr:=List Int × List Int × List Int
noncomputable def prD (p:Pr):D := .tup [.tup (p.1.map .int), .tup (p.2.1.map .int), .tup (p.2.2.map .int)]
noncomputable def cI (p:Pr):PyData := .tuple [.tuple (p.1.map .int), .tuple (p.2.1.map .int), .tuple (p.2.2.map .int)]
theorem oR {k:Nat} {M:Mem}:∀ ns:List Int,aF (rb k M) (ns.map D.int) = some (ns.map PyData.int)
 | [] => rfl
 | x :: r=>by
   have e:rb k M (.int x) = some (.int x):=by cases k <;> rfl
   simp [aF,e,oR r]
theorem By {k:Nat} {M:Mem} (p:Pr):rb (k + 2) M (prD p) = some (cI p):=by
 simp [rb,prD,cI,aF,oR]
theorem mP {k:Nat} {M:Mem}:∀ ps:List Pr,aF (rb (k + 2) M) (ps.map prD) = some (ps.map cI)
 | [] => rfl
 | p :: r=>by simp [aF,By,mP r]
theorem tJ {k:Nat} {M:Mem} {a:Addr} {ds:List D} (h:M a = some (.lst ds)):rb (k + 1) M (.ref a) = (aF (rb k M) ds).map PyData.list:=by
 simp only [rb,h]
theorem gY {Φ:Phi} {s:MS} {r:MSs} {E:br} {ρ:au} {M:Mem} (I:au -> Mem -> Prop) (h1:∀ R:au -> Mem -> Prop,(∀ ρ M,I ρ M -> R ρ M) -> wS Φ s { E with nx:=R } ρ M) (h2:∀ ρ M,I ρ M -> wSs Φ r E ρ M):wSs Φ (.cons s r) E ρ M:=by
 rw [dB];exact h1 _ h2
theorem Bx.upd {b q:Addr} {M M':Mem} {o:O} (h:Bx b M M') (hq:M q = none) (hqb:q ≠ b):Bx b M (aj M' q o) :=
 ⟨by obtain ⟨x,y,z,e⟩:=h.box;exact ⟨x,y,z,by rw [aU hqb.symm];exact e⟩,fun u o' nu eu=>by
   rw [aU (fun z=>by rw [z,hq] at eu;cases eu)];exact h.keep u o' nu eu⟩
theorem Bx.none {b q:Addr} {M M':Mem} (h:Bx b M M') (hq:M' q = none) (hqb:q ≠ b):M q = none:=by
 cases e:M q with
 | none=>rfl
 | some o=>rw [h.keep q o hqb e] at hq;cases hq
end
section
theorem az {α:Type} {f : α -> D} {b:BT} {tb:TCd} {chk:Mem -> Prop} {N:NC} (I:List α -> au -> Mem -> List D -> Prop) {ys:List α} {xs:List D} (hx:xs = ys.map f) {ρ:au} {M:Mem} {acc:List D}
 (h0:I [] ρ M acc)
 (hc:∀ l ρ M acc,I l ρ M acc -> chk M)
 (hs:∀ l x r ρ M acc,ys = l ++ x :: r -> I l ρ M acc -> ∃ ρ',b (f x) ρ = some ρ' /\ ∀ N':NC,(∀ ρ2 M2 acc2,I (l ++ [x]) ρ2 M2 acc2 -> N' ρ2 M2 acc2) -> tb ρ' M acc N')
 (hN:∀ ρ M acc,I ys ρ M acc -> N ρ M acc):bQ b tb chk N xs ρ M acc:=by
 subst hx
 have g:∀ (r l:List α) (ρ:au) (M:Mem) (acc:List D),ys = l ++ r -> I l ρ M acc -> bQ b tb chk N (r.map f) ρ M acc:=by
  intro r
  induction r with
  | nil=>intro l ρ M acc e i;rw [List.append_nil] at e;subst e;exact ⟨hc _ _ _ _ i,hN _ _ _ i⟩
  | cons x r ih =>
    intro l ρ M acc e i
    obtain ⟨ρ',e1,h⟩:=hs l x r ρ M acc e i
    exact ⟨hc _ _ _ _ i, ρ',e1,h _ fun ρ2 M2 acc2 i2=>ih (l ++ [x]) ρ2 M2 acc2 (by rw [e];simp) i2⟩
 exact g ys [] ρ M acc rfl h0
theorem bj {α:Type} {f : α -> D} {b:BT} {tb:TSd} {chk:Mem -> Prop} {E:br} (I:List α -> au -> Mem -> Prop) {ys:List α} {xs:List D} (hx:xs = ys.map f) {ρ:au} {M:Mem}
 (h0:I [] ρ M)
 (hc:∀ l ρ M,I l ρ M -> chk M)
 (hs:∀ l x r ρ M,ys = l ++ x :: r -> I l ρ M -> ∃ ρ',b (f x) ρ = some ρ' /\ ∀ F:au -> Mem -> Prop,(∀ ρ2 M2,I (l ++ [x]) ρ2 M2 -> F ρ2 M2) -> tb { E with nx:=F,ct:=F,bk:=E.nx } ρ' M)
 (hN:∀ ρ M,I ys ρ M -> E.nx ρ M):bO b tb chk E xs ρ M:=by
 subst hx
 have g:∀ (r l:List α) (ρ:au) (M:Mem),ys = l ++ r -> I l ρ M -> bO b tb chk E (r.map f) ρ M:=by
  intro r
  induction r with
  | nil=>intro l ρ M e i;rw [List.append_nil] at e;subst e;exact ⟨hc _ _ _ i,hN _ _ i⟩
  | cons x r ih =>
    intro l ρ M e i
    obtain ⟨ρ',e1,h⟩:=hs l x r ρ M e i
    exact ⟨hc _ _ _ i, ρ',e1,h _ fun ρ2 M2 i2=>ih (l ++ [x]) ρ2 M2 (by rw [e];simp) i2⟩
 exact g ys [] ρ M rfl h0
theorem oS {M M':Mem} {x:D} {ds:List D} (h:ax M x = some ds) (g:Ge M M'):ax M' x = some ds:=by
 cases x with
 | ref a =>
   simp only [ax] at h ⊢
   split at h
   ·next e=>rw [g _ _ e];exact h
   ·cases h
 | _=>exact h
theorem vW {M:Mem} {x:D} {ds:List D} (h:ax M x = some ds):gK M x = some ds.length:=by
 cases x with
 | ref a =>
   simp only [ax] at h
   split at h
   ·next e=>cases h;simp only [gK,e]
   ·cases h
 | tup es=>cases h;rfl
 | con es=>cases h;rfl
 | _=>cases h
theorem jt {M:Mem} {x:D} {ds:List D} {Q:QD} (h:ax M x = some ds) (q:Q (.int ds.length) M):eQ [x] M Q:=⟨_,_,rfl,vW h,q⟩
theorem eB {α:Type} {xs:List α} {k:Nat} {x : α} (h:xs[k]? = some x):atI xs (k:Int) = some x:=by
 have hk:k < xs.length:=(List.getElem?_eq_some_iff.mp h).1
 unfold atI ixN
 rw [if_pos (by omega),if_pos (by omega)]
 exact h
theorem aP {n:Nat}:cy 0 n = (List.range n).map fun i=>D.int (i:Nat):=by simp [cy]
end
section
variable {T:List FD}
noncomputable def Big (ns:List Int):Prop := ∀ x ∈ ns, -1000000000000 <= x /\ x <= 1000000000000
end
section
variable {T:List FD}
noncomputable def mQ (x:Str) (s:Stmt):FD:=⟨"_law_mixed",s,[x, "_law_k", "_law_once", "_law_twice"],2,(oQ s).body⟩
theorem tK {f:Nat} {x:Str} {s:Stmt} (hf:T[f]? = some (mQ x s)) {n:Nat} (hn : 1 <= n):qJ T n f:=by
 intro x k M Q q
 refine aq hn hf rfl (ρ := [some _,some _,none,none]) rfl ?_
 unfold mQ oQ
 walk_at "st"
 refine ⟨by decide,cH (by decide),jr (by decide),by decide, ?_⟩
 walk_at "st"
 refine ⟨by decide,cH ?_,by decide, ?_⟩
 ·have h1:=Int.emod_nonneg ((x % 1000000007 + 7 * k + 1) * 48271) (b := 2147483647) (by decide)
  have h2:=Int.emod_lt_of_pos ((x % 1000000007 + 7 * k + 1) * 48271) (b := 2147483647) (by decide)
  omega
 walk_at "st"
 refine ⟨jr (by decide),by decide,by decide,by decide, ?_⟩
 exact q _
end
section
open PySem PySem.Spec PyProof.Rows L2.Srt
variable {T:List FD}
noncomputable abbrev K3:=Int × Int × Int
noncomputable abbrev Tm:=K3 × Int
noncomputable def k3D (k:K3):D := .tup [.int k.1, .int k.2.1, .int k.2.2]
noncomputable def kcD (t:Tm):D × D:=(k3D t.1, .int t.2)
noncomputable def k3K (k:K3):Ky := .tup [.int k.1, .int k.2.1, .int k.2.2]
noncomputable def klt (a b:K3):Prop:=ltK (k3K a) (k3K b) = true
theorem gk {a b:K3} (h:k3D a = k3D b):a = b:=by
 obtain ⟨a1,a2,a3⟩:=a
 obtain ⟨b1,b2,b3⟩:=b
 simp [k3D] at h
 simp [h]
theorem yM {a b:K3} (h:k3K a = k3K b):a = b:=by
 obtain ⟨a1,a2,a3⟩:=a
 obtain ⟨b1,b2,b3⟩:=b
 simp [k3K] at h
 simp [h]
noncomputable def cf (ts:List Tm) (k:K3):Int:=((ts.filter fun t=>decide (t.1 = k)).map (·.2)).sum
theorem eC {k:K3}:cf [] k = 0:=rfl
theorem aV {t:Tm} {ts:List Tm} {k:K3}:cf (t :: ts) k = (if t.1 = k then t.2 else 0) + cf ts k:=by
 unfold cf
 by_cases h:t.1 = k
 ·rw [List.filter_cons_of_pos (by simpa using h),if_pos h];simp
 ·rw [List.filter_cons_of_neg (by simpa using h),if_neg h];simp
theorem cP {a b:List Tm} {k:K3}:cf (a ++ b) k = cf a k + cf b k:=by
 induction a with
 | nil=>simp [eC]
 | cons t a ih=>rw [List.cons_append,aV,aV,ih];omega
theorem oT {a b:List Tm} (h:a.Perm b) {k:K3}:cf a k = cf b k:=by
 induction h with
 | nil=>rfl
 | cons x h ih=>rw [aV,aV,ih]
 | swap x y l=>simp only [aV];omega
 | trans _ _ ih1 ih2=>rw [ih1,ih2]
theorem eD {ts:List Tm} {k:K3} (h:∀ t ∈ ts,t.1 ≠ k):cf ts k = 0:=by
 induction ts with
 | nil=>rfl
 | cons t ts ih=>rw [aV,if_neg (h t (by simp)),ih fun u hu=>h u (by simp [hu])];rfl
theorem eE {ts:List Tm} (hn:(ts.map (·.1)).Nodup) {t:Tm} (ht:t ∈ ts):cf ts t.1 = t.2:=by
 induction ts with
 | nil=>simp at ht
 | cons u ts ih =>
   simp only [List.map_cons,List.nodup_cons] at hn
   rw [aV]
   rcases List.mem_cons.mp ht with z | z
   ·subst z
    rw [if_pos rfl,eD fun v hv e=>hn.1 (by rw [<- e];exact List.mem_map_of_mem hv)]
    omega
   ·rw [if_neg fun e=>hn.1 (by rw [e];exact List.mem_map_of_mem z),ih hn.2 z];omega
noncomputable def dC (L:List Tm) (k:K3) (c:Int):List Tm:=if (L.any fun p=>decide (p.1 = k)) = true then L.map fun p=>if p.1 = k then (p.1,p.2 + c) else p else L ++ [(k,c)]
theorem oU {L:List Tm} {k:K3}:dget (L.map kcD) (k3D k) = (L.find? fun p=>decide (p.1 = k)).map fun p => .int p.2:=by
 unfold dget
 induction L with
 | nil=>rfl
 | cons t L ih =>
   by_cases h:t.1 = k
   ·rw [List.map_cons,List.find?_cons_of_pos (by simp [kcD,h]),List.find?_cons_of_pos (by simpa using h)];rfl
   ·rw [List.map_cons,List.find?_cons_of_neg (by simp only [decide_eq_true_eq];exact fun e=>h (gk e)),List.find?_cons_of_neg (by simpa using h),ih]
theorem tL {L:List Tm} {k:K3}:((L.map kcD).any fun p=>decide (p.1 = k3D k)) = L.any fun p=>decide (p.1 = k):=by
 induction L with
 | nil=>rfl
 | cons t L ih =>
   rw [List.map_cons,List.any_cons,List.any_cons,ih]
   congr 1
   by_cases h:t.1 = k
   ·simp [kcD,h]
   ·rw [decide_eq_false h];exact decide_eq_false (fun e=>h (gk e))
theorem yN {L:List Tm} (hn:(L.map (·.1)).Nodup) {k:K3} {c:Int}:cj (L.map kcD) (k3D k) (.int ((((L.find? fun p=>decide (p.1 = k)).map (·.2)).getD 0) + c)) = (dC L k c).map kcD:=by
 unfold cj dC
 rw [tL]
 split
 ·next h =>
  rw [List.map_map,List.map_map]
  apply List.map_congr_left
  intro t ht
  simp only [Function.comp]
  by_cases e:t.1 = k
  ·rw [if_pos (by rw [<- e];rfl),if_pos e]
   have:L.find? (fun p=>decide (p.1 = k)) = some t:=by
    clear h
    induction L with
    | nil=>simp at ht
    | cons u L ih =>
      simp only [List.map_cons,List.nodup_cons] at hn
      rcases List.mem_cons.mp ht with z | z
      ·subst z;rw [List.find?_cons_of_pos (by simpa using e)]
      ·rw [List.find?_cons_of_neg (by simp;intro e2;exact hn.1 (by rw [e2, <- e];exact List.mem_map_of_mem z))]
       exact ih hn.2 z
   rw [this];rfl
  ·rw [if_neg (c:=(kcD t).1 = k3D k) (fun z=>e (gk z)),if_neg e]
 ·next h =>
  have:L.find? (fun p=>decide (p.1 = k)) = none:=by
   rw [List.find?_eq_none]
   intro x hx
   simp only [decide_eq_true_eq]
   intro e
   exact h (List.any_eq_true.mpr ⟨x,hx,by simpa using e⟩)
  rw [this];simp [kcD]
theorem tM {L:List Tm} {k:K3} {c:Int}:(dC L k c).map (·.1) = if (L.any fun p=>decide (p.1 = k)) = true then L.map (·.1) else L.map (·.1) ++ [k]:=by
 unfold dC
 split
 ·rw [List.map_map]
  apply List.map_congr_left
  intro t _
  simp only [Function.comp]
  split <;> rfl
 ·simp
theorem qK {L:List Tm} (hn:(L.map (·.1)).Nodup) {k:K3} {c:Int}:((dC L k c).map (·.1)).Nodup:=by
 rw [tM]
 split
 ·exact hn
 ·next h =>
  refine List.nodup_append.mpr ⟨hn,by simp,fun a ha b hb e => ?_⟩
  simp at hb;subst hb;subst e
  obtain ⟨t,ht,e⟩:=List.mem_map.mp ha
  exact h (List.any_eq_true.mpr ⟨t,ht,by simpa using e⟩)
theorem vX {L:List Tm} {k:K3} {c:Int}:(dC L k c).length <= L.length + 1:=by
 unfold dC;split <;> simp
theorem yO {L:List Tm} (hn:(L.map (·.1)).Nodup) {k a:K3} {c:Int}:cf (dC L k c) a = cf L a + if k = a then c else 0:=by
 unfold dC
 split
 ·next h =>
  obtain ⟨t,ht,e⟩:=List.any_eq_true.mp h
  have e:t.1 = k:=by simpa using e
  clear h
  induction L with
  | nil=>simp at ht
  | cons u L ih =>
    simp only [List.map_cons,List.nodup_cons] at hn
    rw [List.map_cons,aV,aV]
    by_cases eu:u.1 = k
    ·have rest:(L.map fun p=>if p.1 = k then (p.1,p.2 + c) else p) = L:=by
      conv=>rhs;rw [<- List.map_id L]
      apply List.map_congr_left
      intro p hp
      rw [if_neg fun z=>hn.1 (by rw [eu, <- z];exact List.mem_map_of_mem hp)];rfl
     rw [rest,if_pos eu]
     dsimp only
     by_cases ea:u.1 = a
     ·rw [if_pos ea,if_pos ea,if_pos (by rw [<- eu];exact ea)];omega
     ·rw [if_neg ea,if_neg ea,if_neg (by rw [<- eu];exact ea)];omega
    ·rcases List.mem_cons.mp ht with z | z
     ·exact absurd (by rw [<- z];exact e) eu
     ·rw [ih hn.2 z,if_neg eu];omega
 ·rw [cP,aV,eC];simp
noncomputable def aR (ts:List Tm):List Tm:=ts.foldl (fun L t=>dC L t.1 t.2) []
theorem dN {ts:List Tm} {t:Tm}:aR (ts ++ [t]) = dC (aR ts) t.1 t.2:=by simp [aR]
theorem eZ {α:Type} {P:List α -> Prop} (h0:P []) (h1:∀ l x,P l -> P (l ++ [x])) (l:List α):P l:=by
 have:∀ r:List α,P r.reverse:=by
  intro r
  induction r with
  | nil=>exact h0
  | cons x r ih=>rw [List.reverse_cons];exact h1 _ _ ih
 have:=this l.reverse
 rw [List.reverse_reverse] at this
 exact this
theorem fb (ts:List Tm):((aR ts).map (·.1)).Nodup:=eZ (P:=fun ts=>((aR ts).map (·.1)).Nodup) (by simp [aR]) (fun l x ih=>by rw [dN];exact qK ih) ts
theorem yP (ts:List Tm) (k:K3):cf (aR ts) k = cf ts k:=eZ (P:=fun ts=>cf (aR ts) k = cf ts k) rfl (fun l x ih=>by
 rw [dN,yO (fb l),ih,cP,aV,eC];omega) ts
theorem mR (ts:List Tm):(aR ts).length <= ts.length:=eZ (P:=fun ts=>(aR ts).length <= ts.length) (by simp [aR]) (fun l x ih=>by
 rw [dN];have:=vX (L:=aR l) (k:=x.1) (c:=x.2);simp;omega) ts
theorem Bz {ts:List Tm} {k:K3}:Mi.cf (ts.filter fun t => !(t.2 == 0)) k = Mi.cf ts k:=by
 induction ts with
 | nil=>rfl
 | cons t ts ih =>
   rw [aV]
   by_cases h:t.2 = 0
   ·rw [List.filter_cons_of_neg (by simp [h]),ih,h];split <;> omega
   ·rw [List.filter_cons_of_pos (by simp [h]),aV,ih]
theorem Ge.upd {M M1:Mem} {d:Addr} {o:O} (g:Ge M M1) (hd:M d = none):Ge M (aj M1 d o):=fun a o' e=>by
 rw [aU (fun z=>by rw [z,hd] at e;cases e)];exact g _ _ e
end
section
open PySem PySem.Spec PyProof.Rows L2.Srt
variable {T:List FD}
theorem vY {l:List Nat} {m:Nat} {g:Nat -> Nat -> Tm}:(l.flatMap fun i=>(List.range m).map (g i)).length = l.length * m:=by
 induction l with
 | nil=>simp
 | cons i l ih=>rw [List.flatMap_cons,List.length_append,ih,List.length_cons,Nat.succ_mul];simp;omega
end
section
open PySem PySem.Spec PyProof.Rows L2.Srt
variable {T:List FD}
noncomputable def bP (m p a b c:Nat):Tm:=(((a * p + c:Nat),((a * m + b:Nat):Int),((b * p + c:Nat):Int)),1)
noncomputable def dR (m p a:Nat):List Tm:=(List.range m).flatMap fun b=>(List.range p).map (bP m p a b)
noncomputable def bn (n m p:Nat):List Tm:=(List.range n).flatMap (dR m p)
theorem vZ {m p a:Nat}:(dR m p a).length = m * p:=by unfold dR;rw [vY,List.length_range]
theorem yQ {m p:Nat} {l:List Nat}:(l.flatMap (dR m p)).length = l.length * (m * p):=by
 induction l with
 | nil=>simp
 | cons i l ih=>rw [List.flatMap_cons,List.length_append,ih,List.length_cons,vZ,Nat.succ_mul];omega
theorem eF {n m p:Nat} {t:Tm} (h:t ∈ bn n m p):∃ a b c,a < n /\ b < m /\ c < p /\ t = bP m p a b c:=by
 obtain ⟨a,ha,h⟩:=List.mem_flatMap.mp h
 obtain ⟨b,hb,h⟩:=List.mem_flatMap.mp h
 obtain ⟨c,hc,rfl⟩:=List.mem_map.mp h
 exact ⟨a,b,c,List.mem_range.mp ha,List.mem_range.mp hb,List.mem_range.mp hc,rfl⟩
theorem eG {a b n m:Nat} (ha:a < n) (hb:b < m):a * m + b < n * m:=by
 have:(a + 1) * m <= n * m:=Nat.mul_le_mul_right m ha
 rw [Nat.succ_mul] at this;omega
end
section
open PySem PySem.Spec PyProof.Rows L2.Srt
theorem bK {a b m:Nat} (hb:b < m):(a * m + b) / m = a:=by
 rw [Nat.mul_comm,Nat.mul_add_div (by omega),Nat.div_eq_of_lt hb,Nat.add_zero]
theorem cr {n m p:Nat}:((bn n m p).map (·.1)).Nodup:=by
 unfold bn dR
 rw [List.map_flatMap,List.nodup_iff_pairwise_ne,List.pairwise_flatMap]
 refine ⟨fun a _ => ?_, ?_⟩
 ·rw [List.map_flatMap,List.pairwise_flatMap]
  refine ⟨fun b _ => ?_, ?_⟩
  ·rw [List.map_map,List.pairwise_map]
   refine (List.nodup_iff_pairwise_ne.mp List.nodup_range).imp ?_
   intro c c' hc e
   have h:=congrArg (fun k:K3=>k.2.2) e
   simp only [Function.comp,bP] at h
   omega
  ·refine (List.nodup_iff_pairwise_ne.mp List.nodup_range).imp ?_
   intro b b' hb x hx y hy e
   rw [List.map_map] at hx hy
   obtain ⟨u,_,rfl⟩:=List.mem_map.mp hx
   obtain ⟨v,_,rfl⟩:=List.mem_map.mp hy
   have h:=congrArg (fun k:K3=>k.2.1) e
   simp only [Function.comp,bP] at h
   omega
 ·refine (List.nodup_iff_pairwise_ne.mp List.nodup_range).imp ?_
  intro a a' ha x hx y hy e
  rw [List.map_flatMap] at hx hy
  obtain ⟨b,hb,hx⟩:=List.mem_flatMap.mp hx
  obtain ⟨b',hb',hy⟩:=List.mem_flatMap.mp hy
  rw [List.map_map] at hx hy
  obtain ⟨u,_,rfl⟩:=List.mem_map.mp hx
  obtain ⟨v,_,rfl⟩:=List.mem_map.mp hy
  have h:=congrArg (fun k:K3=>k.2.1) e
  simp only [Function.comp,bP] at h
  have h2:a * m + b = a' * m + b':=by omega
  apply ha
  rw [<- bK (a:=a) (List.mem_range.mp hb),h2,bK (List.mem_range.mp hb')]
theorem AG {n m p:Nat}:∀ u ∈ bn n m p,u.2 ≠ 0:=fun u hu=>by
 obtain ⟨a,b,c,_,_,_,rfl⟩:=eF hu
 exact Int.one_ne_zero
theorem tN {α:Type} {n p:Nat} {f:Nat -> α}:(List.range (n * p)).map f = (List.range n).flatMap fun i=>(List.range p).map fun j=>f (i * p + j):=by
 induction n with
 | zero=>simp
 | succ n ih =>
   rw [Nat.succ_mul,List.range_add,List.map_append,ih,List.range_succ,List.flatMap_append,List.map_map]
   simp
end
section
open PySem PySem.Spec PyProof.Rows L2.Srt
variable {T:List FD}
noncomputable def cT (L:List Tm) (k:K3) (c:Int):List Tm:=if (L.any fun p=>decide (p.1 = k)) = true then L.map (fun p=>if p.1 = k then (p.1,c) else p) else L ++ [(k,c)]
theorem mU {L:List Tm} {k:K3} {c:Int}:cj (L.map kcD) (k3D k) (.int c) = (cT L k c).map kcD:=by
 unfold cj cT
 rw [tL]
 split
 ·rw [List.map_map,List.map_map]
  refine List.map_congr_left fun p _ => ?_
  simp only [Function.comp]
  by_cases h:p.1 = k
  ·rw [if_pos h,if_pos (show (kcD p).1 = k3D k by show k3D p.1 = k3D k;rw [h])];rfl
  ·rw [if_neg h,if_neg (show ¬ (kcD p).1 = k3D k from fun z=>h (gk z))]
 ·rw [List.map_append];rfl
theorem qL {L:List Tm} (hn:(L.map (·.1)).Nodup) {k:K3} {c:Int}:((cT L k c).map (·.1)).Nodup:=by
 unfold cT
 split
 ·rw [List.map_map]
  have e:L.map ((fun x:Tm=>x.1) ∘ fun p=>if p.1 = k then (p.1,c) else p) = L.map (·.1):=List.map_congr_left fun p _=>by
   simp only [Function.comp];split <;> rfl
  rw [e];exact hn
 ·next h =>
  rw [List.map_append,List.nodup_append]
  refine ⟨hn,by simp,fun a ha b hb e => ?_⟩
  simp at hb
  subst e hb
  obtain ⟨p,hp,rfl⟩:=List.mem_map.mp ha
  exact h (List.any_eq_true.mpr ⟨p,hp,by simp⟩)
theorem w4 {L:List Tm} {k:K3} {c:Int} {t:Tm} (h:t ∈ cT L k c):t ∈ L ∨ t = (k,c):=by
 unfold cT at h
 split at h
 ·obtain ⟨p,hp,rfl⟩:=List.mem_map.mp h
  by_cases e:p.1 = k
  ·rw [if_pos e];exact .inr (by rw [e])
  ·rw [if_neg e];exact .inl hp
 ·rcases List.mem_append.mp h with h | h
  ·exact .inl h
  ·exact .inr (by simpa using h)
theorem w5 {L:List Tm} {k:K3} {c:Int}:(cT L k c).length <= L.length + 1:=by
 unfold cT;split <;> simp
theorem nR {L:List Tm} (hn:(L.map (·.1)).Nodup) {ys:List D} (hp:ys.Perm ((L.map kcD).map (·.1))) (hs:mf ys):∃ rs:List Tm,rs.Perm L /\ ys = rs.map (fun t=>k3D t.1) /\ rs.Pairwise fun a b=>klt a.1 b.1:=by
 have e0:(L.map kcD).map (·.1) = L.map fun t=>k3D t.1:=by rw [List.map_map];rfl
 rw [e0] at hp
 obtain ⟨rs,p1,p2⟩:=jZ (fun t:Tm=>k3D t.1) hp rfl
 refine ⟨rs,p1,p2.symm, ?_⟩
 have hn':(rs.map (·.1)).Nodup:=(p1.map (·.1)).nodup_iff.mpr hn
 unfold mf at hs
 rw [<- p2,List.pairwise_map] at hs
 rw [List.nodup_iff_pairwise_ne,List.pairwise_map] at hn'
 refine (hs.and hn').imp ?_
 rintro a b ⟨h1,h2⟩
 unfold klt
 cases e1:ltK (k3K a.1) (k3K b.1) with
 | true=>rfl
 | false=>exact absurd (yM (jV _ _ e1 h1)) h2
theorem fe {L:List Tm} (hn:(L.map (·.1)).Nodup) {t:Tm} (ht:t ∈ L):dget (L.map kcD) (k3D t.1) = some (.int t.2):=by
 rw [oU]
 have:L.find? (fun p=>decide (p.1 = t.1)) = some t:=by
  induction L with
  | nil=>simp at ht
  | cons x L ih =>
    simp only [List.map_cons,List.nodup_cons] at hn
    rcases List.mem_cons.mp ht with z | z
    ·subst z;simp
    ·have:x.1 ≠ t.1:=fun e=>hn.1 (by rw [e];exact List.mem_map_of_mem z)
     rw [List.find?_cons_of_neg (by simpa using this)]
     exact ih hn.2 z
 rw [this];rfl
theorem w6 {L:List Tm} (hn:(L.map (·.1)).Nodup):ql (L.map kcD) = L.map kcD:=by
 have g:∀ (r l:List Tm),(((l ++ r).map (·.1)).Nodup) -> (r.map kcD).foldl (fun a kv=>cj a kv.1 kv.2) (l.map kcD) = (l ++ r).map kcD:=by
  intro r
  induction r with
  | nil=>intro l _;simp
  | cons t r ih =>
    intro l h
    rw [List.map_cons,List.foldl_cons]
    have e:cj (l.map kcD) (kcD t).1 (kcD t).2 = (l ++ [t]).map kcD:=by
     show cj (l.map kcD) (k3D t.1) (.int t.2) = _
     rw [mU]
     unfold cT
     rw [if_neg]
     intro z
     obtain ⟨p,hp,e⟩:=List.any_eq_true.mp z
     rw [List.map_append,List.nodup_append] at h
     exact h.2.2 _ (List.mem_map_of_mem hp) _ (List.mem_map_of_mem (List.mem_cons_self ..)) (of_decide_eq_true e)
    rw [e,ih (l ++ [t]) (by rw [List.append_assoc];exact h)]
    rw [List.append_assoc];rfl
 have:=g L [] (by simpa using hn)
 simpa [ql] using this
theorem iW (k:K3):bZ (k3D k) = true:=rfl
end
section
open PySem PySem.Spec PyProof.Rows L2.Srt
variable {T:List FD}
noncomputable def idx (l:List Int):List (Int × Int):=l.mapIdx fun i x=>((i:Nat),x)
noncomputable def nz (l:List Int):List (Int × Int):=(idx l).filter fun q => !(q.2 == 0)
noncomputable def pD (q:Int × Int):D := .tup [.int q.1, .int q.2]
theorem oV {l:List Int}:(idx l).length = l.length:=by simp [idx]
theorem mV {l:List Int}:(nz l).length <= l.length:=by
 unfold nz;exact Nat.le_trans (List.length_filter_le _ _) (by rw [oV];exact Nat.le_refl _)
theorem w8 {l:List Int}:eT (l.map .int) = (idx l).map pD:=by
 unfold eT idx
 apply List.ext_getElem?
 intro j
 simp only [List.getElem?_mapIdx,List.getElem?_map]
 cases l[j]? <;> rfl
noncomputable def fK (xp xn:Str) (s:Stmt):FD:=⟨"_law_nonzero",s,[xp],1,
 (.cons (.ret (.comp [none,none] ["_law_place",xn] (.last (.enum (.var 0)) (.tup (.cons (.name 0) (.cons (.name 1) .nil))) (.cons (.cmp .ne (.var 1) (.int 0)) .nil) (.tup (.cons (.var 0) (.cons (.var 1) .nil))))))
 .nil)⟩
theorem qM {f:Nat} {xp xn:Str} {s:Stmt} (hf:T[f]? = some (fK xp xn s)) {n:Nat} (hn : 1 <= n) {l:List Int} (hl:l.length <= 1000000) {M:Mem} {Q:QD} (q:∀ p,M p = none -> Q (.ref p) (aj M p (.lst ((nz l).map pD)))):phi T n f [.tup (l.map .int)] M Q:=by
 refine aq (by omega) hf rfl (ρ := [some _]) rfl ?_
 unfold fK
 walk_at "st"
 rw [w8]
 refine az (f:=pD) (ys:=idx l) (I:=fun r ρ M' acc=>(∃ o0 o1, ρ = [o0,o1]) /\ M' = M /\ acc = (r.filter fun q => !(q.2 == 0)).map pD) rfl ⟨⟨_,_,rfl⟩,rfl,rfl⟩ (fun _ _ _ _ _=>by first | rfl | trivial) ?_ ?_
 ·rintro l' x r ρ M1 acc e ⟨⟨o0,o1,rfl⟩,rfl,rfl⟩
  refine ⟨_,rfl,fun N' hN' => ?_⟩
  have hlt:=am e
  rw [oV] at hlt
  have hfl:(l'.filter fun q => !(q.2 == 0)).length <= l'.length:=List.length_filter_le _ _
  walk_at "wp"
  by_cases hz:x.2 = 0
  ·rw [if_neg (by simp [hz])]
   refine hN' _ _ _ ⟨⟨_,_,rfl⟩,rfl, ?_⟩
   rw [List.filter_append,List.filter_cons_of_neg (by simp [hz])];simp
  ·rw [if_pos (by simp [hz])]
   refine ⟨by rw [sizeLine_eq];first | decide | omega,by rw [List.length_map,sizeLine_eq];omega,hN' _ _ _ ⟨⟨_,_,rfl⟩,rfl, ?_⟩⟩
   rw [List.filter_append,List.filter_cons_of_pos (by simp [hz])];simp [pD]
 ·rintro ρ M1 acc ⟨⟨o0,o1,rfl⟩,rfl,rfl⟩ p hp
  exact q p hp
noncomputable def bE (i a j b:Int) (zs:List (Int × Int)):List Tm:=zs.map fun z=>((z.1,i,j),a * b * z.2)
noncomputable def bY (i a:Int) (ys zs:List (Int × Int)):List Tm:=ys.flatMap fun y=>bE i a y.1 y.2 zs
noncomputable def cA (xs ys zs:List (Int × Int)):List Tm:=xs.flatMap fun x=>bY x.1 x.2 ys zs
noncomputable def dS (p:Pr):List Tm:=cA (nz p.1) (nz p.2.1) (nz p.2.2)
noncomputable def ba (ps:List Pr):List Tm:=ps.flatMap dS
theorem mW {i a j b:Int} {zs:List (Int × Int)}:(bE i a j b zs).length = zs.length:=by simp [bE]
theorem mX {i a:Int} {ys zs:List (Int × Int)}:(bY i a ys zs).length = ys.length * zs.length:=by
 unfold bY
 induction ys with
 | nil=>simp
 | cons y ys ih=>rw [List.flatMap_cons,List.length_append,ih,mW,List.length_cons,Nat.succ_mul];omega
theorem gZ {xs ys zs:List (Int × Int)}:(cA xs ys zs).length = xs.length * (ys.length * zs.length):=by
 unfold cA
 induction xs with
 | nil=>simp
 | cons y ys ih=>rw [List.flatMap_cons,List.length_append,ih,mX,List.length_cons,Nat.succ_mul];omega
noncomputable def mY (xs:Str) (s:Stmt) (fz:Nat):FD:=⟨"_law_sums",s,[xs, "_law_found", "_law_l", "_law_r", "_law_o", "_law_rights", "_law_outs", "_law_i", "_law_a", "_law_j", "_law_b", "_law_k", "_law_c"],1,
 (.cons (.asg (.name 1) (.dnew true))
 (.cons (.for (.tup (.cons (.name 2) (.cons (.name 3) (.cons (.name 4) .nil)))) (.seq (.ix (.var 0) (.int 3))) (.cons (.asg (.name 5) (.call fz (.cons (.var 3) .nil)))
 (.cons (.asg (.name 6) (.call fz (.cons (.var 4) .nil)))
 (.cons (.for (.tup (.cons (.name 7) (.cons (.name 8) .nil))) (.seq (.call fz (.cons (.var 2) .nil))) (.cons (.for (.tup (.cons (.name 9) (.cons (.name 10) .nil))) (.seq (.var 5)) (.cons (.for (.tup (.cons (.name 11) (.cons (.name 12) .nil))) (.seq (.var 6)) (.cons (.put (.var 1) (.tup (.cons (.var 11) (.cons (.var 7) (.cons (.var 9) .nil)))) (.bin .add (.dget (.var 1) (.tup (.cons (.var 11) (.cons (.var 7) (.cons (.var 9) .nil)))) (.int 0)) (.bin .mul (.bin .mul (.var 8) (.var 10)) (.var 12))))
 .nil))
 .nil))
 .nil))
 .nil))))
 (.cons (.frz 1 (.ret (.blt .dict (.cons (.comp [none,(some 1)] ["_law_place", "_law_found"] (.last (.keys (.var 1)) (.name 0) (.cons (.cmp .ne (.ix (.var 1) (.var 0)) (.int 0)) .nil) (.tup (.cons (.var 0) (.cons (.ix (.var 1) (.var 0)) .nil))))) .nil))))
 .nil)))⟩
noncomputable def AH (T:List FD) (n f:Nat):Prop := ∀ {l:List Int} {M:Mem} {Q:QD},l.length <= 1000000 -> (∀ p,M p = none -> Q (.ref p) (aj M p (.lst ((nz l).map pD)))) -> phi T n f [.tup (l.map .int)] M Q
structure AI (p:Pr):Prop where
 b1:Big p.1
 b2:Big p.2.1
 b3:Big p.2.2
 l1:p.1.length <= 100
 l2:p.2.1.length <= 100
 l3:p.2.2.length <= 100
structure wY (ps:List Pr) (L:List Tm):Prop where
 nd:(L.map (·.1)).Nodup
 nz:∀ t ∈ L,t.2 ≠ 0
 cf:∀ k,cf L k = cf (ba ps) k
noncomputable def Od (d:Addr) (M M':Mem):Prop := ∀ a,a ≠ d -> M' a = M a
theorem Od.refl {d:Addr} {M:Mem}:Od d M M:=fun _ _=>rfl
theorem Od.trans {d:Addr} {M M' M'':Mem} (h:Od d M M') (g:Od d M' M''):Od d M M'':=fun a n=>(g a n).trans (h a n)
theorem Od.upd {d:Addr} {M M':Mem} {o:O} (h:Od d M M'):Od d M (aj M' d o):=fun a n=>(aU n).trans (h a n)
noncomputable def wZ:MSs := .cons (.put (.var 1) (.tup (.cons (.var 11) (.cons (.var 7) (.cons (.var 9) .nil)))) (.bin .add (.dget (.var 1) (.tup (.cons (.var 11) (.cons (.var 7) (.cons (.var 9) .nil)))) (.int 0)) (.bin .mul (.bin .mul (.var 8) (.var 10)) (.var 12)))) .nil
noncomputable def qN:MSs := .cons (.for (.tup (.cons (.name 11) (.cons (.name 12) .nil))) (.seq (.var 6)) wZ) .nil
noncomputable def qO:MSs := .cons (.for (.tup (.cons (.name 9) (.cons (.name 10) .nil))) (.seq (.var 5)) qN) .nil
noncomputable abbrev bd (x:Int):Prop := -1000000000000 <= x /\ x <= 1000000000000
theorem BA {Φ:Phi} {v0 v2 v3 v4 v5 o11 o12:Option D} {d po:Addr} {i a j b:Int} {zs:List (Int × Int)} {pre:List Tm} {M:Mem} {E:br} (hpo:M po = some (.lst (zs.map pD))) (hne:po ≠ d) (hd:M d = some (.dct true ((aR pre).map kcD))) (hl:pre.length + zs.length <= 1000000) (ha:bd a) (hb:bd b)  (hc:∀ z ∈ zs,bd z.2)
 (q:∀ M' o11 o12,Od d M M' -> M' d = some (.dct true ((aR (pre ++ bE i a j b zs)).map kcD)) -> E.nx [v0,some (.ref d),v2,v3,v4,v5,some (.ref po),some (.int i),some (.int a),some (.int j),some (.int b),o11,o12] M') :
 wSs Φ qN E [v0,some (.ref d),v2,v3,v4,v5,some (.ref po),some (.int i),some (.int a),some (.int j),some (.int b),o11,o12] M:=by
 unfold qN
 walk_at "st"
 refine ⟨_,ah hpo, ?_⟩
 refine bj (f:=pD) (ys:=zs) (I:=fun l ρ M' => ∃ o11 o12, ρ = [v0,some (.ref d),v2,v3,v4,v5,some (.ref po),some (.int i),some (.int a),some (.int j),some (.int b),o11,o12] /\ Od d M M' /\ M' d = some (.dct true ((aR (pre ++ bE i a j b l)).map kcD))) rfl ⟨_,_,rfl,Od.refl,by simpa [bE] using hd⟩ (fun l ρ M' ⟨_,_,_,g,_⟩=>ah ((g po hne).trans hpo)) ?_ ?_
 ·rintro l z r ρ M1 e ⟨o11,o12,rfl,g1,hM⟩
  refine ⟨_,rfl,fun F hF => ?_⟩
  have hlt:=am e
  have hz:=hc z (by rw [e];simp)
  have htl:=mR (pre ++ bE i a j b l)
  rw [List.length_append,mW] at htl
  unfold wZ
  rw [dB]
  walk_at "wp"
  refine ⟨⟨_,_,hM⟩,by rw [sizeLine_eq];first | decide | omega,_,_,hM,rfl,cH (by omega),jr (by omega), ?_⟩
  have ek:D.tup [D.int z.1,D.int i,D.int j] = k3D (z.1,i,j):=rfl
  rw [ek,oU]
  have eg:((Option.map (fun p:Tm=>D.int p.2) ((aR (pre ++ bE i a j b l)).find? fun p=>decide (p.1 = (z.1,i,j)))).getD (.int 0)) = .int (((((aR (pre ++ bE i a j b l)).find? fun p=>decide (p.1 = (z.1,i,j))).map (·.2)).getD 0)):=by
   cases (aR (pre ++ bE i a j b l)).find? fun p=>decide (p.1 = (z.1,i,j)) <;> rfl
  rw [eg]
  walk_at "wp"
  refine ⟨by rw [sizeLine_eq];first | decide | omega,mM hM rfl (by rw [List.length_map,sizeLine_eq];omega) ?_⟩
  rw [yN (fb _)]
  refine hF _ _ ⟨_,_,rfl,g1.upd, ?_⟩
  rw [af,show bE i a j b (l ++ [z]) = bE i a j b l ++ [((z.1,i,j),a * b * z.2)] by simp [bE], <- List.append_assoc,dN]
 ·rintro ρ M1 ⟨o11,o12,rfl,g1,hM⟩
  dsimp only
  walk_at "wp"
  exact q _ _ _ g1 hM
theorem BB {Φ:Phi} {v0 v2 v3 v4 o9 o10 o11 o12:Option D} {d pr po:Addr} {i a:Int} {ys zs:List (Int × Int)} {pre:List Tm} {M:Mem} {E:br} (hpr:M pr = some (.lst (ys.map pD))) (hnr:pr ≠ d) (hpo:M po = some (.lst (zs.map pD))) (hne:po ≠ d) (hd:M d = some (.dct true ((aR pre).map kcD))) (hl:pre.length + ys.length * zs.length <= 1000000) (ha:bd a) (hb:∀ z ∈ ys,bd z.2) (hc:∀ z ∈ zs,bd z.2)
 (q:∀ M' o9 o10 o11 o12,Od d M M' -> M' d = some (.dct true ((aR (pre ++ bY i a ys zs)).map kcD)) -> E.nx [v0,some (.ref d),v2,v3,v4,some (.ref pr),some (.ref po),some (.int i),some (.int a),o9,o10,o11,o12] M') :
 wSs Φ qO E [v0,some (.ref d),v2,v3,v4,some (.ref pr),some (.ref po),some (.int i),some (.int a),o9,o10,o11,o12] M:=by
 unfold qO
 walk_at "st"
 refine ⟨_,ah hpr, ?_⟩
 refine bj (f:=pD) (ys:=ys) (I:=fun l ρ M' => ∃ o9 o10 o11 o12, ρ = [v0,some (.ref d),v2,v3,v4,some (.ref pr),some (.ref po),some (.int i),some (.int a),o9,o10,o11,o12] /\ Od d M M' /\ M' d = some (.dct true ((aR (pre ++ bY i a l zs)).map kcD))) rfl ⟨_,_,_,_,rfl,Od.refl,by simpa [bY] using hd⟩ (fun l ρ M' ⟨_,_,_,_,_,g,_⟩=>ah ((g pr hnr).trans hpr)) ?_ ?_
 ·rintro l y r ρ M1 e ⟨o9,o10,o11,o12,rfl,g1,hM⟩
  refine ⟨_,rfl,fun F hF => ?_⟩
  have hlt:=am e
  have hy:=hb y (by rw [e];simp)
  have hm:(l.length + 1) * zs.length <= ys.length * zs.length:=Nat.mul_le_mul_right _ hlt
  rw [Nat.succ_mul] at hm
  refine BA ((g1 po hne).trans hpo) hne hM (by rw [List.length_append,mX];omega) ha hy hc fun M2 o11 o12 g2 h2=>hF _ _ ⟨_,_,_,_,rfl,g1.trans g2, ?_⟩
  rw [h2,show bY i a (l ++ [y]) zs = bY i a l zs ++ bE i a y.1 y.2 zs by simp [bY],List.append_assoc]
 ·rintro ρ M1 ⟨o9,o10,o11,o12,rfl,g1,hM⟩
  dsimp only
  walk_at "wp"
  exact q _ _ _ _ _ g1 hM
theorem BC {Φ:Phi} {v0 v2 v3 v4:Option D} {d pr po pl:Addr} {xs ys zs:List (Int × Int)} {pre:List Tm} {M:Mem} {E:br} {o7 o8 o9 o10 o11 o12:Option D} (hpl:M pl = some (.lst (xs.map pD))) (hnl:pl ≠ d) (hpr:M pr = some (.lst (ys.map pD))) (hnr:pr ≠ d) (hpo:M po = some (.lst (zs.map pD))) (hne:po ≠ d) (hd:M d = some (.dct true ((aR pre).map kcD))) (hl:pre.length + xs.length * (ys.length * zs.length) <= 1000000) (ha:∀ z ∈ xs,bd z.2) (hb:∀ z ∈ ys,bd z.2) (hc:∀ z ∈ zs,bd z.2)
 (q:∀ M' o7 o8 o9 o10 o11 o12,Od d M M' -> M' d = some (.dct true ((aR (pre ++ cA xs ys zs)).map kcD)) -> E.nx [v0,some (.ref d),v2,v3,v4,some (.ref pr),some (.ref po),o7,o8,o9,o10,o11,o12] M') :
 bO (jj (bC (bu 7) (bC (bu 8) eS))) (wSs Φ qO) (fun M=>ax M (.ref pl) = some (xs.map pD)) E (xs.map pD) [v0,some (.ref d),v2,v3,v4,some (.ref pr),some (.ref po),o7,o8,o9,o10,o11,o12] M:=by
 refine bj (f:=pD) (ys:=xs) (I:=fun l ρ M' => ∃ o7 o8 o9 o10 o11 o12, ρ = [v0,some (.ref d),v2,v3,v4,some (.ref pr),some (.ref po),o7,o8,o9,o10,o11,o12] /\ Od d M M' /\ M' d = some (.dct true ((aR (pre ++ cA l ys zs)).map kcD))) rfl ⟨_,_,_,_,_,_,rfl,Od.refl,by simpa [cA] using hd⟩ (fun l ρ M' ⟨_,_,_,_,_,_,_,g,_⟩=>ah ((g pl hnl).trans hpl)) ?_ ?_
 ·rintro l x r ρ M1 e ⟨o7,o8,o9,o10,o11,o12,rfl,g1,hM⟩
  refine ⟨_,rfl,fun F hF => ?_⟩
  have hlt:=am e
  have hx:=ha x (by rw [e];simp)
  have hm:(l.length + 1) * (ys.length * zs.length) <= xs.length * (ys.length * zs.length):=Nat.mul_le_mul_right _ hlt
  rw [Nat.succ_mul] at hm
  refine BB ((g1 pr hnr).trans hpr) hnr ((g1 po hne).trans hpo) hne hM (by rw [List.length_append,gZ];omega) hx hb hc fun M2 o9 o10 o11 o12 g2 h2=>hF _ _ ⟨_,_,_,_,_,_,rfl,g1.trans g2, ?_⟩
  rw [h2,show cA (l ++ [x]) ys zs = cA l ys zs ++ bY x.1 x.2 ys zs by simp [cA],List.append_assoc]
 ·rintro ρ M1 ⟨o7,o8,o9,o10,o11,o12,rfl,g1,hM⟩
  exact q _ _ _ _ _ _ _ g1 hM
theorem mZ {l:List Int} (h:Big l):∀ z ∈ nz l,bd z.2:=fun z hz=>by
 unfold nz at hz
 have hz:=(List.mem_filter.mp hz).1
 unfold idx at hz
 obtain ⟨i,hi,e⟩:=List.mem_mapIdx.mp hz
 rw [<- e]
 exact h _ (List.getElem_mem hi)
theorem tO {ps:List Pr} {p:Pr}:ba (ps ++ [p]) = ba ps ++ dS p:=by simp [ba]
theorem yR {f fz:Nat} {xs:Str} {s:Stmt} (hf:T[f]? = some (mY xs s fz)) {n:Nat} (hfz:AH T (n - 1) fz) (hn : 1 <= n) {x0 x1 x2:D} {p:Addr} {ps:List Pr} {M:Mem} {Q:QD} (hp:M p = some (.lst (ps.map prD))) (hl:(ba ps).length <= 1000000) (hF:∀ p ∈ ps,AI p)
 (q:∀ (L:List Tm) d M',wY ps L -> L.length <= 1000000 -> Ge M M' -> M d = none -> M' d = some (.dct true (L.map kcD)) -> Q (.ref d) M'):phi T n f [.tup [x0,x1,x2, .ref p]] M Q:=by
 refine aq (by omega) hf rfl (ρ := [some _,none,none,none,none,none,none,none,none,none,none,none,none]) rfl ?_
 unfold mY
 walk_at "st"
 intro d hd
 have g0:=Ge.new (o := .dct true []) hd
 have d0:=af (M:=M) (a:=d) (o := .dct true [])
 generalize aj M d (.dct true []) = M0 at g0 d0 ⊢
 walk_at "st"
 refine ⟨_,rfl,_,ah (g0 _ _ hp), ?_⟩
 have hpd:p ≠ d:=fun z=>by rw [z,hd] at hp;cases hp
 refine bj (f:=prD) (ys:=ps) (I:=fun l ρ M' => ∃ o2 o3 o4 o5 o6 o7 o8 o9 o10 o11 o12, ρ = [some (.tup [x0,x1,x2, .ref p]),some (.ref d),o2,o3,o4,o5,o6,o7,o8,o9,o10,o11,o12] /\ Ge M M' /\ M' d = some (.dct true ((aR (ba l)).map kcD))) rfl ⟨_,_,_,_,_,_,_,_,_,_,_,rfl,g0,d0⟩ (fun l ρ M' ⟨_,_,_,_,_,_,_,_,_,_,_,_,g,_⟩=>ah (g _ _ hp)) ?_ ?_
 ·rintro l x r ρ M1 e ⟨o2,o3,o4,o5,o6,o7,o8,o9,o10,o11,o12,rfl,g1,hM⟩
  refine ⟨_,rfl,fun F hF' => ?_⟩
  have hx:=hF x (by rw [e];simp)
  have hll:(ba l).length + (dS x).length <= 1000000:=by
   have:ba ps = ba l ++ dS x ++ ba r:=by rw [e];simp [ba]
   rw [this,List.length_append,List.length_append] at hl
   omega
  walk_at "st"
  refine hfz (by have:=hx.l2;omega) fun pr hpr => ?_
  have hnr:pr ≠ d:=fun z=>by rw [z,hM] at hpr;cases hpr
  have gr:=Ge.new (o := .lst ((nz x.2.1).map pD)) hpr
  have er:=af (M:=M1) (a:=pr) (o := .lst ((nz x.2.1).map pD))
  have hM:=gr _ _ hM
  have g2:=g1.trans gr
  generalize aj M1 pr (.lst ((nz x.2.1).map pD)) = M2 at er hM g2 ⊢
  clear g1 gr hpr
  walk_at "st"
  refine hfz (by have:=hx.l3;omega) fun po hpo => ?_
  have hno:po ≠ d:=fun z=>by rw [z,hM] at hpo;cases hpo
  have go:=Ge.new (o := .lst ((nz x.2.2).map pD)) hpo
  have eo:=af (M:=M2) (a:=po) (o := .lst ((nz x.2.2).map pD))
  have hM:=go _ _ hM
  have er:=go _ _ er
  have g3:=g2.trans go
  generalize aj M2 po (.lst ((nz x.2.2).map pD)) = M3 at er eo hM g3 ⊢
  clear g2 go hpo
  walk_at "st"
  refine hfz (by have:=hx.l1;omega) fun pl hpl => ?_
  have hnl:pl ≠ d:=fun z=>by rw [z,hM] at hpl;cases hpl
  have gl:=Ge.new (o := .lst ((nz x.1).map pD)) hpl
  have el:=af (M:=M3) (a:=pl) (o := .lst ((nz x.1).map pD))
  have hM:=gl _ _ hM
  have er:=gl _ _ er
  have eo:=gl _ _ eo
  have g4:=g3.trans gl
  generalize aj M3 pl (.lst ((nz x.1).map pD)) = M4 at er eo el hM g4 ⊢
  clear g3 gl hpl
  refine ⟨_,ah el, ?_⟩
  refine BC el hnl er hnr eo hno hM (by have:=gZ (xs:=nz x.1) (ys:=nz x.2.1) (zs:=nz x.2.2);unfold dS at hll;omega) (mZ hx.b1) (mZ hx.b2) (mZ hx.b3) fun M5 o7 o8 o9 o10 o11 o12 g5 h5 => ?_
  walk_at "wp"
  refine hF' _ _ ⟨_,_,_,_,_,_,_,_,_,_,_,rfl,fun a o ea => ?_,by rw [h5,tO];rfl⟩
  by_cases had:a = d
  ·subst had;rw [hd] at ea;cases ea
  ·rw [g5 a had];exact g4 _ _ ea
 ·rintro ρ M1 ⟨o2,o3,o4,o5,o6,o7,o8,o9,o10,o11,o12,rfl,g1,hM⟩
  dsimp only
  walk_at "st"
  refine yJ rfl hM ?_
  have fd:=af (M:=M1) (a:=d) (o := .fdc ((aR (ba ps)).map kcD))
  have g2:Ge M (aj M1 d (.fdc ((aR (ba ps)).map kcD))):=g1.upd hd
  have hl2:=Nat.le_trans (mR (ba ps)) hl
  have hnd:=fb (ba ps)
  have hcf:=yP (ba ps)
  generalize aj M1 d (.fdc ((aR (ba ps)).map kcD)) = M2 at fd g2 ⊢
  generalize aR (ba ps) = L at fd hl2 hnd hcf
  walk_at "wp"
  refine ⟨_,fd, ?_⟩
  refine az (f:=fun t:Tm=>k3D t.1) (ys:=L) (I:=fun l ρ M' acc=>(∃ o0, ρ = [o0,some (.ref d)]) /\ M' = M2 /\ acc = (l.filter fun t => !(t.2 == 0)).map fun t => .tup [k3D t.1, .int t.2]) (by rw [List.map_map];rfl) ⟨⟨_,rfl⟩,rfl,rfl⟩ (fun _ _ _ _ _=>trivial) ?_ ?_
  ·rintro l t r ρ M3 acc e ⟨⟨o0,rfl⟩,rfl,rfl⟩
   refine ⟨_,rfl,fun N' hN' => ?_⟩
   have hlt:=am e
   have ht:t ∈ L:=by rw [e];simp
   have hfl:(l.filter fun t => !(t.2 == 0)).length <= l.length:=List.length_filter_le _ _
   walk_at "wp"
   refine tI fd (iW _) (fe hnd ht) ?_
   walk_at "wp"
   by_cases hz:t.2 = 0
   ·rw [if_neg (by simp [hz])]
    refine hN' _ _ _ ⟨⟨_,rfl⟩,rfl, ?_⟩
    rw [List.filter_append,List.filter_cons_of_neg (by simp [hz])];simp
   ·rw [if_pos (by simp [hz])]
    refine tI fd (iW _) (fe hnd ht) ?_
    refine ⟨by rw [sizeLine_eq];first | decide | omega,by rw [List.length_map,sizeLine_eq];omega,hN' _ _ _ ⟨⟨_,rfl⟩,rfl, ?_⟩⟩
    rw [List.filter_append,List.filter_cons_of_pos (by simp [hz])];simp
  ·rintro ρ M3 acc ⟨⟨o0,rfl⟩,rfl,rfl⟩ p2 hp2
   have hfl:(L.filter fun t => !(t.2 == 0)).length <= L.length:=List.length_filter_le _ _
   have hnf:((L.filter fun t => !(t.2 == 0)).map (·.1)).Nodup:=hnd.sublist (List.Sublist.map _ List.filter_sublist)
   refine ⟨p2,(L.filter fun t => !(t.2 == 0)).map kcD,rfl,by rw [af,List.map_map];rfl,fun kv hkv => ?_,by rw [List.length_map,sizeLine_eq];omega,fun pf hpf => ?_⟩
   ·obtain ⟨t,_,rfl⟩:=List.mem_map.mp hkv
    exact iW _
   ·rw [w6 hnf]
    have g3:=g2.trans (Ge.new (o := .lst ((L.filter fun t => !(t.2 == 0)).map fun t=>D.tup [k3D t.1, .int t.2])) hp2)
    refine q (L.filter fun t => !(t.2 == 0)) pf _ ⟨hnf,fun t ht => ?_,fun k=>by rw [Bz];exact hcf k⟩ (by omega) (g3.trans (Ge.new hpf)) ?_ af
    ·have:=(List.mem_filter.mp ht).2
     simpa using this
    ·cases hz:M pf with
     | none=>rfl
     | some o=>rw [g3 _ _ hz] at hpf;cases hpf
end
section
open PySem PySem.Spec PyProof.Rows L2.Srt
noncomputable def S1 (zs:List (Int × Int)) (k:Int):Int:=(zs.map fun z=>if z.1 = k then z.2 else 0).sum
theorem dl {z:Int × Int} {zs:List (Int × Int)} {k:Int}:S1 (z :: zs) k = (if z.1 = k then z.2 else 0) + S1 zs k:=by simp [S1]
theorem oW {α:Type} {F : α -> List Tm} {k:K3}:∀ l:List α,cf (l.flatMap F) k = (l.map fun x=>cf (F x) k).sum
 | [] => rfl
 | x :: l=>by rw [List.flatMap_cons,cP,oW l];simp
theorem oZ {i a j b k i' j':Int}:∀ {zs:List (Int × Int)},cf (bE i a j b zs) (k,i',j') = if i = i' /\ j = j' then a * b * S1 zs k else 0
 | [] => by simp [bE,eC,S1]
 | z :: zs=>by
   rw [show bE i a j b (z :: zs) = ((z.1,i,j),a * b * z.2) :: bE i a j b zs from rfl,aV,oZ,dl]
   by_cases h:i = i' /\ j = j'
   ·obtain ⟨rfl,rfl⟩:=h
    by_cases hk:z.1 = k
    ·subst hk;simp [Int.mul_add]
    ·have : ¬ ((z.1,i,j) = (k,i,j)):=fun e=>hk (congrArg (·.1) e)
     rw [if_neg this,if_pos ⟨rfl,rfl⟩,if_pos ⟨rfl,rfl⟩,if_neg hk];simp
   ·have : ¬ ((z.1,i,j) = (k,i',j')):=fun e=>h ⟨congrArg (·.2.1) e,congrArg (·.2.2) e⟩
    rw [if_neg this,if_neg h,if_neg h];rfl
theorem p0 {i a k i' j':Int} {zs:List (Int × Int)}:∀ {ys:List (Int × Int)},cf (bY i a ys zs) (k,i',j') = if i = i' then a * S1 ys j' * S1 zs k else 0
 | [] => by simp [bY,eC,S1]
 | y :: ys=>by
   rw [show bY i a (y :: ys) zs = bE i a y.1 y.2 zs ++ bY i a ys zs from by simp [bY],cP,p0,oZ,dl]
   by_cases h:i = i'
   ·subst h
    by_cases hj:y.1 = j'
    ·subst hj;simp [Int.mul_add,Int.add_mul]
    ·rw [if_neg (fun e=>hj e.2),if_pos rfl,if_pos rfl,if_neg hj];simp
   ·rw [if_neg (fun e=>h e.1),if_neg h,if_neg h];rfl
theorem p8 {k i' j':Int} {ys zs:List (Int × Int)}:∀ {xs:List (Int × Int)},cf (cA xs ys zs) (k,i',j') = S1 xs i' * S1 ys j' * S1 zs k
 | [] => by simp [cA,eC,S1]
 | x :: xs=>by
   rw [show cA (x :: xs) ys zs = bY x.1 x.2 ys zs ++ cA xs ys zs from by simp [cA],cP,p8,p0,dl]
   by_cases h:x.1 = i'
   ·subst h;simp [Int.add_mul]
   ·rw [if_neg h,if_neg h];simp
noncomputable def gz (l:List Int) (i:Int):Int:=if i < 0 then 0 else l.getD i.toNat 0
theorem tP {l:List Int} {i:Int} (h:i < 0):gz l i = 0:=if_pos h
theorem fL {i:Int}:gz [] i = 0:=by unfold gz;split <;> simp
theorem bM {x:Int} {l:List Int} {i:Int}:gz (x :: l) i = if i = 0 then x else gz l (i - 1):=by
 unfold gz
 by_cases h:i < 0
 ·rw [if_pos h,if_neg (by omega),if_pos (by omega)]
 ·rw [if_neg h]
  by_cases h0:i = 0
  ·subst h0;simp
  ·rw [if_neg h0,if_neg (by omega)]
   obtain ⟨n,rfl⟩:∃ n:Nat,i = ((n + 1:Nat):Int):=⟨(i - 1).toNat,by omega⟩
   rw [show (((n + 1:Nat):Int) - 1).toNat = n by omega,Int.toNat_natCast]
   simp
theorem tQ {a b:List Int}:∀ {i:Int},gz (a ++ b) i = if i < a.length then gz a i else gz b (i - a.length):=by
 induction a with
 | nil =>
   intro i
   by_cases h:i < 0
   ·rw [if_pos (by simpa using h),List.nil_append,tP h,tP h]
   ·rw [if_neg (by simpa using h)];simp
 | cons x a ih =>
   intro i
   rw [List.cons_append,bM,bM,ih,List.length_cons]
   by_cases h0:i = 0
   ·subst h0;rw [if_pos rfl,if_pos rfl,if_pos (by omega)]
   ·rw [if_neg h0,if_neg h0]
    by_cases h:i < ((a.length + 1:Nat):Int)
    ·rw [if_pos (by omega),if_pos h]
    ·rw [if_neg (by omega),if_neg h]
     congr 1;omega
theorem tR {x:Int}:∀ {b:List Int} {i:Int},gz (b.map (x * ·)) i = x * gz b i
 | [],i=>by rw [List.map_nil,fL];simp
 | y :: b,i=>by rw [List.map_cons,bM,bM,tR];split <;> rfl
theorem iX {l:List Int} {i:Int} (h:gz l i ≠ 0) : 0 <= i /\ i < l.length:=by
 unfold gz at h
 by_cases hi:i < 0
 ·rw [if_pos hi] at h;exact absurd rfl h
 ·rw [if_neg hi] at h
  refine ⟨by omega, ?_⟩
  by_cases hl:i.toNat < l.length
  ·omega
  ·rw [List.getD_eq_getElem?_getD,List.getElem?_eq_none (by omega)] at h;exact absurd rfl h
theorem tS {a b:List (Int × Int)} {k:Int}:S1 (a ++ b) k = S1 a k + S1 b k:=by simp [S1]
theorem iY {k:Int}:∀ zs:List (Int × Int),S1 (zs.filter fun q => !(q.2 == 0)) k = S1 zs k
 | [] => rfl
 | z :: zs=>by
   rw [dl]
   by_cases h:z.2 = 0
   ·rw [List.filter_cons_of_neg (by simp [h]),iY zs,h];simp
   ·rw [List.filter_cons_of_pos (by simp [h]),dl,iY zs]
theorem n0 (l:List Int) (k:Int):S1 (idx l) k = gz l k:=eZ (P:=fun l=>S1 (idx l) k = gz l k) (by rw [fL];rfl) (fun l x ih=>by
 have e:idx (l ++ [x]) = idx l ++ [(((l.length:Nat):Int),x)]:=by simp [idx,List.mapIdx_append]
 rw [e,tS,ih,tQ,dl]
 simp only [S1,List.map_nil,List.sum_nil]
 by_cases h:k < l.length
 ·rw [if_pos h,if_neg (by omega)];omega
 ·rw [if_neg h,bM,fL]
  have z:gz l k = 0:=by
   cases Decidable.em (gz l k = 0) with
   | inl h=>exact h
   | inr h'=>exact absurd (iX h').2 h
  rw [z]
  by_cases e:(l.length:Int) = k
  ·rw [if_pos e,if_pos (by omega)];omega
  ·rw [if_neg e,if_neg (by omega)];rfl) l
theorem yS {p:Pr} {k i j:Int}:cf (dS p) (k,i,j) = gz p.1 i * gz p.2.1 j * gz p.2.2 k:=by
 unfold dS
 rw [p8]
 unfold nz
 rw [iY,iY,iY,n0,n0,n0]
noncomputable def Tn (ps:List Pr) (k i j:Int):Int:=(ps.map fun p=>gz p.1 i * gz p.2.1 j * gz p.2.2 k).sum
theorem yT {ps:List Pr} {k i j:Int}:cf (ba ps) (k,i,j) = Tn ps k i j:=by
 unfold ba Tn
 rw [oW]
 congr 1
 exact List.map_congr_left fun p _=>yS
theorem fM {a b:List Pr} {k i j:Int}:Tn (a ++ b) k i j = Tn a k i j + Tn b k i j:=by simp [Tn]
theorem ju {p:Pr} {a:List Pr} {k i j:Int}:Tn (p :: a) k i j = gz p.1 i * gz p.2.1 j * gz p.2.2 k + Tn a k i j:=by simp [Tn]
theorem iZ {L0 L1 L2:Nat} {k i j:Int}:∀ {us:List Pr},(∀ u ∈ us,u.1.length = L0 /\ u.2.1.length = L1 /\ u.2.2.length = L2) -> Tn us k i j ≠ 0 -> (0 <= k /\ k < L2) /\ (0 <= i /\ i < L0) /\ (0 <= j /\ j < L1)
 | [],_,h=>absurd (by simp [Tn]) h
 | u :: us,hl,h=>by
   obtain ⟨e0,e1,e2⟩:=hl u (by simp)
   rw [ju] at h
   by_cases z:gz u.1 i * gz u.2.1 j * gz u.2.2 k = 0
   ·rw [z,Int.zero_add] at h
    exact iZ (fun v hv=>hl v (by simp [hv])) h
   ·have a1:gz u.1 i ≠ 0:=fun e=>z (by rw [e];simp)
    have a2:gz u.2.1 j ≠ 0:=fun e=>z (by rw [e];simp)
    have a3:gz u.2.2 k ≠ 0:=fun e=>z (by rw [e];simp)
    have:=iX a1
    have:=iX a2
    have:=iX a3
    omega
theorem kC {l:List Tm} (g:(l.map (·.1)).Nodup):l.Nodup:=by
 rw [List.nodup_iff_pairwise_ne] at g ⊢
 rw [List.pairwise_map] at g
 exact g.imp fun {a b} hab e=>hab (by rw [e])
theorem tT {a:List Tm} (hn:(a.map (·.1)).Nodup) {k:K3} (h:cf a k ≠ 0):(k,cf a k) ∈ a:=by
 by_cases e:∃ r ∈ a,r.1 = k
 ·obtain ⟨r,hr,rfl⟩:=e
  rw [eE hn hr];exact hr
 ·exact absurd (eD fun r hr z=>e ⟨r,hr,z⟩) h
theorem yU {a b:List Tm} (ha:(a.map (·.1)).Nodup) (hb:(b.map (·.1)).Nodup) (za:∀ t ∈ a,t.2 ≠ 0) (zb:∀ t ∈ b,t.2 ≠ 0) (h:∀ k,cf a k = cf b k):a.Perm b:=by
 refine (List.perm_ext_iff_of_nodup (kC ha) (kC hb)).mpr fun t=>⟨fun ht => ?_,fun ht => ?_⟩
 ·have e:=eE ha ht
  have:=tT hb (k:=t.1) (by rw [<- h,e];exact za t ht)
  rwa [<- h,e] at this
 ·have e:=eE hb ht
  have:=tT ha (k:=t.1) (by rw [h,e];exact zb t ht)
  rwa [h,e] at this
theorem w9 {a b:List Tm} (hb:(b.map (·.1)).Nodup) (h:a.Perm b):eqD (a.map kcD) (b.map kcD) = true:=by
 unfold eqD
 rw [Bool.and_eq_true]
 refine ⟨by simp [h.length_eq], ?_⟩
 rw [List.all_eq_true]
 intro kv hkv
 obtain ⟨t,ht,rfl⟩:=List.mem_map.mp hkv
 exact decide_eq_true (fe hb (h.mem_iff.mp ht))
end
section
open PySem PySem.Spec PyProof.Rows L2.Srt
variable {T:List FD}
noncomputable def jv (xs:Str) (s:Stmt):FD:=⟨"_law_table_sums",s,[xs, "_law_n", "_law_m", "_law_p", "_law_found", "_law_a", "_law_b", "_law_c"],1,
 (.cons (.asg (.tup (.cons (.name 1) (.cons (.name 2) (.cons (.name 3) .nil)))) (.var 0))
 (.cons (.asg (.name 4) (.dnew true))
 (.cons (.for (.name 5) (.rng1 (.var 1)) (.cons (.for (.name 6) (.rng1 (.var 2)) (.cons (.for (.name 7) (.rng1 (.var 3)) (.cons (.put (.var 4) (.tup (.cons (.bin .add (.bin .mul (.var 5) (.var 3)) (.var 7)) (.cons (.bin .add (.bin .mul (.var 5) (.var 2)) (.var 6)) (.cons (.bin .add (.bin .mul (.var 6) (.var 3)) (.var 7)) .nil)))) (.int 1))
 .nil))
 .nil))
 .nil))
 (.cons (.ret (.var 4))
 .nil))))⟩
structure TI (n m p:Nat) (X:List Tm) (L:List Tm):Prop where
 nd:(L.map (·.1)).Nodup
 sub:∀ t ∈ L,t ∈ X
 all:∀ t ∈ X,t.1 ∈ L.map (·.1)
theorem kf {L:List Tm} {k a:K3} {c:Int} (h:a ∈ L.map (·.1) ∨ a = k):a ∈ (cT L k c).map (·.1):=by
 unfold cT
 split
 ·next hk =>
  rw [List.map_map]
  have e:L.map ((fun x:Tm=>x.1) ∘ fun p=>if p.1 = k then (p.1,c) else p) = L.map (·.1):=List.map_congr_left fun p _=>by
   simp only [Function.comp];split <;> rfl
  rw [e]
  rcases h with h | rfl
  ·exact h
  ·obtain ⟨t,ht,e⟩:=List.any_eq_true.mp hk
   rw [<- of_decide_eq_true e];exact List.mem_map_of_mem ht
 ·rw [List.map_append]
  rcases h with h | rfl
  ·exact List.mem_append_left _ h
  ·exact List.mem_append_right _ (by simp)
theorem TI.put {n m p:Nat} {X L:List Tm} (h:TI n m p X L) (t:Tm):TI n m p (X ++ [t]) (cT L t.1 t.2) where
 nd:=qL h.nd
 sub:=fun u hu=>by
  rcases w4 hu with z | z
  ·exact List.mem_append_left _ (h.sub u z)
  ·exact List.mem_append_right _ (by rw [z];simp)
 all:=fun u hu=>by
  rcases List.mem_append.mp hu with z | z
  ·exact kf (.inl (h.all u z))
  ·have e:u = t:=by simpa using z
   rw [e];exact kf (.inr rfl)
theorem TI.perm {n m p:Nat} {L:List Tm} (h:TI n m p (bn n m p) L):L.Perm (bn n m p):=by
 refine (List.perm_ext_iff_of_nodup (kC h.nd) (kC cr)).mpr fun t=>⟨h.sub t,fun ht => ?_⟩
 obtain ⟨u,hu,e⟩:=List.mem_map.mp (h.all t ht)
 have h1:=eE cr (h.sub u hu)
 have h2:=eE cr ht
 rw [e,h2] at h1
 have:u = t:=Prod.ext e h1.symm
 rw [<- this];exact hu
theorem wa {f:Nat} {xs:Str} {s:Stmt} (hf:T[f]? = some (jv xs s)) {k:Nat} (hk : 1 <= k) {n m p:Nat} (hn:n <= 50) (hm:m <= 50) (hp:p <= 50) {M:Mem} {Q:QD}
 (q:∀ (L:List Tm) d M',L.Perm (bn n m p) -> Ge M M' -> M d = none -> M' d = some (.dct true (L.map kcD)) -> Q (.ref d) M'):phi T k f [.tup [.int n, .int m, .int p]] M Q:=by
 refine aq (by omega) hf rfl (ρ := [some _,none,none,none,none,none,none,none]) rfl ?_
 unfold jv
 walk_at "st"
 walk_at "st"
 intro d hd
 have g0:=Ge.new (o := .dct true []) hd
 have d0:=af (M:=M) (a:=d) (o := .dct true [])
 generalize aj M d (.dct true []) = M0 at g0 d0 ⊢
 walk_at "st"
 refine ⟨by omega,by omega, ?_⟩
 rw [Int.toNat_natCast]
 refine bj (f:=fun i=>D.int (i:Nat)) (ys:=List.range n) (I:=fun l ρ M' => ∃ L o5 o6 o7, ρ = [some (.tup [.int n, .int m, .int p]),some (.int n),some (.int m),some (.int p),some (.ref d),o5,o6,o7] /\ Ge M M' /\ M' d = some (.dct true (L.map kcD)) /\ TI n m p (l.flatMap (dR m p)) L /\ L.length <= l.length * 2500) aP ⟨[],_,_,_,rfl,g0,d0,⟨by simp,fun _ h=>by simp at h,fun _ h=>by simp at h⟩,by simp⟩ (fun _ _ _ _=>trivial) ?_ ?_
 ·rintro l a r ρ M1 e ⟨L,o5,o6,o7,rfl,g1,h1,hT,hl⟩
  refine ⟨_,rfl,fun F hF => ?_⟩
  have hlt:=am e
  rw [List.length_range] at hlt
  have ha:a < n:=List.mem_range.mp (by rw [e];simp)
  walk_at "st"
  refine ⟨by omega,by omega, ?_⟩
  rw [Int.toNat_natCast]
  refine bj (f:=fun i=>D.int (i:Nat)) (ys:=List.range m) (I:=fun l' ρ M' => ∃ L o6 o7, ρ = [some (.tup [.int n, .int m, .int p]),some (.int n),some (.int m),some (.int p),some (.ref d),some (.int (a:Nat)),o6,o7] /\ Ge M M' /\ M' d = some (.dct true (L.map kcD)) /\ TI n m p (l.flatMap (dR m p) ++ l'.flatMap fun b=>(List.range p).map (bP m p a b)) L /\ L.length <= l.length * 2500 + l'.length * 50) aP ⟨L,_,_,rfl,g1,h1,by simpa using hT,by simpa using hl⟩ (fun _ _ _ _=>trivial) ?_ ?_
  ·rintro l' b r' ρ M2 e' ⟨L,o6,o7,rfl,g2,h2,hT,hl⟩
   refine ⟨_,rfl,fun F' hF' => ?_⟩
   have hlt':=am e'
   rw [List.length_range] at hlt'
   have hb:b < m:=List.mem_range.mp (by rw [e'];simp)
   walk_at "st"
   refine ⟨by omega,by omega, ?_⟩
   rw [Int.toNat_natCast]
   refine bj (f:=fun i=>D.int (i:Nat)) (ys:=List.range p) (I:=fun l3 ρ M' => ∃ L o7, ρ = [some (.tup [.int n, .int m, .int p]),some (.int n),some (.int m),some (.int p),some (.ref d),some (.int (a:Nat)),some (.int (b:Nat)),o7] /\ Ge M M' /\ M' d = some (.dct true (L.map kcD)) /\ TI n m p ((l.flatMap (dR m p) ++ l'.flatMap fun b=>(List.range p).map (bP m p a b)) ++ l3.map (bP m p a b)) L /\ L.length <= l.length * 2500 + l'.length * 50 + l3.length) aP ⟨L,_,rfl,g2,h2,by simpa using hT,by simpa using hl⟩ (fun _ _ _ _=>trivial) ?_ ?_
   ·rintro l3 c r3 ρ M3 e3 ⟨L,o7,rfl,g3,h3,hT,hl⟩
    refine ⟨_,rfl,fun F3 hF3 => ?_⟩
    have hlt3:=am e3
    rw [List.length_range] at hlt3
    rw [dB]
    walk_at "wp"
    refine ⟨cH (by omega),cH (by omega),cH (by omega),by rw [sizeLine_eq];first | decide | omega, ?_⟩
    have ek:D.tup [.int (a * p + c), .int (a * m + b), .int (b * p + c)] = k3D (bP m p a b c).1:=by
     unfold bP k3D
     simp only [Int.natCast_add,Int.natCast_mul]
    rw [ek]
    refine mM h3 (iW (bP m p a b c).1) (by rw [List.length_map,sizeLine_eq];omega) ?_
    rw [show D.int 1 = .int (bP m p a b c).2 from rfl,mU]
    refine hF3 _ _ ⟨_,_,rfl,g3.upd hd,af, ?_, ?_⟩
    ·rw [List.map_append, <- List.append_assoc];exact hT.put _
    ·have:=w5 (L:=L) (k:=(bP m p a b c).1) (c:=(bP m p a b c).2)
     rw [List.length_append,List.length_singleton];omega
   ·rintro ρ M3 ⟨L,o7,rfl,g3,h3,hT,hl⟩
    dsimp only
    walk_at "wp"
    refine hF' _ _ ⟨L,_,_,rfl,g3,h3, ?_, ?_⟩
    ·rw [List.flatMap_append];simpa using hT
    ·rw [List.length_append];rw [List.length_range] at hl;simp;omega
  ·rintro ρ M2 ⟨L,o6,o7,rfl,g2,h2,hT,hl⟩
   dsimp only
   walk_at "wp"
   refine hF _ _ ⟨L,_,_,_,rfl,g2,h2, ?_, ?_⟩
   ·rw [List.flatMap_append];simpa [dR] using hT
   ·rw [List.length_append];rw [List.length_range] at hl;simp;omega
 ·rintro ρ M1 ⟨L,o5,o6,o7,rfl,g1,h1,hT,hl⟩
  dsimp only
  walk_at "st"
  exact q L d M1 hT.perm g1 hd h1
noncomputable def one (L:Nat) (k:Int):List Int:=(List.range L).map fun h=>if ((h:Nat):Int) = k then 1 else 0
theorem gm {L:Nat} {k:Int}:(one L k).length = L:=by simp [one]
theorem n6 {L:Nat} {k i:Int} (h0 : 0 <= k) (h1:k < L):gz (one L k) i = if i = k then 1 else 0:=by
 unfold gz one
 by_cases hi:i < 0
 ·rw [if_pos hi,if_neg (by omega)]
 ·rw [if_neg hi,List.getD_eq_getElem?_getD,List.getElem?_map]
  by_cases hl:i.toNat < L
  ·rw [List.getElem?_range hl]
   simp only [Option.map_some,Option.getD_some]
   by_cases e:i = k
   ·rw [if_pos (by omega),if_pos e]
   ·rw [if_neg (by omega),if_neg e]
  ·rw [List.getElem?_eq_none (by simp;omega),if_neg (by omega)];rfl
noncomputable def hJ (s:Stmt):FD:=⟨"_law_single",s,["_law_length", "_law_place"],2,
 (.cons (.ret (.blt .tuple (.cons (.comp [none,(some 1)] ["_law_here", "_law_place"] (.last (.rng1 (.var 0)) (.name 0) .nil (.blt .int (.cons (.cmp .eq (.var 0) (.var 1)) .nil)))) .nil)))
 .nil)⟩
theorem tU {f:Nat} {s:Stmt} (hf:T[f]? = some (hJ s)) {n:Nat} (hn : 1 <= n) {L:Nat} (hL:L <= 100000) {k:Int} {M:Mem} {Q:QD} (q:∀ M',Ge M M' -> Q (.tup ((one L k).map .int)) M'):phi T n f [.int L, .int k] M Q:=by
 refine aq (by omega) hf rfl (ρ := [some _,some _]) rfl ?_
 unfold hJ
 walk_at "st"
 refine ⟨by omega,by omega, ?_⟩
 rw [Int.toNat_natCast]
 refine az (f:=fun i=>D.int (i:Nat)) (ys:=List.range L) (I:=fun l ρ M' acc=>(∃ o0, ρ = [o0,some (.int k)]) /\ M' = M /\ acc = (l.map fun h=>if ((h:Nat):Int) = k then (1:Int) else 0).map .int) aP ⟨⟨_,rfl⟩,rfl,rfl⟩ (fun _ _ _ _ _=>trivial) ?_ ?_
 ·rintro l i r ρ M1 acc e ⟨⟨o0,rfl⟩,rfl,rfl⟩
  refine ⟨_,rfl,fun N' hN' => ?_⟩
  have hlt:=am e
  rw [List.length_range] at hlt
  walk_at "wp"
  refine ⟨by rw [List.length_map,List.length_map,sizeLine_eq];omega,hN' _ _ _ ⟨⟨_,rfl⟩,rfl, ?_⟩⟩
  simp
 ·rintro ρ M1 acc ⟨⟨o0,rfl⟩,rfl,rfl⟩ p hp
  exact ⟨_,_,rfl,ah af,q _ (Ge.new hp)⟩
noncomputable def jw (x y:Str) (s:Stmt):FD:=⟨"_law_turned_about",s,[x],1,
 (.cons (.ret (.blt .tuple (.cons (.comp [none] [y] (.last (.seq (.var 0)) (.name 0) .nil (.neg (.var 0)))) .nil)))
 .nil)⟩
theorem wb {f:Nat} {x y:Str} {s:Stmt} (hf:T[f]? = some (jw x y s)) {n:Nat} (hn : 1 <= n) {l:List Int} (hl:l.length <= 100000) {M:Mem} {Q:QD} (q:∀ M',Ge M M' -> Q (.tup ((l.map (- ·)).map .int)) M'):phi T n f [.tup (l.map .int)] M Q:=by
 refine aq (by omega) hf rfl (ρ := [some _]) rfl ?_
 unfold jw
 walk_at "st"
 refine az (f:=D.int) (ys:=l) (I:=fun l ρ M' acc=>(∃ o0, ρ = [o0]) /\ M' = M /\ acc = (l.map (- ·)).map .int) rfl ⟨⟨_,rfl⟩,rfl,rfl⟩ (fun _ _ _ _ _=>by first | rfl | trivial) ?_ ?_
 ·rintro l' i r ρ M1 acc e ⟨⟨o0,rfl⟩,rfl,rfl⟩
  refine ⟨_,rfl,fun N' hN' => ?_⟩
  have hlt:=am e
  walk_at "wp"
  refine ⟨by rw [List.length_map,List.length_map,sizeLine_eq];omega,hN' _ _ _ ⟨⟨_,rfl⟩,rfl, ?_⟩⟩
  simp
 ·rintro ρ M1 acc ⟨⟨o0,rfl⟩,rfl,rfl⟩ p hp
  exact ⟨_,_,rfl,ah af,q _ (Ge.new hp)⟩
noncomputable def plP (L0 L1 L2:Nat) (t:Tm):Pr:=(one L0 t.1.2.1,one L1 t.1.2.2,(one L2 t.1.1).map (· * t.2))
theorem pe {x:Int}:∀ {b:List Int} {i:Int},gz (b.map (· * x)) i = gz b i * x
 | [],i=>by rw [List.map_nil,fL];simp
 | y :: b,i=>by rw [List.map_cons,bM,bM,pe];split <;> rfl
theorem n8 {L0 L1 L2:Nat} {k i j:Int}:∀ {L:List Tm},(∀ t ∈ L,(0 <= t.1.1 /\ t.1.1 < L2) /\ (0 <= t.1.2.1 /\ t.1.2.1 < L0) /\ (0 <= t.1.2.2 /\ t.1.2.2 < L1)) -> Tn (L.map (plP L0 L1 L2)) k i j = cf L (k,i,j)
 | [],_=>rfl
 | t :: L,h=>by
   obtain ⟨⟨a0,a1⟩,⟨b0,b1⟩,⟨c0,c1⟩⟩:=h t (by simp)
   rw [List.map_cons,ju,aV,n8 fun u hu=>h u (by simp [hu])]
   congr 1
   unfold plP
   dsimp only
   rw [n6 b0 b1,n6 c0 c1,pe,n6 a0 a1]
   by_cases e:t.1 = (k,i,j)
   ·rw [if_pos e,if_pos (by rw [e]),if_pos (by rw [e]),if_pos (by rw [e])];omega
   ·rw [if_neg e]
    by_cases e1:i = t.1.2.1
    ·by_cases e2:j = t.1.2.2
     ·by_cases e3:k = t.1.1
      ·exact absurd (by rw [e1,e2,e3]) e
      ·rw [if_neg e3];simp
     ·rw [if_neg e2];simp
    ·rw [if_neg e1];simp
noncomputable def fN (y:Str) (s:Stmt) (fs:Nat):FD:=⟨"_law_plainly",s,["_law_lengths", "_law_sums_here"],2,
 (.cons (.ret (.comp [none,none,none,(some 0),(some 1)] ["_law_k", "_law_i", "_law_j", "_law_lengths", "_law_sums_here"] (.last (.seq (.blt .sortk (.cons (.var 1) .nil))) (.tup (.cons (.name 0) (.cons (.name 1) (.cons (.name 2) .nil)))) .nil (.tup (.cons (.call fs (.cons (.ix (.var 3) (.int 0)) (.cons (.var 1) .nil))) (.cons (.call fs (.cons (.ix (.var 3) (.int 1)) (.cons (.var 2) .nil))) (.cons (.blt .tuple (.cons (.comp [none,(some 4),(some 0),(some 1),(some 2)] [y, "_law_sums_here", "_law_k", "_law_i", "_law_j"] (.last (.seq (.call fs (.cons (.ix (.var 3) (.int 2)) (.cons (.var 0) .nil)))) (.name 0) .nil (.bin .mul (.var 0) (.ix (.var 1) (.tup (.cons (.var 2) (.cons (.var 3) (.cons (.var 4) .nil)))))))) .nil)) .nil)))))))
 .nil)⟩
noncomputable def n9 (T:List FD) (n f:Nat):Prop := ∀ {L:Nat} {k:Int} {M:Mem} {Q:QD},L <= 100000 -> (∀ M',Ge M M' -> Q (.tup ((one L k).map .int)) M') -> phi T n f [.int L, .int k] M Q
theorem qP {f fs:Nat} {y:Str} {s:Stmt} (hf:T[f]? = some (fN y s fs)) {n:Nat} (hfs:n9 T (n - 1) fs) (hn : 1 <= n) {L0 L1 L2:Nat} (h0:L0 <= 1000) (h1:L1 <= 1000) (h2:L2 <= 1000) {L:List Tm} (hnd:(L.map (·.1)).Nodup) (hl:L.length <= 1000000) {d:Addr} {M:Mem} {Q:QD} (hd:M d = some (.dct true (L.map kcD)))
 (q:∀ (rs:List Tm) p M',rs.Perm L -> Ge M M' -> M p = none -> M' p = some (.lst ((rs.map (plP L0 L1 L2)).map prD)) -> Q (.ref p) M'):phi T n f [.tup [.int L0, .int L1, .int L2], .ref d] M Q:=by
 refine aq (by omega) hf rfl (ρ := [some _,some _]) rfl ?_
 unfold fN
 walk_at "st"
 refine ⟨d,true,_, .tup [.int, .int, .int],rfl,hd,rfl,fun kv hkv => ?_,fun ps ys hps hperm hsrt => ?_⟩
 ·obtain ⟨t,_,rfl⟩:=List.mem_map.mp hkv
  rfl
 obtain ⟨rs,hp,rfl,hsr⟩:=nR hnd hperm hsrt
 have g1:=Ge.new (o := .lst (rs.map fun t=>k3D t.1)) hps
 have e1:=af (M:=M) (a:=ps) (o := .lst (rs.map fun t=>k3D t.1))
 generalize aj M ps (.lst (rs.map fun t=>k3D t.1)) = M1 at g1 e1 ⊢
 have hlr:rs.length <= 1000000:=by rw [hp.length_eq];exact hl
 refine ⟨_,ah e1, ?_⟩
 refine az (f:=fun t:Tm=>k3D t.1) (ys:=rs) (I:=fun l ρ M' acc=>(∃ o0 o1 o2, ρ = [o0,o1,o2,some (.tup [.int L0, .int L1, .int L2]),some (.ref d)]) /\ Ge M1 M' /\ acc = (l.map (plP L0 L1 L2)).map prD) rfl ⟨⟨_,_,_,rfl⟩,Ge.refl,rfl⟩ (fun _ _ _ _ h=>ah (h.2.1 _ _ e1)) ?_ ?_
 ·rintro l t r ρ M2 acc e ⟨⟨o0,o1,o2,rfl⟩,g2,rfl⟩
  refine ⟨_,rfl,fun N' hN' => ?_⟩
  have hlt:=am e
  have ht:t ∈ L:=hp.mem_iff.mp (by rw [e];simp)
  walk_at "wp"
  refine ⟨_,rfl,hfs (by omega) fun M3 g3=>⟨_,rfl,hfs (by omega) fun M4 g4=>⟨_,rfl,hfs (by omega) fun M5 g5=>⟨_,rfl, ?_⟩⟩⟩⟩
  have g5:=g2.trans (g3.trans (g4.trans g5))
  have d5:=g5 _ _ (g1 _ _ hd)
  have ho:∀ x ∈ one L2 t.1.1,x = 0 ∨ x = 1:=fun x hx=>by
   unfold one at hx
   obtain ⟨h,_,rfl⟩:=List.mem_map.mp hx
   split <;> simp
  refine az (f:=D.int) (ys:=one L2 t.1.1) (I:=fun l' ρ M' acc=>(∃ o0, ρ = [o0,some (.ref d),some (.int t.1.1),some (.int t.1.2.1),some (.int t.1.2.2)]) /\ M' = M5 /\ acc = (l'.map (· * t.2)).map .int) rfl ⟨⟨_,rfl⟩,rfl,rfl⟩ (fun _ _ _ _ _=>by first | rfl | trivial) ?_ ?_
  ·rintro l' x r' ρ M6 acc e' ⟨⟨o0,rfl⟩,rfl,rfl⟩
   refine ⟨_,rfl,fun N'' hN'' => ?_⟩
   have hlt':=am e'
   rw [gm] at hlt'
   have hx:=ho x (by rw [e'];simp)
   walk_at "wp"
   refine ⟨by rw [sizeLine_eq];first | decide | omega, ?_⟩
   rw [show D.tup [.int t.1.1, .int t.1.2.1, .int t.1.2.2] = k3D t.1 from rfl]
   refine AE d5 (iW t.1) (fe hnd ht) ?_
   walk_at "wp"
   refine ⟨cH (by omega),by rw [List.length_map,List.length_map,sizeLine_eq];omega,hN'' _ _ _ ⟨⟨_,rfl⟩,rfl,by simp⟩⟩
  ·rintro ρ M6 acc ⟨⟨o0,rfl⟩,rfl,rfl⟩ p hp
   refine ⟨_,_,rfl,ah af,by rw [sizeLine_eq];first | decide | omega,by rw [List.length_map,List.length_map,sizeLine_eq];omega,hN' _ _ _ ⟨⟨_,_,_,rfl⟩,g5.trans (Ge.new hp), ?_⟩⟩
   simp [prD,plP]
 ·rintro ρ M2 acc ⟨⟨o0,o1,o2,rfl⟩,g2,rfl⟩ p2 hp2
  have g3:=g1.trans g2
  refine q rs p2 _ hp (g3.trans (Ge.new hp2)) ?_ af
  cases hz:M p2 with
  | none=>rfl
  | some o=>rw [g3 _ _ hz] at hp2;cases hp2
end
section
open PySem PySem.Spec PyProof.Rows L2.Srt
noncomputable def tm (p:Pr) (k i j:Int):Int:=gz p.1 i * gz p.2.1 j * gz p.2.2 k
theorem dO {p:Pr} {a:List Pr} {k i j:Int}:Tn (p :: a) k i j = tm p k i j + Tn a k i j:=ju
theorem tV {ps:List Pr} {n:Nat} {p:Pr} {k i j:Int}:Tn (ps.take n ++ p :: ps.drop n) k i j = Tn ps k i j + tm p k i j:=by
 have e:Tn ps k i j = Tn (ps.take n) k i j + Tn (ps.drop n) k i j:=by rw [<- fM,List.take_append_drop]
 rw [fM,dO,e];omega
theorem tW {k i j:Int} {p':Pr}:∀ {ps:List Pr} {n:Nat} {p:Pr},ps[n]? = some p -> Tn (ps.set n p') k i j = Tn ps k i j - tm p k i j + tm p' k i j
 | [],n,p,h=>by simp at h
 | a :: ps,0,p,h=>by
   simp at h;subst h
   rw [List.set_cons_zero,dO,dO];omega
 | a :: ps,n + 1,p,h=>by
   rw [List.set_cons_succ,dO,dO,tW (ps:=ps) (n:=n) (p:=p) (by simpa using h)];omega
theorem gn {i:Int}:∀ {l:List Int},gz (l.map (- ·)) i = - gz l i:=by
 intro l
 have:=tR (x := -1) (b:=l) (i:=i)
 rw [show l.map (- ·) = l.map (-1 * ·) from List.map_congr_left fun x _=>by omega,this];omega
theorem BD {l r o:List Int} {k i j:Int}:tm (l.map (- ·),r,o.map (- ·)) k i j = tm (l,r,o) k i j:=by
 unfold tm;dsimp only;rw [gn,gn];simp [Int.neg_mul,Int.mul_neg]
theorem tm_lr {l r o:List Int} {k i j:Int}:tm (l.map (- ·),r.map (- ·),o) k i j = tm (l,r,o) k i j:=by
 unfold tm;dsimp only;rw [gn,gn];simp [Int.neg_mul,Int.mul_neg]
noncomputable def aM (a b:List Int):List Int:=List.zipWith (· - ·) a b
theorem jx {i:Int}:∀ {a b:List Int},a.length = b.length -> gz (aM a b) i + gz b i = gz a i:=by
 intro a
 induction a generalizing i with
 | nil=>intro b h;cases b with | nil=>rw [show aM [] [] = [] from rfl,fL];rfl | cons y b=>simp at h
 | cons x a ih =>
   intro b h
   cases b with
   | nil=>simp at h
   | cons y b =>
     rw [show aM (x :: a) (y :: b) = (x - y) :: aM a b from rfl,bM,bM,bM]
     by_cases e:i = 0
     ·rw [if_pos e,if_pos e,if_pos e];omega
     ·rw [if_neg e,if_neg e,if_neg e];exact ih (by simpa using h)
theorem yV {l r o m:List Int} {k i j:Int} (h:l.length = m.length):tm (aM l m,r,o) k i j + tm (m,r,o) k i j = tm (l,r,o) k i j:=by
 unfold tm;dsimp only;rw [<- Int.add_mul, <- Int.add_mul,jx h]
theorem yW {l r o m:List Int} {k i j:Int} (h:r.length = m.length):tm (l,aM r m,o) k i j + tm (l,m,o) k i j = tm (l,r,o) k i j:=by
 unfold tm;dsimp only;rw [<- Int.add_mul, <- Int.mul_add,jx h]
theorem yX {l r o m:List Int} {k i j:Int} (h:o.length = m.length):tm (l,r,aM o m) k i j + tm (l,r,m) k i j = tm (l,r,o) k i j:=by
 unfold tm;dsimp only;rw [<- Int.mul_add,jx h]
noncomputable def seven:List Pr := [([1,0,0,1],[1,0,0,1],[1,0,0,1]),([0,0,1,1],[1,0,0,0],[0,0,1, -1]),([1,0,0,0],[0,1,0, -1],[0,1,0,1]),([0,0,0,1],[-1,0,1,0],[1,0,1,0]),([1,1,0,0],[0,0,0,1],[-1,1,0,0]),([-1,0,1,0],[1,1,0,0],[0,0,0,1]),([0,1,0, -1],[0,0,1,1],[1,0,0,0])]
theorem wc:∀ a b c:Fin 4,Tn seven (a.val:Nat) (b.val:Nat) (c.val:Nat) = cf (bn 2 2 2) (((a.val:Nat):Int),((b.val:Nat):Int),((c.val:Nat):Int)):=by decide +kernel
theorem wd {k i j:Int}:Tn seven k i j = cf (bn 2 2 2) (k,i,j):=by
 by_cases h:(0 <= k /\ k < 4) /\ (0 <= i /\ i < 4) /\ (0 <= j /\ j < 4)
 ·have:=wc ⟨k.toNat,by omega⟩ ⟨i.toNat,by omega⟩ ⟨j.toNat,by omega⟩
  dsimp only at this
  rw [Int.toNat_of_nonneg h.1.1,Int.toNat_of_nonneg h.2.1.1,Int.toNat_of_nonneg h.2.2.1] at this
  exact this
 ·have z1:Tn seven k i j = 0:=by
   cases Decidable.em (Tn seven k i j = 0) with
   | inl e=>exact e
   | inr e=>exact absurd (iZ (L0 := 4) (L1 := 4) (L2 := 4) (us:=seven) (by decide) e) h
  have z2:cf (bn 2 2 2) (k,i,j) = 0:=eD fun t ht e=>by
   obtain ⟨a,b,c,ha,hb,hc,rfl⟩:=eF ht
   unfold bP at e
   have e1:=congrArg (fun q:K3=>q.1) e
   have e2:=congrArg (fun q:K3=>q.2.1) e
   have e3:=congrArg (fun q:K3=>q.2.2) e
   dsimp only at e1 e2 e3
   omega
  rw [z1,z2]
end
section
open PySem PySem.Spec PyProof.Rows L2.Srt
variable {T:List FD}
theorem nc {ft n:Nat} (hft:eA T n ft) {b:Addr} {K:Int} (h0 : 1 <= K) (h1:K <= 100) {M:Mem} {N:NC} (hb:Box b M)
 (q:∀ (ns:List Int) ρ M',ns.length = 3 -> (∀ y ∈ ns,1 <= y /\ y <= K) -> Bx b M M' -> N ρ M' (ns.map .int)) :
 bQ (bu 0) (cc (wOp gJ (wC (.int 1)) (wAr (phi T n ft) (aK (ck 1) (aK (wC (.int K)) bx))))) (fun _=>True) N (cy 0 (3:Int).toNat) [none,some (.ref b)] M []:=by
 refine az (f:=fun i=>D.int (i:Nat)) (I:=fun l ρ M' acc => ∃ ns:List Int,(∃ o, ρ = [o,some (.ref b)]) /\ acc = ns.map .int /\ ns.length = l.length /\ (∀ y ∈ ns,1 <= y /\ y <= K) /\ Bx b M M') aP ⟨[],⟨_,rfl⟩,rfl,rfl,fun _ h=>by simp at h,Bx.refl hb⟩ (fun _ _ _ _ _=>trivial) ?_ ?_
 ·rintro l i r ρ M1 acc e ⟨ns,⟨o,rfl⟩,rfl,hl,hr,x1⟩
  refine ⟨_,rfl,fun N' hN' => ?_⟩
  have hlt:=am e
  rw [List.length_range] at hlt
  walk_at "wp"
  refine hft x1.box (by omega) (by omega) fun v M2 v0 v1 x2 => ?_
  walk_at "wp"
  refine ⟨by rw [List.length_map,sizeLine_eq];omega,hN' _ _ _ ⟨ns ++ [1 + v],⟨_,rfl⟩,by simp,by simp [hl],fun y hy => ?_,x1.trans x2⟩⟩
  rcases List.mem_append.mp hy with h | h
  ·exact hr y h
  ·simp at h;subst h;omega
 ·rintro ρ M1 acc ⟨ns,⟨o,rfl⟩,rfl,hl,hr,x1⟩
  exact q ns _ M1 hl hr x1
noncomputable def jy (s:Stmt) (ft:Nat):FD:=⟨"_law_sizes",s,["_law_box_here", "_law_sizes_here"],1,
 (.cons (.ite (.cmp .eq (.call ft (.cons (.var 0) (.cons (.int 3) .nil))) (.int 0)) (.cons (.ret (.tup (.cons (.int 2) (.cons (.int 2) (.cons (.int 2) .nil)))))
 .nil) .nil)
 (.cons (.asg (.name 1) (.comp [none,(some 0)] ["_law_side", "_law_box_here"] (.last (.rng1 (.int 3)) (.name 0) .nil (.bin .add (.int 1) (.call ft (.cons (.var 1) (.cons (.int 4) .nil)))))))
 (.cons (.ite (.cmp .eq (.call ft (.cons (.var 0) (.cons (.int 8) .nil))) (.int 0)) (.cons (.asg (.name 1) (.comp [none,(some 0)] ["_law_side", "_law_box_here"] (.last (.rng1 (.int 3)) (.name 0) .nil (.bin .add (.int 1) (.call ft (.cons (.var 1) (.cons (.int 2) .nil)))))))
 (.cons (.put (.var 1) (.call ft (.cons (.var 0) (.cons (.int 3) .nil))) (.bin .add (.int 5) (.call ft (.cons (.var 0) (.cons (.int 5) .nil)))))
 .nil)) .nil)
 (.cons (.ret (.blt .tuple (.cons (.var 1) .nil)))
 .nil))))⟩
theorem xc {ns:List Int} {K:Int} (hl:ns.length = 3) (h:∀ y ∈ ns,1 <= y /\ y <= K):∃ x y z:Nat,ns = [(x:Int),y,z] /\ (1 <= x /\ (x:Int) <= K) /\ (1 <= y /\ (y:Int) <= K) /\ (1 <= z /\ (z:Int) <= K):=by
 match ns,hl with
 | [x,y,z],_ =>
  have hx:=h x (by simp)
  have hy:=h y (by simp)
  have hz:=h z (by simp)
  exact ⟨x.toNat,y.toNat,z.toNat,by rw [Int.toNat_of_nonneg (by omega),Int.toNat_of_nonneg (by omega),Int.toNat_of_nonneg (by omega)],by omega,by omega,by omega⟩
noncomputable def Szs (x y z:Nat):Prop:=(x <= 4 /\ y <= 4 /\ z <= 4) ∨ (x <= 9 /\ y <= 2 /\ z <= 2) ∨ (x <= 2 /\ y <= 9 /\ z <= 2) ∨ (x <= 2 /\ y <= 2 /\ z <= 9)
theorem we {f ft:Nat} {s:Stmt} (hf:T[f]? = some (jy s ft)) {n:Nat} (hft:eA T (n - 1) ft) (hn : 1 <= n) {b:Addr} {M:Mem} {Q:QD} (hb:Box b M)
 (q:∀ (x y z:Nat) M',(1 <= x /\ x <= 9) -> (1 <= y /\ y <= 9) -> (1 <= z /\ z <= 9) -> Szs x y z -> Bx b M M' -> Q (.tup [.int x, .int y, .int z]) M'):phi T n f [.ref b] M Q:=by
 refine aq (by omega) hf rfl (ρ := [some _,none]) rfl ?_
 unfold jy
 walk_at "st"
 refine hft hb (by decide) (by decide) fun v M1 _ _ x1 => ?_
 walk_at "wp"
 by_cases hv:v = 0
 ·rw [if_pos (by simp [hv])]
  walk_at "st"
  exact ⟨by rw [sizeLine_eq];first | decide | omega,q 2 2 2 M1 (by omega) (by omega) (by omega) (by unfold Szs;omega) x1⟩
 rw [if_neg (by simp [hv])]
 walk_at "st"
 refine ⟨by omega,by omega, ?_⟩
 refine nc hft (by decide) (by decide) x1.box fun ns ρ M2 hl hr x2 pl hpl => ?_
 obtain ⟨x,y,z,rfl,hx,hy,hz⟩:=xc hl hr
 have x3:=(x1.trans x2).ge (Ge.new (o := .lst ([(x:Int),y,z].map .int)) hpl)
 have e3:=af (M:=M2) (a:=pl) (o := .lst ([(x:Int),y,z].map .int))
 have hplb:pl ≠ b:=fun w=>by
  obtain ⟨_,_,_,e⟩:=x2.box;rw [<- w,hpl] at e;cases e
 generalize aj M2 pl (.lst ([(x:Int),y,z].map .int)) = M3 at x3 e3 ⊢
 walk_at "st"
 refine hft x3.box (by decide) (by decide) fun v M4 _ _ x4 => ?_
 have e4:=x4.keep pl _ hplb e3
 have x4:=x3.trans x4
 walk_at "wp"
 by_cases hv:v = 0
 ·rw [if_pos (by simp [hv])]
  walk_at "st"
  refine ⟨by omega,by omega, ?_⟩
  refine nc hft (by decide) (by decide) x4.box fun ns ρ M5 hl hr x5 pm hpm => ?_
  obtain ⟨x',y',z',rfl,hx',hy',hz'⟩:=xc hl hr
  have hMm:M pm = none:=by
   cases hq:M pm with
   | none=>rfl
   | some o =>
     have hpb:pm ≠ b:=fun w=>by obtain ⟨_,_,_,e⟩:=x5.box;rw [<- w,hpm] at e;cases e
     rw [(x4.trans x5).keep pm o hpb hq] at hpm;cases hpm
  have hpmb:pm ≠ b:=fun w=>by
   obtain ⟨_,_,_,e⟩:=x5.box;rw [<- w,hpm] at e;cases e
  have x6:=(x4.trans x5).ge (Ge.new (o := .lst ([(x':Int),y',z'].map .int)) hpm)
  have e6:=af (M:=M5) (a:=pm) (o := .lst ([(x':Int),y',z'].map .int))
  generalize aj M5 pm (.lst ([(x':Int),y',z'].map .int)) = M6 at x6 e6 ⊢
  walk_at "st"
  refine hft x6.box (by decide) (by decide) fun v5 M7 v50 v51 x7 => ?_
  have e7:=x7.keep pm _ hpmb e6
  have x7:=x6.trans x7
  walk_at "wp"
  refine hft x7.box (by decide) (by decide) fun v3 M8 v30 v31 x8 => ?_
  have e8:=x8.keep pm _ hpmb e7
  have x8:=x7.trans x8
  obtain ⟨w,hw⟩:∃ w:Nat,5 + v5 = w:=⟨(5 + v5).toNat,by omega⟩
  rw [hw]
  have:v3 = 0 ∨ v3 = 1 ∨ v3 = 2:=by omega
  rcases this with rfl | rfl | rfl
  ·refine cG e8 (j := 0) rfl ?_
   walk_at "st"
   exact ⟨_,_,rfl,ah af,q w y' z' _ (by omega) (by omega) (by omega) (by unfold Szs;omega) (x8.upd hMm hpmb)⟩
  ·refine cG e8 (j := 1) rfl ?_
   walk_at "st"
   exact ⟨_,_,rfl,ah af,q x' w z' _ (by omega) (by omega) (by omega) (by unfold Szs;omega) (x8.upd hMm hpmb)⟩
  ·refine cG e8 (j := 2) rfl ?_
   walk_at "st"
   exact ⟨_,_,rfl,ah af,q x' y' w _ (by omega) (by omega) (by omega) (by unfold Szs;omega) (x8.upd hMm hpmb)⟩
 ·rw [if_neg (by simp [hv])]
  walk_at "st"
  exact ⟨_,_,rfl,ah e4,q x y z M4 (by omega) (by omega) (by omega) (by unfold Szs;omega) x4⟩
end
section
open PySem PySem.Spec PyProof.Rows L2.Srt
variable {T:List FD}
noncomputable def fO (s:Stmt) (ft fa:Nat):FD:=⟨"_law_dressed",s,["_law_box_here", "_law_lengths", "_law_products", "_law_most", "_law_found", "_law_l", "_law_r", "_law_o", "_law_way", "_law_turn", "_law_at", "_law_side", "_law_more", "_law_less", "_law_extra"],4,
 (.cons (.asg (.name 4) (.lst .nil))
 (.cons (.for (.tup (.cons (.name 5) (.cons (.name 6) (.cons (.name 7) .nil)))) (.seq (.var 2)) (.cons (.asg (.name 8) (.call ft (.cons (.var 0) (.cons (.int 6) .nil))))
 (.cons (.ite (.cmp .eq (.var 8) (.int 0)) (.cons (.par 5 7 (.call fa (.cons (.var 5) .nil)) (.call fa (.cons (.var 7) .nil)))
 .nil) .nil)
 (.cons (.ite (.cmp .eq (.var 8) (.int 1)) (.cons (.par 5 6 (.call fa (.cons (.var 5) .nil)) (.call fa (.cons (.var 6) .nil)))
 .nil) .nil)
 (.cons (.drop (.ins (.var 4) (.call ft (.cons (.var 0) (.cons (.bin .add (.blt .len (.cons (.var 4) .nil)) (.int 1)) .nil))) (.tup (.cons (.var 5) (.cons (.var 6) (.cons (.var 7) .nil))))))
 .nil)))))
 (.cons (.for (.name 9) (.rng1 (.call ft (.cons (.var 0) (.cons (.bin .add (.var 3) (.int 1)) .nil)))) (.cons (.asg (.name 10) (.call ft (.cons (.var 0) (.cons (.blt .len (.cons (.var 4) .nil)) .nil))))
 (.cons (.asg (.tup (.cons (.name 5) (.cons (.name 6) (.cons (.name 7) .nil)))) (.ix (.var 4) (.var 10)))
 (.cons (.asg (.name 11) (.call ft (.cons (.var 0) (.cons (.int 3) .nil))))
 (.cons (.asg (.name 12) (.blt .tuple (.cons (.comp [none,(some 0)] ["_law_number", "_law_box_here"] (.last (.seq (.ix (.ix (.var 4) (.var 10)) (.var 11))) (.name 0) .nil (.bin .sub (.call ft (.cons (.var 1) (.cons (.int 5) .nil))) (.int 2)))) .nil)))
 (.cons (.asg (.name 13) (.blt .tuple (.cons (.comp [none,none] ["_law_number", "_law_other"] (.last (.zip (.ix (.ix (.var 4) (.var 10)) (.var 11)) (.var 12)) (.tup (.cons (.name 0) (.cons (.name 1) .nil))) .nil (.bin .sub (.var 0) (.var 1)))) .nil)))
 (.cons (.put (.var 4) (.var 10) (.bin .add (.bin .add (.sl (.ix (.var 4) (.var 10)) .none (.some (.var 11))) (.tup (.cons (.var 13) .nil))) (.sl (.ix (.var 4) (.var 10)) (.some (.bin .add (.var 11) (.int 1))) .none)))
 (.cons (.asg (.name 14) (.bin .add (.bin .add (.sl (.tup (.cons (.var 5) (.cons (.var 6) (.cons (.var 7) .nil)))) .none (.some (.var 11))) (.tup (.cons (.var 12) .nil))) (.sl (.tup (.cons (.var 5) (.cons (.var 6) (.cons (.var 7) .nil)))) (.some (.bin .add (.var 11) (.int 1))) .none)))
 (.cons (.drop (.ins (.var 4) (.call ft (.cons (.var 0) (.cons (.bin .add (.blt .len (.cons (.var 4) .nil)) (.int 1)) .nil))) (.var 14)))
 .nil)))))))))
 (.cons (.ret (.bin .add (.blt .tuple (.cons (.var 1) .nil)) (.tup (.cons (.var 4) .nil))))
 .nil))))⟩
noncomputable def ph (T:List FD) (n f:Nat):Prop := ∀ {l:List Int} {M:Mem} {Q:QD},l.length <= 100000 -> (∀ M',Ge M M' -> Q (.tup ((l.map (- ·)).map .int)) M') -> phi T n f [.tup (l.map .int)] M Q
noncomputable def Within (B:Int) (l:List Int):Prop := ∀ x ∈ l, -B <= x /\ x <= B
structure Dr (B:Int) (L0 L1 L2:Nat) (p:Pr):Prop where
 l0:p.1.length = L0
 l1:p.2.1.length = L1
 l2:p.2.2.length = L2
 e0:Within B p.1
 e1:Within B p.2.1
 e2:Within B p.2.2
theorem Within.neg {B:Int} {l:List Int} (h:Within B l):Within B (l.map (- ·)):=fun x hx=>by
 obtain ⟨y,hy,rfl⟩:=List.mem_map.mp hx
 have:=h y hy;omega
theorem Within.mono {B B':Int} (hb:B <= B') {l:List Int} (h:Within B l):Within B' l:=fun x hx=>by
 have:=h x hx;omega
theorem Dr.mono {B B':Int} (hb:B <= B') {L0 L1 L2:Nat} {p:Pr} (h:Dr B L0 L1 L2 p):Dr B' L0 L1 L2 p:=⟨h.l0,h.l1,h.l2,h.e0.mono hb,h.e1.mono hb,h.e2.mono hb⟩
theorem wf {a b:List Int} (h:a.length = b.length):(aM a b).length = a.length:=by simp [aM,h]
theorem Within.less {B:Int}:∀ {a b:List Int},Within B a -> Within 2 b -> Within (B + 2) (aM a b)
 | [],_,_,_=>fun x hx=>by simp [aM] at hx
 | _ :: _,[],_,_=>fun x hx=>by simp [aM] at hx
 | x :: a,y :: b,ha,hb=>fun z hz=>by
   rw [show aM (x :: a) (y :: b) = (x - y) :: aM a b from rfl] at hz
   rcases List.mem_cons.mp hz with rfl | hz
   ·have:=ha x (by simp);have:=hb y (by simp);omega
   ·exact Within.less (fun w hw=>ha w (by simp [hw])) (fun w hw=>hb w (by simp [hw])) z hz
noncomputable def pAt (p:Pr):Nat -> List Int | 0=>p.1 | 1=>p.2.1 | _=>p.2.2
noncomputable def cn (p:Pr) (m:List Int):Nat -> Pr | 0=>(m,p.2.1,p.2.2) | 1=>(p.1,m,p.2.2) | _=>(p.1,p.2.1,m)
theorem AJ {p:Pr} {m:List Int} {s:Nat} {k i j:Int} (h:(pAt p s).length = m.length):tm (cn p (aM (pAt p s) m) s) k i j + tm (cn p m s) k i j = tm p k i j:=by
 match s with
 | 0=>exact yV h
 | 1=>exact yW h
 | _ + 2=>exact yX h
theorem Dr.set {B:Int} {L0 L1 L2:Nat} {p:Pr} (h:Dr B L0 L1 L2 p) {m:List Int} {s:Nat} (hl:m.length = (pAt p s).length) (hw:Within B m):Dr B L0 L1 L2 (cn p m s):=by
 match s with
 | 0=>exact ⟨hl.trans h.l0,h.l1,h.l2,hw,h.e1,h.e2⟩
 | 1=>exact ⟨h.l0,hl.trans h.l1,h.l2,h.e0,hw,h.e2⟩
 | _ + 2=>exact ⟨h.l0,h.l1,hl.trans h.l2,h.e0,h.e1,hw⟩
theorem Dr.at {B:Int} {L0 L1 L2:Nat} {p:Pr} (h:Dr B L0 L1 L2 p) {s:Nat}:Within B (pAt p s):=by
 match s with
 | 0=>exact h.e0
 | 1=>exact h.e1
 | _ + 2=>exact h.e2
theorem yY {ft n:Nat} (hft:eA T n ft) {b:Addr} {M:Mem} {N:NC} (hb:Box b M) {l:List Int} (hl:l.length <= 1000)
 (q:∀ (ns:List Int) ρ M',ns.length = l.length -> Within 2 ns -> Bx b M M' -> N ρ M' (ns.map .int)) :
 bQ (bu 0) (cc (wOp jd (wAr (phi T n ft) (aK (ck 1) (aK (wC (.int 5)) bx))) (wC (.int 2)))) (fun M=>ax M (.tup (l.map .int)) = some (l.map .int)) N (l.map .int) [none,some (.ref b)] M []:=by
 refine az (f:=D.int) (ys:=l) (I:=fun l ρ M' acc => ∃ ns:List Int,(∃ o, ρ = [o,some (.ref b)]) /\ acc = ns.map .int /\ ns.length = l.length /\ Within 2 ns /\ Bx b M M') rfl ⟨[],⟨_,rfl⟩,rfl,rfl,fun _ h=>by simp at h,Bx.refl hb⟩ (fun _ _ _ _ _=>rfl) ?_ ?_
 ·rintro l i r ρ M1 acc e ⟨ns,⟨o,rfl⟩,rfl,hl,hr,x1⟩
  refine ⟨_,rfl,fun N' hN' => ?_⟩
  have hlt:=am e
  walk_at "wp"
  refine hft x1.box (by omega) (by omega) fun v M2 v0 v1 x2 => ?_
  walk_at "wp"
  refine ⟨by rw [List.length_map,sizeLine_eq];omega,hN' _ _ _ ⟨ns ++ [v - 2],⟨_,rfl⟩,by simp,by simp [hl],fun y hy => ?_,x1.trans x2⟩⟩
  rcases List.mem_append.mp hy with h | h
  ·exact hr y h
  ·simp at h;subst h;omega
 ·rintro ρ M1 acc ⟨ns,⟨o,rfl⟩,rfl,hl,hr,x1⟩
  exact q ns _ M1 hl hr x1
theorem yZ {M:Mem} {N:NC} {a b:List Int} (hl:a.length <= 1000) {chk:Mem -> Prop} (hc:chk M)
 (q:∀ ρ,N ρ M ((aM a b).map .int)) :
 bQ (jj (bC (bu 0) (bC (bu 1) eS))) (cc (wOp jd (ck 0) (ck 1))) chk N (List.zipWith fW (a.map .int) (b.map .int)) [none,none] M []:=by
 have ez:List.zipWith fW (a.map D.int) (b.map D.int) = (a.zip b).map fun z=>D.tup [.int z.1, .int z.2]:=by
  rw [List.zipWith_map,List.zip,List.map_zipWith];rfl
 refine az (f:=fun z:Int × Int=>D.tup [.int z.1, .int z.2]) (ys:=a.zip b) (I:=fun l ρ M' acc=>(∃ o0 o1, ρ = [o0,o1]) /\ M' = M /\ acc = (l.map fun z=>z.1 - z.2).map .int) ez ⟨⟨_,_,rfl⟩,rfl,rfl⟩ (fun _ _ _ _ h=>by rw [h.2.1];exact hc) ?_ ?_
 ·rintro l z r ρ M1 acc e ⟨⟨o0,o1,rfl⟩,rfl,rfl⟩
  refine ⟨_,rfl,fun N' hN' => ?_⟩
  have hlt:=am e
  rw [List.length_zip] at hlt
  walk_at "wp"
  exact ⟨by rw [List.length_map,List.length_map,sizeLine_eq];omega,hN' _ _ _ ⟨⟨_,_,rfl⟩,rfl,by simp⟩⟩
 ·rintro ρ M1 acc ⟨⟨o0,o1,rfl⟩,rfl,rfl⟩
  have:(a.zip b).map (fun z=>z.1 - z.2) = aM a b:=by rw [List.zip,List.map_zipWith];rfl
  rw [this];exact q _
theorem tX {p:Pr} {s:Nat} (h:s < 3):atI [D.tup (p.1.map .int), .tup (p.2.1.map .int), .tup (p.2.2.map .int)] (s:Nat) = some (.tup ((pAt p s).map .int)):=by
 match s,h with
 | 0,_=>rfl
 | 1,_=>rfl
 | 2,_=>rfl
noncomputable def pts (p:Pr):List D := [.tup (p.1.map .int), .tup (p.2.1.map .int), .tup (p.2.2.map .int)]
theorem pi {p:Pr} {s:Nat} (h:s < 3) {M:Mem} {Q:QD} (q:Q (.tup ((pts p).take s)) M):dr (prD p) none (some ((s:Nat):Int)) M Q:=by
 match s,h with
 | 0,_=>exact q
 | 1,_=>exact q
 | 2,_=>exact q
theorem pj {p:Pr} {s:Nat} (h:s < 3) {M:Mem} {Q:QD} (q:Q (.tup ((pts p).drop (s + 1))) M):dr (prD p) (some (((s:Nat):Int) + 1)) none M Q:=by
 match s,h with
 | 0,_=>exact q
 | 1,_=>exact q
 | 2,_=>exact q
theorem pq {p:Pr} {m:List Int} {s:Nat} (h:s < 3):D.tup ((pts p).take s ++ [.tup (m.map .int)] ++ (pts p).drop (s + 1)) = prD (cn p m s):=by
 match s,h with
 | 0,_=>rfl
 | 1,_=>rfl
 | 2,_=>rfl
theorem gp {p:Pr}:(pts p).length = 3:=rfl
theorem qQ {f ft fa:Nat} {s:Stmt} (hf:T[f]? = some (fO s ft fa)) {n:Nat} (hft:eA T (n - 1) ft) (hfa:ph T (n - 1) fa) (hn : 1 <= n) {b:Addr} {L0 L1 L2 most:Nat} {B:Int} (hB : 1 <= B /\ B <= 100) (h0:L0 <= 100) (h1:L1 <= 100) (h2:L2 <= 100) (hm:most <= 20) {ps:List Pr} (hps:∀ p ∈ ps,Dr B L0 L1 L2 p) (hne:ps ≠ []) (hl:ps.length <= 10000) {y0 y1 y2:D} {pp:Addr} {M:Mem} {Q:QD} (hb:Box b M) (hpp:pp ≠ b) (ep:M pp = some (.lst (ps.map prD)))
 (q:∀ (qs:List Pr) pf M',(∀ p ∈ qs,Dr (B + 2 * most) L0 L1 L2 p) -> qs.length <= ps.length + most -> qs ≠ [] -> (∀ k i j,Tn qs k i j = Tn ps k i j) -> Bx b M M' -> M pf = none -> pf ≠ b -> M' pf = some (.lst (qs.map prD)) -> Q (.tup [y0,y1,y2, .ref pf]) M') :
 phi T n f [.ref b, .tup [y0,y1,y2], .ref pp, .int most] M Q:=by
 refine aq (by omega) hf rfl (ρ := [some _,some _,some _,some _,none,none,none,none,none,none,none,none,none,none,none]) rfl ?_
 unfold fO
 walk_at "st"
 refine ⟨by rw [sizeLine_eq];first | decide | omega,fun pf hpf => ?_⟩
 have hpfb:pf ≠ b:=fun w=>by obtain ⟨_,_,_,e⟩:=hb;rw [<- w,hpf] at e;cases e
 have x1:=Bx.of hb (Ge.new (o := .lst []) hpf)
 have e1:=af (M:=M) (a:=pf) (o := .lst [])
 generalize aj M pf (.lst []) = M1 at x1 e1 ⊢
 walk_at "st"
 refine ⟨_,ah (x1.keep _ _ hpp ep), ?_⟩
 refine bj (f:=prD) (ys:=ps) (I:=fun l ρ M' => ∃ qs o5 o6 o7 o8, ρ = [some (.ref b),some (.tup [y0,y1,y2]),some (.ref pp),some (.int most),some (.ref pf),o5,o6,o7,o8,none,none,none,none,none,none] /\ Bx b M M' /\ M' pf = some (.lst (qs.map prD)) /\ qs.length = l.length /\ (∀ p ∈ qs,Dr B L0 L1 L2 p) /\ ∀ k i j,Tn qs k i j = Tn l k i j) rfl ⟨[],_,_,_,_,rfl,x1,e1,rfl,fun _ h=>by simp at h,fun _ _ _=>rfl⟩ (fun _ _ _ ⟨_,_,_,_,_,_,h,_⟩=>ah (h.keep _ _ hpp ep)) ?_ ?_
 ·rintro l p r ρ M2 e ⟨qs,o5,o6,o7,o8,rfl,x2,e2,hlq,hqs,hT⟩
  refine ⟨_,rfl,fun F hF => ?_⟩
  have hp:=hps p (by rw [e];simp)
  have hlt:=am e
  walk_at "st"
  refine hft x2.box (by decide) (by decide) fun v M3 v0 v1 x3 => ?_
  have e3:=x3.keep pf _ hpfb e2
  have x3:=x2.trans x3
  clear e2 x2
  refine gY (fun ρ M' => ∃ l' r' o', ρ = [some (.ref b),some (.tup [y0,y1,y2]),some (.ref pp),some (.int most),some (.ref pf),some (.tup (l'.map .int)),some (.tup (r'.map .int)),some (.tup (o'.map .int)),some (.int v),none,none,none,none,none,none] /\ Bx b M M' /\ M' pf = some (.lst (qs.map prD)) /\ Dr B L0 L1 L2 (l',r',o') /\ ∀ k i j,tm (l',r',o') k i j = tm p k i j) (fun R hR => ?_) ?_
  ·walk_at "wp"
   by_cases hv:v = 0
   ·rw [if_pos (by simp [hv])]
    walk_at "st"
    refine hfa (by have:=hp.l0;omega) fun M4 g4=>hfa (by have:=hp.l2;omega) fun M5 g5=>hR _ _ ⟨_,_,_,rfl,x3.ge (g4.trans g5),(g4.trans g5) _ _ e3,⟨by rw [List.length_map];exact hp.l0,hp.l1,by rw [List.length_map];exact hp.l2,hp.e0.neg,hp.e1,hp.e2.neg⟩,fun k i j=>BD⟩
   ·rw [if_neg (by simp [hv])]
    exact hR _ _ ⟨_,_,_,rfl,x3,e3,hp,fun _ _ _=>rfl⟩
  rintro ρ M4 ⟨l',r',o',rfl,x4,e4,hp',ht⟩
  refine gY (fun ρ M' => ∃ l' r' o', ρ = [some (.ref b),some (.tup [y0,y1,y2]),some (.ref pp),some (.int most),some (.ref pf),some (.tup (l'.map .int)),some (.tup (r'.map .int)),some (.tup (o'.map .int)),some (.int v),none,none,none,none,none,none] /\ Bx b M M' /\ M' pf = some (.lst (qs.map prD)) /\ Dr B L0 L1 L2 (l',r',o') /\ ∀ k i j,tm (l',r',o') k i j = tm p k i j) (fun R hR => ?_) ?_
  ·walk_at "wp"
   by_cases hv:v = 1
   ·rw [if_pos (by simp [hv])]
    walk_at "st"
    refine hfa (by have:=hp'.l0;dsimp only at this;omega) fun M5 g5=>hfa (by have:=hp'.l1;dsimp only at this;omega) fun M6 g6=>hR _ _ ⟨_,_,_,rfl,x4.ge (g5.trans g6),(g5.trans g6) _ _ e4,⟨by rw [List.length_map];exact hp'.l0,by rw [List.length_map];exact hp'.l1,hp'.l2,hp'.e0.neg,hp'.e1.neg,hp'.e2⟩,fun k i j=>tm_lr.trans (ht k i j)⟩
   ·rw [if_neg (by simp [hv])]
    exact hR _ _ ⟨_,_,_,rfl,x4,e4,hp',ht⟩
  clear x3 e3 x4 e4 hp' ht
  rintro ρ M5 ⟨l',r',o',rfl,x5,e5,hp',ht⟩
  walk_at "st"
  refine ⟨⟨_,e5⟩,jq e5 ?_⟩
  walk_at "wp"
  rw [List.length_map]
  refine hft x5.box (by omega) (by omega) fun w M6 w0 w1 x6 => ?_
  have e6:=x6.keep pf _ hpfb e5
  have x6:=x5.trans x6
  refine ⟨by rw [sizeLine_eq];first | decide | omega, ?_⟩
  refine ⟨_,_,_,_,rfl,rfl,e6,w0,by rw [List.length_map];omega,by rw [List.length_map,sizeLine_eq];omega, ?_⟩
  refine hF _ _ ⟨qs.take w.toNat ++ (l',r',o') :: qs.drop w.toNat,_,_,_,_,rfl,x6.upd hpf hpfb, ?_, ?_, ?_, ?_⟩
  ·rw [af,List.map_append,List.map_cons,List.map_take,List.map_drop];rfl
  ·rw [List.length_append,List.length_cons,List.length_take,List.length_drop,List.length_append,List.length_singleton];omega
  ·intro y hy
   rcases List.mem_append.mp hy with h | h
   ·exact hqs y (List.mem_of_mem_take h)
   ·rcases List.mem_cons.mp h with rfl | h
    ·exact hp'
    ·exact hqs y (List.mem_of_mem_drop h)
  ·intro k i j
   rw [tV,hT,ht,fM,dO];simp [Tn]
 ·rintro ρ M2 ⟨qs,o5,o6,o7,o8,rfl,x2,e2,hlq,hqs,hT⟩
  dsimp only
  walk_at "st"
  refine hft x2.box (by omega) (by omega) fun v M3 v0 v1 x3 => ?_
  have e3:=x3.keep pf _ hpfb e2
  have x3:=x2.trans x3
  clear e1 x1 e2 x2
  refine ⟨_,rfl,by omega,by omega, ?_⟩
  refine bj (f:=fun i=>D.int (i:Nat)) (ys:=List.range v.toNat) (I:=fun l ρ M' => ∃ qs o5 o6 o7 o8 o9 o10 o11 o12 o13 o14, ρ = [some (.ref b),some (.tup [y0,y1,y2]),some (.ref pp),some (.int most),some (.ref pf),o5,o6,o7,o8,o9,o10,o11,o12,o13,o14] /\ Bx b M M' /\ M' pf = some (.lst (qs.map prD)) /\ qs.length = ps.length + l.length /\ (∀ p ∈ qs,Dr (B + 2 * l.length) L0 L1 L2 p) /\ ∀ k i j,Tn qs k i j = Tn ps k i j) aP ⟨qs,_,_,_,_,_,_,_,_,_,_,rfl,x3,e3,hlq,fun p hp=>(hqs p hp).mono (by simp),hT⟩ (fun _ _ _ _=>trivial) ?_ ?_
  ·rintro l t r ρ M4 e ⟨qs,o5,o6,o7,o8,o9,o10,o11,o12,o13,o14,rfl,x4,e4,hlq,hqs,hT⟩
   refine ⟨_,rfl,fun F hF => ?_⟩
   have hlt:=am e
   rw [List.length_range] at hlt
   have hps1 : 1 <= ps.length:=by
    cases ps with
    | nil=>exact absurd rfl hne
    | cons _ _=>simp
   walk_at "st"
   refine jq e4 ?_
   rw [List.length_map]
   refine hft x4.box (by omega) (by omega) fun a M5 a0 a1 x5 => ?_
   have e5:=x5.keep pf _ hpfb e4
   have x5:=x4.trans x5
   clear e4 x4
   obtain ⟨a,rfl⟩:∃ k:Nat,a = k:=⟨a.toNat,by omega⟩
   obtain ⟨p,hp⟩:∃ p,qs[a]? = some p:=⟨_,List.getElem?_eq_getElem (by omega)⟩
   have hpm:=List.mem_of_getElem? hp
   have hd:=hqs p hpm
   have hat:atI (qs.map prD) ((a:Nat):Int) = some (prD p):=eB (by rw [List.getElem?_map,hp];rfl)
   walk_at "st"
   refine bH e5 hat ?_
   refine ⟨_,rfl, ?_⟩
   walk_at "st"
   refine hft x5.box (by decide) (by decide) fun c M6 c0 c1 x6 => ?_
   have e6:=x6.keep pf _ hpfb e5
   have x6:=x5.trans x6
   clear e5 x5
   obtain ⟨c,rfl⟩:∃ k:Nat,c = k:=⟨c.toNat,by omega⟩
   have hc3:c < 3:=by omega
   have hpl:(pAt p c).length <= 1000:=by
    have:=hd.l0;have:=hd.l1;have:=hd.l2
    match c,hc3 with
    | 0,_=>show p.1.length <= _;omega
    | 1,_=>show p.2.1.length <= _;omega
    | 2,_=>show p.2.2.length <= _;omega
   walk_at "st"
   refine bH e6 hat ?_
   refine ⟨_,_,rfl,tX hc3,_,rfl, ?_⟩
   refine yY hft x6.box hpl fun m ρ M7 hml hmw x7 p7 hp7 => ?_
   have e7:=x7.keep pf _ hpfb e6
   have x7:=x6.trans x7
   refine ⟨_,_,rfl,ah af, ?_⟩
   have g8:=Ge.new (o := .lst (m.map .int)) hp7
   have e8:=g8 _ _ e7
   have x8:=x7.ge g8
   generalize aj M7 p7 (.lst (m.map .int)) = M8 at g8 e8 x8 ⊢
   clear e6 x6 e7 x7 g8 hp7
   walk_at "st"
   refine bH e8 hat ?_
   refine ⟨_,_,rfl,tX hc3,_,rfl, ?_⟩
   refine yZ hpl rfl fun ρ p9 hp9 => ?_
   refine ⟨_,_,rfl,ah af, ?_⟩
   have g9:=Ge.new (o := .lst ((aM (pAt p c) m).map .int)) hp9
   have e9:=g9 _ _ e8
   have x9:=x8.ge g9
   generalize aj M8 p9 (.lst ((aM (pAt p c) m).map .int)) = M9 at g9 e9 x9 ⊢
   clear e8 x8 g9 hp9
   walk_at "st"
   refine bH e9 hat ?_
   refine pi hc3 ⟨by rw [sizeLine_eq];first | decide | omega, .inr trivial,by rw [sizeLine_eq,List.length_take,gp,List.length_singleton];omega, ?_⟩
   refine bH e9 hat ?_
   refine pj hc3 ⟨.inr trivial,by rw [sizeLine_eq,List.length_append,List.length_take,List.length_drop,gp,List.length_singleton];omega, ?_⟩
   rw [pq hc3]
   refine cG e9 (j:=a) (by rw [List.length_map];unfold ixN;rw [if_pos (by omega),if_pos (by omega),Int.toNat_natCast]) ?_
   have x10:Bx b M (aj M9 pf (.lst ((qs.map prD).set a (prD (cn p (aM (pAt p c) m) c))))):=x9.upd hpf hpfb
   have e10:aj M9 pf (.lst ((qs.map prD).set a (prD (cn p (aM (pAt p c) m) c)))) pf = some (.lst ((qs.set a (cn p (aM (pAt p c) m) c)).map prD)):=by rw [af,List.map_set]
   generalize aj M9 pf (.lst ((qs.map prD).set a (prD (cn p (aM (pAt p c) m) c)))) = M10 at x10 e10 ⊢
   clear e9 x9
   have hT2:∀ k i j,Tn (qs.set a (cn p (aM (pAt p c) m) c)) k i j + tm (cn p m c) k i j = Tn ps k i j:=fun k i j=>by
    have h1:=AJ (p:=p) (m:=m) (s:=c) (k:=k) (i:=i) (j:=j) hml.symm
    rw [tW hp,hT, <- h1];omega
   have hB2:∀ y ∈ qs.set a (cn p (aM (pAt p c) m) c),Dr (B + 2 * (l ++ [t]).length) L0 L1 L2 y:=fun y hy=>by
    have hmo:B + 2 * l.length <= B + 2 * (l ++ [t]).length:=by rw [List.length_append,List.length_singleton];omega
    rcases List.mem_or_eq_of_mem_set hy with h | h
    ·exact (hqs y h).mono hmo
    ·rw [h]
     refine (hd.mono hmo).set (wf hml.symm) ?_
     have:=(hd.at (s:=c)).less hmw
     exact this.mono (by rw [List.length_append,List.length_singleton];omega)
   have hB3:Dr (B + 2 * (l ++ [t]).length) L0 L1 L2 (cn p m c):=by
    have hmo:B + 2 * l.length <= B + 2 * (l ++ [t]).length:=by rw [List.length_append,List.length_singleton];omega
    exact (hd.mono hmo).set hml (hmw.mono (by rw [List.length_append,List.length_singleton];omega))
   have hl2:(qs.set a (cn p (aM (pAt p c) m) c)).length = qs.length:=List.length_set
   generalize qs.set a (cn p (aM (pAt p c) m) c) = us at hT2 hB2 hl2 e10
   walk_at "st"
   refine ⟨by rw [sizeLine_eq];first | decide | omega, ?_⟩
   refine pi hc3 ⟨by rw [sizeLine_eq];first | decide | omega, .inr trivial,by rw [sizeLine_eq,List.length_take,gp,List.length_singleton];omega, ?_⟩
   refine ⟨by rw [sizeLine_eq];first | decide | omega, ?_⟩
   refine pj hc3 ⟨.inr trivial,by rw [sizeLine_eq,List.length_append,List.length_take,List.length_drop,gp,List.length_singleton];omega, ?_⟩
   rw [pq hc3]
   walk_at "st"
   refine ⟨⟨_,e10⟩,jq e10 ?_⟩
   walk_at "wp"
   rw [List.length_map]
   refine hft x10.box (by omega) (by omega) fun w M11 w0 w1 x11 => ?_
   have e11:=x11.keep pf _ hpfb e10
   have x11:=x10.trans x11
   refine ⟨_,_,_,_,rfl,rfl,e11,w0,by rw [List.length_map];omega,by rw [List.length_map,sizeLine_eq];omega, ?_⟩
   refine hF _ _ ⟨us.take w.toNat ++ cn p m c :: us.drop w.toNat,_,_,_,_,_,_,_,_,_,_,rfl,x11.upd hpf hpfb, ?_, ?_, ?_, ?_⟩
   ·rw [af,List.map_append,List.map_cons,List.map_take,List.map_drop]
   ·rw [List.length_append,List.length_cons,List.length_take,List.length_drop,List.length_append,List.length_singleton];omega
   ·intro y hy
    rcases List.mem_append.mp hy with h | h
    ·exact hB2 y (List.mem_of_mem_take h)
    ·rcases List.mem_cons.mp h with rfl | h
     ·exact hB3
     ·exact hB2 y (List.mem_of_mem_drop h)
   ·intro k i j
    rw [tV,hT2]
  ·rintro ρ M4 ⟨qs,o5,o6,o7,o8,o9,o10,o11,o12,o13,o14,rfl,x4,e4,hlq,hqs,hT⟩
   dsimp only
   rw [List.length_range] at hlq hqs
   walk_at "st"
   refine ⟨_,_,rfl,rfl,by rw [sizeLine_eq];first | decide | omega, .inr trivial,by rw [sizeLine_eq];simp, ?_⟩
   refine q qs pf M4 (fun p hp=>(hqs p hp).mono (by omega)) (by omega) (fun z => ?_) hT x4 hpf hpfb e4
   subst z
   cases ps with
   | nil=>exact hne rfl
   | cons _ _=>rw [List.length_nil,List.length_cons] at hlq;omega
end
section
open PySem PySem.Spec PyProof.Rows L2.Srt
variable {T:List FD}
noncomputable def dP (s:Stmt):FD:=⟨"_law_lengths_of",s,["_law_sizes_here"],1,
 (.cons (.ret (.tup (.cons (.bin .mul (.ix (.var 0) (.int 0)) (.ix (.var 0) (.int 1))) (.cons (.bin .mul (.ix (.var 0) (.int 1)) (.ix (.var 0) (.int 2))) (.cons (.bin .mul (.ix (.var 0) (.int 0)) (.ix (.var 0) (.int 2))) .nil)))))
 .nil)⟩
theorem j3 {f:Nat} {s:Stmt} (hf:T[f]? = some (dP s)) {n:Nat} (hn : 1 <= n) {x y z:Nat} (hx:x <= 1000) (hy:y <= 1000) {M:Mem} {Q:QD} (q:Q (.tup [.int (x * y:Nat), .int (y * z:Nat), .int (x * z:Nat)]) M):phi T n f [.tup [.int x, .int y, .int z]] M Q:=by
 refine aq (by omega) hf rfl (ρ := [some _]) rfl ?_
 unfold dP
 walk_at "st"
 refine ⟨_,rfl,_,rfl,cH (by omega),_,rfl,_,rfl,cH (by omega),_,rfl,_,rfl,cH (by omega),by rw [sizeLine_eq];first | decide | omega, ?_⟩
 rw [Int.natCast_mul,Int.natCast_mul,Int.natCast_mul] at q
 exact q
noncomputable def gu (s:Stmt):FD:=⟨"_law_seven",s,[],0,
 (.cons (.ret (.lst (.cons (.tup (.cons (.tup (.cons (.int 1) (.cons (.int 0) (.cons (.int 0) (.cons (.int 1) .nil))))) (.cons (.tup (.cons (.int 1) (.cons (.int 0) (.cons (.int 0) (.cons (.int 1) .nil))))) (.cons (.tup (.cons (.int 1) (.cons (.int 0) (.cons (.int 0) (.cons (.int 1) .nil))))) .nil)))) (.cons (.tup (.cons (.tup (.cons (.int 0) (.cons (.int 0) (.cons (.int 1) (.cons (.int 1) .nil))))) (.cons (.tup (.cons (.int 1) (.cons (.int 0) (.cons (.int 0) (.cons (.int 0) .nil))))) (.cons (.tup (.cons (.int 0) (.cons (.int 0) (.cons (.int 1) (.cons (.neg (.int 1)) .nil))))) .nil)))) (.cons (.tup (.cons (.tup (.cons (.int 1) (.cons (.int 0) (.cons (.int 0) (.cons (.int 0) .nil))))) (.cons (.tup (.cons (.int 0) (.cons (.int 1) (.cons (.int 0) (.cons (.neg (.int 1)) .nil))))) (.cons (.tup (.cons (.int 0) (.cons (.int 1) (.cons (.int 0) (.cons (.int 1) .nil))))) .nil)))) (.cons (.tup (.cons (.tup (.cons (.int 0) (.cons (.int 0) (.cons (.int 0) (.cons (.int 1) .nil))))) (.cons (.tup (.cons (.neg (.int 1)) (.cons (.int 0) (.cons (.int 1) (.cons (.int 0) .nil))))) (.cons (.tup (.cons (.int 1) (.cons (.int 0) (.cons (.int 1) (.cons (.int 0) .nil))))) .nil)))) (.cons (.tup (.cons (.tup (.cons (.int 1) (.cons (.int 1) (.cons (.int 0) (.cons (.int 0) .nil))))) (.cons (.tup (.cons (.int 0) (.cons (.int 0) (.cons (.int 0) (.cons (.int 1) .nil))))) (.cons (.tup (.cons (.neg (.int 1)) (.cons (.int 1) (.cons (.int 0) (.cons (.int 0) .nil))))) .nil)))) (.cons (.tup (.cons (.tup (.cons (.neg (.int 1)) (.cons (.int 0) (.cons (.int 1) (.cons (.int 0) .nil))))) (.cons (.tup (.cons (.int 1) (.cons (.int 1) (.cons (.int 0) (.cons (.int 0) .nil))))) (.cons (.tup (.cons (.int 0) (.cons (.int 0) (.cons (.int 0) (.cons (.int 1) .nil))))) .nil)))) (.cons (.tup (.cons (.tup (.cons (.int 0) (.cons (.int 1) (.cons (.int 0) (.cons (.neg (.int 1)) .nil))))) (.cons (.tup (.cons (.int 0) (.cons (.int 0) (.cons (.int 1) (.cons (.int 1) .nil))))) (.cons (.tup (.cons (.int 1) (.cons (.int 0) (.cons (.int 0) (.cons (.int 0) .nil))))) .nil)))) .nil)))))))))
 .nil)⟩
theorem tY {f:Nat} {s:Stmt} (hf:T[f]? = some (gu s)) {n:Nat} (hn : 1 <= n) {M:Mem} {Q:QD} (q:∀ p,M p = none -> Q (.ref p) (aj M p (.lst (seven.map prD)))):phi T n f [] M Q:=by
 refine aq (by omega) hf rfl (ρ := []) rfl ?_
 unfold gu
 have h4 : 0 + 1 + 1 + 1 + 1 <= sizeLine:=by rw [sizeLine_eq];first | decide | omega
 have h3 : 0 + 1 + 1 + 1 <= sizeLine:=by rw [sizeLine_eq];first | decide | omega
 have h7 : 0 + 1 + 1 + 1 + 1 + 1 + 1 + 1 <= sizeLine:=by rw [sizeLine_eq];first | decide | omega
 walk_at "st"
 repeat refine ⟨by assumption, ?_⟩
 exact q
noncomputable def pv (T:List FD) (k f:Nat):Prop := ∀ {n m p:Nat} {M:Mem} {Q:QD},n <= 50 -> m <= 50 -> p <= 50 -> (∀ (L:List Tm) d M',L.Perm (bn n m p) -> Ge M M' -> M d = none -> M' d = some (.dct true (L.map kcD)) -> Q (.ref d) M') -> phi T k f [.tup [.int n, .int m, .int p]] M Q
noncomputable def kg (T:List FD) (n f:Nat):Prop := ∀ {b:Addr} {L0 L1 L2 most:Nat} {B:Int},(1 <= B /\ B <= 100) -> L0 <= 100 -> L1 <= 100 -> L2 <= 100 -> most <= 20 -> ∀ {ps:List Pr},(∀ p ∈ ps,Dr B L0 L1 L2 p) -> ps ≠ [] -> ps.length <= 10000 -> ∀ {y0 y1 y2:D} {pp:Addr} {M:Mem} {Q:QD},Box b M -> pp ≠ b -> M pp = some (.lst (ps.map prD)) ->
 (∀ (qs:List Pr) pf M',(∀ p ∈ qs,Dr (B + 2 * most) L0 L1 L2 p) -> qs.length <= ps.length + most -> qs ≠ [] -> (∀ k i j,Tn qs k i j = Tn ps k i j) -> Bx b M M' -> M pf = none -> pf ≠ b -> M' pf = some (.lst (qs.map prD)) -> Q (.tup [y0,y1,y2, .ref pf]) M') ->
 phi T n f [.ref b, .tup [y0,y1,y2], .ref pp, .int most] M Q
noncomputable def kh (T:List FD) (n f:Nat):Prop := ∀ {L0 L1 L2:Nat},L0 <= 1000 -> L1 <= 1000 -> L2 <= 1000 -> ∀ {L:List Tm},(L.map (·.1)).Nodup -> L.length <= 1000000 -> ∀ {d:Addr} {M:Mem} {Q:QD},M d = some (.dct true (L.map kcD)) ->
 (∀ (rs:List Tm) p M',rs.Perm L -> Ge M M' -> M p = none -> M' p = some (.lst ((rs.map (plP L0 L1 L2)).map prD)) -> Q (.ref p) M') -> phi T n f [.tup [.int L0, .int L1, .int L2], .ref d] M Q
noncomputable def hW (s:Stmt) (ft fd fv fl fp fs:Nat):FD:=⟨"_law_tables",s,["_law_box_here", "_law_sizes_here", "_law_most", "_law_lengths"],3,
 (.cons (.ite (.and (.cons (.cmp .eq (.var 1) (.tup (.cons (.int 2) (.cons (.int 2) (.cons (.int 2) .nil))))) (.cons (.cmp .eq (.call ft (.cons (.var 0) (.cons (.int 2) .nil))) (.int 0)) .nil))) (.cons (.ret (.call fd (.cons (.var 0) (.cons (.tup (.cons (.int 4) (.cons (.int 4) (.cons (.int 4) .nil)))) (.cons (.call fv .nil) (.cons (.var 2) .nil))))))
 .nil) .nil)
 (.cons (.asg (.name 3) (.call fl (.cons (.var 1) .nil)))
 (.cons (.ret (.call fd (.cons (.var 0) (.cons (.var 3) (.cons (.call fp (.cons (.var 3) (.cons (.call fs (.cons (.var 1) .nil)) .nil))) (.cons (.var 2) .nil))))))
 .nil)))⟩
theorem wg:∀ p ∈ seven,Dr 1 4 4 4 p:=by
 intro p hp
 have h:∀ p ∈ seven,(p.1.length = 4 /\ p.2.1.length = 4 /\ p.2.2.length = 4) /\ (∀ x ∈ p.1, -1 <= x /\ x <= 1) /\ (∀ x ∈ p.2.1, -1 <= x /\ x <= 1) /\ (∀ x ∈ p.2.2, -1 <= x /\ x <= 1):=by decide
 obtain ⟨⟨a,b,c⟩,d,e,g⟩:=h p hp
 exact ⟨a,b,c,d,e,g⟩
theorem ng {L:Nat} {k:Int}:Within 1 (one L k):=fun x hx=>by
 unfold one at hx
 obtain ⟨h,_,rfl⟩:=List.mem_map.mp hx
 split <;> omega
theorem ff {n m p:Nat}:(bn n m p).length = n * (m * p):=by unfold bn;rw [yQ,List.length_range]
theorem pz {n m p:Nat} {t:Tm} (h:t ∈ bn n m p):(0 <= t.1.1 /\ t.1.1 < (n * p:Nat)) /\ (0 <= t.1.2.1 /\ t.1.2.1 < (n * m:Nat)) /\ (0 <= t.1.2.2 /\ t.1.2.2 < (m * p:Nat)):=by
 obtain ⟨a,b,c,ha,hb,hc,rfl⟩:=eF h
 have h1:=eG ha hc
 have h2:=eG ha hb
 have h3:=eG hb hc
 unfold bP
 dsimp only
 omega
theorem AK {L0 L1 L2:Nat} {t:Tm} (h:t.2 = 1):Dr 1 L0 L1 L2 (plP L0 L1 L2 t):=by
 refine ⟨gm,gm,by unfold plP;rw [List.length_map];exact gm,ng,ng,fun x hx => ?_⟩
 unfold plP at hx
 dsimp only at hx
 rw [h] at hx
 obtain ⟨y,hy,rfl⟩:=List.mem_map.mp hx
 have:=ng y hy
 omega
theorem tZ {f ft fd fv fl fp fs:Nat} {s sv sl:Stmt} (hf:T[f]? = some (hW s ft fd fv fl fp fs)) {n:Nat} (hft:eA T (n - 1) ft) (hfd:kg T (n - 1) fd) (hfv:T[fv]? = some (gu sv)) (hfl:T[fl]? = some (dP sl)) (hfp:kh T (n - 1) fp) (hfs:pv T (n - 1) fs) (hn : 2 <= n) {b:Addr} {x y z most:Nat} (hx : 1 <= x /\ x <= 50) (hy : 1 <= y /\ y <= 50) (hz : 1 <= z /\ z <= 50) (h1:x * y <= 100) (h2:y * z <= 100) (h3:x * z <= 100) (h4:x * (y * z) <= 10000) (hm:most <= 20) {M:Mem} {Q:QD} (hb:Box b M)
 (q:∀ (qs:List Pr) pf M',(∀ p ∈ qs,Dr (1 + 2 * most) (x * y) (y * z) (x * z) p) -> qs.length <= x * (y * z) + most -> (∀ k i j,Tn qs k i j = cf (bn x y z) (k,i,j)) -> Bx b M M' -> M pf = none -> pf ≠ b -> M' pf = some (.lst (qs.map prD)) -> Q (.tup [.int (x * y:Nat), .int (y * z:Nat), .int (x * z:Nat), .ref pf]) M') :
 phi T n f [.ref b, .tup [.int x, .int y, .int z], .int most] M Q:=by
 have bne:∀ {M':Mem} {p:Addr},Box b M' -> M' p = none -> p ≠ b:=fun hb' hp w=>by obtain ⟨_,_,_,e⟩:=hb';rw [<- w,hp] at e;cases e
 refine aq (by omega) hf rfl (ρ := [some _,some _,some _,none]) rfl ?_
 unfold hW
 refine gY (fun ρ M' => ρ = [some (.ref b),some (.tup [.int x, .int y, .int z]),some (.int most),none] /\ Bx b M M') (fun R hR => ?_) ?_
 ·walk_at "wp"
  refine ⟨by rw [sizeLine_eq];first | decide | omega, .tuple [.int x, .int y, .int z], .tuple [.int 2, .int 2, .int 2],rfl,rfl, ?_⟩
  refine ⟨_,rfl, ?_⟩
  by_cases h:x = 2 /\ y = 2 /\ z = 2
  ·obtain ⟨rfl,rfl,rfl⟩:=h
   rw [if_pos (by rfl)]
   refine hft hb (by decide) (by decide) fun v M1 _ _ x1 => ?_
   walk_at "wp"
   by_cases hv:v = 0
   ·rw [if_pos (by simp [hv])]
    walk_at "st"
    refine ⟨by rw [sizeLine_eq];first | decide | omega, ?_⟩
    refine tY hfv (by omega) fun p hp => ?_
    have g2:=Ge.new (o := .lst (seven.map prD)) hp
    have e2:=af (M:=M1) (a:=p) (o := .lst (seven.map prD))
    generalize aj M1 p (.lst (seven.map prD)) = M2 at g2 e2 ⊢
    have x2:=x1.ge g2
    refine hfd (B := 1) (by omega) (by omega) (by omega) (by omega) hm wg (by simp [seven]) (by simp [seven]) x2.box (bne x1.box hp) e2 fun qs pf M3 hq hql hqn hqT x3 hpf hpfb e3 => ?_
    refine q qs pf M3 hq (by simp [seven] at hql;omega) (fun k i j => ?_) (x2.trans x3) (x2.none hpf hpfb) hpfb e3
    rw [hqT,wd]
   ·rw [if_neg (by simp [hv])]
    exact hR _ _ ⟨rfl,x1⟩
  ·rw [if_neg]
   ·exact hR _ _ ⟨rfl,Bx.refl hb⟩
   ·intro w
    simp [PyData.eqv,PyData.eqvAll] at w
    exact h (by omega)
 ·rintro ρ M1 ⟨rfl,x1⟩
  walk_at "st"
  refine j3 hfl (by omega) (by omega) (by omega) ?_
  walk_at "st"
  refine hfs (by omega) (by omega) (by omega) fun L d M2 hL g2 hd e2 => ?_
  have hnd:(L.map (·.1)).Nodup:=(hL.map _).nodup_iff.mpr cr
  have hlen:=hL.length_eq
  rw [ff] at hlen
  refine hfp (by omega) (by omega) (by omega) hnd (by omega) e2 fun rs p M3 hrs g3 hp e3 => ?_
  have x3:=x1.ge (g2.trans g3)
  have hpb:=bne (x1.ge g2).box hp
  have hrt:=hrs.trans hL
  refine hfd (B := 1) (by omega) h1 h2 h3 hm (ps:=rs.map (plP (x * y) (y * z) (x * z))) ?_ ?_ ?_ x3.box hpb e3 fun qs pf M4 hq hql hqn hqT x4 hpf hpfb e4 => ?_
  ·intro u hu
   obtain ⟨t,ht,rfl⟩:=List.mem_map.mp hu
   obtain ⟨a,b',c,_,_,_,rfl⟩:=eF (hrt.mem_iff.mp ht)
   exact AK rfl
  ·intro w
   have:=congrArg List.length w
   rw [List.length_map,hrt.length_eq,ff,List.length_nil] at this
   have : 1 * (1 * 1) <= x * (y * z):=Nat.mul_le_mul hx.1 (Nat.mul_le_mul hy.1 hz.1)
   omega
  ·rw [List.length_map,hrt.length_eq,ff];omega
  ·refine q qs pf M4 hq (by rw [List.length_map,hrt.length_eq,ff] at hql;exact hql) (fun k i j => ?_) (x3.trans x4) (x3.none hpf hpfb) hpfb e4
   rw [hqT,n8 fun t ht=>pz (hrt.mem_iff.mp ht)]
   exact oT hrt
end
section
open PySem PySem.Spec PyProof.Rows L2.Srt
noncomputable def tr (l:List Int) (n m:Nat):List Int:=(List.range (n * m)).map fun t=>gz l ((t % n * m + t / n:Nat):Int)
theorem tr_len {l:List Int} {n m:Nat}:(tr l n m).length = n * m:=by simp [tr]
theorem cu {a b m:Nat} (hb:b < m):(a * m + b) % m = b:=by
 rw [Nat.add_comm,Nat.add_mul_mod_self_right,Nat.mod_eq_of_lt hb]
theorem nh {F:Nat -> Int} {n:Nat} {i:Nat} (h:i < n):gz ((List.range n).map F) (i:Nat) = F i:=by
 unfold gz
 rw [if_neg (by omega),Int.toNat_natCast,List.getD_eq_getElem?_getD,List.getElem?_map,List.getElem?_range h];rfl
theorem fg {l:List Int} {n m a b:Nat} (ha:a < n) (hb:b < m):gz (tr l n m) ((b * n + a:Nat):Int) = gz l ((a * m + b:Nat):Int):=by
 unfold tr
 have h:=eG hb ha
 rw [nh (by rw [Nat.mul_comm n m];exact h),cu ha,bK ha]
theorem AL {a b:List Int} (hl:a.length = b.length) (h:∀ i:Nat,i < a.length -> gz a (i:Nat) = gz b (i:Nat)):a = b:=by
 refine List.ext_getElem hl fun i h1 h2 => ?_
 have:=h i h1
 unfold gz at this
 rw [if_neg (by omega),if_neg (by omega),Int.toNat_natCast,List.getD_eq_getElem?_getD,List.getD_eq_getElem?_getD,List.getElem?_eq_getElem h1,List.getElem?_eq_getElem h2] at this
 exact this
theorem fh {n m i:Nat} (h:i < n * m):∃ a b,a < n /\ b < m /\ i = a * m + b:=by
 have hm : 0 < m:=by
  rcases Nat.eq_zero_or_pos m with z | z
  ·rw [z] at h;simp at h
  ·exact z
 exact ⟨i / m,i % m,Nat.div_lt_of_lt_mul (by rw [Nat.mul_comm];exact h),Nat.mod_lt _ hm,by rw [Nat.mul_comm];exact (Nat.div_add_mod i m).symm⟩
theorem gv {l:List Int} {n m:Nat} (hl:l.length = n * m):tr (tr l n m) m n = l:=by
 refine AL (by rw [tr_len,hl,Nat.mul_comm]) fun i hi => ?_
 rw [tr_len,Nat.mul_comm] at hi
 obtain ⟨a,b,ha,hb,rfl⟩:=fh hi
 rw [fg hb ha,fg ha hb]
theorem BE {B:Int} (hB : 0 <= B) {l:List Int} {n m:Nat} (h:Within B l):Within B (tr l n m):=fun x hx=>by
 unfold tr at hx
 obtain ⟨t,_,rfl⟩:=List.mem_map.mp hx
 unfold gz
 rw [if_neg (Int.not_lt.mpr (Int.natCast_nonneg _)),List.getD_eq_getElem?_getD]
 cases e:l[((t % n * m + t / n:Nat):Int).toNat]? with
 | none=>simp;omega
 | some y=>simp only [Option.getD_some];exact h y (List.mem_of_getElem? e)
theorem j4 {n m p x x' y y' z z':Nat} (hx:x < n) (hx':x' < n) (hy:y < m) (hy':y' < m) (hz:z < p) (hz':z' < p):cf (bn n m p) (((x * p + z:Nat):Int),((x' * m + y:Nat):Int),((y' * p + z':Nat):Int)) = if x = x' /\ y = y' /\ z = z' then 1 else 0:=by
 by_cases h:x = x' /\ y = y' /\ z = z'
 ·obtain ⟨rfl,rfl,rfl⟩:=h
  rw [if_pos ⟨rfl,rfl,rfl⟩]
  have hm:bP m p x y z ∈ bn n m p:=by
   unfold bn dR
   exact List.mem_flatMap.mpr ⟨x,List.mem_range.mpr hx,List.mem_flatMap.mpr ⟨y,List.mem_range.mpr hy,List.mem_map_of_mem (List.mem_range.mpr hz)⟩⟩
  exact eE cr hm
 ·rw [if_neg h]
  refine eD fun t ht e=>h ?_
  obtain ⟨a,b,c,ha,hb,hc,rfl⟩:=eF ht
  unfold bP at e
  have e1:=congrArg (fun q:K3=>q.1) e
  have e2:=congrArg (fun q:K3=>q.2.1) e
  have e3:=congrArg (fun q:K3=>q.2.2) e
  dsimp only at e1 e2 e3
  have e1:=Int.ofNat.inj e1
  have e2:=Int.ofNat.inj e2
  have e3:=Int.ofNat.inj e3
  have a1:a = x:=by rw [<- bK (a:=a) hc,e1,bK hz]
  have a2:c = z:=by rw [<- cu (a:=a) hc,e1,cu hz]
  have a3:a = x':=by rw [<- bK (a:=a) hb,e2,bK hy]
  have a4:b = y:=by rw [<- cu (a:=a) hb,e2,cu hy]
  have a5:b = y':=by rw [<- bK (a:=b) hc,e3,bK hz']
  have a6:c = z':=by rw [<- cu (a:=b) hc,e3,cu hz']
  omega
theorem j5 {n m p:Nat} {k i j:Int} (h : ¬ ((0 <= k /\ k < (n * p:Nat)) /\ (0 <= i /\ i < (n * m:Nat)) /\ (0 <= j /\ j < (m * p:Nat)))):cf (bn n m p) (k,i,j) = 0:=eD fun t ht e=>h (by
 have:=pz ht
 rw [e] at this
 exact this)
noncomputable def tuP (n m p:Nat) (u:Pr):Pr:=(u.2.1,tr u.2.2 n p,tr u.1 n m)
noncomputable def miP (n m p:Nat) (u:Pr):Pr:=(tr u.2.1 m p,tr u.1 n m,tr u.2.2 n p)
theorem AM {n m p:Nat} {u:Pr} {x x' y y' z z':Nat} (hx:x < m) (hx':x' < m) (hy:y < p) (hy':y' < p) (hz:z < n) (hz':z' < n):tm (tuP n m p u) ((x * n + z:Nat):Int) ((x' * p + y:Nat):Int) ((y' * n + z':Nat):Int) = tm u ((z' * p + y':Nat):Int) ((z * m + x:Nat):Int) ((x' * p + y:Nat):Int):=by
 unfold tm tuP
 dsimp only
 rw [fg hz' hy',fg hz hx]
 simp only [Int.mul_assoc,Int.mul_comm,Int.mul_left_comm]
theorem AN {n m p:Nat} {u:Pr} {x x' y y' z z':Nat} (hx:x < p) (hx':x' < p) (hy:y < m) (hy':y' < m) (hz:z < n) (hz':z' < n):tm (miP n m p u) ((x * n + z:Nat):Int) ((x' * m + y:Nat):Int) ((y' * n + z':Nat):Int) = tm u ((z * p + x:Nat):Int) ((z' * m + y':Nat):Int) ((y * p + x':Nat):Int):=by
 unfold tm miP
 dsimp only
 rw [fg hy hx',fg hz' hy',fg hz hx]
 simp only [Int.mul_assoc,Int.mul_comm,Int.mul_left_comm]
theorem ni {F:Pr -> Pr} {k i j k' i' j':Int} (h:∀ u,tm (F u) k i j = tm u k' i' j'):∀ {us:List Pr},Tn (us.map F) k i j = Tn us k' i' j'
 | [] => rfl
 | u :: us=>by rw [List.map_cons,dO,dO,h,ni h]
theorem AO {n m p:Nat} {us:List Pr} (hl:∀ u ∈ us,u.2.1.length = m * p) (h:∀ k i j,Tn us k i j = cf (bn n m p) (k,i,j)) (k i j:Int):Tn (us.map (tuP n m p)) k i j = cf (bn m p n) (k,i,j):=by
 by_cases c:(0 <= k /\ k < (m * n:Nat)) /\ (0 <= i /\ i < (m * p:Nat)) /\ (0 <= j /\ j < (p * n:Nat))
 ·obtain ⟨⟨k0,k1⟩,⟨i0,i1⟩,⟨j0,j1⟩⟩:=c
  obtain ⟨K,rfl⟩:∃ K:Nat,k = K:=⟨k.toNat,by omega⟩
  obtain ⟨I,rfl⟩:∃ K:Nat,i = K:=⟨i.toNat,by omega⟩
  obtain ⟨J,rfl⟩:∃ K:Nat,j = K:=⟨j.toNat,by omega⟩
  obtain ⟨x,z,hx,hz,rfl⟩:=fh (n:=m) (m:=n) (i:=K) (by omega)
  obtain ⟨x',y,hx',hy,rfl⟩:=fh (n:=m) (m:=p) (i:=I) (by omega)
  obtain ⟨y',z',hy',hz',rfl⟩:=fh (n:=p) (m:=n) (i:=J) (by omega)
  rw [ni fun u=>AM hx hx' hy hy' hz hz',h,j4 hz' hz hx hx' hy' hy,j4 hx hx' hy hy' hz hz']
  by_cases e:x = x' /\ y = y' /\ z = z'
  ·rw [if_pos e,if_pos (by omega)]
  ·rw [if_neg e,if_neg (by omega)]
 ·rw [j5 c]
  cases Decidable.em (Tn (us.map (tuP n m p)) k i j = 0) with
  | inl e=>exact e
  | inr e =>
    refine absurd (iZ (L0:=m * p) (L1:=p * n) (L2:=m * n) (us:=us.map (tuP n m p)) (fun u hu => ?_) e) c
    obtain ⟨v,hv,rfl⟩:=List.mem_map.mp hu
    exact ⟨hl v hv,tr_len.trans (Nat.mul_comm _ _),tr_len.trans (Nat.mul_comm _ _)⟩
theorem AQ {n m p:Nat} {us:List Pr} (h:∀ k i j,Tn us k i j = cf (bn n m p) (k,i,j)) (k i j:Int):Tn (us.map (miP n m p)) k i j = cf (bn p m n) (k,i,j):=by
 by_cases c:(0 <= k /\ k < (p * n:Nat)) /\ (0 <= i /\ i < (p * m:Nat)) /\ (0 <= j /\ j < (m * n:Nat))
 ·obtain ⟨⟨k0,k1⟩,⟨i0,i1⟩,⟨j0,j1⟩⟩:=c
  obtain ⟨K,rfl⟩:∃ K:Nat,k = K:=⟨k.toNat,by omega⟩
  obtain ⟨I,rfl⟩:∃ K:Nat,i = K:=⟨i.toNat,by omega⟩
  obtain ⟨J,rfl⟩:∃ K:Nat,j = K:=⟨j.toNat,by omega⟩
  obtain ⟨x,z,hx,hz,rfl⟩:=fh (n:=p) (m:=n) (i:=K) (by omega)
  obtain ⟨x',y,hx',hy,rfl⟩:=fh (n:=p) (m:=m) (i:=I) (by omega)
  obtain ⟨y',z',hy',hz',rfl⟩:=fh (n:=m) (m:=n) (i:=J) (by omega)
  rw [ni fun u=>AN hx hx' hy hy' hz hz',h,j4 hz hz' hy' hy hx hx',j4 hx hx' hy hy' hz hz']
  by_cases e:x = x' /\ y = y' /\ z = z'
  ·rw [if_pos e,if_pos (by omega)]
  ·rw [if_neg e,if_neg (by omega)]
 ·rw [j5 c]
  cases Decidable.em (Tn (us.map (miP n m p)) k i j = 0) with
  | inl e=>exact e
  | inr e =>
    refine absurd (iZ (L0:=p * m) (L1:=m * n) (L2:=p * n) (us:=us.map (miP n m p)) (fun u hu => ?_) e) c
    obtain ⟨v,hv,rfl⟩:=List.mem_map.mp hu
    exact ⟨tr_len.trans (Nat.mul_comm _ _),tr_len.trans (Nat.mul_comm _ _),tr_len.trans (Nat.mul_comm _ _)⟩
end
section
variable {T:List FD}
noncomputable def eI (y:Str) (s:Stmt) (f:Nat):FD:=⟨"_law_same",s,["_law_found",y],2,
 (.cons (.ite (.tru (.isin2 (.var 1) "list" "tuple")) (.cons (.ite (.or (.cons (.cmp .ne (.isin (.var 1) "list") (.isin (.var 0) "list")) (.cons (.cmp .ne (.isin (.var 1) "tuple") (.isin (.var 0) "tuple")) .nil))) (.cons (.ret (.bl false))
 .nil) .nil)
 (.cons (.ret (.and (.cons (.cmp .eq (.blt .len (.cons (.var 0) .nil)) (.blt .len (.cons (.var 1) .nil))) (.cons (.blt .all (.cons (.comp [none,(some 0),(some 1)] ["_law_k", "_law_found",y] (.last (.rng1 (.blt .len (.cons (.var 1) .nil))) (.name 0) .nil (.call f (.cons (.ix (.var 1) (.var 0)) (.cons (.ix (.var 2) (.var 0)) .nil))))) .nil)) .nil))))
 .nil)) .nil)
 (.cons (.ret (.and (.cons (.isin (.var 0) "int") (.cons (.not (.isin (.var 0) "bool")) (.cons (.cmp .eq (.var 0) (.var 1)) .nil)))))
 .nil))⟩
theorem xf {M:Mem} {x d:D} {ds:List D} {i:Int} {Q:QD} (h:ax M x = some ds) (e:atI ds i = some d) (q:Q d M):wIx x (.int i) M Q:=by
 cases x with
 | ref a =>
   simp only [ax] at h
   split at h
   ·next e0=>cases h;exact bH e0 e q
   ·cases h
 | tup es=>cases h;exact ⟨i,d,rfl,e,q⟩
 | con es=>cases h;exact ⟨i,d,rfl,e,q⟩
 | _=>cases h
noncomputable def Sm (M:Mem):Nat -> D -> D -> Prop
 | _, .int i, .int j=>i = j
 | n + 1, .tup ds, .tup es=>ds.length <= 100000 /\ ds.length = es.length /\ ∀ (k:Nat) d e,ds[k]? = some d -> es[k]? = some e -> Sm M n d e
 | n + 1, .ref a, .ref b => ∃ ds es,M a = some (.lst ds) /\ M b = some (.lst es) /\ ds.length <= 100000 /\ ds.length = es.length /\ ∀ (k:Nat) d e,ds[k]? = some d -> es[k]? = some e -> Sm M n d e
 | _,_,_=>False
theorem Sm.ge {M M':Mem} (g:Ge M M'):∀ {n:Nat} {x y:D},Sm M n x y -> Sm M' n x y:=by
 intro n
 induction n with
 | zero=>intro x y h;cases x <;> cases y <;> first | exact h.elim | exact h
 | succ n ih =>
   intro x y h
   cases x <;> cases y <;> first
    | exact h.elim
    | (obtain ⟨ds,es,e1,e2,z,l,q⟩:=h;exact ⟨ds,es,g _ _ e1,g _ _ e2,z,l,fun k d e h1 h2=>ih (q k d e h1 h2)⟩)
    | (obtain ⟨z,l,q⟩:=h;exact ⟨z,l,fun k d e h1 h2=>ih (q k d e h1 h2)⟩)
    | exact h
theorem Sm.int {M:Mem} {n:Nat} {i:Int}:Sm M n (.int i) (.int i):=by unfold Sm;cases n <;> rfl
section
variable {f:Nat} {y:Str} {s:Stmt}
theorem nj (hf:T[f]? = some (eI y s f)) {n:Nat} (hn : 1 <= n) {x:Int} {M:Mem} {Q:QD} (q:Q (.bl true) M):phi T n f [.int x, .int x] M Q:=by
 refine aq (by omega) hf rfl (ρ := [some _,some _]) rfl ?_
 unfold eI
 walk_at "st"
 refine ⟨"int",rfl,false,rfl, ?_⟩
 rw [if_neg (by decide)]
 walk_at "st"
 refine ⟨"int",rfl, ?_⟩
 rw [if_pos (by decide)]
 refine ⟨"int",rfl, ?_⟩
 rw [if_pos (by decide),beq_self_eq_true]
 exact q
theorem ki {n m:Nat} (ih:∀ {x y:D} {M:Mem} {Q:QD},Sm M n x y -> (∀ M',Ge M M' -> Q (.bl true) M') -> phi T m f [x,y] M Q) {u v:D} {ds es:List D} {M:Mem} {N:NC} (hu:ax M u = some ds) (hv:ax M v = some es) (z:ds.length <= 100000) (l:ds.length = es.length)
 (h:∀ (k:Nat) d e,ds[k]? = some d -> es[k]? = some e -> Sm M n d e) (q:∀ ρ M',Ge M M' -> N ρ M' (es.map fun _ => .bl true)) :
 bQ (bu 0) (cc (wAr (phi T m f) (aK (wOp wIx (ck 1) (ck 0)) (aK (wOp wIx (ck 2) (ck 0)) bx)))) (fun _=>True) N (cy 0 (es.length:Int).toNat) [none,some u,some v] M []:=by
 refine az (f:=fun i=>D.int (i:Nat)) (I:=fun l ρ M' acc=>(∃ o0, ρ = [o0,some u,some v]) /\ Ge M M' /\ acc = l.map fun _ => .bl true) aP ⟨⟨_,rfl⟩,Ge.refl,rfl⟩ (fun _ _ _ _ _=>trivial) ?_ ?_
 ·rintro l' i r ρ M1 acc e ⟨⟨o0,rfl⟩,g,rfl⟩
  refine ⟨_,rfl,fun N' hN' => ?_⟩
  have hlt:=am e
  rw [List.length_range] at hlt
  have hi:i < es.length:=by
   have:i ∈ List.range (es.length:Int).toNat:=by rw [e];simp
   have:=List.mem_range.mp this
   omega
  walk_at "wp"
  have h1:ds[i]? = some ds[i]:=List.getElem?_eq_getElem (by omega)
  have h2:es[i]? = some es[i]:=List.getElem?_eq_getElem hi
  refine xf (oS hu g) (eB h1) (xf (oS hv g) (eB h2) (ih ((h i _ _ h1 h2).ge g) fun M2 g2 => ?_))
  refine ⟨by rw [List.length_map,sizeLine_eq];omega,hN' _ _ _ ⟨⟨_,rfl⟩,g.trans g2,by simp⟩⟩
 ·rintro ρ M1 acc ⟨⟨o0,rfl⟩,g,rfl⟩
  have e:(List.range (es.length:Int).toNat).map (fun _=>D.bl true) = es.map fun _ => .bl true:=by
   rw [List.map_const',List.map_const'];simp
  rw [e]
  exact q _ M1 g
theorem nk:∀ es:List D,aF lJ (es.map fun _ => .bl true) = some (es.map fun _=>true)
 | [] => rfl
 | e :: es=>by rw [List.map_cons,List.map_cons];simp only [aF,lJ,nk es];rfl
theorem no {es:List D} {p:Addr} {M:Mem} {Q:QD} (q:Q (.bl true) (aj M p (.lst (es.map fun _ => .bl true)))):qf [.ref p] (aj M p (.lst (es.map fun _ => .bl true))) Q:=by
 refine ⟨_,_,es.map (fun _=>true),rfl,ah af,nk es, ?_⟩
 rw [show ((es.map fun _=>true).all id) = true by simp]
 exact q
theorem zc (hf:T[f]? = some (eI y s f)):∀ {n m:Nat},n + 1 <= m -> ∀ {u v:D} {M:Mem} {Q:QD},Sm M n u v -> (∀ M',Ge M M' -> Q (.bl true) M') -> phi T m f [u,v] M Q:=by
 intro n
 induction n with
 | zero =>
   intro m hm u v M Q h q
   cases u <;> cases v <;> first
    | exact h.elim
    | (have e:=h;unfold Sm at e;subst e;exact nj hf (by omega) (q _ Ge.refl))
 | succ n ih =>
   intro m hm u v M Q h q
   cases u <;> cases v <;> first
    | exact h.elim
    | (have e:=h;unfold Sm at e;subst e;exact nj hf (by omega) (q _ Ge.refl))
    | skip
   case tup.tup ds es =>
    obtain ⟨z,l,h⟩:=h
    refine aq (by omega) hf rfl (ρ := [some _,some _]) rfl ?_
    unfold eI
    walk_at "st"
    refine ⟨"tuple",rfl,true,rfl, ?_⟩
    rw [if_pos rfl]
    walk_at "st"
    refine ⟨"tuple",rfl, "tuple",rfl,_,_,rfl,rfl,false,rfl, ?_⟩
    rw [if_neg (by decide)]
    refine ⟨"tuple",rfl, "tuple",rfl,_,_,rfl,rfl,false,rfl, ?_⟩
    rw [if_neg (by decide)]
    walk_at "st"
    rw [if_pos (by simp [l])]
    refine ⟨by omega,by omega, ?_⟩
    exact ki (ih (m:=m - 1) (by omega)) rfl rfl z l h fun ρ M' g p hp=>no (q _ (g.trans (Ge.new hp)))
   case ref.ref a b =>
    obtain ⟨ds,es,e1,e2,z,l,h⟩:=h
    refine aq (by omega) hf rfl (ρ := [some _,some _]) rfl ?_
    unfold eI
    have t1:tyN M (.ref a) = some "list" := by simp [tyN,e1]
    have t2:tyN M (.ref b) = some "list" := by simp [tyN,e2]
    walk_at "st"
    refine ⟨"list",t2,true,rfl, ?_⟩
    rw [if_pos rfl]
    walk_at "st"
    refine ⟨"list",t2, "list",t1,_,_,rfl,rfl,false,rfl, ?_⟩
    rw [if_neg (by decide)]
    refine ⟨"list",t2, "list",t1,_,_,rfl,rfl,false,rfl, ?_⟩
    rw [if_neg (by decide)]
    walk_at "st"
    refine jt (ah e1) (jt (ah e2) ?_)
    walk_at "wp"
    rw [if_pos (by simp [l])]
    refine jt (ah e2) ?_
    refine ⟨_,rfl,by omega,by omega, ?_⟩
    exact ki (ih (m:=m - 1) (by omega)) (ah e1) (ah e2) z l h fun ρ M' g p hp=>no (q _ (g.trans (Ge.new hp)))
end
end
section
namespace K24
noncomputable def ab (i:Nat):Stmt:=PySem.Challenge.pw_fewtimes_k24_tables_turned.main.body.getD i (.Pass ⟨0,0,0,0⟩)
noncomputable def b0:MSs :=
 (.cons (.asg (.tup (.cons (.name 1) (.cons (.name 2) (.cons (.name 3) (.cons (.name 4) .nil))))) (.var 0))
 (.cons (.ret (.tup (.cons (.var 2) (.cons (.var 3) (.cons (.var 1) (.cons (.comp [none,none,none] ["l", "r", "o"] (.last (.seq (.var 4)) (.tup (.cons (.name 0) (.cons (.name 1) (.cons (.name 2) .nil)))) .nil (.tup (.cons (.var 1) (.cons (.var 2) (.cons (.var 0) .nil)))))) .nil))))))
 .nil))
noncomputable def d0:FD:=⟨"turned",ab 1,["scheme", "left", "right", "many", "products"],1,b0⟩
noncomputable def b1:MSs :=
 (.cons (.asg (.tup (.cons (.name 1) (.cons (.name 2) (.cons (.name 3) (.cons (.name 4) .nil))))) (.var 0))
 (.cons (.ret (.tup (.cons (.var 2) (.cons (.var 1) (.cons (.var 3) (.cons (.comp [none,none,none] ["l", "r", "o"] (.last (.seq (.var 4)) (.tup (.cons (.name 0) (.cons (.name 1) (.cons (.name 2) .nil)))) .nil (.tup (.cons (.var 1) (.cons (.var 0) (.cons (.var 2) .nil)))))) .nil))))))
 .nil))
noncomputable def d1:FD:=⟨"mirrored",ab 2,["scheme", "left", "right", "many", "products"],1,b1⟩
noncomputable def b2:MSs :=
 (.cons (.ret (.blt .tuple (.cons (.comp [none,none,(some 0),(some 2),(some 1)] ["b", "a", "part", "columns", "rows"] (.more (.rng1 (.var 2)) (.name 0) .nil (.last (.rng1 (.var 4)) (.name 1) .nil (.ix (.var 2) (.bin .add (.bin .mul (.var 1) (.var 3)) (.var 0)))))) .nil)))
 .nil)
noncomputable def d2:FD:=⟨"by_columns",ab 3,["part", "rows", "columns"],3,b2⟩
noncomputable def b3:MSs :=
 (.cons (.asg (.tup (.cons (.name 2) (.cons (.name 3) (.cons (.name 4) .nil)))) (.var 1))
 (.cons (.asg (.tup (.cons (.name 5) (.cons (.name 6) (.cons (.name 7) (.cons (.name 8) .nil))))) (.call 0 (.cons (.var 0) .nil)))
 (.cons (.ret (.tup (.cons (.var 5) (.cons (.var 6) (.cons (.var 7) (.cons (.comp [none,none,none,(some 2),(some 4),(some 3)] ["l", "r", "o", "n", "p", "m"] (.last (.seq (.var 8)) (.tup (.cons (.name 0) (.cons (.name 1) (.cons (.name 2) .nil)))) .nil (.tup (.cons (.var 0) (.cons (.call 2 (.cons (.var 1) (.cons (.var 3) (.cons (.var 4) .nil)))) (.cons (.call 2 (.cons (.var 2) (.cons (.var 3) (.cons (.var 5) .nil)))) .nil)))))) .nil))))))
 .nil)))
noncomputable def d3:FD:=⟨"tables_turned",ab 4,["scheme", "sizes", "n", "m", "p", "left", "right", "many", "products"],2,b3⟩
noncomputable def b4:MSs :=
 (.cons (.asg (.tup (.cons (.name 2) (.cons (.name 3) (.cons (.name 4) .nil)))) (.var 1))
 (.cons (.asg (.tup (.cons (.name 5) (.cons (.name 6) (.cons (.name 7) (.cons (.name 8) .nil))))) (.call 1 (.cons (.var 0) .nil)))
 (.cons (.ret (.tup (.cons (.var 5) (.cons (.var 6) (.cons (.var 7) (.cons (.comp [none,none,none,(some 3),(some 4),(some 2)] ["l", "r", "o", "m", "p", "n"] (.last (.seq (.var 8)) (.tup (.cons (.name 0) (.cons (.name 1) (.cons (.name 2) .nil)))) .nil (.tup (.cons (.call 2 (.cons (.var 0) (.cons (.var 3) (.cons (.var 4) .nil)))) (.cons (.call 2 (.cons (.var 1) (.cons (.var 5) (.cons (.var 3) .nil)))) (.cons (.call 2 (.cons (.var 2) (.cons (.var 5) (.cons (.var 4) .nil)))) .nil)))))) .nil))))))
 .nil)))
noncomputable def d4:FD:=⟨"tables_mirrored",ab 5,["scheme", "sizes", "n", "m", "p", "left", "right", "many", "products"],2,b4⟩
noncomputable def d5:FD:=iV (ab 7)
noncomputable def b6:MSs :=
 (.cons (.asg (.name 2) (.bin .mod (.bin .mul (.bin .add (.bin .add (.bin .mod (.var 0) (.int 1000000007)) (.bin .mul (.int 7) (.var 1))) (.int 1)) (.int 48271)) (.int 2147483647)))
 (.cons (.asg (.name 3) (.bin .mod (.bin .mul (.var 2) (.bin .add (.bin .add (.bin .mod (.var 2) (.int 1009)) (.var 1)) (.int 3))) (.int 998244353)))
 (.cons (.ret (.bin .fdiv (.bin .mod (.bin .add (.bin .mul (.var 3) (.int 39373)) (.var 2)) (.int 2147483629)) (.int 64)))
 .nil)))
noncomputable def d6:FD:=⟨"_law_mixed",ab 8,["_law_number", "_law_k", "_law_once", "_law_twice"],2,b6⟩
noncomputable def d7:FD:=qI (ab 9) 5 6
noncomputable def d8:FD:=mN (ab 10) 6
noncomputable def d9:FD:=eI "_law_due" (ab 11) 9
noncomputable def d10:FD:=fK "_law_part" "_law_number" (ab 12)
noncomputable def d11:FD:=mY "_law_scheme" (ab 13) 10
noncomputable def d12:FD:=jv "_law_sizes_here" (ab 14)
noncomputable def d13:FD:=dP (ab 15)
noncomputable def d14:FD:=hJ (ab 16)
noncomputable def d15:FD:=fN "_law_number" (ab 17) 14
noncomputable def d16:FD:=jw "_law_part" "_law_number" (ab 18)
noncomputable def d17:FD:=fO (ab 19) 8 16
noncomputable def d18:FD:=gu (ab 20)
noncomputable def d19:FD:=hW (ab 21) 8 17 18 13 15 12
noncomputable def d20:FD:=jy (ab 22) 8
noncomputable def b21:MSs :=
 (.cons (.ret (.blt .tuple (.cons (.comp [none,(some 0),(some 1),(some 2)] ["_law_at", "_law_part", "_law_rows", "_law_columns_here"] (.last (.rng1 (.bin .mul (.var 1) (.var 2))) (.name 0) .nil (.ix (.var 1) (.bin .add (.bin .mul (.bin .mod (.var 0) (.var 2)) (.var 3)) (.bin .fdiv (.var 0) (.var 2)))))) .nil)))
 .nil)
noncomputable def d21:FD:=⟨"_law_columns",ab 23,["_law_part", "_law_rows", "_law_columns_here"],3,b21⟩
noncomputable def b22:MSs :=
 (.cons (.asg (.tup (.cons (.name 2) (.cons (.name 3) (.cons (.name 4) .nil)))) (.var 1))
 (.cons (.asg (.name 5) (.comp [none,none,none,(some 2),(some 4),(some 3)] ["_law_l", "_law_r", "_law_o", "_law_n", "_law_p", "_law_m"] (.last (.seq (.ix (.var 0) (.int 3))) (.tup (.cons (.name 0) (.cons (.name 1) (.cons (.name 2) .nil)))) .nil (.tup (.cons (.var 1) (.cons (.call 21 (.cons (.var 2) (.cons (.var 3) (.cons (.var 4) .nil)))) (.cons (.call 21 (.cons (.var 0) (.cons (.var 3) (.cons (.var 5) .nil)))) .nil)))))))
 (.cons (.ret (.bin .add (.call 13 (.cons (.tup (.cons (.var 3) (.cons (.var 4) (.cons (.var 2) .nil)))) .nil)) (.tup (.cons (.var 5) .nil))))
 .nil)))
noncomputable def d22:FD:=⟨"_law_turned",ab 24,["_law_scheme", "_law_sizes_here", "_law_n", "_law_m", "_law_p", "_law_products"],2,b22⟩
noncomputable def b23:MSs :=
 (.cons (.asg (.tup (.cons (.name 2) (.cons (.name 3) (.cons (.name 4) .nil)))) (.var 1))
 (.cons (.asg (.name 5) (.lst .nil))
 (.cons (.for (.tup (.cons (.name 6) (.cons (.name 7) (.cons (.name 8) .nil)))) (.seq (.ix (.var 0) (.int 3))) (.cons (.drop (.meth .append (.var 5) (.tup (.cons (.call 21 (.cons (.var 7) (.cons (.var 3) (.cons (.var 4) .nil)))) (.cons (.call 21 (.cons (.var 6) (.cons (.var 2) (.cons (.var 3) .nil)))) (.cons (.call 21 (.cons (.var 8) (.cons (.var 2) (.cons (.var 4) .nil)))) .nil))))))
 .nil))
 (.cons (.ret (.bin .add (.call 13 (.cons (.tup (.cons (.var 4) (.cons (.var 3) (.cons (.var 2) .nil)))) .nil)) (.tup (.cons (.var 5) .nil))))
 .nil))))
noncomputable def d23:FD:=⟨"_law_mirrored",ab 25,["_law_scheme", "_law_sizes_here", "_law_n", "_law_m", "_law_p", "_law_products", "_law_l", "_law_r", "_law_o"],2,b23⟩
noncomputable def b24:MSs :=
 (.cons (.for (.name 1) (.rng1 (.bin .add (.int 1) (.blt .min2 (.cons (.int 9) (.cons (.blt .len (.cons (.var 0) .nil)) .nil))))) (.cons (.asg (.name 2) (.call 7 (.cons (.var 0) (.cons (.var 1) .nil))))
 (.cons (.asg (.tup (.cons (.name 3) (.cons (.name 4) (.cons (.name 5) .nil)))) (.call 20 (.cons (.var 2) .nil)))
 (.cons (.asg (.name 6) (.call 19 (.cons (.var 2) (.cons (.tup (.cons (.var 3) (.cons (.var 4) (.cons (.var 5) .nil)))) (.cons (.int 3) .nil)))))
 (.cons (.asg (.name 7) (.blt .list (.cons (.ix (.var 6) (.int 3)) .nil)))
 (.cons (.for (.name 8) (.rng1 (.int 2)) (.cons (.par 9 10 (.call 3 (.cons (.var 6) (.cons (.tup (.cons (.var 3) (.cons (.var 4) (.cons (.var 5) .nil)))) .nil))) (.call 4 (.cons (.var 6) (.cons (.tup (.cons (.var 3) (.cons (.var 4) (.cons (.var 5) .nil)))) .nil))))
 (.cons (.ite (.not (.tru (.call 9 (.cons (.var 9) (.cons (.call 22 (.cons (.var 6) (.cons (.tup (.cons (.var 3) (.cons (.var 4) (.cons (.var 5) .nil)))) .nil))) .nil))))) (.cons (.ret (.bl false))
 .nil) .nil)
 (.cons (.ite (.or (.cons (.not (.tru (.call 9 (.cons (.var 10) (.cons (.call 23 (.cons (.var 6) (.cons (.tup (.cons (.var 3) (.cons (.var 4) (.cons (.var 5) .nil)))) .nil))) .nil))))) (.cons (.cmp .ne (.ix (.var 6) (.int 3)) (.var 7)) .nil))) (.cons (.ret (.bl false))
 .nil) .nil)
 (.cons (.ite (.cmp .ne (.call 3 (.cons (.call 3 (.cons (.var 9) (.cons (.tup (.cons (.var 4) (.cons (.var 5) (.cons (.var 3) .nil)))) .nil))) (.cons (.tup (.cons (.var 5) (.cons (.var 3) (.cons (.var 4) .nil)))) .nil))) (.var 6)) (.cons (.ret (.bl false))
 .nil) .nil)
 (.cons (.ite (.cmp .ne (.call 4 (.cons (.var 10) (.cons (.tup (.cons (.var 5) (.cons (.var 4) (.cons (.var 3) .nil)))) .nil))) (.var 6)) (.cons (.ret (.bl false))
 .nil) .nil)
 (.cons (.ite (.or (.cons (.cmp .neD (.call 11 (.cons (.var 9) .nil)) (.call 12 (.cons (.tup (.cons (.var 4) (.cons (.var 5) (.cons (.var 3) .nil)))) .nil))) (.cons (.cmp .neD (.call 11 (.cons (.var 10) .nil)) (.call 12 (.cons (.tup (.cons (.var 5) (.cons (.var 4) (.cons (.var 3) .nil)))) .nil))) .nil))) (.cons (.ret (.bl false))
 .nil) .nil)
 (.cons (.drop (.meth0 .clear (.ix (.var 9) (.int 3))))
 (.cons (.drop (.meth0 .clear (.ix (.var 10) (.int 3))))
 .nil)))))))))
 .nil))))))
 (.cons (.ret (.bl true))
 .nil))
noncomputable def d24:FD:=⟨"law",ab 26,["_law_script", "_law_k", "_law_box_here", "_law_n", "_law_m", "_law_p", "_law_scheme", "_law_kept", "_law_turn", "_law_round_one", "_law_across"],1,b24⟩
noncomputable def tab:List FD := [d0,d1,d2,d3,d4,d5,d6,d7,d8,d9,d10,d11,d12,d13,d14,d15,d16,d17,d18,d19,d20,d21,d22,d23,d24]
noncomputable def nr:List (Str × Int) := []
end K24
end
section
namespace K24
theorem AR:∀ d ∈ tab,qG (tab.map (·.name)) nr d = true:=by decide +kernel
theorem all_mk {l:PySem.W.OpenLaw} {w:World} {K:Frag} {h:Heap} {mg:Str -> Option Value} {fa f0 f1 f2 f3 f4 f5 f6 f7 f8 f9 f10 f11 f12 f13 f14 f15 f16 f17 f18 f19 f20 f21 f22 f23 f24:Addr} (X:K.In h) (G:h.Ns mainGlobals mg) (hfa:mg "law" = some (.ref fa))
 {od0 an0 od1 an1 od2 an2 od3 an3 od4 an4 od5 an5 od6 an6 od7 an7 od8 an8 od9 an9 od10 an10 od11 an11 od12 an12 od13 an13 od14 an14 od15 an15 od16 an16 od17 an17 od18 an18 od19 an19 od20 an20 od21 an21 od22 an22 od23 an23 od24 an24:Option Addr} {sl0 sl1 sl2 sl3 sl4 sl5 sl6 sl7 sl8 sl9 sl10 sl11 sl12 sl13 sl14 sl15 sl16 sl17 sl18 sl19 sl20 sl21 sl22 sl23 sl24:Array (Option Value)} {oc0 kV0 dc0 pm0 cd0 ct0 oc1 kV1 dc1 pm1 cd1 ct1 oc2 kV2 dc2 pm2 cd2 ct2 oc3 kV3 dc3 pm3 cd3 ct3 oc4 kV4 dc4 pm4 cd4 ct4 oc5 kV5 dc5 pm5 cd5 ct5 oc6 kV6 dc6 pm6 cd6 ct6 oc7 kV7 dc7 pm7 cd7 ct7 oc8 kV8 dc8 pm8 cd8 ct8 oc9 kV9 dc9 pm9 cd9 ct9 oc10 kV10 dc10 pm10 cd10 ct10 oc11 kV11 dc11 pm11 cd11 ct11 oc12 kV12 dc12 pm12 cd12 ct12 oc13 kV13 dc13 pm13 cd13 ct13 oc14 kV14 dc14 pm14 cd14 ct14 oc15 kV15 dc15 pm15 cd15 ct15 oc16 kV16 dc16 pm16 cd16 ct16 oc17 kV17 dc17 pm17 cd17 ct17 oc18 kV18 dc18 pm18 cd18 ct18 oc19 kV19 dc19 pm19 cd19 ct19 oc20 kV20 dc20 pm20 cd20 ct20 oc21 kV21 dc21 pm21 cd21 ct21 oc22 kV22 dc22 pm22 cd22 ct22 oc23 kV23 dc23 pm23 cd23 ct23 oc24 kV24 dc24 pm24 cd24 ct24:Value}
 (a0:PySem.W.nsIn K mainGlobals "turned" = some (some (.ref f0))) (l0:K.lookup f0 = some ⟨oc0,od0, .func (PySem.W.fnOf "turned" "turned" (ao (ab 1)) (al (ab 1)) (ag (ab 1)) .none kV0 dc0 pm0 an0 cd0 ct0),sl0⟩) (c0:PySem.W.codeIn K cd0 "turned" = true) (k0:PySem.W.keepIn K (.ref f0) = true)
 (a1:PySem.W.nsIn K mainGlobals "mirrored" = some (some (.ref f1))) (l1:K.lookup f1 = some ⟨oc1,od1, .func (PySem.W.fnOf "mirrored" "mirrored" (ao (ab 2)) (al (ab 2)) (ag (ab 2)) .none kV1 dc1 pm1 an1 cd1 ct1),sl1⟩) (c1:PySem.W.codeIn K cd1 "mirrored" = true) (k1:PySem.W.keepIn K (.ref f1) = true)
 (a2:PySem.W.nsIn K mainGlobals "by_columns" = some (some (.ref f2))) (l2:K.lookup f2 = some ⟨oc2,od2, .func (PySem.W.fnOf "by_columns" "by_columns" (ao (ab 3)) (al (ab 3)) (ag (ab 3)) .none kV2 dc2 pm2 an2 cd2 ct2),sl2⟩) (c2:PySem.W.codeIn K cd2 "by_columns" = true) (k2:PySem.W.keepIn K (.ref f2) = true)
 (a3:PySem.W.nsIn K mainGlobals "tables_turned" = some (some (.ref f3))) (l3:K.lookup f3 = some ⟨oc3,od3, .func (PySem.W.fnOf "tables_turned" "tables_turned" (ao (ab 4)) (al (ab 4)) (ag (ab 4)) .none kV3 dc3 pm3 an3 cd3 ct3),sl3⟩) (c3:PySem.W.codeIn K cd3 "tables_turned" = true) (k3:PySem.W.keepIn K (.ref f3) = true)
 (a4:PySem.W.nsIn K mainGlobals "tables_mirrored" = some (some (.ref f4))) (l4:K.lookup f4 = some ⟨oc4,od4, .func (PySem.W.fnOf "tables_mirrored" "tables_mirrored" (ao (ab 5)) (al (ab 5)) (ag (ab 5)) .none kV4 dc4 pm4 an4 cd4 ct4),sl4⟩) (c4:PySem.W.codeIn K cd4 "tables_mirrored" = true) (k4:PySem.W.keepIn K (.ref f4) = true)
 (a5:PySem.W.nsIn K mainGlobals "_law_cell_at" = some (some (.ref f5))) (l5:K.lookup f5 = some ⟨oc5,od5, .func (PySem.W.fnOf "_law_cell_at" "_law_cell_at" (ao (ab 7)) (al (ab 7)) (ag (ab 7)) .none kV5 dc5 pm5 an5 cd5 ct5),sl5⟩) (c5:PySem.W.codeIn K cd5 "_law_cell_at" = true) (k5:PySem.W.keepIn K (.ref f5) = true)
 (a6:PySem.W.nsIn K mainGlobals "_law_mixed" = some (some (.ref f6))) (l6:K.lookup f6 = some ⟨oc6,od6, .func (PySem.W.fnOf "_law_mixed" "_law_mixed" (ao (ab 8)) (al (ab 8)) (ag (ab 8)) .none kV6 dc6 pm6 an6 cd6 ct6),sl6⟩) (c6:PySem.W.codeIn K cd6 "_law_mixed" = true) (k6:PySem.W.keepIn K (.ref f6) = true)
 (a7:PySem.W.nsIn K mainGlobals "_law_box" = some (some (.ref f7))) (l7:K.lookup f7 = some ⟨oc7,od7, .func (PySem.W.fnOf "_law_box" "_law_box" (ao (ab 9)) (al (ab 9)) (ag (ab 9)) .none kV7 dc7 pm7 an7 cd7 ct7),sl7⟩) (c7:PySem.W.codeIn K cd7 "_law_box" = true) (k7:PySem.W.keepIn K (.ref f7) = true)
 (a8:PySem.W.nsIn K mainGlobals "_law_take" = some (some (.ref f8))) (l8:K.lookup f8 = some ⟨oc8,od8, .func (PySem.W.fnOf "_law_take" "_law_take" (ao (ab 10)) (al (ab 10)) (ag (ab 10)) .none kV8 dc8 pm8 an8 cd8 ct8),sl8⟩) (c8:PySem.W.codeIn K cd8 "_law_take" = true) (k8:PySem.W.keepIn K (.ref f8) = true)
 (a9:PySem.W.nsIn K mainGlobals "_law_same" = some (some (.ref f9))) (l9:K.lookup f9 = some ⟨oc9,od9, .func (PySem.W.fnOf "_law_same" "_law_same" (ao (ab 11)) (al (ab 11)) (ag (ab 11)) .none kV9 dc9 pm9 an9 cd9 ct9),sl9⟩) (c9:PySem.W.codeIn K cd9 "_law_same" = true) (k9:PySem.W.keepIn K (.ref f9) = true)
 (a10:PySem.W.nsIn K mainGlobals "_law_nonzero" = some (some (.ref f10))) (l10:K.lookup f10 = some ⟨oc10,od10, .func (PySem.W.fnOf "_law_nonzero" "_law_nonzero" (ao (ab 12)) (al (ab 12)) (ag (ab 12)) .none kV10 dc10 pm10 an10 cd10 ct10),sl10⟩) (c10:PySem.W.codeIn K cd10 "_law_nonzero" = true) (k10:PySem.W.keepIn K (.ref f10) = true)
 (a11:PySem.W.nsIn K mainGlobals "_law_sums" = some (some (.ref f11))) (l11:K.lookup f11 = some ⟨oc11,od11, .func (PySem.W.fnOf "_law_sums" "_law_sums" (ao (ab 13)) (al (ab 13)) (ag (ab 13)) .none kV11 dc11 pm11 an11 cd11 ct11),sl11⟩) (c11:PySem.W.codeIn K cd11 "_law_sums" = true) (k11:PySem.W.keepIn K (.ref f11) = true)
 (a12:PySem.W.nsIn K mainGlobals "_law_table_sums" = some (some (.ref f12))) (l12:K.lookup f12 = some ⟨oc12,od12, .func (PySem.W.fnOf "_law_table_sums" "_law_table_sums" (ao (ab 14)) (al (ab 14)) (ag (ab 14)) .none kV12 dc12 pm12 an12 cd12 ct12),sl12⟩) (c12:PySem.W.codeIn K cd12 "_law_table_sums" = true) (k12:PySem.W.keepIn K (.ref f12) = true)
 (a13:PySem.W.nsIn K mainGlobals "_law_lengths_of" = some (some (.ref f13))) (l13:K.lookup f13 = some ⟨oc13,od13, .func (PySem.W.fnOf "_law_lengths_of" "_law_lengths_of" (ao (ab 15)) (al (ab 15)) (ag (ab 15)) .none kV13 dc13 pm13 an13 cd13 ct13),sl13⟩) (c13:PySem.W.codeIn K cd13 "_law_lengths_of" = true) (k13:PySem.W.keepIn K (.ref f13) = true)
 (a14:PySem.W.nsIn K mainGlobals "_law_single" = some (some (.ref f14))) (l14:K.lookup f14 = some ⟨oc14,od14, .func (PySem.W.fnOf "_law_single" "_law_single" (ao (ab 16)) (al (ab 16)) (ag (ab 16)) .none kV14 dc14 pm14 an14 cd14 ct14),sl14⟩) (c14:PySem.W.codeIn K cd14 "_law_single" = true) (k14:PySem.W.keepIn K (.ref f14) = true)
 (a15:PySem.W.nsIn K mainGlobals "_law_plainly" = some (some (.ref f15))) (l15:K.lookup f15 = some ⟨oc15,od15, .func (PySem.W.fnOf "_law_plainly" "_law_plainly" (ao (ab 17)) (al (ab 17)) (ag (ab 17)) .none kV15 dc15 pm15 an15 cd15 ct15),sl15⟩) (c15:PySem.W.codeIn K cd15 "_law_plainly" = true) (k15:PySem.W.keepIn K (.ref f15) = true)
 (a16:PySem.W.nsIn K mainGlobals "_law_turned_about" = some (some (.ref f16))) (l16:K.lookup f16 = some ⟨oc16,od16, .func (PySem.W.fnOf "_law_turned_about" "_law_turned_about" (ao (ab 18)) (al (ab 18)) (ag (ab 18)) .none kV16 dc16 pm16 an16 cd16 ct16),sl16⟩) (c16:PySem.W.codeIn K cd16 "_law_turned_about" = true) (k16:PySem.W.keepIn K (.ref f16) = true)
 (a17:PySem.W.nsIn K mainGlobals "_law_dressed" = some (some (.ref f17))) (l17:K.lookup f17 = some ⟨oc17,od17, .func (PySem.W.fnOf "_law_dressed" "_law_dressed" (ao (ab 19)) (al (ab 19)) (ag (ab 19)) .none kV17 dc17 pm17 an17 cd17 ct17),sl17⟩) (c17:PySem.W.codeIn K cd17 "_law_dressed" = true) (k17:PySem.W.keepIn K (.ref f17) = true)
 (a18:PySem.W.nsIn K mainGlobals "_law_seven" = some (some (.ref f18))) (l18:K.lookup f18 = some ⟨oc18,od18, .func (PySem.W.fnOf "_law_seven" "_law_seven" (ao (ab 20)) (al (ab 20)) (ag (ab 20)) .none kV18 dc18 pm18 an18 cd18 ct18),sl18⟩) (c18:PySem.W.codeIn K cd18 "_law_seven" = true) (k18:PySem.W.keepIn K (.ref f18) = true)
 (a19:PySem.W.nsIn K mainGlobals "_law_tables" = some (some (.ref f19))) (l19:K.lookup f19 = some ⟨oc19,od19, .func (PySem.W.fnOf "_law_tables" "_law_tables" (ao (ab 21)) (al (ab 21)) (ag (ab 21)) .none kV19 dc19 pm19 an19 cd19 ct19),sl19⟩) (c19:PySem.W.codeIn K cd19 "_law_tables" = true) (k19:PySem.W.keepIn K (.ref f19) = true)
 (a20:PySem.W.nsIn K mainGlobals "_law_sizes" = some (some (.ref f20))) (l20:K.lookup f20 = some ⟨oc20,od20, .func (PySem.W.fnOf "_law_sizes" "_law_sizes" (ao (ab 22)) (al (ab 22)) (ag (ab 22)) .none kV20 dc20 pm20 an20 cd20 ct20),sl20⟩) (c20:PySem.W.codeIn K cd20 "_law_sizes" = true) (k20:PySem.W.keepIn K (.ref f20) = true)
 (a21:PySem.W.nsIn K mainGlobals "_law_columns" = some (some (.ref f21))) (l21:K.lookup f21 = some ⟨oc21,od21, .func (PySem.W.fnOf "_law_columns" "_law_columns" (ao (ab 23)) (al (ab 23)) (ag (ab 23)) .none kV21 dc21 pm21 an21 cd21 ct21),sl21⟩) (c21:PySem.W.codeIn K cd21 "_law_columns" = true) (k21:PySem.W.keepIn K (.ref f21) = true)
 (a22:PySem.W.nsIn K mainGlobals "_law_turned" = some (some (.ref f22))) (l22:K.lookup f22 = some ⟨oc22,od22, .func (PySem.W.fnOf "_law_turned" "_law_turned" (ao (ab 24)) (al (ab 24)) (ag (ab 24)) .none kV22 dc22 pm22 an22 cd22 ct22),sl22⟩) (c22:PySem.W.codeIn K cd22 "_law_turned" = true) (k22:PySem.W.keepIn K (.ref f22) = true)
 (a23:PySem.W.nsIn K mainGlobals "_law_mirrored" = some (some (.ref f23))) (l23:K.lookup f23 = some ⟨oc23,od23, .func (PySem.W.fnOf "_law_mirrored" "_law_mirrored" (ao (ab 25)) (al (ab 25)) (ag (ab 25)) .none kV23 dc23 pm23 an23 cd23 ct23),sl23⟩) (c23:PySem.W.codeIn K cd23 "_law_mirrored" = true) (k23:PySem.W.keepIn K (.ref f23) = true)
 (a24:PySem.W.nsIn K mainGlobals "law" = some (some (.ref f24))) (l24:K.lookup f24 = some ⟨oc24,od24, .func (PySem.W.fnOf "law" "law" (ao (ab 26)) (al (ab 26)) (ag (ab 26)) .none kV24 dc24 pm24 an24 cd24 ct24),sl24⟩) (c24:PySem.W.codeIn K cd24 "law" = true) (k24:PySem.W.keepIn K (.ref f24) = true)
 (z0:PySem.W.nsIn K mainGlobals "len" = some none) (z1:PySem.W.nsIn K mainGlobals "abs" = some none) (z2:PySem.W.nsIn K mainGlobals "max" = some none) (z3:PySem.W.nsIn K mainGlobals "min" = some none) (z4:PySem.W.nsIn K mainGlobals "int" = some none) (z5:PySem.W.nsIn K mainGlobals "list" = some none) (z6:PySem.W.nsIn K mainGlobals "tuple" = some none) (z7:PySem.W.nsIn K mainGlobals "sum" = some none) (z8:PySem.W.nsIn K mainGlobals "isinstance" = some none) (z9:PySem.W.nsIn K mainGlobals "range" = some none) (z10:PySem.W.nsIn K mainGlobals "bool" = some none) (z11:PySem.W.nsIn K mainGlobals "str" = some none) (z12:PySem.W.nsIn K mainGlobals "dict" = some none) (z13:PySem.W.nsIn K mainGlobals "zip" = some none) (z14:PySem.W.nsIn K mainGlobals "enumerate" = some none) (z15:PySem.W.nsIn K mainGlobals "reversed" = some none) (z16:PySem.W.nsIn K mainGlobals "sorted" = some none) (z17:PySem.W.nsIn K mainGlobals "all" = some none) (z18:PySem.W.nsIn K mainGlobals "any" = some none) (z19:PySem.W.nsIn K mainGlobals "set" = some none) :
 ∃ fd:FuncData,(∀ (s:Shared) (v:Value),BindsTo s fd ⟨[v],[]⟩ [("_law_script",v)]) /\ ∀ base:Heap,K.In base -> base.Ns mainGlobals mg -> FnOk l.prog w K mg base CX0 40 fa fd ["_law_script"] (lSp K (phi tab 40 24)):=by
 have e:=hfa.symm.trans (PySem.W.mg_of X G a24)
 cases e
 have F0:=aC (st:=ab 1) l0 c0 k0
 have b0:=F0.binds (ps := ["scheme"]) fun _ _ _ _ _ _ us hl=>by obtain ⟨u0,rfl⟩:=cL us hl;rfl
 have F1:=aC (st:=ab 2) l1 c1 k1
 have b1:=F1.binds (ps := ["scheme"]) fun _ _ _ _ _ _ us hl=>by obtain ⟨u0,rfl⟩:=cL us hl;rfl
 have F2:=aC (st:=ab 3) l2 c2 k2
 have b2:=F2.binds (ps := ["part", "rows", "columns"]) fun _ _ _ _ _ _ us hl=>by obtain ⟨u0,u1,u2,rfl⟩:=kB us hl;rfl
 have F3:=aC (st:=ab 4) l3 c3 k3
 have b3:=F3.binds (ps := ["scheme", "sizes"]) fun _ _ _ _ _ _ us hl=>by obtain ⟨u0,u1,rfl⟩:=cg us hl;rfl
 have F4:=aC (st:=ab 5) l4 c4 k4
 have b4:=F4.binds (ps := ["scheme", "sizes"]) fun _ _ _ _ _ _ us hl=>by obtain ⟨u0,u1,rfl⟩:=cg us hl;rfl
 have F5:=aC (st:=ab 7) l5 c5 k5
 have b5:=F5.binds (ps := ["_law_script", "_law_k"]) fun _ _ _ _ _ _ us hl=>by obtain ⟨u0,u1,rfl⟩:=cg us hl;rfl
 have F6:=aC (st:=ab 8) l6 c6 k6
 have b6:=F6.binds (ps := ["_law_number", "_law_k"]) fun _ _ _ _ _ _ us hl=>by obtain ⟨u0,u1,rfl⟩:=cg us hl;rfl
 have F7:=aC (st:=ab 9) l7 c7 k7
 have b7:=F7.binds (ps := ["_law_script", "_law_k"]) fun _ _ _ _ _ _ us hl=>by obtain ⟨u0,u1,rfl⟩:=cg us hl;rfl
 have F8:=aC (st:=ab 10) l8 c8 k8
 have b8:=F8.binds (ps := ["_law_box_here", "_law_many"]) fun _ _ _ _ _ _ us hl=>by obtain ⟨u0,u1,rfl⟩:=cg us hl;rfl
 have F9:=aC (st:=ab 11) l9 c9 k9
 have b9:=F9.binds (ps := ["_law_found", "_law_due"]) fun _ _ _ _ _ _ us hl=>by obtain ⟨u0,u1,rfl⟩:=cg us hl;rfl
 have F10:=aC (st:=ab 12) l10 c10 k10
 have b10:=F10.binds (ps := ["_law_part"]) fun _ _ _ _ _ _ us hl=>by obtain ⟨u0,rfl⟩:=cL us hl;rfl
 have F11:=aC (st:=ab 13) l11 c11 k11
 have b11:=F11.binds (ps := ["_law_scheme"]) fun _ _ _ _ _ _ us hl=>by obtain ⟨u0,rfl⟩:=cL us hl;rfl
 have F12:=aC (st:=ab 14) l12 c12 k12
 have b12:=F12.binds (ps := ["_law_sizes_here"]) fun _ _ _ _ _ _ us hl=>by obtain ⟨u0,rfl⟩:=cL us hl;rfl
 have F13:=aC (st:=ab 15) l13 c13 k13
 have b13:=F13.binds (ps := ["_law_sizes_here"]) fun _ _ _ _ _ _ us hl=>by obtain ⟨u0,rfl⟩:=cL us hl;rfl
 have F14:=aC (st:=ab 16) l14 c14 k14
 have b14:=F14.binds (ps := ["_law_length", "_law_place"]) fun _ _ _ _ _ _ us hl=>by obtain ⟨u0,u1,rfl⟩:=cg us hl;rfl
 have F15:=aC (st:=ab 17) l15 c15 k15
 have b15:=F15.binds (ps := ["_law_lengths", "_law_sums_here"]) fun _ _ _ _ _ _ us hl=>by obtain ⟨u0,u1,rfl⟩:=cg us hl;rfl
 have F16:=aC (st:=ab 18) l16 c16 k16
 have b16:=F16.binds (ps := ["_law_part"]) fun _ _ _ _ _ _ us hl=>by obtain ⟨u0,rfl⟩:=cL us hl;rfl
 have F17:=aC (st:=ab 19) l17 c17 k17
 have b17:=F17.binds (ps := ["_law_box_here", "_law_lengths", "_law_products", "_law_most"]) fun _ _ _ _ _ _ us hl=>by obtain ⟨u0,u1,u2,u3,rfl⟩:=Bu us hl;rfl
 have F18:=aC (st:=ab 20) l18 c18 k18
 have b18:=F18.binds (ps := []) fun _ _ _ _ _ _ us hl=>by obtain ⟨rfl⟩:=Bt us hl;rfl
 have F19:=aC (st:=ab 21) l19 c19 k19
 have b19:=F19.binds (ps := ["_law_box_here", "_law_sizes_here", "_law_most"]) fun _ _ _ _ _ _ us hl=>by obtain ⟨u0,u1,u2,rfl⟩:=kB us hl;rfl
 have F20:=aC (st:=ab 22) l20 c20 k20
 have b20:=F20.binds (ps := ["_law_box_here"]) fun _ _ _ _ _ _ us hl=>by obtain ⟨u0,rfl⟩:=cL us hl;rfl
 have F21:=aC (st:=ab 23) l21 c21 k21
 have b21:=F21.binds (ps := ["_law_part", "_law_rows", "_law_columns_here"]) fun _ _ _ _ _ _ us hl=>by obtain ⟨u0,u1,u2,rfl⟩:=kB us hl;rfl
 have F22:=aC (st:=ab 24) l22 c22 k22
 have b22:=F22.binds (ps := ["_law_scheme", "_law_sizes_here"]) fun _ _ _ _ _ _ us hl=>by obtain ⟨u0,u1,rfl⟩:=cg us hl;rfl
 have F23:=aC (st:=ab 25) l23 c23 k23
 have b23:=F23.binds (ps := ["_law_scheme", "_law_sizes_here"]) fun _ _ _ _ _ _ us hl=>by obtain ⟨u0,u1,rfl⟩:=cg us hl;rfl
 have F24:=aC (st:=ab 26) l24 c24 k24
 have b24:=F24.binds (ps := ["_law_script"]) fun _ _ _ _ _ _ us hl=>by obtain ⟨u0,rfl⟩:=cL us hl;rfl
 have O:wQ K mg tab nr:=by
  refine ⟨?_, ?_,AR, ?_⟩
  ·intro x hx
   simp only [gS,List.mem_cons,List.not_mem_nil,or_false] at hx
   rcases hx with rfl | rfl | rfl | rfl | rfl | rfl | rfl | rfl | rfl | rfl | rfl | rfl | rfl | rfl | rfl | rfl | rfl | rfl | rfl | rfl
   ·exact PySem.W.mg_none_of X G z0
   ·exact PySem.W.mg_none_of X G z1
   ·exact PySem.W.mg_none_of X G z2
   ·exact PySem.W.mg_none_of X G z3
   ·exact PySem.W.mg_none_of X G z4
   ·exact PySem.W.mg_none_of X G z5
   ·exact PySem.W.mg_none_of X G z6
   ·exact PySem.W.mg_none_of X G z7
   ·exact PySem.W.mg_none_of X G z8
   ·exact PySem.W.mg_none_of X G z9
   ·exact PySem.W.mg_none_of X G z10
   ·exact PySem.W.mg_none_of X G z11
   ·exact PySem.W.mg_none_of X G z12
   ·exact PySem.W.mg_none_of X G z13
   ·exact PySem.W.mg_none_of X G z14
   ·exact PySem.W.mg_none_of X G z15
   ·exact PySem.W.mg_none_of X G z16
   ·exact PySem.W.mg_none_of X G z17
   ·exact PySem.W.mg_none_of X G z18
   ·exact PySem.W.mg_none_of X G z19
  ·intro i d hd
   match i,hd with
   | 0,hd=>cases hd;exact ⟨_,_,F0,PySem.W.mg_of X G a0,b0⟩
   | 1,hd=>cases hd;exact ⟨_,_,F1,PySem.W.mg_of X G a1,b1⟩
   | 2,hd=>cases hd;exact ⟨_,_,F2,PySem.W.mg_of X G a2,b2⟩
   | 3,hd=>cases hd;exact ⟨_,_,F3,PySem.W.mg_of X G a3,b3⟩
   | 4,hd=>cases hd;exact ⟨_,_,F4,PySem.W.mg_of X G a4,b4⟩
   | 5,hd=>cases hd;exact ⟨_,_,F5,PySem.W.mg_of X G a5,b5⟩
   | 6,hd=>cases hd;exact ⟨_,_,F6,PySem.W.mg_of X G a6,b6⟩
   | 7,hd=>cases hd;exact ⟨_,_,F7,PySem.W.mg_of X G a7,b7⟩
   | 8,hd=>cases hd;exact ⟨_,_,F8,PySem.W.mg_of X G a8,b8⟩
   | 9,hd=>cases hd;exact ⟨_,_,F9,PySem.W.mg_of X G a9,b9⟩
   | 10,hd=>cases hd;exact ⟨_,_,F10,PySem.W.mg_of X G a10,b10⟩
   | 11,hd=>cases hd;exact ⟨_,_,F11,PySem.W.mg_of X G a11,b11⟩
   | 12,hd=>cases hd;exact ⟨_,_,F12,PySem.W.mg_of X G a12,b12⟩
   | 13,hd=>cases hd;exact ⟨_,_,F13,PySem.W.mg_of X G a13,b13⟩
   | 14,hd=>cases hd;exact ⟨_,_,F14,PySem.W.mg_of X G a14,b14⟩
   | 15,hd=>cases hd;exact ⟨_,_,F15,PySem.W.mg_of X G a15,b15⟩
   | 16,hd=>cases hd;exact ⟨_,_,F16,PySem.W.mg_of X G a16,b16⟩
   | 17,hd=>cases hd;exact ⟨_,_,F17,PySem.W.mg_of X G a17,b17⟩
   | 18,hd=>cases hd;exact ⟨_,_,F18,PySem.W.mg_of X G a18,b18⟩
   | 19,hd=>cases hd;exact ⟨_,_,F19,PySem.W.mg_of X G a19,b19⟩
   | 20,hd=>cases hd;exact ⟨_,_,F20,PySem.W.mg_of X G a20,b20⟩
   | 21,hd=>cases hd;exact ⟨_,_,F21,PySem.W.mg_of X G a21,b21⟩
   | 22,hd=>cases hd;exact ⟨_,_,F22,PySem.W.mg_of X G a22,b22⟩
   | 23,hd=>cases hd;exact ⟨_,_,F23,PySem.W.mg_of X G a23,b23⟩
   | 24,hd=>cases hd;exact ⟨_,_,F24,PySem.W.mg_of X G a24,b24⟩
   | i + 25,hd=>simp [tab] at hd
  ·intro x i hx
   simp only [nr,List.mem_cons,List.not_mem_nil,or_false,Prod.mk.injEq] at hx
 refine ⟨PySem.W.fnOf "law" "law" (ao (ab 26)) (al (ab 26)) (ag (ab 26)) .none kV24 dc24 pm24 an24 cd24 ct24,fun s v => .of_eq rfl,fun base _ _ => ?_⟩
 exact t9 O 40 24 d24 _ _ rfl F24
theorem walk {l:PySem.W.OpenLaw} {q:Program} {loose:List Str} {XP:(Str -> Option Value) -> Heap -> Prop} {YP:World -> Heap -> Prop} {d:DefRec} {K:Params -> Frag} (hn:l.most = some 63) (hdf:d.params.defaults = [])
 (hlaw:∀ ns:List Int,ns.length <= 63 -> phi tab 40 24 [.con (ns.map D.int)] (fun _=>none) fun d _=>d = .bl true)
 (hY:∀ (w:World) (h:Heap),YP w h -> (K w.params).In h)
 (F:∀ (w:World) (mg:Str -> Option Value) (fa:Addr) (h:Heap),(K w.params).In h -> h.Ns mainGlobals mg -> mg d.name = some (.ref fa) ->
   ∃ fd:FuncData,(∀ (s:Shared) (u:Value),BindsTo s fd ⟨[u],[]⟩ [("_law_script",u)]) /\ ∀ base:Heap,(K w.params).In base -> base.Ns mainGlobals mg -> FnOk l.prog w (K w.params) mg base CX0 40 fa fd ["_law_script"] (lSp (K w.params) (phi tab 40 24))) :
 PySem.W.WalkO q loose XP YP l.row.toRowW d [] (fun f vs=>PySem.call f vs) :=
 L2.walk_of (n := 63) (k := 40) (x := "_law_script") (CX:=fun _=>CX0) (sp:=fun w=>lSp (K w.params) (phi tab 40 24)) hn (by decide) hdf ⟨rfl,by decide,by decide⟩ hY F (fun w H a ns hl hO hS=>Ax hO hS (hlaw ns hl)) fun _ _ _ _ _ z=>z
end K24
end
section
namespace K24
open PySem PySem.Spec PyProof.Rows L2.Srt
theorem pA {n:Nat} (hn : 1 <= n):qJ tab n 6:=tK (x := "_law_number") (s:=ab 8) rfl hn
theorem hZ {n:Nat} (hn : 2 <= n):eA tab n 8:=fun hb h1 h2 q=>yL (s:=ab 10) (fm := 6) rfl (pA (by omega)) hn hb h1 h2 q
theorem nv {n m:Nat} (hn:n + 1 <= m) {u v:D} {M:Mem} {Q:QD} (h:Sm M n u v) (q:∀ M',Ge M M' -> Q (.bl true) M'):phi tab m 9 [u,v] M Q:=zc (s:=ab 11) (y := "_law_due") rfl hn h q
theorem AS {n:Nat} (hn : 1 <= n):AH tab n 10:=fun hl q=>qM (s:=ab 12) (xp := "_law_part") (xn := "_law_number") rfl hn hl q
theorem wj {n:Nat} (hn : 2 <= n) {x0 x1 x2:D} {p:Addr} {ps:List Pr} {M:Mem} {Q:QD} (hp:M p = some (.lst (ps.map prD))) (hl:(ba ps).length <= 1000000) (hF:∀ p ∈ ps,AI p)
 (q:∀ (L:List Tm) d M',wY ps L -> L.length <= 1000000 -> Ge M M' -> M d = none -> M' d = some (.dct true (L.map kcD)) -> Q (.ref d) M'):phi tab n 11 [.tup [x0,x1,x2, .ref p]] M Q:=yR (s:=ab 13) (xs := "_law_scheme") (fz := 10) rfl (AS (by omega)) (by omega) hp hl hF q
theorem kj {n:Nat} (hn : 1 <= n):pv tab n 12:=fun a b c q=>wa (s:=ab 14) (xs := "_law_sizes_here") rfl hn a b c q
theorem qR {n:Nat} (hn : 1 <= n):n9 tab n 14:=fun hl q=>tU (s:=ab 16) rfl hn hl q
theorem nS {n:Nat} (hn : 2 <= n):kh tab n 15:=fun a b c _ h1 h2 _ _ _ h3 q=>qP (s:=ab 17) (y := "_law_number") (fs := 14) rfl (qR (by omega)) (by omega) a b c h1 h2 h3 q
theorem u4 {n:Nat} (hn : 1 <= n):ph tab n 16:=fun hl q=>wb (s:=ab 18) (x := "_law_part") (y := "_law_number") rfl hn hl q
theorem nT {n:Nat} (hn : 3 <= n):kg tab n 17:=fun a b c d e _ f g h _ _ _ _ _ _ i j k q=>qQ (s:=ab 19) (ft := 8) (fa := 16) rfl (hZ (by omega)) (u4 (by omega)) (by omega) a b c d e f g h i j k q
theorem trC {l:List Int} {n m:Nat}:((List.range m).flatMap fun b=>(List.range n).map fun a=>gz l ((a * m + b:Nat):Int)) = tr l n m:=by
 unfold tr
 rw [Nat.mul_comm n m,tN,List.flatMap_def,List.flatMap_def]
 congr 1
 refine List.map_congr_left fun i hi=>List.map_congr_left fun j hj => ?_
 rw [cu (List.mem_range.mp hj),bK (List.mem_range.mp hj)]
theorem xg {l:List Int} {n:Nat} (h:n < l.length):l[n]? = some (gz l (n:Nat)):=by
 unfold gz
 rw [if_neg (by omega),Int.toNat_natCast,List.getD_eq_getElem?_getD,List.getElem?_eq_getElem h];rfl
theorem u5 {n:Nat} {F:Nat -> Nat -> Int}:∀ {l:List Nat},(l.flatMap fun b=>(List.range n).map fun a=>F b a).length = l.length * n
 | [] => by simp
 | x :: l=>by rw [List.flatMap_cons,List.length_append,u5,List.length_map,List.length_range,List.length_cons,Nat.succ_mul];omega
theorem cQ {k:Nat} (hk : 1 <= k) {l:List Int} {n m:Nat} (hl:l.length = n * m) (hn:n <= 100) (hm:m <= 100) {M:Mem} {Q:QD} (q:∀ M',Ge M M' -> Q (.tup ((tr l n m).map .int)) M'):phi tab k 2 [.tup (l.map .int), .int n, .int m] M Q:=by
 refine aq (by omega) rfl rfl (ρ := [some _,some _,some _]) rfl ?_
 unfold d2 b2
 walk_at "st"
 refine ⟨by omega,by omega, ?_⟩
 rw [Int.toNat_natCast]
 refine az (f:=fun i=>D.int (i:Nat)) (ys:=List.range m) (I:=fun r ρ M' acc=>(∃ o0 o1, ρ = [o0,o1,some (.tup (l.map .int)),some (.int m),some (.int n)]) /\ M' = M /\ acc = (r.flatMap fun b=>(List.range n).map fun a=>gz l ((a * m + b:Nat):Int)).map .int) aP ⟨⟨_,_,rfl⟩,rfl,rfl⟩ (fun _ _ _ _ _=>trivial) ?_ ?_
 ·rintro r b r' ρ M1 acc e ⟨⟨o0,o1,rfl⟩,rfl,rfl⟩
  refine ⟨_,rfl,fun N' hN' => ?_⟩
  have hlt:=am e
  rw [List.length_range] at hlt
  have hb:b < m:=List.mem_range.mp (by rw [e];simp)
  walk_at "wp"
  refine ⟨by omega,by omega, ?_⟩
  rw [Int.toNat_natCast]
  refine az (f:=fun i=>D.int (i:Nat)) (ys:=List.range n) (I:=fun s ρ M' acc=>(∃ o1, ρ = [some (.int (b:Nat)),o1,some (.tup (l.map .int)),some (.int m),some (.int n)]) /\ M' = M1 /\ acc = ((r.flatMap fun b=>(List.range n).map fun a=>gz l ((a * m + b:Nat):Int)) ++ s.map fun a=>gz l ((a * m + b:Nat):Int)).map .int) aP ⟨⟨_,rfl⟩,rfl,by simp⟩ (fun _ _ _ _ _=>trivial) ?_ ?_
  ·rintro s a s' ρ M2 acc e' ⟨⟨o1,rfl⟩,rfl,rfl⟩
   refine ⟨_,rfl,fun N'' hN'' => ?_⟩
   have hlt':=am e'
   rw [List.length_range] at hlt'
   have ha:a < n:=List.mem_range.mp (by rw [e'];simp)
   walk_at "wp"
   refine ⟨cH (by omega), ?_⟩
   have hi:a * m + b < l.length:=by rw [hl];exact eG ha hb
   have hq:atI (l.map D.int) ((a:Int) * m + b) = some (.int (gz l ((a * m + b:Nat):Int))):=by
    rw [<- Int.natCast_mul, <- Int.natCast_add]
    exact eB (by rw [List.getElem?_map,xg hi];rfl)
   refine ⟨_,hq, ?_,hN'' _ _ _ ⟨⟨_,rfl⟩,rfl,by simp⟩⟩
   rw [List.length_map,List.length_append,List.length_map,u5 (F:=fun b a=>gz l ((a * m + b:Nat):Int)),sizeLine_eq]
   have:r.length * n <= 100 * 100:=Nat.mul_le_mul (by omega) hn
   omega
  ·rintro ρ M2 acc ⟨⟨o1,rfl⟩,rfl,rfl⟩
   exact hN' _ _ _ ⟨⟨_,_,rfl⟩,rfl,by rw [List.flatMap_append];simp⟩
 ·rintro ρ M1 acc ⟨⟨o0,o1,rfl⟩,rfl,rfl⟩ p hp
  rw [trC]
  exact ⟨_,_,rfl,ah af,q _ (Ge.new hp)⟩
theorem eJ {k:Nat} (hk : 1 <= k) {l:List Int} {n m:Nat} (hl:l.length = n * m) (hn : 1 <= n /\ n <= 100) (hm:m <= 100) {M:Mem} {Q:QD} (q:∀ M',Ge M M' -> Q (.tup ((tr l n m).map .int)) M'):phi tab k 21 [.tup (l.map .int), .int n, .int m] M Q:=by
 have hnm:n * m <= 100 * 100:=Nat.mul_le_mul hn.2 hm
 refine aq (by omega) rfl rfl (ρ := [some _,some _,some _]) rfl ?_
 unfold d21 b21
 walk_at "st"
 rw [<- Int.natCast_mul]
 refine ⟨cH (by omega),by omega,by omega, ?_⟩
 rw [Int.toNat_natCast]
 refine az (f:=fun i=>D.int (i:Nat)) (ys:=List.range (n * m)) (I:=fun r ρ M' acc=>(∃ o0, ρ = [o0,some (.tup (l.map .int)),some (.int n),some (.int m)]) /\ M' = M /\ acc = (r.map fun t=>gz l ((t % n * m + t / n:Nat):Int)).map .int) aP ⟨⟨_,rfl⟩,rfl,rfl⟩ (fun _ _ _ _ _=>trivial) ?_ ?_
 ·rintro r t r' ρ M1 acc e ⟨⟨o0,rfl⟩,rfl,rfl⟩
  refine ⟨_,rfl,fun N' hN' => ?_⟩
  have hlt:=am e
  rw [List.length_range] at hlt
  have ht:t < n * m:=List.mem_range.mp (by rw [e];simp)
  have h1:t % n < n:=Nat.mod_lt _ (by omega)
  have h2:t / n < m:=Nat.div_lt_of_lt_mul ht
  have hi:t % n * m + t / n < l.length:=by rw [hl];exact eG h1 h2
  walk_at "wp"
  rw [<- Int.natCast_emod, <- Int.natCast_ediv]
  refine ⟨by omega,cH ⟨by omega, ?_⟩,by omega,by omega, ?_⟩
  ·have:((t % n:Nat):Int) < n:=Int.ofNat_lt.mpr h1
   omega
  have hq:atI (l.map D.int) (((t % n:Nat):Int) * m + ((t / n:Nat):Int)) = some (.int (gz l ((t % n * m + t / n:Nat):Int))):=by
   rw [<- Int.natCast_mul, <- Int.natCast_add]
   exact eB (by rw [List.getElem?_map,xg hi];rfl)
  refine ⟨_,hq,by rw [List.length_map,List.length_map,sizeLine_eq];omega,hN' _ _ _ ⟨⟨_,rfl⟩,rfl,by simp⟩⟩
 ·rintro ρ M1 acc ⟨⟨o0,rfl⟩,rfl,rfl⟩ p hp
  exact ⟨_,_,rfl,ah af,q _ (Ge.new hp)⟩
theorem gw {M M':Mem} {p:Addr} (g:Ge M M') (h:M' p = none):M p = none:=by
 cases hz:M p with
 | none=>rfl
 | some o=>rw [g _ _ hz] at h;cases h
noncomputable def ny (u:Pr):Pr:=(u.2.1,u.2.2,u.1)
noncomputable def nA (u:Pr):Pr:=(u.2.1,u.1,u.2.2)
theorem u6 {k:Nat} (hk : 1 <= k) {a b c:D} {p:Addr} {qs:List Pr} (hl:qs.length <= 10000) {M:Mem} {Q:QD} (ep:M p = some (.lst (qs.map prD)))
 (q:∀ p' M',Ge M M' -> M p' = none -> M' p' = some (.lst ((qs.map ny).map prD)) -> Q (.tup [b,c,a, .ref p']) M'):phi tab k 0 [.tup [a,b,c, .ref p]] M Q:=by
 refine aq (by omega) rfl rfl (ρ := [some _,none,none,none,none]) rfl ?_
 unfold d0 b0
 walk_at "st"
 walk_at "st"
 refine ⟨_,ah ep, ?_⟩
 refine az (f:=prD) (ys:=qs) (I:=fun r ρ M' acc=>(∃ o0 o1 o2, ρ = [o0,o1,o2]) /\ M' = M /\ acc = (r.map ny).map prD) rfl ⟨⟨_,_,_,rfl⟩,rfl,rfl⟩ (fun _ _ _ _ h=>by rw [h.2.1];exact ah ep) ?_ ?_
 ·rintro r u r' ρ M1 acc e ⟨⟨o0,o1,o2,rfl⟩,rfl,rfl⟩
  refine ⟨_,rfl,fun N' hN' => ?_⟩
  have hlt:=am e
  walk_at "wp"
  exact ⟨by rw [sizeLine_eq];first | decide | omega,by rw [List.length_map,List.length_map,sizeLine_eq];omega,hN' _ _ _ ⟨⟨_,_,_,rfl⟩,rfl,by simp [prD,ny]⟩⟩
 ·rintro ρ M1 acc ⟨⟨o0,o1,o2,rfl⟩,rfl,rfl⟩ p' hp'
  exact ⟨by rw [sizeLine_eq];first | decide | omega,q p' _ (Ge.new hp') hp' af⟩
theorem nU {k:Nat} (hk : 1 <= k) {a b c:D} {p:Addr} {qs:List Pr} (hl:qs.length <= 10000) {M:Mem} {Q:QD} (ep:M p = some (.lst (qs.map prD)))
 (q:∀ p' M',Ge M M' -> M p' = none -> M' p' = some (.lst ((qs.map nA).map prD)) -> Q (.tup [b,a,c, .ref p']) M'):phi tab k 1 [.tup [a,b,c, .ref p]] M Q:=by
 refine aq (by omega) rfl rfl (ρ := [some _,none,none,none,none]) rfl ?_
 unfold d1 b1
 walk_at "st"
 walk_at "st"
 refine ⟨_,ah ep, ?_⟩
 refine az (f:=prD) (ys:=qs) (I:=fun r ρ M' acc=>(∃ o0 o1 o2, ρ = [o0,o1,o2]) /\ M' = M /\ acc = (r.map nA).map prD) rfl ⟨⟨_,_,_,rfl⟩,rfl,rfl⟩ (fun _ _ _ _ h=>by rw [h.2.1];exact ah ep) ?_ ?_
 ·rintro r u r' ρ M1 acc e ⟨⟨o0,o1,o2,rfl⟩,rfl,rfl⟩
  refine ⟨_,rfl,fun N' hN' => ?_⟩
  have hlt:=am e
  walk_at "wp"
  exact ⟨by rw [sizeLine_eq];first | decide | omega,by rw [List.length_map,List.length_map,sizeLine_eq];omega,hN' _ _ _ ⟨⟨_,_,_,rfl⟩,rfl,by simp [prD,nA]⟩⟩
 ·rintro ρ M1 acc ⟨⟨o0,o1,o2,rfl⟩,rfl,rfl⟩ p' hp'
  exact ⟨by rw [sizeLine_eq];first | decide | omega,q p' _ (Ge.new hp') hp' af⟩
noncomputable def Sh (n m p:Nat) (u:Pr):Prop:=u.1.length = n * m /\ u.2.1.length = m * p /\ u.2.2.length = n * p
noncomputable abbrev sz (n:Nat):Prop := 1 <= n /\ n <= 100
theorem nB {k:Nat} (hk : 2 <= k) {n m p:Nat} (hn:sz n) (hm:sz m) (hp:sz p) {a b c:D} {pp:Addr} {qs:List Pr} (hl:qs.length <= 10000) (hs:∀ u ∈ qs,Sh n m p u) {M:Mem} {Q:QD} (ep:M pp = some (.lst (qs.map prD)))
 (q:∀ p' M',Ge M M' -> M p' = none -> M' p' = some (.lst ((qs.map (tuP n m p)).map prD)) -> Q (.tup [b,c,a, .ref p']) M'):phi tab k 3 [.tup [a,b,c, .ref pp], .tup [.int n, .int m, .int p]] M Q:=by
 refine aq (by omega) rfl rfl (ρ := [some _,some _,none,none,none,none,none,none,none]) rfl ?_
 unfold d3 b3
 walk_at "st"
 walk_at "st"
 refine u6 (by omega) hl ep fun p1 M1 g1 h1 e1=>⟨_,rfl, ?_⟩
 walk_at "st"
 refine ⟨_,ah e1, ?_⟩
 refine az (f:=fun u=>prD (ny u)) (ys:=qs) (I:=fun r ρ M' acc=>(∃ o0 o1 o2, ρ = [o0,o1,o2,some (.int n),some (.int p),some (.int m)]) /\ Ge M1 M' /\ acc = (r.map (tuP n m p)).map prD) (by rw [List.map_map];rfl) ⟨⟨_,_,_,rfl⟩,Ge.refl,rfl⟩ (fun _ _ _ _ h=>ah (h.2.1 _ _ e1)) ?_ ?_
 ·rintro r u r' ρ M2 acc e ⟨⟨o0,o1,o2,rfl⟩,g2,rfl⟩
  refine ⟨_,rfl,fun N' hN' => ?_⟩
  have hlt:=am e
  obtain ⟨s0,s1,s2⟩:=hs u (by rw [e];simp)
  walk_at "wp"
  refine cQ (by omega) (l:=u.2.2) s2 (by omega) (by omega) fun M3 g3=>cQ (by omega) (l:=u.1) s0 (by omega) (by omega) fun M4 g4 => ?_
  exact ⟨by rw [sizeLine_eq];first | decide | omega,by rw [List.length_map,List.length_map,sizeLine_eq];omega,hN' _ _ _ ⟨⟨_,_,_,rfl⟩,g2.trans (g3.trans g4),by simp [prD,tuP,ny]⟩⟩
 ·rintro ρ M2 acc ⟨⟨o0,o1,o2,rfl⟩,g2,rfl⟩ p' hp'
  have g:=g1.trans g2
  exact ⟨by rw [sizeLine_eq];first | decide | omega,q p' _ (g.trans (Ge.new hp')) (gw g hp') af⟩
theorem u7 {k:Nat} (hk : 2 <= k) {n m p:Nat} (hn:sz n) (hm:sz m) (hp:sz p) {a b c:D} {pp:Addr} {qs:List Pr} (hl:qs.length <= 10000) (hs:∀ u ∈ qs,Sh n m p u) {M:Mem} {Q:QD} (ep:M pp = some (.lst (qs.map prD)))
 (q:∀ p' M',Ge M M' -> M p' = none -> M' p' = some (.lst ((qs.map (miP n m p)).map prD)) -> Q (.tup [b,a,c, .ref p']) M'):phi tab k 4 [.tup [a,b,c, .ref pp], .tup [.int n, .int m, .int p]] M Q:=by
 refine aq (by omega) rfl rfl (ρ := [some _,some _,none,none,none,none,none,none,none]) rfl ?_
 unfold d4 b4
 walk_at "st"
 walk_at "st"
 refine nU (by omega) hl ep fun p1 M1 g1 h1 e1=>⟨_,rfl, ?_⟩
 walk_at "st"
 refine ⟨_,ah e1, ?_⟩
 refine az (f:=fun u=>prD (nA u)) (ys:=qs) (I:=fun r ρ M' acc=>(∃ o0 o1 o2, ρ = [o0,o1,o2,some (.int m),some (.int p),some (.int n)]) /\ Ge M1 M' /\ acc = (r.map (miP n m p)).map prD) (by rw [List.map_map];rfl) ⟨⟨_,_,_,rfl⟩,Ge.refl,rfl⟩ (fun _ _ _ _ h=>ah (h.2.1 _ _ e1)) ?_ ?_
 ·rintro r u r' ρ M2 acc e ⟨⟨o0,o1,o2,rfl⟩,g2,rfl⟩
  refine ⟨_,rfl,fun N' hN' => ?_⟩
  have hlt:=am e
  obtain ⟨s0,s1,s2⟩:=hs u (by rw [e];simp)
  walk_at "wp"
  refine cQ (by omega) (l:=u.2.1) s1 (by omega) (by omega) fun M3 g3=>cQ (by omega) (l:=u.1) s0 (by omega) (by omega) fun M4 g4=>cQ (by omega) (l:=u.2.2) s2 (by omega) (by omega) fun M5 g5 => ?_
  exact ⟨by rw [sizeLine_eq];first | decide | omega,by rw [List.length_map,List.length_map,sizeLine_eq];omega,hN' _ _ _ ⟨⟨_,_,_,rfl⟩,g2.trans (g3.trans (g4.trans g5)),by simp [prD,miP,nA]⟩⟩
 ·rintro ρ M2 acc ⟨⟨o0,o1,o2,rfl⟩,g2,rfl⟩ p' hp'
  have g:=g1.trans g2
  exact ⟨by rw [sizeLine_eq];first | decide | omega,q p' _ (g.trans (Ge.new hp')) (gw g hp') af⟩
theorem pB {k:Nat} (hk : 1 <= k) {x y z:Nat} (hx:x <= 1000) (hy:y <= 1000) {M:Mem} {Q:QD} (q:Q (.tup [.int (x * y:Nat), .int (y * z:Nat), .int (x * z:Nat)]) M):phi tab k 13 [.tup [.int x, .int y, .int z]] M Q:=j3 (s:=ab 15) rfl hk hx hy q
theorem AT {k:Nat} (hk : 2 <= k) {n m p:Nat} (hn:sz n) (hm:sz m) (hp:sz p) {a b c:D} {pp:Addr} {qs:List Pr} (hl:qs.length <= 10000) (hs:∀ u ∈ qs,Sh n m p u) {M:Mem} {Q:QD} (ep:M pp = some (.lst (qs.map prD)))
 (q:∀ p' M',Ge M M' -> M p' = none -> M' p' = some (.lst ((qs.map (tuP n m p)).map prD)) -> Q (.tup [.int (m * p:Nat), .int (p * n:Nat), .int (m * n:Nat), .ref p']) M'):phi tab k 22 [.tup [a,b,c, .ref pp], .tup [.int n, .int m, .int p]] M Q:=by
 refine aq (by omega) rfl rfl (ρ := [some _,some _,none,none,none,none]) rfl ?_
 unfold d22 b22
 walk_at "st"
 walk_at "st"
 refine ⟨_,rfl,_,ah ep, ?_⟩
 refine az (f:=prD) (ys:=qs) (I:=fun r ρ M' acc=>(∃ o0 o1 o2, ρ = [o0,o1,o2,some (.int n),some (.int p),some (.int m)]) /\ Ge M M' /\ acc = (r.map (tuP n m p)).map prD) rfl ⟨⟨_,_,_,rfl⟩,Ge.refl,rfl⟩ (fun _ _ _ _ h=>ah (h.2.1 _ _ ep)) ?_ ?_
 ·rintro r u r' ρ M2 acc e ⟨⟨o0,o1,o2,rfl⟩,g2,rfl⟩
  refine ⟨_,rfl,fun N' hN' => ?_⟩
  have hlt:=am e
  obtain ⟨s0,s1,s2⟩:=hs u (by rw [e];simp)
  walk_at "wp"
  refine eJ (by omega) (l:=u.2.2) s2 hn (by omega) fun M3 g3=>eJ (by omega) (l:=u.1) s0 hn (by omega) fun M4 g4 => ?_
  exact ⟨by rw [sizeLine_eq];first | decide | omega,by rw [List.length_map,List.length_map,sizeLine_eq];omega,hN' _ _ _ ⟨⟨_,_,_,rfl⟩,g2.trans (g3.trans g4),by simp [prD,tuP]⟩⟩
 ·rintro ρ M2 acc ⟨⟨o0,o1,o2,rfl⟩,g2,rfl⟩ p' hp'
  walk_at "st"
  refine ⟨by rw [sizeLine_eq];first | decide | omega, ?_⟩
  refine pB (by omega) (by omega) (by omega) ?_
  exact ⟨by rw [sizeLine_eq];first | decide | omega, .inr trivial,by rw [sizeLine_eq];simp,q p' _ (g2.trans (Ge.new hp')) (gw g2 hp') af⟩
theorem AU {k:Nat} (hk : 2 <= k) {n m p:Nat} (hn:sz n) (hm:sz m) (hp:sz p) {a b c:D} {pp:Addr} {qs:List Pr} (hl:qs.length <= 10000) (hs:∀ u ∈ qs,Sh n m p u) {M:Mem} {Q:QD} (ep:M pp = some (.lst (qs.map prD)))
 (q:∀ p' M',Ge M M' -> M p' = none -> M' p' = some (.lst ((qs.map (miP n m p)).map prD)) -> Q (.tup [.int (p * m:Nat), .int (m * n:Nat), .int (p * n:Nat), .ref p']) M'):phi tab k 23 [.tup [a,b,c, .ref pp], .tup [.int n, .int m, .int p]] M Q:=by
 refine aq (by omega) rfl rfl (ρ := [some _,some _,none,none,none,none,none,none,none]) rfl ?_
 unfold d23 b23
 walk_at "st"
 walk_at "st"
 refine ⟨by rw [sizeLine_eq];first | decide | omega,fun pf hpf => ?_⟩
 have g1:=Ge.new (o := .lst []) hpf
 have e1:=af (M:=M) (a:=pf) (o := .lst [])
 generalize aj M pf (.lst []) = M1 at g1 e1 ⊢
 walk_at "st"
 refine ⟨_,rfl,_,ah (g1 _ _ ep), ?_⟩
 refine bj (f:=prD) (ys:=qs) (I:=fun r ρ M'=>(∃ o0 o1 o2, ρ = [some (.tup [a,b,c, .ref pp]),some (.tup [.int n, .int m, .int p]),some (.int n),some (.int m),some (.int p),some (.ref pf),o0,o1,o2]) /\ Ge M M' /\ M' pf = some (.lst ((r.map (miP n m p)).map prD))) rfl ⟨⟨_,_,_,rfl⟩,g1,e1⟩ (fun _ _ _ h=>ah (h.2.1 _ _ ep)) ?_ ?_
 ·rintro r u r' ρ M2 e ⟨⟨o0,o1,o2,rfl⟩,g2,e2⟩
  refine ⟨_,rfl,fun F hF => ?_⟩
  have hlt:=am e
  obtain ⟨s0,s1,s2⟩:=hs u (by rw [e];simp)
  walk_at "st"
  refine ⟨⟨_,e2⟩, ?_⟩
  refine eJ (by omega) (l:=u.2.1) s1 hm (by omega) fun M3 g3=>eJ (by omega) (l:=u.1) s0 hn (by omega) fun M4 g4=>eJ (by omega) (l:=u.2.2) s2 hn (by omega) fun M5 g5 => ?_
  have g5:=g3.trans (g4.trans g5)
  refine ⟨by rw [sizeLine_eq];first | decide | omega,pf,_,_,rfl,rfl,g5 _ _ e2,by rw [List.length_map,List.length_map,sizeLine_eq];omega,hF _ _ ⟨⟨_,_,_,rfl⟩,(g2.trans g5).upd hpf, ?_⟩⟩
  rw [af];simp [prD,miP]
 ·rintro ρ M2 ⟨⟨o0,o1,o2,rfl⟩,g2,e2⟩
  dsimp only
  walk_at "st"
  refine ⟨by rw [sizeLine_eq];first | decide | omega, ?_⟩
  refine pB (by omega) (by omega) (by omega) ?_
  exact ⟨by rw [sizeLine_eq];first | decide | omega, .inr trivial,by rw [sizeLine_eq];simp,q pf _ g2 hpf e2⟩
theorem Sh.tu {n m p:Nat} {u:Pr} (h:Sh n m p u):Sh m p n (tuP n m p u):=⟨h.2.1,tr_len.trans (Nat.mul_comm _ _),tr_len.trans (Nat.mul_comm _ _)⟩
theorem Sh.mi {n m p:Nat} {u:Pr} (h:Sh n m p u):Sh p m n (miP n m p u):=⟨tr_len.trans (Nat.mul_comm _ _),tr_len.trans (Nat.mul_comm _ _),tr_len.trans (Nat.mul_comm _ _)⟩
theorem tu3 {n m p:Nat} {u:Pr} (h:Sh n m p u):tuP p n m (tuP m p n (tuP n m p u)) = u:=by
 unfold tuP
 dsimp only
 rw [gv h.1,gv h.2.1,gv h.2.2]
theorem mi2 {n m p:Nat} {u:Pr} (h:Sh n m p u):miP p m n (miP n m p u) = u:=by
 unfold miP
 dsimp only
 rw [gv h.1,gv h.2.1,gv h.2.2]
theorem jz {F:Pr -> Pr}:∀ {l:List Pr},(∀ u ∈ l,F u = u) -> l.map F = l
 | [],_=>rfl
 | u :: l,h=>by rw [List.map_cons,h u (by simp),jz fun v hv=>h v (by simp [hv])]
theorem Ca {n m p:Nat} {qs:List Pr} (h:∀ u ∈ qs,Sh n m p u):((qs.map (tuP n m p)).map (tuP m p n)).map (tuP p n m) = qs:=by
 rw [List.map_map,List.map_map];exact jz fun u hu=>tu3 (h u hu)
theorem Cb {n m p:Nat} {qs:List Pr} (h:∀ u ∈ qs,Sh n m p u):(qs.map (miP n m p)).map (miP p m n) = qs:=by
 rw [List.map_map];exact jz fun u hu=>mi2 (h u hu)
theorem shs {F:Pr -> Pr} {n m p n' m' p':Nat} (hF:∀ {u},Sh n m p u -> Sh n' m' p' (F u)) {qs:List Pr} (h:∀ u ∈ qs,Sh n m p u):∀ u ∈ qs.map F,Sh n' m' p' u:=fun u hu=>by
 obtain ⟨v,hv,rfl⟩:=List.mem_map.mp hu
 exact hF (h v hv)
theorem fP {M:Mem} {n:Nat} {l:List Int} (hl:l.length <= 100000):Sm M (n + 1) (.tup (l.map .int)) (.tup (l.map .int)):=by
 refine ⟨by rw [List.length_map];exact hl,rfl,fun k d e h1 h2 => ?_⟩
 rw [h1] at h2;cases h2
 rw [List.getElem?_map] at h1
 obtain ⟨i,_,rfl⟩:=Option.map_eq_some_iff.mp h1
 exact Sm.int
theorem zd {M:Mem} {p:Pr} (h:p.1.length <= 100000 /\ p.2.1.length <= 100000 /\ p.2.2.length <= 100000):Sm M 2 (prD p) (prD p):=by
 refine ⟨by simp,rfl,fun k d e h1 h2 => ?_⟩
 rw [h1] at h2;cases h2
 have hm:=List.mem_of_getElem? h1
 simp only [List.mem_cons,List.not_mem_nil,or_false] at hm
 rcases hm with rfl | rfl | rfl
 ·exact fP h.1
 ·exact fP h.2.1
 ·exact fP h.2.2
theorem pC {M:Mem} {x y z:Int} {a b:Addr} {qs:List Pr} (hl:qs.length <= 100000) (ha:M a = some (.lst (qs.map prD))) (hb:M b = some (.lst (qs.map prD))) (h:∀ p ∈ qs,p.1.length <= 100000 /\ p.2.1.length <= 100000 /\ p.2.2.length <= 100000) :
 Sm M 4 (.tup [.int x, .int y, .int z, .ref a]) (.tup [.int x, .int y, .int z, .ref b]):=by
 refine ⟨by simp,rfl,fun k d e h1 h2 => ?_⟩
 have:k = 0 ∨ k = 1 ∨ k = 2 ∨ k = 3:=by
  have:=(List.getElem?_eq_some_iff.mp h1).1
  simp at this;omega
 rcases this with rfl | rfl | rfl | rfl
 ·cases h1;cases h2;exact Sm.int
 ·cases h1;cases h2;exact Sm.int
 ·cases h1;cases h2;exact Sm.int
 ·cases h1;cases h2
  refine ⟨_,_,ha,hb,by rw [List.length_map];exact hl,rfl,fun k d e h1 h2 => ?_⟩
  rw [h1] at h2;cases h2
  rw [List.getElem?_map] at h1
  obtain ⟨p,hp,rfl⟩:=Option.map_eq_some_iff.mp h1
  exact zd (h p (List.mem_of_getElem? hp))
theorem pE {n m p:Nat} (hn:sz n) (hm:sz m) (hp:sz p) {u:Pr} (h:Sh n m p u):u.1.length <= 100000 /\ u.2.1.length <= 100000 /\ u.2.2.length <= 100000:=by
 have h1:n * m <= 100 * 100:=Nat.mul_le_mul hn.2 hm.2
 have h2:m * p <= 100 * 100:=Nat.mul_le_mul hm.2 hp.2
 have h3:n * p <= 100 * 100:=Nat.mul_le_mul hn.2 hp.2
 obtain ⟨a,b,c⟩:=h
 omega
theorem nC:∀ ns:List Int,PyData.eqvAll (ns.map .int) (ns.map .int) = true
 | [] => rfl
 | n :: ns=>by simp [PyData.eqvAll,PyData.eqv,nC ns]
theorem jA:∀ ps:List Pr,PyData.eqvAll (ps.map cI) (ps.map cI) = true
 | [] => rfl
 | p :: ps=>by simp [PyData.eqvAll,PyData.eqv,jA ps,cI,nC]
theorem xh {M:Mem} {a:Addr} {ps:List Pr} (h:M a = some (.lst (ps.map prD))):rb 16 M (.ref a) = some (.list (ps.map cI)):=by rw [tJ h,mP];rfl
theorem xi {M:Mem} {x y z:Int} {a:Addr} {ps:List Pr} (h:M a = some (.lst (ps.map prD))):rb 16 M (.tup [.int x, .int y, .int z, .ref a]) = some (.tuple [.int x, .int y, .int z, .list (ps.map cI)]):=by
 have e:rb 15 M (.ref a) = some (.list (ps.map cI)):=by rw [tJ h,mP];rfl
 show (aF (rb 15 M) [.int x, .int y, .int z, .ref a]).map PyData.tuple = _
 simp only [aF,e]
 simp [rb]
theorem BG {M:Mem} {a b:Addr} {ps:List Pr} {Q:QD} (ha:M a = some (.lst (ps.map prD))) (hb:M b = some (.lst (ps.map prD))) (q:Q (.bl false) M):wNe (.ref a) (.ref b) M Q:=by
 refine ⟨_,_,xh ha,xh hb, ?_⟩
 rw [show PyData.eqv (.list (ps.map cI)) (.list (ps.map cI)) = true by simp [PyData.eqv,jA]]
 exact q
theorem xj {M:Mem} {x y z x' y' z':Int} (ex:x = x') (ey:y = y') (ez:z = z') {a b:Addr} {ps:List Pr} {Q:QD} (ha:M a = some (.lst (ps.map prD))) (hb:M b = some (.lst (ps.map prD))) (q:Q (.bl false) M):wNe (.tup [.int x, .int y, .int z, .ref a]) (.tup [.int x', .int y', .int z', .ref b]) M Q:=by
 subst ex ey ez
 refine ⟨_,_,xi ha,xi hb, ?_⟩
 rw [show PyData.eqv (.tuple [.int x, .int y, .int z, .list (ps.map cI)]) (.tuple [.int x, .int y, .int z, .list (ps.map cI)]) = true by simp [PyData.eqv,PyData.eqvAll,jA]]
 exact q
theorem nD {a b c:Nat}:∀ {ps:List Pr},(∀ p ∈ ps,p.1.length <= a /\ p.2.1.length <= b /\ p.2.2.length <= c) -> (ba ps).length <= ps.length * (a * (b * c))
 | [],_=>by simp [ba]
 | p :: ps,h=>by
   rw [show ba (p :: ps) = dS p ++ ba ps by simp [ba],List.length_append,List.length_cons,Nat.succ_mul]
   have h1:=nD (ps:=ps) fun q hq=>h q (by simp [hq])
   obtain ⟨x,y,z⟩:=h p (by simp)
   have h2:(dS p).length <= a * (b * c):=by
    unfold dS
    rw [gZ]
    have:=mV (l:=p.1);have:=mV (l:=p.2.1);have:=mV (l:=p.2.2)
    exact Nat.mul_le_mul (by omega) (Nat.mul_le_mul (by omega) (by omega))
   omega
theorem pF {L:List Tm}:∀ kv ∈ L.map kcD, ∃ i,kv.2 = .int i:=fun kv h=>by
 obtain ⟨t,_,rfl⟩:=List.mem_map.mp h
 exact ⟨t.2,rfl⟩
theorem pG {k:Nat} (hk : 2 <= k) {n m p:Nat} (hn:sz n) (hm:sz m) (hp:sz p) (h50:n <= 50 /\ m <= 50 /\ p <= 50) {qs:List Pr} (hl:qs.length <= 67) (hd:∀ u ∈ qs,(u.1.length <= 18 /\ u.2.1.length <= 18 /\ u.2.2.length <= 18) /\ Within 7 u.1 /\ Within 7 u.2.1 /\ Within 7 u.2.2) (hT:∀ k i j,Tn qs k i j = cf (bn n m p) (k,i,j)) {x0 x1 x2:D} {pp:Addr} {M:Mem} {Q:QD} (ep:M pp = some (.lst (qs.map prD))) (q:∀ M',Ge M M' -> Q (.bl false) M') :
 phi tab k 11 [.tup [x0,x1,x2, .ref pp]] M fun x M1 => 0 + 1 + 1 + 1 <= sizeLine /\ phi tab k 12 [.tup [.int n, .int m, .int p]] M1 fun y M2=>qr x y M2 Q:=by
 have big:∀ {l:List Int},Within 7 l -> Big l:=fun h x hx=>by have:=h x hx;omega
 refine wj hk ep ?_ (fun u hu => ?_) fun L d M1 hL hLl g1 hd1 e1 => ?_
 ·have:=nD (a := 18) (b := 18) (c := 18) fun u hu=>(hd u hu).1
  omega
 ·obtain ⟨⟨a,b,c⟩,d,e,f⟩:=hd u hu
  exact ⟨big d,big e,big f,by omega,by omega,by omega⟩
 refine ⟨by rw [sizeLine_eq];first | decide | omega, ?_⟩
 refine kj (by omega) (by omega) (by omega) (by omega) fun L2 d2 M2 hL2 g2 hd2 e2 => ?_
 refine ⟨d,d2,_,_,rfl,rfl,⟨.inl (g2 _ _ e1),pF⟩,⟨.inl e2,pF⟩, ?_⟩
 have hnd:(L2.map (·.1)).Nodup:=(hL2.map _).nodup_iff.mpr cr
 have hnz:∀ t ∈ L2,t.2 ≠ 0:=fun t ht=>AG t (hL2.mem_iff.mp ht)
 rw [w9 hnd (yU hL.nd hnd hL.nz hnz fun k=>by
  obtain ⟨k,i,j⟩:=k
  rw [hL.cf,yT,hT,oT hL2])]
 exact q _ (g1.trans g2)
structure St (pf pk:Addr) (ps:List Pr) (M:Mem):Prop where
 f:M pf = some (.lst (ps.map prD))
 k:M pk = some (.lst (ps.map prD))
theorem St.ge {pf pk:Addr} {ps:List Pr} {M M':Mem} (h:St pf pk ps M) (g:Ge M M'):St pf pk ps M':=⟨g _ _ h.f,g _ _ h.k⟩
theorem St.upd {pf pk x:Addr} {ps:List Pr} {M M':Mem} {o:O} (h:St pf pk ps M) (h':St pf pk ps M') (n:M x = none):St pf pk ps (aj M' x o):=by
 have ne:∀ {a:Addr} {u:O},M a = some u -> a ≠ x:=fun e z=>by rw [z,n] at e;cases e
 exact ⟨(aU (ne h.f)).trans h'.f,(aU (ne h.k)).trans h'.k⟩
theorem ze {x y z:Nat} (h:Szs x y z):x * y <= 18 /\ y * z <= 18 /\ x * z <= 18 /\ x * (y * z) <= 64:=by
 have mm:∀ {a b c d:Nat},a <= c -> b <= d -> a * b <= c * d:=fun h1 h2=>Nat.mul_le_mul h1 h2
 rcases h with ⟨a,b,c⟩ | ⟨a,b,c⟩ | ⟨a,b,c⟩ | ⟨a,b,c⟩
 ·have:=mm a b;have:=mm b c;have:=mm a c;have:=mm a (mm b c);omega
 ·have:=mm a b;have:=mm b c;have:=mm a c;have:=mm a (mm b c);omega
 ·have:=mm a b;have:=mm b c;have:=mm a c;have:=mm a (mm b c);omega
 ·have:=mm a b;have:=mm b c;have:=mm a c;have:=mm a (mm b c);omega
theorem law_holds (ns:List Int) (hl:ns.length <= 63):phi tab 40 24 [.con (ns.map D.int)] (fun _=>none) fun d _=>d = .bl true:=by
 refine aq (by omega) rfl rfl (ρ := [some _,none,none,none,none,none,none,none,none,none,none]) rfl ?_
 unfold d24 b24
 walk_at "st"
 rw [List.length_map]
 refine ⟨by split <;> omega,by split <;> omega, ?_⟩
 refine bj (I:=fun l ρ M' => ∃ o1 o2 o3 o4 o5 o6 o7 o8 o9 o10, ρ = [some (.con (ns.map D.int)),o1,o2,o3,o4,o5,o6,o7,o8,o9,o10]) aP ⟨_,_,_,_,_,_,_,_,_,_,rfl⟩ (fun _ _ _ hI=>trivial) ?_ ?_
 ·rintro l k r ρ M8 e ⟨o1,o2,o3,o4,o5,o6,o7,o8,o9,o10,rfl⟩
  refine ⟨_,rfl,fun F hF => ?_⟩
  walk_at "st"
  refine AF (s:=ab 9) (fc := 5) (fm := 6) (sc:=ab 7) rfl rfl (pA (by omega)) (by omega) (by omega) fun p x y hp => ?_
  walk_at "st"
  refine we (s:=ab 22) (ft := 8) rfl (hZ (by omega)) (by omega) ⟨_,_,_,af⟩ fun n m p2 M1 hn hm hp2 hS x1 => ?_
  obtain ⟨q1,q2,q3,q4⟩:=ze hS
  refine ⟨_,rfl, ?_⟩
  walk_at "st"
  refine ⟨by rw [sizeLine_eq];first | decide | omega, ?_⟩
  refine tZ (s:=ab 21) (sv:=ab 20) (sl:=ab 15) (ft := 8) (fd := 17) (fv := 18) (fl := 13) (fp := 15) (fs := 12) (most := 3) rfl (hZ (by omega)) (nT (by omega)) rfl rfl (nS (by omega)) (kj (by omega)) (by omega) (by omega) (by omega) (by omega) (by omega) (by omega) (by omega) (by omega) (by omega) x1.box fun ps pf M2 hps hpl hT x2 hpf hpfb ef => ?_
  have hdr:∀ u ∈ ps,(u.1.length <= 18 /\ u.2.1.length <= 18 /\ u.2.2.length <= 18) /\ Within 7 u.1 /\ Within 7 u.2.1 /\ Within 7 u.2.2:=fun u hu=>by
   have h:=hps u hu
   exact ⟨⟨by rw [h.l0];omega,by rw [h.l1];omega,by rw [h.l2];omega⟩,h.e0,h.e1,h.e2⟩
  have hsh:∀ u ∈ ps,Sh n m p2 u:=fun u hu=>⟨(hps u hu).l0,(hps u hu).l1,(hps u hu).l2⟩
  have sn:sz n:=⟨hn.1,by omega⟩
  have sm:sz m:=⟨hm.1,by omega⟩
  have sp:sz p2:=⟨hp2.1,by omega⟩
  clear x1 x2 hpfb hpf hp
  walk_at "st"
  refine ⟨_,rfl,_,_,rfl,ah ef,fun pk hpk => ?_⟩
  have g3:=Ge.new (o := .lst (ps.map prD)) hpk
  have e3:St pf pk ps (aj M2 pk (.lst (ps.map prD))):=⟨g3 _ _ ef,af⟩
  generalize aj M2 pk (.lst (ps.map prD)) = M3 at g3 e3 ⊢
  clear g3 ef hpk
  walk_at "st"
  refine ⟨by omega,by omega, ?_⟩
  refine bj (I:=fun l2 ρ M'=>(∃ o8 o9 o10, ρ = [some (.con (ns.map D.int)),some (.int (k:Nat)),some (.ref p),some (.int n),some (.int m),some (.int p2),some (.tup [.int (n * m:Nat), .int (m * p2:Nat), .int (n * p2:Nat), .ref pf]),some (.ref pk),o8,o9,o10]) /\ St pf pk ps M') aP ⟨⟨_,_,_,rfl⟩,e3⟩ (fun _ _ _ _=>trivial) ?_ ?_
  ·rintro l2 j r2 ρ M4 e2 ⟨⟨o8,o9,o10,rfl⟩,h4⟩
   refine ⟨_,rfl,fun F2 hF2 => ?_⟩
   have hp3 : 0 + 1 + 1 + 1 <= sizeLine:=by rw [sizeLine_eq];first | decide | omega
   walk_at "st"
   refine ⟨hp3, ?_⟩
   refine nB (by omega) sn sm sp (by omega) hsh h4.f fun pa M5 g5 na ea => ?_
   refine ⟨hp3, ?_⟩
   refine u7 (by omega) sn sm sp (by omega) hsh (g5 _ _ h4.f) fun pb M6 g6 nb eb => ?_
   have hab:pa ≠ pb:=fun w=>by rw [<- w,ea] at nb;cases nb
   have ea:=g6 _ _ ea
   have nb:=gw g5 nb
   have h6:=h4.ge (g5.trans g6)
   clear g5 g6
   walk_at "st"
   refine ⟨hp3, ?_⟩
   refine AT (by omega) sn sm sp (by omega) hsh h6.f fun pc M7 g7 _ ec => ?_
   rw [Nat.mul_comm p2 n,Nat.mul_comm m n]
   refine nv (n := 4) (by omega) (pC (by rw [List.length_map];omega) (g7 _ _ ea) ec fun u hu=>pE sm sp sn (shs Sh.tu hsh u hu)) fun M8 g8 => ?_
   have g8:=g7.trans g8
   have h8:=h6.ge g8
   have ea:=g8 _ _ ea
   have eb:=g8 _ _ eb
   clear g7 g8 h6 ec
   refine ⟨true,rfl, ?_⟩
   rw [if_neg (by decide)]
   walk_at "st"
   refine ⟨hp3, ?_⟩
   refine AU (by omega) sn sm sp (by omega) hsh h8.f fun pd M9 g9 _ ed => ?_
   rw [Nat.mul_comm p2 m,Nat.mul_comm m n,Nat.mul_comm p2 n]
   refine nv (n := 4) (by omega) (pC (by rw [List.length_map];omega) (g9 _ _ eb) ed fun u hu=>pE sp sm sn (shs Sh.mi hsh u hu)) fun M10 g10 => ?_
   have g10:=g9.trans g10
   have h10:=h8.ge g10
   have ea:=g10 _ _ ea
   have eb:=g10 _ _ eb
   clear g9 g10 h8 ed
   refine ⟨true,rfl, ?_⟩
   rw [if_neg (by decide)]
   refine ⟨_,rfl,BG h10.f h10.k ?_⟩
   refine ⟨false,rfl, ?_⟩
   rw [if_neg (by decide)]
   walk_at "st"
   refine ⟨hp3, ?_⟩
   refine nB (by omega) sm sp sn (by rw [List.length_map];omega) (shs Sh.tu hsh) ea fun pc M11 g11 _ ec => ?_
   refine ⟨hp3, ?_⟩
   refine nB (by omega) sp sn sm (by rw [List.length_map,List.length_map];omega) (shs Sh.tu (shs Sh.tu hsh)) ec fun pd M12 g12 _ ed => ?_
   have g12:=g11.trans g12
   have h12:=h10.ge g12
   have ea:=g12 _ _ ea
   have eb:=g12 _ _ eb
   rw [Ca hsh] at ed
   refine xj rfl rfl rfl ed h12.f ⟨false,rfl, ?_⟩
   clear g11 g12 h10 ec ed
   rw [if_neg (by decide)]
   walk_at "st"
   refine ⟨hp3, ?_⟩
   refine u7 (by omega) sp sm sn (by rw [List.length_map];omega) (shs Sh.mi hsh) eb fun pc M13 g13 _ ec => ?_
   have h13:=h12.ge g13
   have ea:=g13 _ _ ea
   have eb:=g13 _ _ eb
   rw [Cb hsh] at ec
   refine xj rfl rfl rfl ec h13.f ⟨false,rfl, ?_⟩
   clear g13 h12 ec
   rw [if_neg (by decide)]
   have wt:∀ {l:List Int} {a b:Nat},Within 7 l -> Within 7 (tr l a b):=fun h=>BE (by decide) h
   walk_at "st"
   refine pG (by omega) sm sp sn (by omega) (by rw [List.length_map];omega) (fun u hu => ?_) (AO (fun u hu=>(hsh u hu).2.1) hT) ea fun M14 g14 => ?_
   ·obtain ⟨v,hv,rfl⟩:=List.mem_map.mp hu
    obtain ⟨⟨a,b,c⟩,w1,w2,w3⟩:=hdr v hv
    exact ⟨⟨b,by unfold tuP;rw [tr_len];omega,by unfold tuP;rw [tr_len];omega⟩,w2,wt w3,wt w1⟩
   refine ⟨false,rfl, ?_⟩
   rw [if_neg (by decide)]
   have h14:=h13.ge g14
   have ea:=g14 _ _ ea
   have eb:=g14 _ _ eb
   clear h13 g14
   refine pG (by omega) sp sm sn (by omega) (by rw [List.length_map];omega) (fun u hu => ?_) (AQ hT) eb fun M15 g15 => ?_
   ·obtain ⟨v,hv,rfl⟩:=List.mem_map.mp hu
    obtain ⟨⟨a,b,c⟩,w1,w2,w3⟩:=hdr v hv
    exact ⟨⟨by unfold miP;rw [tr_len];omega,by unfold miP;rw [tr_len];omega,by unfold miP;rw [tr_len];omega⟩,wt w2,wt w1,wt w3⟩
   refine ⟨false,rfl, ?_⟩
   rw [if_neg (by decide)]
   have h15:=h14.ge g15
   have ea:=g15 _ _ ea
   have eb:=g15 _ _ eb
   clear h14 g15
   walk_at "st"
   refine ⟨_,rfl,⟨_,rfl,_,ea⟩,pa,_,rfl,rfl,ea, ?_⟩
   have h16:=h4.upd h15 na (o := .lst [])
   have eb:aj M15 pa (.lst []) pb = _:=(aU (o := .lst []) hab.symm).trans eb
   generalize aj M15 pa (.lst []) = M16 at h16 eb ⊢
   walk_at "st"
   refine ⟨_,rfl,⟨_,rfl,_,eb⟩,pb,_,rfl,rfl,eb, ?_⟩
   exact hF2 _ _ ⟨⟨_,_,_,rfl⟩,h4.upd h16 nb⟩
  ·rintro ρ M4 ⟨⟨o8,o9,o10,rfl⟩,h4⟩
   exact hF _ _ ⟨_,_,_,_,_,_,_,_,_,_,rfl⟩
 ·rintro ρ M8 ⟨o1,o2,o3,o4,o5,o6,o7,o8,o9,o10,rfl⟩
  dsimp only
  walk_at "st"
end K24
end
end
end Mi
end
end L2
namespace PySem.W.Fast
theorem tw14385967370888527416:True:=trivial
theorem tw11173337371657833231:True:=trivial
theorem tw10178922533323410973:True:=trivial
theorem tw15556159148844713677:True:=trivial
theorem tw4218905141141799469:True:=trivial
theorem tw9011917123349564705:True:=trivial
theorem tw7463449457283577612:True:=trivial
theorem tw4594908183547198586:True:=trivial
theorem tw15088079231854176896:True:=trivial
theorem tw12708624975804874176:True:=trivial
theorem tw6585745413974567367:True:=trivial
theorem tw15512752772326239198:True:=trivial
theorem tw14355940820094027451:True:=trivial
theorem tw16715475423204998480:True:=trivial
theorem tw12451187342398169567:True:=trivial
theorem tw1289245892486728123:True:=trivial
theorem tw10745866487474035437:True:=trivial
theorem tw1658520673228149780:True:=trivial
theorem tw7799361525966967418:True:=trivial
theorem tw2093773781287036520:True:=trivial
theorem tw14663486557866318222:True:=trivial
theorem tw4263116147957510513:True:=trivial
theorem tw13670523488037122143:True:=trivial
theorem tw6426757803280913143:True:=trivial
theorem tw12488320531623209166:True:=trivial
theorem tw584969103618686140:True:=trivial
theorem tw16321023468190544528:True:=trivial
theorem tw15957600029661467780:True:=trivial
theorem tw174185978388655145:True:=trivial
theorem tw17007879043965304928:True:=trivial
theorem tw5247392113099706195:True:=trivial
theorem tw15520839971432955485:True:=trivial
theorem tw15209671111160561611:True:=trivial
theorem tw3984628668342610187:True:=trivial
theorem tw786613610875245483:True:=trivial
theorem tw11525814765756120912:True:=trivial
theorem tw1991935524043944297:True:=trivial
theorem tw812993231580860344:True:=trivial
theorem tw14324729734402126860:True:=trivial
theorem tw18213654947267281523:True:=trivial
theorem tw3905625802208256339:True:=trivial
theorem tw4146563630404721700:True:=trivial
theorem tw5748069368834846546:True:=trivial
theorem tw16808995579870134265:True:=trivial
theorem tw13985823665778526389:True:=trivial
theorem tw5035351074121439377:True:=trivial
theorem tw149828093568216014:True:=trivial
theorem tw17560711911450939930:True:=trivial
theorem tw5179776728897414309:True:=trivial
theorem tw12938829378559219318:True:=trivial
theorem tw3447684283676282491:True:=trivial
theorem tw5259276400431304332:True:=trivial
theorem tw6193435698041604085:True:=trivial
theorem tw5993780098437571286:True:=trivial
theorem tw156326826951981184:True:=trivial
theorem tw743817642798862691:True:=trivial
theorem tw17529215457233218795:True:=trivial
theorem tw335636204012510048:True:=trivial
theorem tw8242892758197936293:True:=trivial
theorem tw10732061948156297634:True:=trivial
theorem tw8235126744292326948:True:=trivial
theorem tw7594416526950264941:True:=trivial
theorem tw643735671670988264:True:=trivial
end PySem.W.Fast
open PySem.W in
set_option maxRecDepth 100000 in
set_option maxHeartbeats 0 in
theorem PySem.Challenge.cw_fewtimes_k24_tables_turned_holds : PySem.Challenge.rw_fewtimes_k24_tables_turned.Holds := by
 w_on;o_law;k_head;(case hw=>w_witness2)
 k_fill
 refine L2.Mi.K24.walk (l:=PySem.Challenge.rw_fewtimes_k24_tables_turned) rfl rfl L2.Mi.K24.law_holds (fun w h Y=>PySem.W.kIn_of Y) ?F
 case F =>
  intro w mg fa h KX G hmg
  refine' L2.Mi.K24.all_mk KX G hmg ?a0 ?l0 ?c0 ?k0 ?a1 ?l1 ?c1 ?k1 ?a2 ?l2 ?c2 ?k2 ?a3 ?l3 ?c3 ?k3 ?a4 ?l4 ?c4 ?k4 ?a5 ?l5 ?c5 ?k5 ?a6 ?l6 ?c6 ?k6 ?a7 ?l7 ?c7 ?k7 ?a8 ?l8 ?c8 ?k8 ?a9 ?l9 ?c9 ?k9 ?a10 ?l10 ?c10 ?k10 ?a11 ?l11 ?c11 ?k11 ?a12 ?l12 ?c12 ?k12 ?a13 ?l13 ?c13 ?k13 ?a14 ?l14 ?c14 ?k14 ?a15 ?l15 ?c15 ?k15 ?a16 ?l16 ?c16 ?k16 ?a17 ?l17 ?c17 ?k17 ?a18 ?l18 ?c18 ?k18 ?a19 ?l19 ?c19 ?k19 ?a20 ?l20 ?c20 ?k20 ?a21 ?l21 ?c21 ?k21 ?a22 ?l22 ?c22 ?k22 ?a23 ?l23 ?c23 ?k23 ?a24 ?l24 ?c24 ?k24 ?z0 ?z1 ?z2 ?z3 ?z4 ?z5 ?z6 ?z7 ?z8 ?z9 ?z10 ?z11 ?z12 ?z13 ?z14 ?z15 ?z16 ?z17 ?z18 ?z19
  (case a0=>k_is)
  (case l0=>k_is)
  (case c0=>k_is)
  (case k0=>k_is)
  (case a1=>k_is)
  (case l1=>k_is)
  (case c1=>k_is)
  (case k1=>k_is)
  (case a2=>k_is)
  (case l2=>k_is)
  (case c2=>k_is)
  (case k2=>k_is)
  (case a3=>k_is)
  (case l3=>k_is)
  (case c3=>k_is)
  (case k3=>k_is)
  (case a4=>k_is)
  (case l4=>k_is)
  (case c4=>k_is)
  (case k4=>k_is)
  (case a5=>k_is)
  (case l5=>k_is)
  (case c5=>k_is)
  (case k5=>k_is)
  (case a6=>k_is)
  (case l6=>k_is)
  (case c6=>k_is)
  (case k6=>k_is)
  (case a7=>k_is)
  (case l7=>k_is)
  (case c7=>k_is)
  (case k7=>k_is)
  (case a8=>k_is)
  (case l8=>k_is)
  (case c8=>k_is)
  (case k8=>k_is)
  (case a9=>k_is)
  (case l9=>k_is)
  (case c9=>k_is)
  (case k9=>k_is)
  (case a10=>k_is)
  (case l10=>k_is)
  (case c10=>k_is)
  (case k10=>k_is)
  (case a11=>k_is)
  (case l11=>k_is)
  (case c11=>k_is)
  (case k11=>k_is)
  (case a12=>k_is)
  (case l12=>k_is)
  (case c12=>k_is)
  (case k12=>k_is)
  (case a13=>k_is)
  (case l13=>k_is)
  (case c13=>k_is)
  (case k13=>k_is)
  (case a14=>k_is)
  (case l14=>k_is)
  (case c14=>k_is)
  (case k14=>k_is)
  (case a15=>k_is)
  (case l15=>k_is)
  (case c15=>k_is)
  (case k15=>k_is)
  (case a16=>k_is)
  (case l16=>k_is)
  (case c16=>k_is)
  (case k16=>k_is)
  (case a17=>k_is)
  (case l17=>k_is)
  (case c17=>k_is)
  (case k17=>k_is)
  (case a18=>k_is)
  (case l18=>k_is)
  (case c18=>k_is)
  (case k18=>k_is)
  (case a19=>k_is)
  (case l19=>k_is)
  (case c19=>k_is)
  (case k19=>k_is)
  (case a20=>k_is)
  (case l20=>k_is)
  (case c20=>k_is)
  (case k20=>k_is)
  (case a21=>k_is)
  (case l21=>k_is)
  (case c21=>k_is)
  (case k21=>k_is)
  (case a22=>k_is)
  (case l22=>k_is)
  (case c22=>k_is)
  (case k22=>k_is)
  (case a23=>k_is)
  (case l23=>k_is)
  (case c23=>k_is)
  (case k23=>k_is)
  (case a24=>k_is)
  (case l24=>k_is)
  (case c24=>k_is)
  (case k24=>k_is)
  (case z0=>k_is)
  (case z1=>k_is)
  (case z2=>k_is)
  (case z3=>k_is)
  (case z4=>k_is)
  (case z5=>k_is)
  (case z6=>k_is)
  (case z7=>k_is)
  (case z8=>k_is)
  (case z9=>k_is)
  (case z10=>k_is)
  (case z11=>k_is)
  (case z12=>k_is)
  (case z13=>k_is)
  (case z14=>k_is)
  (case z15=>k_is)
  (case z16=>k_is)
  (case z17=>k_is)
  (case z18=>k_is)
  (case z19=>k_is)
