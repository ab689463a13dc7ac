import PyProof.Rows.All
import Wide.All
import OpenK.AllK
import Wide.FinOn
import Lean
import PyProof.EqAt
import PyProof.EqKinds
import PyProof.TupleCall
import PyProof.ZipIter
import PyProof.EnumMake
import PyProof.EnumFor
import PyProof.CollectIter
import PyProof.Rows.SeqMore
import PyProof.ConsumeWalk
import PyProof.Rows.SortShellK
import PyProof.DictItems
import PyProof.DictWalks
import PyProof.AttrMissHeap
import PyProof.DictIter
import PyProof.MaxThree
import PyProof.SeqI3
import PySem.Challenge.RW_fewtimes_k52_schemes_written
set_option Elab.async false
set_option linter.all false
set_option compiler.extract_closed false
set_option genSizeOf false
set_option bootstrap.genMatcherCode false
set_option maxRecDepth 100000
set_option maxHeartbeats 4000000
namespace L2
open PySem PySem.Spec PyProof.Rows
noncomputable abbrev Key:=Sum Int Str
noncomputable def dm:Key -> Value -> Bool
 | .inl k,v=>Value.isInt k v
 | .inr x,v=>Value.isStrOf x v
noncomputable def tM (w:World):Key -> Int
 | .inl k=>hashInt k
 | .inr x=>hashStr w x
theorem aE:∀ {k:Key} {v:Value},dm k v = true -> (∃ i t,k = Sum.inl i /\ v = Value.int i t) ∨ (∃ x t,k = Sum.inr x /\ v = Value.str x t)
 | .inl i,v,h=>by
  obtain ⟨t,e⟩:=Value.isInt_shape (k:=i) (v:=v) h
  exact .inl ⟨i,t,rfl,e⟩
 | .inr x,v,h=>by
  obtain ⟨t,e⟩:=Value.isStrOf_shape (x:=x) (v:=v) h
  exact .inr ⟨x,t,rfl,e⟩
theorem kf (i:Int) (t:Tok):dm (.inl i) (.int i t) = true:=by simp [dm,Value.isInt]
theorem kg (x:Str) (t:Tok):dm (.inr x) (.str x t) = true:=by simp [dm,Value.isStrOf]
theorem qy (a b:Int):decide ((Sum.inl a:Key) = Sum.inl b) = (a == b):=by
 by_cases e:a = b
 ·subst e;simp
 ·have h : ¬ (Sum.inl a:Key) = Sum.inl b:=fun q=>e (Sum.inl.inj q)
  rw [decide_eq_false h]
  exact (beq_eq_false_iff_ne.mpr e).symm
theorem qz (a b:Str):decide ((Sum.inr a:Key) = Sum.inr b) = decide (a = b):=by
 by_cases e:a = b
 ·subst e;simp
 ·have h : ¬ (Sum.inr a:Key) = Sum.inr b:=fun q=>e (Sum.inr.inj q)
  rw [decide_eq_false h,decide_eq_false e]
theorem qA (a:Int) (b:Str):decide ((Sum.inl a:Key) = Sum.inr b) = false:=decide_eq_false (fun q=>nomatch q)
theorem qB (a:Str) (b:Int):decide ((Sum.inr a:Key) = Sum.inl b) = false:=decide_eq_false (fun q=>nomatch q)
noncomputable def aI (prog:Program) (w:World):PySem.KeyKind prog w Key where
 is:=dm
 hash:=tM w
 inj:=fun v a b ha hb=>by
  rcases aE ha with ⟨i,t,rfl,rfl⟩ | ⟨x,t,rfl,rfl⟩
  ·rcases aE hb with ⟨j,u,rfl,e⟩ | ⟨y,u,rfl,e⟩
   ·injection e with e1 _;rw [e1]
   ·exact nomatch e
  ·rcases aE hb with ⟨j,u,rfl,e⟩ | ⟨y,u,rfl,e⟩
   ·exact nomatch e
   ·injection e with e1 _;rw [e1]
 byValue:=fun k v h=>by
  rcases aE h with ⟨i,t,rfl,rfl⟩ | ⟨x,t,rfl,rfl⟩ <;> rfl
 pyHash:=fun hv h=>by
  rcases aE hv with ⟨i,t,rfl,rfl⟩ | ⟨x,t,rfl,rfl⟩
  ·exact wpAny_pyHash_int h
  ·exact wpAny_pyHash_str h
 eqBool:=fun hu hv h=>by
  rcases aE hu with ⟨i,t,rfl,rfl⟩ | ⟨x,t,rfl,rfl⟩
  ·rcases aE hv with ⟨j,u,rfl,rfl⟩ | ⟨y,u,rfl,rfl⟩
   ·rw [qy] at h;exact wpAny_eqBool_int h
   ·rw [qA] at h;exact SeqAt.EqAt.int_str i t y u _ _ _ _ h
  ·rcases aE hv with ⟨j,u,rfl,rfl⟩ | ⟨y,u,rfl,rfl⟩
   ·rw [qB] at h;exact SeqAt.EqAt.str_int x t j u _ _ _ _ h
   ·rw [qz] at h;exact wpAny_eqBool_str h
 «strs» := fun k x t v h=>by
  rcases aE h with ⟨i,u,rfl,e⟩ | ⟨y,u,rfl,e⟩
  ·exact nomatch e
  ·injection e with e1 _
   subst e1
   cases v <;> rfl
theorem iB (prog:Program) (w:World) (i:Int) (t:Tok):(aI prog w).is (.inl i) (.int i t) = true:=kf i t
theorem iC (prog:Program) (w:World) (x:Str) (t:Tok):(aI prog w).is (.inr x) (.str x t) = true:=kg x t
end L2
namespace L2
open PySem PySem.Spec PyProof.Rows
inductive V where
 | non | bl (b:Bool) | int (i:Int) | str (x:Str) | byt (b:Array UInt8) | flt (b:UInt64) | ref (a:Addr) | ty (n:String)
 deriving DecidableEq
noncomputable def RelV:V -> Value -> Prop
 | .non,u=>u = Value.none
 | .bl b,u=>u = Value.bool b
 | .int i,u => ∃ t,u = Value.int i t
 | .str x,u => ∃ t,u = Value.str x t
 | .byt b,u => ∃ t,u = Value.bytes b t
 | .flt b,u => ∃ t,u = Value.float b t
 | .ref a,u=>u = Value.ref a
 | .ty n,u=>u = Value.type n
noncomputable abbrev Vals:List V -> List Value -> Prop:=Paired RelV
theorem Vals.length {xs:List V} {us:List Value} (r:Vals xs us):xs.length = us.length:=Paired.length r
theorem Vals.get:∀ {xs:List V} {us:List Value} {i:Nat} {x:V},Vals xs us -> xs[i]? = some x -> ∃ u,us[i]? = some u /\ RelV x u
 | _,_,_,_, .nil,e=>by simp at e
 | _,_,0,_, .cons r _,e=>by simp at e;subst e;exact ⟨_,rfl,r⟩
 | _,_,i + 1,x, .cons _ t,e=>by
   obtain ⟨u,h1,h2⟩:=Vals.get (i:=i) (x:=x) t (by simpa using e)
   exact ⟨u,by simpa using h1,h2⟩
theorem Vals.set {x:V} {u:Value} (r:RelV x u):∀ {xs:List V} {us:List Value} (i:Nat),Vals xs us -> Vals (xs.set i x) (us.set i u)
 | _,_,_, .nil => .nil
 | _,_,0, .cons _ t => .cons r t
 | _,_,i + 1, .cons q t => .cons q (Vals.set r i t)
theorem Vals.append:∀ {xs ys:List V} {us ws:List Value},Vals xs us -> Vals ys ws -> Vals (xs ++ ys) (us ++ ws)
 | _,_,_,_, .nil,s=>s
 | _,_,_,_, .cons r t,s => .cons r (Vals.append t s)
theorem Vals.take:∀ {xs:List V} {us:List Value} (n:Nat),Vals xs us -> Vals (xs.take n) (us.take n)
 | _,_,0,_ => .nil
 | _,_,_ + 1, .nil => .nil
 | _,_,n + 1, .cons r t => .cons r (Vals.take n t)
theorem Vals.drop:∀ {xs:List V} {us:List Value} (n:Nat),Vals xs us -> Vals (xs.drop n) (us.drop n)
 | _,_,0,r=>r
 | _,_,_ + 1, .nil => .nil
 | _,_,n + 1, .cons _ t=>Vals.drop n t
noncomputable def RelO:Option V -> Option Value -> Prop
 | some v,some u=>RelV v u
 | none,none=>True
 | _,_=>False
noncomputable def KV {κ:Type}:List (κ × V) -> List (κ × Value) -> Prop:=Paired fun (p : κ × V) (q : κ × Value)=>p.1 = q.1 /\ RelV p.2 q.2
noncomputable def kV:Key -> V
 | .inl i => .int i
 | .inr x => .str x
inductive HO where
 | lst (xs:List V)
 | tup (xs:List V)
 | dK (kvs:List (Key × V)) | dT (kvs:List (List Key × V))
 | set (S:Int -> Bool) (n:Nat)
 | ins (C dx:Addr) (fs:List (Str × V))
 | own (x:Addr)
 | xd (fs:List (Str × V))
 | met (f x:Addr)
 | rng (lo hi:Int)
 | frz (o:Obj) (u:HO)
 | tbl (ps:Array Value)
 | ext (φ:Heap -> Prop)
noncomputable abbrev Hp:=Addr -> Option HO
noncomputable def upd (H:Hp) (a:Addr) (o:HO):Hp:=fun b=>if b = a then some o else H b
theorem aL {H:Hp} {a:Addr} {o:HO}:upd H a o a = some o:=by unfold upd;rw [if_pos rfl]
theorem ah {H:Hp} {a b:Addr} {o:HO} (h:b ≠ a):upd H a o b = H b:=by unfold upd;rw [if_neg h]
theorem sB {H:Hp} {a b:Addr} {o u:HO} (h:H a = some o) (h':H b = some u) (d:o ≠ u):a ≠ b:=by
 intro e;subst e;rw [h] at h';exact d (Option.some.inj h')
theorem aF {H:Hp} {a b:Addr} {o:HO} (h:H a = some o) (h':H b = none):a ≠ b:=by
 intro e;subst e;rw [h] at h';cases h'
section
variable (P:Program) (w:World)
noncomputable def ObjOk (H:Hp) (h:Heap) (a:Addr):HO -> Prop
 | .lst xs=>xs.length <= sizeLine /\ ∃ (its:List Value) (n:Nat),Vals xs its /\ h.get? a = some { cls := .type "list",data := .seq its.toArray n }
 | .tup xs=>xs.length <= sizeLine /\ ∃ its:List Value,Vals xs its /\ IsTup h a its.toArray
 | .dK kvs=>kvs.length <= sizeLine /\ (a == sysModules) = false /\ ∃ vs,KV kvs vs /\ h.DictOf (aI P w) a vs
 | .dT kvs=>kvs.length <= sizeLine /\ (a == sysModules) = false /\ ∃ xs:List (List Key × Addr × Value),
  Paired (fun (p:List Key × V) (q:List Key × Addr × Value)=>p.1 = q.1 /\ H q.2.1 = some (.tup (p.1.map kV)) /\ RelV p.2 q.2.2) kvs xs /\
  ∃ o es ep,h.get? a = some o /\ o.ExactDict /\ o.data = .dict es ep /\ es.toList = xs.map (entryOfKey (tupleKind (aI P w))) /\ (xs.map (·.1)).Nodup
 | .set S n=>h.SetOf (intKind P w) a S n
 | .ins C dx fs=>H dx = some (.own a) /\ fs.length <= 1000 /\ dx ≠ a /\ h.get? a = some (PySem.W.instObj C dx) /\
  ∃ mA,h.Ns1 dx mA /\ (∀ f,RelO (fs.lookup f) (mA f)) /\ PySem.Within mA (fs.map (·.1))
 | .own _ => ∃ o,h.get? a = some o
 | .xd fs => ∃ mA,h.Ns1 a mA /\ ∀ f,RelO (fs.lookup f) (mA f)
 | .rng lo hi => ∃ t u v,h.get? a = some { cls := .type "range",data := .fields #[.int lo t, .int hi u, .int 1 v] }
 | .frz o u=>h.get? a = some o /\ ObjOk H h a u
 | .tbl ps=>h.get? a = some { cls := .none,data := .fields ps }
 | .met f x=>h.get? a = some (PySem.W.methodObj (.ref f) (.ref x))
 | .ext φ => φ h /\ (∃ o,h.get? a = some o) /\ ∀ h1 h2:Heap, φ h1 -> (∀ o,h1.get? a = some o -> h2.get? a = some o) -> φ h2
noncomputable def HOk (H:Hp) (h:Heap):Prop := ∀ a o,H a = some o -> ObjOk P w H h a o
end
section
variable {P:Program} {w:World} {H H':Hp} {h h':Heap} {a:Addr} {o:HO}
theorem ObjOk.lt (x:ObjOk P w H h a o):a < h.objs.size:=by
 cases o with
 | lst xs=>obtain ⟨_,_,_,_,e⟩:=x;exact Heap.lt_size e
 | tup xs=>obtain ⟨_,_,_,p⟩:=x;exact p.lt
 | dK kvs=>obtain ⟨_,_,_,_,o,_,_,e,_⟩:=x;exact Heap.lt_size e
 | dT kvs=>obtain ⟨_,_,_,_,o,_,_,e,_⟩:=x;exact Heap.lt_size e
 | set S n=>obtain ⟨o,_,_,_,e,_⟩:=x;exact Heap.lt_size e
 | ins C dx fs=>obtain ⟨_,_,_,e,_⟩:=x;exact Heap.lt_size e
 | own y=>obtain ⟨_,e⟩:=x;exact Heap.lt_size e
 | xd fs=>obtain ⟨_,⟨_,_,_,e,_⟩,_⟩:=x;exact Heap.lt_size e
 | rng lo hi=>obtain ⟨_,_,_,e⟩:=x;exact Heap.lt_size e
 | frz ob u=>obtain ⟨e,_⟩:=x;exact Heap.lt_size e
 | tbl ps=>exact Heap.lt_size (show h.get? a = some _ from x)
 | met f y=>exact Heap.lt_size (show h.get? a = some _ from x)
 | ext φ => obtain ⟨_,⟨_,e⟩,_⟩:=x;exact Heap.lt_size e
theorem Paired.mapP {α β:Type} {F G : α -> β -> Prop}:∀ {l₁:List α} {l₂:List β},Paired F l₁ l₂ -> (∀ a b,F a b -> G a b) -> Paired G l₁ l₂
 | _,_, .nil,_ => .nil
 | _,_, .cons r t,f => .cons (f _ _ r) (Paired.mapP t f)
theorem ObjOk.stay (x:ObjOk P w H h a o) (k:∀ b u,(b = a ∨ H b = some (.own a)) -> h.get? b = some u -> h'.get? b = some u)
 (ho:∀ b,H b = some (.own a) -> H' b = some (.own a)) (ht:∀ b xs,H b = some (.tup xs) -> H' b = some (.tup xs)):ObjOk P w H' h' a o:=by
 induction o with
 | lst xs=>obtain ⟨z,its,n,r,e⟩:=x;exact ⟨z,its,n,r,k _ _ (.inl rfl) e⟩
 | tup xs=>obtain ⟨z,its,r,ob,e,c⟩:=x;exact ⟨z,its,r,ob,k _ _ (.inl rfl) e,c⟩
 | dK kvs=>obtain ⟨z,y,vs,r,ob,es,ep,e,c⟩:=x;exact ⟨z,y,vs,r,ob,es,ep,k _ _ (.inl rfl) e,c⟩
 | dT kvs =>
   obtain ⟨z,y,xs,r,ob,es,ep,e,c⟩:=x
   exact ⟨z,y,xs,Paired.mapP r fun p q z=>⟨z.1,ht _ _ z.2.1,z.2.2⟩,ob,es,ep,k _ _ (.inl rfl) e,c⟩
 | set S n=>obtain ⟨ob,es,ep,t,e,c⟩:=x;exact ⟨ob,es,ep,t,k _ _ (.inl rfl) e,c⟩
 | ins C dx fs =>
   obtain ⟨d,z,ne,e,mA,⟨od,es,ep,e2,c⟩,r⟩:=x
   exact ⟨ho _ d,z,ne,k _ _ (.inl rfl) e,mA,⟨od,es,ep,k _ _ (.inr d) e2,c⟩,r⟩
 | own y=>obtain ⟨ob,e⟩:=x;exact ⟨ob,k _ _ (.inl rfl) e⟩
 | xd fs=>obtain ⟨mA,⟨od,es,ep,e,c⟩,r⟩:=x;exact ⟨mA,⟨od,es,ep,k _ _ (.inl rfl) e,c⟩,r⟩
 | rng lo hi=>obtain ⟨t,u,v,e⟩:=x;exact ⟨t,u,v,k _ _ (.inl rfl) e⟩
 | frz ob u ih=>obtain ⟨e,q⟩:=x;exact ⟨k _ _ (.inl rfl) e,ih q⟩
 | tbl ps =>
   have e:h.get? a = some { cls := .none,data := .fields ps }:=x
   show h'.get? a = some { cls := .none,data := .fields ps }
   exact k a _ (.inl rfl) e
 | met f y =>
   have e:h.get? a = some (PySem.W.methodObj (.ref f) (.ref y)):=x
   show h'.get? a = some (PySem.W.methodObj (.ref f) (.ref y))
   exact k a _ (.inl rfl) e
 | ext φ => obtain ⟨p,⟨o,e⟩,st⟩:=x;exact ⟨st _ _ p fun o q=>k _ _ (.inl rfl) q,⟨o,k _ _ (.inl rfl) e⟩,st⟩
theorem HOk.lt (x:HOk P w H h) (e:H a = some o):a < h.objs.size:=(x a o e).lt
theorem HOk.fresh (x:HOk P w H h) (e:h.objs.size <= a):H a = none:=by
 cases q:H a with
 | none=>rfl
 | some u=>exact absurd (Nat.lt_of_lt_of_le (x.lt q) e) (Nat.lt_irrefl _)
theorem HOk.kept (x:HOk P w H h) (k:∀ b u,h.get? b = some u -> h'.get? b = some u):HOk P w H h':=fun a o e =>
 (x a o e).stay (fun b u _ q=>k b u q) (fun _ q=>q) fun _ _ q=>q
theorem HOk.laid (x:HOk P w H h) (k:∀ b u,h.get? b = some u -> h'.get? b = some u) (hp:h.objs.size <= a) (new:ObjOk P w (upd H a o) h' a o):HOk P w (upd H a o) h':=fun b u e=>by
 have hn:=x.fresh hp
 by_cases hb:b = a
 ·subst hb;rw [aL] at e;cases e;exact new
 ·rw [ah hb] at e
  exact (x b u e).stay (fun c v _ q=>k c v q) (fun c q=>by rw [ah (aF q hn)];exact q) fun c xs q=>by rw [ah (aF q hn)];exact q
end
noncomputable def Rd (H:Hp) (a:Addr) (u:HO):Prop:=H a = some u ∨ ∃ o,H a = some (.frz o u)
theorem Rd.of {H:Hp} {a:Addr} {u:HO} (h:H a = some u):Rd H a u := .inl h
theorem Rd.ok {P:Program} {w:World} {H:Hp} {h:Heap} {a:Addr} {u:HO} (r:Rd H a u) (x:HOk P w H h):ObjOk P w H h a u:=by
 rcases r with r | ⟨o,r⟩
 ·exact x a u r
 ·obtain ⟨_,q⟩:=x a _ r
  exact q
noncomputable def Mut:Option HO -> Prop
 | some (.lst _)=>True
 | some (.dK _)=>True
 | some (.dT _)=>True
 | some (.set _ _)=>True
 | some (.ins _ _ _)=>True
 | some (.ext _)=>True
 | _=>False
section
variable {P:Program} {w:World} {H:Hp} {h h':Heap} {x e:Addr} {o':HO}
theorem HOk.write (ok:HOk P w H h) (mu:Mut (H x)) (he:e = x ∨ H e = some (.own x)) (k:∀ b u,b ≠ e -> h.get? b = some u -> h'.get? b = some u) (heo:∃ u,h'.get? e = some u)
 (new:ObjOk P w (upd H x o') h' x o'):HOk P w (upd H x o') h':=fun b u q=>by
 have nown:∀ c y,H c = some (.own y) -> c ≠ x:=fun c y r z=>by subst z;rw [r] at mu;exact mu
 have ntup:∀ c xs,H c = some (.tup xs) -> c ≠ x:=fun c xs r z=>by subst z;rw [r] at mu;exact mu
 by_cases hb:b = x
 ·subst hb;rw [aL] at q;cases q;exact new
 ·rw [ah hb] at q
  by_cases hbe:b = e
  ·have q':H b = some (.own x):=by
    rcases he with z | z
    ·exact absurd (hbe.trans z) hb
    ·rw [hbe];exact z
   rw [q] at q';cases q'
   obtain ⟨v,hv⟩:=heo
   exact ⟨v,by rw [hbe];exact hv⟩
  ·refine (ok b u q).stay (fun c v hc r=>k c v ?_ r) (fun c r=>by rw [ah (nown c b r)];exact r) fun c xs r=>by rw [ah (ntup c xs r)];exact r
   rcases hc with rfl | hc
   ·exact hbe
   ·rintro rfl
    rcases he with z | z
    ·exact nown c b hc z
    ·rw [hc] at z;cases z;exact hb rfl
end
structure Un (fs ex:List Addr) (H H':Hp) (h h':Heap):Prop where
 keep:∀ b o,h.get? b = some o -> H b = none -> b ∉ fs -> b ∉ ex -> h'.get? b = some o
 slot:∀ b o,h.get? b = some o -> H b = none -> b ∈ fs -> b ∉ ex -> ∃ sl,h'.get? b = some { o with slots:=sl }
 free:∀ b o,h.get? b = some o -> H b = none -> b ∉ ex -> H' b = none
 there:∀ b o,h.get? b = some o -> b ∉ ex -> ∃ o',h'.get? b = some o'
 tups:∀ b xs,H b = some (.tup xs) -> H' b = some (.tup xs)
 frzs:∀ b o u,H b = some (.frz o u) -> H' b = some (.frz o u)
 tbls:∀ b ps,H b = some (.tbl ps) -> ∃ more,H' b = some (.tbl (ps ++ more))
section
variable {fs fs' ex ex':List Addr} {H H1 H2:Hp} {h h1 h2 h':Heap} {a x e:Addr} {o:HO}
theorem Un.any (u:Un fs ex H H1 h h1) {b:Addr} {ob:Obj} (q:h.get? b = some ob) (n:H b = none) (hx:b ∉ ex):∃ sl,h1.get? b = some { ob with slots:=sl }:=by
 by_cases hb:b ∈ fs
 ·exact u.slot b ob q n hb hx
 ·exact ⟨ob.slots,u.keep b ob q n hb hx⟩
theorem Un.trans (a:Un fs ex H H1 h h1) (b:Un fs ex H1 H2 h1 h2):Un fs ex H H2 h h2 where
 keep:=fun c ob q n hc hx=>b.keep c ob (a.keep c ob q n hc hx) (a.free c ob q n hx) hc hx
 slot:=fun c ob q n hc hx=>by
  obtain ⟨sl,e1⟩:=a.slot c ob q n hc hx
  obtain ⟨sl',e2⟩:=b.slot c _ e1 (a.free c ob q n hx) hc hx
  exact ⟨sl',e2⟩
 free:=fun c ob q n hx=>by
  obtain ⟨o',e1⟩:=a.there c ob q hx
  exact b.free c o' e1 (a.free c ob q n hx) hx
 there:=fun c ob q hx=>by
  obtain ⟨o',e1⟩:=a.there c ob q hx
  exact b.there c o' e1 hx
 tups:=fun c xs q=>b.tups c xs (a.tups c xs q)
 frzs:=fun c ob xs q=>b.frzs c ob xs (a.frzs c ob xs q)
 tbls:=fun c ps q=>by
  obtain ⟨m1,e1⟩:=a.tbls c ps q
  obtain ⟨m2,e2⟩:=b.tbls c _ e1
  exact ⟨m1 ++ m2,by rw [e2,Array.append_assoc]⟩
theorem Un.kept (k:∀ b u,h.get? b = some u -> h'.get? b = some u):Un fs ex H H h h' :=
 ⟨fun b ob q _ _ _=>k b ob q,fun b ob q _ _ _=>⟨ob.slots,k b ob q⟩,fun _ _ _ n _=>n,fun b ob q _=>⟨ob,k b ob q⟩,fun _ _ q=>q,fun _ _ _ q=>q,fun _ ps q=>⟨#[],by rw [q];simp⟩⟩
theorem Un.refl:Un fs ex H H h h:=Un.kept fun _ _ q=>q
theorem Un.laid (k:∀ b u,h.get? b = some u -> h'.get? b = some u) (hp:h.objs.size <= a) (hn:H a = none):Un fs ex H (upd H a o) h h' where
 keep:=fun b u q _ _ _=>k b u q
 slot:=fun b u q _ _ _=>⟨u.slots,k b u q⟩
 free:=fun b u q n _=>by rw [ah (Nat.ne_of_lt (Nat.lt_of_lt_of_le (Heap.lt_size q) hp))];exact n
 there:=fun b u q _=>⟨u,k b u q⟩
 tups:=fun b xs q=>by rw [ah (aF q hn)];exact q
 frzs:=fun b u xs q=>by rw [ah (aF q hn)];exact q
 tbls:=fun b ps q=>⟨#[],by rw [ah (aF q hn),q];simp⟩
theorem Un.write (mu:Mut (H x)) (he:e = x ∨ H e = some (.own x)) (k:∀ b u,b ≠ e -> h.get? b = some u -> h'.get? b = some u) (heo:∃ u,h'.get? e = some u):Un fs ex H (upd H x o) h h':=by
 have hx:∀ b,H b = none -> b ≠ x:=fun b n z=>by subst z;rw [n] at mu;exact mu
 have hb:∀ b,H b = none -> b ≠ e:=fun b n z=>by
  subst z
  rcases he with r | r
  ·exact hx b n r
  ·rw [n] at r;cases r
 have hm:∀ b u,H b = some u -> ¬ Mut (some u) -> b ≠ x:=fun b u q nm z=>by subst z;rw [q] at mu;exact nm mu
 refine ⟨fun b u q n _ _=>k b u (hb b n) q,fun b u q n _ _=>⟨u.slots,k b u (hb b n) q⟩,fun b u q n _=>by rw [ah (hx b n)];exact n,fun b u q _ => ?_,
  fun b xs q=>by rw [ah (hm b _ q fun z=>z)];exact q,fun b u xs q=>by rw [ah (hm b _ q fun z=>z)];exact q,fun b ps q=>⟨#[],by rw [ah (hm b _ q fun z=>z),q];simp⟩⟩
 by_cases hbe:b = e
 ·subst hbe;exact heo
 ·exact ⟨u,k b u hbe q⟩
end
noncomputable def trk (h:Heap) (H:Hp):List Addr:=(List.range h.objs.size).filter fun a=>(H a).isSome
noncomputable def cH (h:Heap) (H:Hp):Heap:=PySem.W.hideAll h (trk h H)
theorem kh (h:Heap) (H:Hp):(cH h H).objs.size = h.objs.size:=PySem.W.hideAll_size _ _
theorem mf {h:Heap} {H:Hp} {b:Addr} {o:Obj} (e:h.get? b = some o) (n:H b = none):(cH h H).get? b = some o :=
 PySem.W.hideAll_get _ e fun hm=>by
  have q:(H b).isSome = true:=(List.mem_filter.mp hm).2
  rw [n] at q;simp at q
theorem oU {h:Heap} {H:Hp} {b:Addr} {o:Obj} (e:(cH h H).get? b = some o):h.get? b = some o /\ H b = none:=by
 have e':h.get? b = some o:=PySem.W.of_hideAll (trk h H) e
 refine ⟨e', ?_⟩
 cases q:H b with
 | none=>rfl
 | some x =>
   have hm:b ∈ trk h H:=List.mem_filter.mpr ⟨List.mem_range.mpr (Heap.lt_size e'),by simp [q]⟩
   have z:(cH h H).get? b = none:=PySem.W.hideAll_none (trk h H) hm
   rw [z] at e;cases e
noncomputable def oV (g h:Heap) (L:Addr):List (Addr × Obj):=(List.range h.objs.size).filterMap fun a=>if a = L ∨ (g.get? a).isSome = true then none else (h.get? a).map fun o=>(a,o)
noncomputable def rest (g h:Heap) (L d:Addr):List (Addr × Obj):=(oV g h L).filter fun p=>decide (p.1 ≠ d)
end L2
namespace L2
open PySem PySem.Spec PyProof.Rows
structure Mod (K:PySem.W.Frag) (mg:Str -> Option Value) (base:Heap):Prop where
 kin:K.In base
 glob:base.Ns mainGlobals mg
 blt:∃ mb,base.Ns builtinsNs mb /\ ∀ x:Str,x ≠ "__name__" -> mb x = bootBuiltins x
 nolimit:base.NoLimit
structure Cx where
 prog:Program
 w:World
 K:PySem.W.Frag
 mg:Str -> Option Value
 base:Heap
 A:Around
 N:List Str
 s₀:Shared
 H₀:Hp
 env:Env
 outer:List Env
 stack:List Env
 ex:List Addr
 fn:Str -> Bool
 calm:Bool
 pn:List (Addr × Obj)
 xe:Value -> Shared -> Prop
noncomputable def frs (l:List Env):List Addr:=l.filterMap (·.frame)
noncomputable abbrev Cx.fs (X:Cx):List Addr:=frs X.outer
noncomputable def Vis (sc:Scope) (x:Str):Prop:=sc.names.lookup x = some .local ∨ sc.names.lookup x = some .cell ∨ sc.names.lookup x = some .free
noncomputable def Loc (sc:Scope) (x:Str):Prop:=sc.names.lookup x = some .local ∨ sc.names.lookup x = some .cell
noncomputable def tN (env:Env) (h:Heap) (m:Str -> Option Value) (x:Str) (u:Value):Prop :=
 (env.kindOf x = some .local /\ m x = some u) ∨ ((env.kindOf x = some .cell ∨ env.kindOf x = some .free) /\ ∃ c,env.cells.lookup x = some c /\ h.IsCell c (some u))
structure Cx.Ok (X:Cx):Prop where
 mod:Mod X.K X.mg X.base
 kind:X.env.scope.kind = .function
 glob:X.env.globals = mainGlobals
 blt:X.env.builtins = builtinsNs
 above:X.s₀.heap.objs.size <= X.env.locals
 inj:∀ x y c,X.env.cells.lookup x = some c -> X.env.cells.lookup y = some c -> x = y
 has:∀ x,(X.env.kindOf x = some .cell ∨ X.env.kindOf x = some .free) -> ∃ c,X.env.cells.lookup x = some c
 cab:∀ x c,X.fn x = true -> X.env.cells.lookup x = some c -> X.s₀.heap.objs.size <= c
 hd:X.calm = true -> X.A.handled = none
 frames:X.A.frames = some X.stack
 stk:X.stack = X.outer ∨ (X.stack = X.env :: X.outer /\ X.env.frame = some X.env.locals)
 exf:∀ b ∈ X.ex,b ≠ X.env.locals /\ ∀ x c,X.env.cells.lookup x = some c -> c ≠ b
 bs:∀ b o,X.base.get? b = some o -> X.s₀.heap.get? b = some o /\ X.H₀ b = none
 bsz:X.base.objs.size <= X.s₀.heap.objs.size
 noex:∀ b o,X.base.get? b = some o -> b ∉ X.ex
 exfs:∀ b ∈ X.ex,b ∉ X.fs
 funs:X.s₀.heap.FunFrames X.base X.outer
 frf:∀ b ∈ X.fs,X.H₀ b = none
structure Inv (X:Cx) (pins:List (Addr × Obj)) (σ:List (Option V)) (H:Hp) (s:Shared):Prop where
 ok:X.Ok
 os:s.os = X.s₀.os
 bare:AllBare s.gens
 base:Un X.fs X.ex X.H₀ H X.s₀.heap s.heap
 loc:∃ m,s.heap.Ns X.env.locals m /\ ∀ (i:Nat) (x:Str) (v:V),X.N[i]? = some x -> σ[i]? = some (some v) -> Vis X.env.scope x -> ∃ u,RelV v u /\ tN X.env s.heap m x u
 cell:∀ x c,X.env.cells.lookup x = some c -> ∃ v,s.heap.IsCell c v
 free:H X.env.locals = none
 freeC:∀ x c,X.env.cells.lookup x = some c -> H c = none
 pin:∀ p ∈ X.pn ++ pins,s.heap.get? p.1 = some p.2 /\ H p.1 = none /\ p.1 ≠ X.env.locals /\ p.1 ∉ X.fs /\ ∀ v,p.2.data ≠ .cell v
 hok:HOk X.prog X.w H s.heap
 len : σ.length = X.N.length
section
variable {X:Cx} {pins:List (Addr × Obj)} {σ:List (Option V)} {H H':Hp} {s:Shared} {h':Heap}
theorem Cx.Ok.nofr (ok:X.Ok) {b:Addr} {o:Obj} (e:X.base.get? b = some o):b ∉ X.fs:=fun hb=>by
 have:=(ok.funs.mem hb).1
 rw [e] at this;cases this
theorem Inv.bs (I:Inv X pins σ H s):∀ b o,X.base.get? b = some o -> s.heap.get? b = some o /\ H b = none:=fun b o e =>
 ⟨I.base.keep b o (I.ok.bs b o e).1 (I.ok.bs b o e).2 (I.ok.nofr e) (I.ok.noex b o e),I.base.free b o (I.ok.bs b o e).1 (I.ok.bs b o e).2 (I.ok.noex b o e)⟩
theorem Inv.bk (I:Inv X pins σ H s):∀ b o,X.base.get? b = some o -> s.heap.get? b = some o:=fun b o e=>(I.bs b o e).1
theorem Inv.mod (I:Inv X pins σ H s):Mod X.K X.mg X.base:=I.ok.mod
theorem Inv.kIn (I:Inv X pins σ H s):X.K.In s.heap:=I.ok.mod.kin.keeps I.bk
theorem Inv.lt (I:Inv X pins σ H s):X.env.locals < s.heap.objs.size:=let ⟨_,hn,_⟩:=I.loc;hn.lt
theorem Inv.sz (I:Inv X pins σ H s):X.s₀.heap.objs.size <= s.heap.objs.size:=Nat.le_trans I.ok.above (Nat.le_of_lt I.lt)
theorem Inv.nofs (I:Inv X pins σ H s) {a:Addr} (h:s.heap.objs.size <= a):a ∉ X.fs:=fun hb=>by
 obtain ⟨_,o,ho,_⟩:=I.ok.funs.mem hb
 exact absurd (Nat.lt_of_lt_of_le (Heap.lt_size ho) (Nat.le_trans I.sz h)) (Nat.lt_irrefl _)
theorem Inv.cne (I:Inv X pins σ H s):∀ x c,X.env.cells.lookup x = some c -> c ≠ X.env.locals:=fun x c e z=>by
 obtain ⟨v,o,ho,hd⟩:=I.cell x c e
 obtain ⟨m,⟨o',es,ep,ho',hd',_⟩,_⟩:=I.loc
 rw [z,ho'] at ho;cases ho;rw [hd'] at hd;cases hd
theorem Inv.funs (I:Inv X pins σ H s):s.heap.FunFrames X.base X.outer:=by
 have all:∀ (l:List Env),(∀ b ∈ frs l,b ∈ X.fs) -> X.s₀.heap.FunFrames X.base l -> s.heap.FunFrames X.base l:=by
  intro l
  induction l with
  | nil=>intro _ _;trivial
  | cons env r ih =>
    intro hs hl
    obtain ⟨hk,⟨L,o,hf,hn,ho,hd⟩,hr⟩:=hl
    have hL:L ∈ X.fs:=hs L (by unfold frs;rw [List.filterMap_cons,hf];exact List.mem_cons_self)
    obtain ⟨sl,e⟩:=I.base.slot L o ho (I.ok.frf L hL) hL fun z=>I.ok.exfs L z hL
    exact ⟨hk,⟨L,_,hf,hn,e,hd⟩,ih (fun b hb=>hs b (by unfold frs;rw [List.filterMap_cons,hf];exact List.mem_cons_of_mem _ hb)) hr⟩
 exact all X.outer (fun _ hb=>hb) I.ok.funs
theorem Inv.stack (I:Inv X pins σ H s):s.heap.FunFrames X.base X.stack:=by
 rcases I.ok.stk with e | ⟨e,hf⟩
 ·rw [e];exact I.funs
 ·rw [e]
  obtain ⟨m,hn,_⟩:=I.loc
  refine .cons (by rw [I.ok.kind];decide) hf hn ?_ I.funs
  exact Heap.get?_none_of_le (Nat.le_trans I.ok.bsz I.ok.above)
theorem Inv.stkSub (I:Inv X pins σ H s):∀ b ∈ frs X.stack,b ∈ X.env.locals :: X.fs:=fun b hb=>by
 rcases I.ok.stk with e | ⟨e,hf⟩
 ·rw [e] at hb;exact List.mem_cons_of_mem _ hb
 ·rw [e] at hb
  unfold frs at hb
  rw [List.filterMap_cons,hf] at hb
  exact hb
theorem Inv.stkFree (I:Inv X pins σ H s):∀ b ∈ frs X.stack,H b = none:=fun b hb=>by
 rcases List.mem_cons.mp (I.stkSub b hb) with e | hb
 ·rw [e];exact I.free
 ·obtain ⟨_,o,ho,_⟩:=I.ok.funs.mem hb
  exact I.base.free b o ho (I.ok.frf b hb) fun z=>I.ok.exfs b z hb
theorem Inv.step {g':Array GenState} {t':Nat} {d':Drawn} {ch:List Addr} (I:Inv X pins σ H s)
 (hch:∀ b ∈ ch,(b ∈ X.ex ∨ X.s₀.heap.objs.size <= b) /\ b ≠ X.env.locals /\ (∀ x c,X.env.cells.lookup x = some c -> c ≠ b) /\ ∀ p ∈ X.pn ++ pins,p.1 ≠ b)
 (keep:∀ b o,b ≠ X.env.locals -> b ∉ X.fs -> b ∉ ch -> s.heap.get? b = some o -> H b = none -> h'.get? b = some o)
 (slot:∀ b o,b ≠ X.env.locals -> b ∈ X.fs -> b ∉ ch -> s.heap.get? b = some o -> H b = none -> ∃ sl,h'.get? b = some { o with slots:=sl }) (free:∀ b o,b ∉ ch -> s.heap.get? b = some o -> H b = none -> H' b = none)
 (there:∀ b o,b ∉ ch -> s.heap.get? b = some o -> ∃ o',h'.get? b = some o')
 (tups:∀ b xs,H b = some (.tup xs) -> H' b = some (.tup xs)) (frzs:∀ b o u,H b = some (.frz o u) -> H' b = some (.frz o u)) (tbls:∀ b ps,H b = some (.tbl ps) -> ∃ more,H' b = some (.tbl (ps ++ more)))
 (ns:∀ m,s.heap.Ns X.env.locals m -> h'.Ns X.env.locals m) (hok:HOk X.prog X.w H' h') (hg:AllBare g') :
 Inv X pins σ H' { s with heap:=h',gens:=g',drawn:=d',toks:=t' }:=by
 have neL:∀ b o,X.s₀.heap.get? b = some o -> b ≠ X.env.locals:=fun b o e=>Nat.ne_of_lt (Nat.lt_of_lt_of_le (Heap.lt_size e) I.ok.above)
 have neC:∀ b o,X.s₀.heap.get? b = some o -> b ∉ X.ex -> b ∉ ch:=fun b o e hx hb=>by
  rcases (hch b hb).1 with z | z
  ·exact hx z
  ·exact absurd (Nat.lt_of_lt_of_le (Heap.lt_size e) z) (Nat.lt_irrefl _)
 have cellK:∀ x c,X.env.cells.lookup x = some c -> ∀ v,s.heap.IsCell c v -> h'.IsCell c v:=fun x c e v ⟨o,ho,hd⟩=>by
  have nch:c ∉ ch:=fun z=>(hch c z).2.2.1 x c e rfl
  by_cases hc:c ∈ X.fs
  ·obtain ⟨sl,q⟩:=slot c o (I.cne x c e) hc nch ho (I.freeC x c e)
   exact ⟨_,q,hd⟩
  ·exact ⟨o,keep c o (I.cne x c e) hc nch ho (I.freeC x c e),hd⟩
 refine ⟨I.ok,I.os,hg,⟨fun b o e n hb hx => ?_,fun b o e n hb hx => ?_,fun b o e n hx => ?_,fun b o e hx => ?_,fun b xs e=>tups b xs (I.base.tups b xs e),fun b o xs e=>frzs b o xs (I.base.frzs b o xs e),fun b ps e => ?_⟩, ?_,fun x c e => ?_, ?_,fun x c e => ?_,fun p hp => ?_,hok,I.len⟩
 ·exact keep b o (neL b o e) hb (neC b o e hx) (I.base.keep b o e n hb hx) (I.base.free b o e n hx)
 ·obtain ⟨sl,e1⟩:=I.base.slot b o e n hb hx
  obtain ⟨sl',e2⟩:=slot b _ (neL b o e) hb (neC b o e hx) e1 (I.base.free b o e n hx)
  exact ⟨sl',e2⟩
 ·obtain ⟨o',e1⟩:=I.base.there b o e hx
  exact free b o' (neC b o e hx) e1 (I.base.free b o e n hx)
 ·obtain ⟨o',e1⟩:=I.base.there b o e hx
  exact there b o' (neC b o e hx) e1
 ·obtain ⟨m1,e1⟩:=I.base.tbls b ps e
  obtain ⟨m2,e2⟩:=tbls b _ e1
  exact ⟨m1 ++ m2,by rw [e2,Array.append_assoc]⟩
 ·obtain ⟨m,hn,hl⟩:=I.loc
  refine ⟨m,ns m hn,fun i x v e1 e2 e3 => ?_⟩
  obtain ⟨u,r,l⟩:=hl i x v e1 e2 e3
  refine ⟨u,r, ?_⟩
  rcases l with l | ⟨k,c,e,z⟩
  ·exact .inl l
  ·exact .inr ⟨k,c,e,cellK x c e _ z⟩
 ·obtain ⟨v,z⟩:=I.cell x c e
  exact ⟨v,cellK x c e v z⟩
 ·obtain ⟨m,⟨o,_,_,ho,_⟩,_⟩:=I.loc
  exact free _ o (fun z=>(hch _ z).2.1 rfl) ho I.free
 ·obtain ⟨v,o,ho,hd⟩:=I.cell x c e
  exact free c o (fun z=>(hch c z).2.2.1 x c e rfl) ho (I.freeC x c e)
 ·obtain ⟨e,n,ne,nf,d⟩:=I.pin p hp
  have nch:p.1 ∉ ch:=fun z=>(hch p.1 z).2.2.2 p hp rfl
  exact ⟨keep p.1 p.2 ne nf nch e n,free p.1 p.2 nch e n,ne,nf,d⟩
theorem Inv.un {t':Nat} (I:Inv X pins σ H s) (u:Un X.fs [] H H' s.heap h') (hok:HOk X.prog X.w H' h'):Inv X pins σ H' { s with heap:=h',toks:=t' }:=by
 obtain ⟨m,⟨o,es,ep,ho,r⟩,_⟩:=id I.loc
 obtain ⟨sl,hL⟩:=u.any ho I.free (by simp)
 exact I.step (g':=s.gens) (d':=s.drawn) (ch := []) (fun _ z=>nomatch z) (fun b o _ hb _ e n=>u.keep b o e n hb (by simp)) (fun b o _ hb _ e n=>u.slot b o e n hb (by simp)) (fun b o _ e n=>u.free b o e n (by simp)) (fun b o _ e=>u.there b o e (by simp)) u.tups u.frzs u.tbls (fun m' hm=>by
  obtain ⟨o',es',ep',ho',r'⟩:=hm
  rw [ho] at ho';cases ho'
  exact ⟨_,es',ep',hL,r'⟩) hok I.bare
theorem Inv.call {g':Array GenState} {t':Nat} {d':Drawn} {ch:List Addr} (I:Inv X pins σ H s) (u:Un (frs X.stack) ch H H' s.heap h') (hok:HOk X.prog X.w H' h') (hg:AllBare g')
 (hch:∀ b ∈ ch,(b ∈ X.ex ∨ X.s₀.heap.objs.size <= b) /\ b ≠ X.env.locals /\ (∀ x c,X.env.cells.lookup x = some c -> c ≠ b) /\ ∀ p ∈ X.pn ++ pins,p.1 ≠ b) :
 Inv X pins σ H' { s with heap:=h',gens:=g',drawn:=d',toks:=t' }:=by
 obtain ⟨m,⟨o,es,ep,ho,r⟩,_⟩:=id I.loc
 obtain ⟨sl,hL⟩:=u.any ho I.free fun z=>(hch _ z).2.1 rfl
 exact I.step (ch:=ch) hch (fun b o hL hb hc e n=>u.keep b o e n (fun z=>(List.mem_cons.mp (I.stkSub b z)).elim hL hb) hc) (fun b o _ _ hc e n=>u.any e n hc) (fun b o hc e n=>u.free b o e n hc) (fun b o hc e=>u.there b o e hc) u.tups u.frzs u.tbls (fun m' hm=>by
  obtain ⟨o',es',ep',ho',r'⟩:=hm
  rw [ho] at ho';cases ho'
  exact ⟨_,es',ep',hL,r'⟩) hok hg
theorem Inv.turned {t':Nat} {it:Addr} (I:Inv X pins σ H s) (k:∀ b o,b ≠ it -> s.heap.get? b = some o -> h'.get? b = some o) (hn:H it = none) (hL:it ≠ X.env.locals)
 (h1:it ∈ X.ex ∨ X.s₀.heap.objs.size <= it) (h2:∀ x c,X.env.cells.lookup x = some c -> c ≠ it) (h3:∀ p ∈ X.pn ++ pins,p.1 ≠ it):Inv X pins σ H { s with heap:=h',toks:=t' }:=by
 have nit:∀ b u,H b = some u -> b ≠ it:=fun b u e z=>by rw [z,hn] at e;cases e
 refine I.step (g':=s.gens) (d':=s.drawn) (ch := [it]) (fun b hb => ?_) (fun b o _ _ hc e _=>k b o (fun z=>hc (by simp [z])) e) (fun b o _ _ hc e _=>⟨o.slots,k b o (fun z=>hc (by simp [z])) e⟩) (fun _ _ _ _ n=>n)
  (fun b o hc e=>⟨o,k b o (fun z=>hc (by simp [z])) e⟩) (fun _ _ e=>e) (fun _ _ _ e=>e) (fun b ps e=>⟨#[],by rw [e];simp⟩) (fun m hm => ?_) (fun b u e => ?_) I.bare
 ·have e:b = it:=by simpa using hb
  subst e
  exact ⟨h1,hL,h2,h3⟩
 ·obtain ⟨o,es,ep,ho,r⟩:=hm
  exact ⟨o,es,ep,k _ o (Ne.symm hL) ho,r⟩
 ·refine (I.hok b u e).stay (fun c v hc q=>k c v ?_ q) (fun _ q=>q) fun _ _ q=>q
  rcases hc with z | z
  ·rw [z];exact nit b u e
  ·exact nit c _ z
theorem Inv.tok (I:Inv X pins σ H s) (t:Nat):Inv X pins σ H { s with toks:=t }:=I.un (h':=s.heap) (t':=t) Un.refl I.hok
theorem Inv.kept {t':Nat} (I:Inv X pins σ H s) (k:∀ b u,s.heap.get? b = some u -> h'.get? b = some u):Inv X pins σ H { s with heap:=h',toks:=t' }:=I.un (Un.kept k) (I.hok.kept k)
theorem Inv.laid {a:Addr} {o:HO} {t':Nat} (I:Inv X pins σ H s) (k:∀ b u,s.heap.get? b = some u -> h'.get? b = some u) (hp:s.heap.objs.size <= a) (new:ObjOk X.prog X.w (upd H a o) h' a o) :
 Inv X pins σ (upd H a o) { s with heap:=h',toks:=t' }:=I.un (Un.laid k hp (I.hok.fresh hp)) (I.hok.laid k hp new)
theorem Inv.write {x e:Addr} {o:HO} {t':Nat} (I:Inv X pins σ H s) (mu:Mut (H x)) (he:e = x ∨ H e = some (.own x)) (k:∀ b u,b ≠ e -> s.heap.get? b = some u -> h'.get? b = some u) (heo:∃ u,h'.get? e = some u)
 (new:ObjOk X.prog X.w (upd H x o) h' x o):Inv X pins σ (upd H x o) { s with heap:=h',toks:=t' }:=I.un (Un.write mu he k heo) (I.hok.write mu he k heo new)
theorem Inv.pins_of {pins':List (Addr × Obj)} (I:Inv X pins σ H s) (h:∀ p ∈ pins',s.heap.get? p.1 = some p.2 /\ H p.1 = none /\ p.1 ≠ X.env.locals /\ p.1 ∉ X.fs /\ ∀ v,p.2.data ≠ .cell v):Inv X pins' σ H s :=
 ⟨I.ok,I.os,I.bare,I.base,I.loc,I.cell,I.free,I.freeC,fun p hp=>(List.mem_append.mp hp).elim (fun z=>I.pin p (List.mem_append_left _ z)) (h p),I.hok,I.len⟩
theorem gu {N:List Str} (hN:N.Nodup) {i j:Nat} {x:Str} (a:N[i]? = some x) (b:N[j]? = some x):i = j:=by
 obtain ⟨h1,e1⟩:=List.getElem?_eq_some_iff.mp a
 obtain ⟨h2,e2⟩:=List.getElem?_eq_some_iff.mp b
 exact (List.getElem_inj hN).mp (e1.trans e2.symm)
theorem ki {M:Model} {A:Around} {E:Value -> Shared -> Prop} {i:Nat} {x:Str} {v:V} {u:Value} {Q:Unit -> Shared -> Prop} (I:Inv X pins σ H s) (hN:X.N.Nodup) (hi:X.N[i]? = some x) (hx:Loc X.env.scope x) (r:RelV v u)
 (h:∀ s',Inv X pins (σ.set i (some v)) H s' -> (∃ a,Heap.SameBut a s.heap s'.heap /\ (a = X.env.locals ∨ X.env.cells.lookup x = some a)) -> Q () s') (hf:X.fn x = true ∨ X.env.scope.names.lookup x = some .local:=by first | exact .inl rfl | exact .inr rfl | assumption):wpAny M A (storeName X.env x u) Q E s:=by
 obtain ⟨m,hn,hl⟩:=id I.loc
 have hcls:(X.env.scope.kind == .class || (X.env.scope.kind == .module && X.env.locals != X.env.globals)) = false:=by rw [I.ok.kind];rfl
 have hiσ:i < σ.length:=by rw [I.len];exact (List.getElem?_eq_some_iff.mp hi).1
 have cne:=I.cne
 have tracked:∀ {a:Addr} {h':Heap},(∃ o,s.heap.get? a = some o /\ H a = none) -> Heap.SameBut a s.heap h' -> HOk X.prog X.w H h':=fun {a h'} ha hs b ob e=>by
  obtain ⟨_,_,hfree⟩:=ha
  refine (I.hok b ob e).stay (fun c w' hc q=>(hs.2 c ?_).trans q) (fun _ q=>q) fun _ _ q=>q
  rintro rfl
  rcases hc with rfl | hc
  ·rw [hfree] at e;cases e
  ·rw [hfree] at hc;cases hc
 rcases hx with hk | hk
 ·refine wpAny_storeName_local hk hn (fun h' hn' hs => ?_) hcls
  obtain ⟨oL,_,_,hoL,_⟩:=id hn
  refine h _ ⟨I.ok,I.os,I.bare,⟨fun b o e n hb hx => ?_,fun b o e n hb hx => ?_,I.base.free,fun b o e hx => ?_,I.base.tups,I.base.frzs,I.base.tbls⟩,⟨_,hn',fun j y v' e1 e2 e3 => ?_⟩,fun y c e => ?_,I.free,I.freeC,fun p hp => ?_,tracked ⟨oL,hoL,I.free⟩ hs,by simpa using I.len⟩ ⟨_,hs, .inl rfl⟩
  ·exact (hs.2 b (Nat.ne_of_lt (Nat.lt_of_lt_of_le (Heap.lt_size e) I.ok.above))).trans (I.base.keep b o e n hb hx)
  ·obtain ⟨sl,e1⟩:=I.base.slot b o e n hb hx
   exact ⟨sl,(hs.2 b (Nat.ne_of_lt (Nat.lt_of_lt_of_le (Heap.lt_size e) I.ok.above))).trans e1⟩
  ·obtain ⟨o',e1⟩:=I.base.there b o e hx
   exact ⟨o',(hs.2 b (Nat.ne_of_lt (Nat.lt_of_lt_of_le (Heap.lt_size e) I.ok.above))).trans e1⟩
  ·by_cases hj:j = i
   ·subst hj
    rw [hi] at e1;cases e1
    rw [List.getElem?_set_self hiσ] at e2
    cases e2
    exact ⟨u,r, .inl ⟨hk,by simp⟩⟩
   ·rw [List.getElem?_set_ne (Ne.symm hj)] at e2
    obtain ⟨u',r',q⟩:=hl j y v' e1 e2 e3
    refine ⟨u',r', ?_⟩
    rcases q with ⟨k,e⟩ | ⟨k,c,e,z⟩
    ·refine .inl ⟨k, ?_⟩
     have:y ≠ x:=fun e=>hj (gu hN e1 (e ▸ hi))
     simp [this,e]
    ·exact .inr ⟨k,c,e,z.sameBut hs (cne y c e)⟩
  ·obtain ⟨w',z⟩:=I.cell y c e
   exact ⟨w',z.sameBut hs (cne y c e)⟩
  ·obtain ⟨e,n,ne,nf,d⟩:=I.pin p hp
   exact ⟨(hs.2 p.1 ne).trans e,n,ne,nf,d⟩
 ·have hfn:X.fn x = true:=by
   rcases hf with z | z
   ·exact z
   ·rw [z] at hk;cases hk
  obtain ⟨c,hc⟩:=I.ok.has x (.inl hk)
  obtain ⟨w',z⟩:=I.cell x c hc
  refine wpAny_storeName_cell I.ok.kind hk hc z (fun h' hc' hs => ?_)
  obtain ⟨oc,hoc,hocd⟩:=id z
  refine h { s with heap:=h' } ⟨I.ok,I.os,I.bare,⟨fun b o e n hb hx => ?_,fun b o e n hb hx => ?_,I.base.free,fun b o e hx => ?_,I.base.tups,I.base.frzs,I.base.tbls⟩,⟨m,hn.sameBut hs (Ne.symm (cne x c hc)),fun j y v' e1 e2 e3 => ?_⟩,fun y c' e => ?_,I.free,I.freeC,fun p hp => ?_,tracked ⟨oc,hoc,I.freeC x c hc⟩ hs,by simpa using I.len⟩ ⟨c,hs, .inr hc⟩
  ·exact (hs.2 b (Nat.ne_of_lt (Nat.lt_of_lt_of_le (Heap.lt_size e) (I.ok.cab x c hfn hc)))).trans (I.base.keep b o e n hb hx)
  ·obtain ⟨sl,e1⟩:=I.base.slot b o e n hb hx
   exact ⟨sl,(hs.2 b (Nat.ne_of_lt (Nat.lt_of_lt_of_le (Heap.lt_size e) (I.ok.cab x c hfn hc)))).trans e1⟩
  ·obtain ⟨o',e1⟩:=I.base.there b o e hx
   exact ⟨o',(hs.2 b (Nat.ne_of_lt (Nat.lt_of_lt_of_le (Heap.lt_size e) (I.ok.cab x c hfn hc)))).trans e1⟩
  ·by_cases hj:j = i
   ·subst hj
    rw [hi] at e1;cases e1
    rw [List.getElem?_set_self hiσ] at e2
    cases e2
    exact ⟨u,r, .inr ⟨.inl hk,c,hc,hc'⟩⟩
   ·rw [List.getElem?_set_ne (Ne.symm hj)] at e2
    obtain ⟨u',r',q⟩:=hl j y v' e1 e2 e3
    refine ⟨u',r', ?_⟩
    rcases q with q | ⟨k,c',e,z'⟩
    ·exact .inl q
    ·refine .inr ⟨k,c',e,z'.sameBut hs ?_⟩
     rintro rfl
     exact hj (gu hN e1 (I.ok.inj _ _ _ e hc ▸ hi))
  ·by_cases hcc:c' = c
   ·subst hcc;exact ⟨_,hc'⟩
   ·obtain ⟨w2,z2⟩:=I.cell y c' e
    exact ⟨w2,z2.sameBut hs hcc⟩
  ·obtain ⟨e,n,ne,nf,d⟩:=I.pin p hp
   refine ⟨(hs.2 p.1 ?_).trans e,n,ne,nf,d⟩
   intro q
   rw [q,hoc] at e
   have q':oc = p.2:=Option.some.inj e
   exact d w' (by rw [<- q'];exact hocd)
theorem cI {M:Model} {A:Around} {E:Value -> Shared -> Prop} {i:Nat} {x:Str} {v:V} {u:Value} {Q:Unit -> Shared -> Prop} (I:Inv X pins σ H s) (hN:X.N.Nodup) (hi:X.N[i]? = some x) (hx:Loc X.env.scope x) (r:RelV v u)
 (h:∀ s',Inv X pins (σ.set i (some v)) H s' -> Q () s') (hf:X.fn x = true ∨ X.env.scope.names.lookup x = some .local:=by first | exact .inl rfl | exact .inr rfl | assumption):wpAny M A (storeName X.env x u) Q E s :=
 ki I hN hi hx r (fun s' I' _=>h s' I') hf
theorem Inv.call' {s':Shared} {ch:List Addr} (I:Inv X pins σ H s) (ho:s'.os = s.os) (u:Un (frs X.stack) ch H H' s.heap s'.heap) (hok:HOk X.prog X.w H' s'.heap) (hg:AllBare s'.gens)
 (hch:∀ b ∈ ch,(b ∈ X.ex ∨ X.s₀.heap.objs.size <= b) /\ b ≠ X.env.locals /\ (∀ x c,X.env.cells.lookup x = some c -> c ≠ b) /\ ∀ p ∈ X.pn ++ pins,p.1 ≠ b):Inv X pins σ H' s':=by
 obtain ⟨h',g',d',t',o'⟩:=s'
 have e:o' = s.os:=ho
 subst e
 exact I.call (g':=g') (t':=t') (d':=d') u hok hg hch
end
noncomputable abbrev XK:=Value -> Option Addr -> Hp -> Prop
noncomputable abbrev St:=List (Option V)
noncomputable abbrev VK:=V -> Hp -> Prop
noncomputable abbrev TE:=St -> Hp -> VK -> Prop
noncomputable abbrev TT:=St -> Hp -> (Bool -> Hp -> Prop) -> Prop
noncomputable abbrev TA:=St -> Hp -> (List V -> Hp -> Prop) -> Prop
structure aZ where
 nx:St -> Hp -> Prop
 rt:VK
 bk:St -> Hp -> Prop:=fun _ _=>False
 ct:St -> Hp -> Prop:=fun _ _=>False
noncomputable abbrev TS:=aZ -> St -> Hp -> Prop
noncomputable def EP (X:Cx) (pins:List (Addr × Obj)) (σ:St) (Q:VK) (u:Value) (s':Shared):Prop := ∃ v H',Inv X pins σ H' s' /\ RelV v u /\ Q v H'
noncomputable def TP (X:Cx) (pins:List (Addr × Obj)) (σ:St) (Q:Bool -> Hp -> Prop) (b:Bool) (s':Shared):Prop := ∃ H',Inv X pins σ H' s' /\ Q b H'
noncomputable def AP (X:Cx) (pins:List (Addr × Obj)) (σ:St) (Q:List V -> Hp -> Prop) (us:List Value) (s':Shared):Prop := ∃ vs H',Inv X pins σ H' s' /\ Vals vs us /\ Q vs H'
noncomputable def SP (X:Cx) (pins:List (Addr × Obj)) (D:aZ) (f:Flow) (s':Shared):Prop :=
 match f with
 | .next => ∃ σ' H',Inv X pins σ' H' s' /\ D.nx σ' H'
 | .brk => ∃ σ' H',Inv X pins σ' H' s' /\ D.bk σ' H'
 | .cont => ∃ σ' H',Inv X pins σ' H' s' /\ D.ct σ' H'
 | .ret u => ∃ v σ' H',Inv X pins σ' H' s' /\ RelV v u /\ D.rt v H'
noncomputable def PE (X:Cx) (e:Expr) (t:TE):Prop :=
 ∀ (pins:List (Addr × Obj)) (s:Shared) (σ:St) (H:Hp) (Q:VK),Inv X pins σ H s -> t σ H Q -> wpAny (model X.prog X.w) X.A (eval e X.env) (EP X pins σ Q) X.xe s
noncomputable def PT (X:Cx) (e:Expr) (t:TT):Prop :=
 ∀ (pins:List (Addr × Obj)) (s:Shared) (σ:St) (H:Hp) (Q:Bool -> Hp -> Prop),Inv X pins σ H s -> t σ H Q -> wpAny (model X.prog X.w) X.A (isTrue e X.env (eval e X.env)) (TP X pins σ Q) X.xe s
noncomputable def PW (X:Cx) (e:Expr) (t:TT):Prop :=
 ∀ (whole:Sem Value) (pins:List (Addr × Obj)) (s:Shared) (σ:St) (H:Hp) (Q:Bool -> Hp -> Prop),Inv X pins σ H s -> t σ H Q -> wpAny (model X.prog X.w) X.A (isTrue e X.env whole) (TP X pins σ Q) X.xe s
theorem PW.pt {X:Cx} {e:Expr} {t:TT} (h:PW X e t):PT X e t:=h _
noncomputable def PA (X:Cx) (es:List Expr) (t:TA):Prop :=
 ∀ (pos:Pos) (pins:List (Addr × Obj)) (s:Shared) (σ:St) (H:Hp) (Q:List V -> Hp -> Prop),Inv X pins σ H s -> t σ H Q -> wpAny (model X.prog X.w) X.A (spliced (backTo pos (starEach es X.env))) (AP X pins σ Q) X.xe s
noncomputable def PS (X:Cx) (st:Stmt) (t:TS):Prop :=
 ∀ (pins:List (Addr × Obj)) (s:Shared) (σ:St) (H:Hp) (D:aZ),Inv X pins σ H s -> t D σ H -> wpAny (model X.prog X.w) X.A (exec st X.env) (SP X pins D) X.xe s
noncomputable def PSs (X:Cx) (st:List Stmt) (t:TS):Prop :=
 ∀ (pins:List (Addr × Obj)) (s:Shared) (σ:St) (H:Hp) (D:aZ),Inv X pins σ H s -> t D σ H -> wpAny (model X.prog X.w) X.A (execs st X.env) (SP X pins D) X.xe s
theorem thn {α:Type} {t:Sem α} {Q Q' : α -> Shared -> Prop} {M:Model} {A:Around} {E:Value -> Shared -> Prop} {s:Shared} (h:wpAny M A t Q E s) (hQ:∀ a s,Q a s -> Q' a s):wpAny M A t Q' E s:=wpAny_mono h hQ fun _ _ x=>x
end L2
namespace L2
open PySem PySem.Spec PyProof.Rows
section
variable {X:Cx}
theorem bin {a b:Expr} {ta tb:TE} (ha:PE X a ta) (hb:PE X b tb) {pins:List (Addr × Obj)} {s:Shared} {σ:St} {H:Hp} {R:V -> V -> Hp -> Prop} (I:Inv X pins σ H s) (h:ta σ H fun x H1=>tb σ H1 fun y H2=>R x y H2)
 {α:Type} {Q : α -> Shared -> Prop} {f:Value -> Value -> Sem α}
 (hf:∀ v u s2 x y H2,Inv X pins σ H2 s2 -> RelV x v -> RelV y u -> R x y H2 -> wpAny (model X.prog X.w) X.A (f v u) Q X.xe s2) :
 wpAny (model X.prog X.w) X.A (eval a X.env) (fun v s₁ => wpAny (model X.prog X.w) X.A (eval b X.env) (fun u s₂ => wpAny (model X.prog X.w) X.A (f v u) Q X.xe s₂) X.xe s₁) X.xe s:=by
 refine thn (ha pins s σ H _ I h) fun v s1 ⟨x,H1,I1,r1,q1⟩ => ?_
 refine thn (hb pins s1 σ H1 _ I1 q1) fun u s2 ⟨y,H2,I2,r2,q2⟩ => ?_
 exact hf v u s2 x y H2 I2 r1 r2 q2
noncomputable def tO (i:Nat):TE:=fun σ H Q => ∃ v, σ[i]? = some (some v) /\ Q v H
noncomputable def tC (v:V):TE:=fun _ H Q=>Q v H
theorem qC {i:Nat} {x:Str} {pos:Pos} (hN:X.N[i]? = some x) (hv:Vis X.env.scope x) (hd:(x == ("__debug__":Str)) = false:=by decide) (hcd:(x == ("__classdict__":Str)) = false:=by decide):PE X (.Name x pos) (tO i):=by
 intro pins s σ H Q I h
 obtain ⟨v,e,h⟩:=h
 obtain ⟨m,hn,hl⟩:=I.loc
 obtain ⟨u,r,l⟩:=hl i x v hN e hv
 have fin:EP X pins σ Q u s:=⟨v,H,I,r,h⟩
 rcases l with ⟨hk,hm⟩ | ⟨hk,c,hc,hcell⟩
 ·exact wpAny_Name (wpAny_loadName_local I.ok.kind hk hn hm fin) hd
 ·rcases hk with hk | hk
  ·exact wpAny_Name (wpAny_loadName_cell I.ok.kind hk hc hcell fin) hd
  ·exact wpAny_Name (wpAny_loadName_free I.ok.kind hk hc hcell fin hcd) hd
theorem qD {i j pos}:PE X (.Constant (.int i) j pos) (tC (.int i)):=fun _ _ _ H _ I h=>wpAny_Constant_int ⟨.int i,H,I.tok _,⟨_,rfl⟩,h⟩
theorem sC {b j pos}:PE X (.Constant (.bool b) j pos) (tC (.bl b)):=fun _ _ _ H _ I h=>Constant_bool ⟨.bl b,H,I,rfl,h⟩
theorem qE {x j pos}:PE X (.Constant (.str x) j pos) (tC (.str x)):=fun _ _ _ H _ I h=>Calls.Constant_str ⟨.str x,H,I.tok _,⟨_,rfl⟩,h⟩
noncomputable def Gl (X:Cx) (x:Str):Prop:=X.env.kindOf x = some .globalImplicit
theorem iJ {E:Value -> Shared -> Prop} {pins:List (Addr × Obj)} {s:Shared} {σ:St} {H:Hp} {x:Str} {u:Value} {pos:Pos} {Q:Value -> Shared -> Prop} (I:Inv X pins σ H s) (hg:Gl X x) (hm:X.mg x = some u) (h:Q u s)
 (hd:(x == ("__debug__":Str)) = false:=by decide):wpAny (model X.prog X.w) X.A (eval (.Name x pos) X.env) Q E s :=
 Calls.Name_function_global I.ok.kind hg (Calls.loadGlobal_global (by rw [I.ok.glob];exact I.mod.glob.keeps I.bk) hm h) hd
theorem cS {E:Value -> Shared -> Prop} {pins:List (Addr × Obj)} {s:Shared} {σ:St} {H:Hp} {x:Str} {u:Value} {pos:Pos} {Q:Value -> Shared -> Prop} (I:Inv X pins σ H s) (hg:Gl X x) (hm:X.mg x = none) (hv:bootBuiltins x = some u) (h:Q u s)
 (hn:x ≠ "__name__" := by decide) (hd:(x == ("__debug__":Str)) = false:=by decide):wpAny (model X.prog X.w) X.A (eval (.Name x pos) X.env) Q E s:=by
 obtain ⟨mb,h1,h2⟩:=I.mod.blt
 exact Calls.Name_function_global I.ok.kind hg (Calls.loadGlobal_builtin (by rw [I.ok.glob];exact I.mod.glob.keeps I.bk) hm (by rw [I.ok.blt];exact h1.keeps I.bk) ((h2 x hn).trans hv) h) hd
theorem oW {x:Str} {v:V} {u:Value} {pos:Pos} (hg:Gl X x) (hm:X.mg x = none) (hv:bootBuiltins x = some u) (r:RelV v u) (hn:x ≠ "__name__" := by decide) (hd:(x == ("__debug__":Str)) = false:=by decide):PE X (.Name x pos) (tC v) :=
 fun _ _ _ H _ I h=>cS I hg hm hv ⟨v,H,I,r,h⟩ hn hd
variable {a b:Expr} {ta tb:TE} {pos:Pos}
noncomputable def tB (t:TE):TT:=fun σ H Q=>t σ H fun x H1 => ∃ c,x = .bl c /\ Q c H1
variable {tA tB':TT} {rest:List Expr}
noncomputable def tP (t u:TT):TT:=fun σ H Q=>t σ H fun c H1=>if c = true then u σ H1 Q else Q false H1
noncomputable def tOr (t u:TT):TT:=fun σ H Q=>t σ H fun c H1=>if c = true then Q true H1 else u σ H1 Q
noncomputable def tQ (t:TT):TT:=fun σ H Q=>t σ H fun c H1=>Q (!c) H1
theorem oX (ha:PT X a tA):PW X (.BoolOp .And [a] pos) tA:=by
 intro wh pins s σ H Q I h
 refine isTrue_and (thn (ha pins s σ H Q I h) fun c s1 e => ?_)
 cases c with
 | true=>exact isTrue_and_nil e
 | false=>exact e
theorem qF (ha:PT X a tA):PW X (.BoolOp .Or [a] pos) tA:=by
 intro wh pins s σ H Q I h
 refine isTrue_or (thn (ha pins s σ H Q I h) fun c s1 e => ?_)
 cases c with
 | false=>exact isTrue_or_nil e
 | true=>exact e
theorem qG (ha:PT X a tA) (hb:PW X (.BoolOp .And (b :: rest) pos) tB'):PW X (.BoolOp .And (a :: b :: rest) pos) (tP tA tB'):=by
 intro wh pins s σ H Q I h
 refine isTrue_and (thn (ha pins s σ H _ I h) fun c s1 ⟨H1,I1,q1⟩ => ?_)
 cases c with
 | true=>exact hb wh pins s1 σ H1 Q I1 q1
 | false=>exact ⟨H1,I1,q1⟩
theorem sD (ha:PT X a tA) (hb:PW X (.BoolOp .Or (b :: rest) pos) tB'):PW X (.BoolOp .Or (a :: b :: rest) pos) (tOr tA tB'):=by
 intro wh pins s σ H Q I h
 refine isTrue_or (thn (ha pins s σ H _ I h) fun c s1 ⟨H1,I1,q1⟩ => ?_)
 cases c with
 | true=>exact ⟨H1,I1,q1⟩
 | false=>exact hb wh pins s1 σ H1 Q I1 q1
theorem qH (ha:PT X a tA):PT X (.UnaryOp .Not a pos) (tQ tA):=by
 intro pins s σ H Q I h
 exact isTrue_not (ha pins s σ H (fun c H1=>Q (!c) H1) I h)
noncomputable def sF (ta:TE):TE:=fun σ H Q=>ta σ H fun x H1 => ∃ c,x = .bl c /\ Q (.bl (!c)) H1
theorem qI (ha:PE X a ta):PE X (.UnaryOp .Not a pos) (sF ta):=by
 intro pins s σ H Q I h
 refine UnaryOp_ (thn (ha pins s σ H _ I h) fun v s1 ⟨x,H1,I1,r1,q1⟩ => ?_)
 obtain ⟨c,rfl,q1⟩:=q1
 cases r1
 exact not_of (wpAny_truthy_bool ⟨.bl (!c),H1,I1,rfl,q1⟩)
noncomputable def tIf (t:TT) (ta tb:TE):TE:=fun σ H Q=>t σ H fun c H1=>if c = true then ta σ H1 Q else tb σ H1 Q
theorem mj {c:Expr} (hc:PT X c tA) (ha:PE X a ta) (hb:PE X b tb):PE X (.IfExp c a b pos) (tIf tA ta tb):=by
 intro pins s σ H Q I h
 refine wpAny_IfExp (thn (hc pins s σ H _ I h) fun d s1 ⟨H1,I1,q1⟩ => ?_)
 cases d with
 | true=>exact ha pins s1 σ H1 Q I1 q1
 | false=>exact hb pins s1 σ H1 Q I1 q1
end
end L2
namespace L2
open PySem PySem.Spec PyProof.Rows
noncomputable def SqL (K:PySem.W.Frag) (H:Hp) (a:Addr) (xs:List V):Prop :=
 Rd H a (.lst xs) ∨
  ∃ (o:Obj) (its:Array Value) (n:Nat),K.lookup a = some o /\ o.cls = .type "list" /\ o.dict = none /\ o.data = .seq its n /\ its.size <= sizeLine /\ Vals xs its.toList
noncomputable def SqT (K:PySem.W.Frag) (H:Hp) (a:Addr) (xs:List V):Prop :=
 Rd H a (.tup xs) ∨
  ∃ (o:Obj) (its:Array Value) (n:Nat),K.lookup a = some o /\ o.cls = .type "tuple" /\ o.data = .seq its n /\ its.size <= sizeLine /\ Vals xs its.toList
noncomputable def tR:Value -> Option V
 | .none=>some .non
 | .bool b=>some (.bl b)
 | .int i _=>some (.int i)
 | .str x _=>some (.str x)
 | .bytes b _=>some (.byt b)
 | .float b _=>some (.flt b)
 | .ref a=>some (.ref a)
 | .type n=>some (.ty n)
 | _=>none
theorem RelV.abs {x:V} {u:Value} (r:RelV x u):tR u = some x:=by
 cases x with
 | non=>cases r;rfl
 | bl _=>cases r;rfl
 | int _=>obtain ⟨t,rfl⟩:=r;rfl
 | str _=>obtain ⟨t,rfl⟩:=r;rfl
 | byt _=>obtain ⟨t,rfl⟩:=r;rfl
 | flt _=>obtain ⟨t,rfl⟩:=r;rfl
 | ref _=>cases r;rfl
 | ty _=>cases r;rfl
theorem RelV.inj {x y:V} {u:Value} (r:RelV x u) (q:RelV y u):x = y:=Option.some.inj (r.abs.symm.trans q.abs)
theorem Vals.inj:∀ {xs ys:List V} {us:List Value},Vals xs us -> Vals ys us -> xs = ys
 | _,_,_, .nil, .nil=>rfl
 | _,_,_, .cons r t, .cons r' t'=>by rw [r.inj r',Vals.inj t t']
section
variable {X:Cx} {pins:List (Addr × Obj)} {σ:St} {H:Hp} {s:Shared} {a:Addr} {xs ys:List V}
theorem SqL.of {K:PySem.W.Frag} (h:H a = some (.lst xs)):SqL K H a xs := .inl (.inl h)
theorem SqT.of {K:PySem.W.Frag} (h:H a = some (.tup xs)):SqT K H a xs := .inl (.inl h)
theorem Inv.list (I:Inv X pins σ H s) (h:SqL X.K H a xs):∃ its:List Value,Vals xs its /\ PlainL s.heap a its.toArray /\ xs.length <= sizeLine:=by
 rcases h with h | ⟨o,its,n,hk,hc,hd,hs,hz,r⟩
 ·obtain ⟨z,its,n,r,e⟩:=h.ok I.hok
  exact ⟨its,r,⟨_,n,e,rfl,rfl,rfl⟩,z⟩
 ·refine ⟨its.toList,r,⟨o,n,I.kIn a o hk,hc,hd,by simpa using hs⟩, ?_⟩
  have e:=r.length
  simp only [Array.length_toList] at e
  omega
theorem Inv.tuple (I:Inv X pins σ H s) (h:SqT X.K H a xs):∃ its:List Value,Vals xs its /\ IsTup s.heap a its.toArray /\ xs.length <= sizeLine:=by
 rcases h with h | ⟨o,its,n,hk,hc,hs,hz,r⟩
 ·obtain ⟨z,its,r,p⟩:=h.ok I.hok
  exact ⟨its,r,p,z⟩
 ·refine ⟨its.toList,r,⟨o,I.kIn a o hk,hc,n,by simpa using hs⟩, ?_⟩
  have e:=r.length
  simp only [Array.length_toList] at e
  omega
theorem Inv.list_inj (I:Inv X pins σ H s) (h:SqL X.K H a xs) (h':SqL X.K H a ys):xs = ys:=by
 obtain ⟨its,r,⟨o,n,e,_,_,d⟩,_⟩:=I.list h
 obtain ⟨its',r',⟨o',n',e',_,_,d'⟩,_⟩:=I.list h'
 rw [e] at e';cases e'
 rw [d] at d'
 injection d' with d1 _
 have:its = its':=by simpa using congrArg Array.toList d1
 subst this
 exact r.inj r'
theorem Inv.tuple_inj (I:Inv X pins σ H s) (h:SqT X.K H a xs) (h':SqT X.K H a ys):xs = ys:=by
 obtain ⟨its,r,⟨o,e,_,n,d⟩,_⟩:=I.tuple h
 obtain ⟨its',r',⟨o',e',_,n',d'⟩,_⟩:=I.tuple h'
 rw [e] at e';cases e'
 rw [d] at d'
 injection d' with d1 _
 have:its = its':=by simpa using congrArg Array.toList d1
 subst this
 exact r.inj r'
end
noncomputable abbrev Cx.wish (X:Cx) (E:Value -> Shared -> Prop):Cx := { X with xe:=E }
noncomputable abbrev Cx.nox (X:Cx):Cx:=X.wish fun _ _=>False
theorem Cx.Ok.wish {X:Cx} (ok:X.Ok) (E:Value -> Shared -> Prop):(X.wish E).Ok :=
 ⟨ok.mod,ok.kind,ok.glob,ok.blt,ok.above,ok.inj,ok.has,ok.cab,ok.hd,ok.frames,ok.stk,ok.exf,ok.bs,ok.bsz,ok.noex,ok.exfs,ok.funs,ok.frf⟩
theorem Cx.Ok.unwish {X:Cx} {E:Value -> Shared -> Prop} (ok:(X.wish E).Ok):X.Ok :=
 ⟨ok.mod,ok.kind,ok.glob,ok.blt,ok.above,ok.inj,ok.has,ok.cab,ok.hd,ok.frames,ok.stk,ok.exf,ok.bs,ok.bsz,ok.noex,ok.exfs,ok.funs,ok.frf⟩
section
variable {X:Cx} {pins:List (Addr × Obj)} {σ:St} {H:Hp} {s:Shared} {E:Value -> Shared -> Prop}
theorem Inv.wish (I:Inv X pins σ H s) (E:Value -> Shared -> Prop):Inv (X.wish E) pins σ H s:=⟨I.ok.wish E,I.os,I.bare,I.base,I.loc,I.cell,I.free,I.freeC,I.pin,I.hok,I.len⟩
theorem Inv.unwish (I:Inv (X.wish E) pins σ H s):Inv X pins σ H s:=⟨I.ok.unwish,I.os,I.bare,I.base,I.loc,I.cell,I.free,I.freeC,I.pin,I.hok,I.len⟩
theorem SP.unwish {D:aZ} {f:Flow} {s':Shared} (h:SP (X.wish E) pins D f s'):SP X pins D f s':=by
 cases f with
 | next=>obtain ⟨σ',H',I,q⟩:=h;exact ⟨σ',H',I.unwish,q⟩
 | brk=>obtain ⟨σ',H',I,q⟩:=h;exact ⟨σ',H',I.unwish,q⟩
 | cont=>obtain ⟨σ',H',I,q⟩:=h;exact ⟨σ',H',I.unwish,q⟩
 | ret u=>obtain ⟨v, σ',H',I,r,q⟩:=h;exact ⟨v, σ',H',I.unwish,r,q⟩
theorem PSs.nox {st:List Stmt} {t:TS} (h:PSs X.nox st t):PSs X st t:=fun pins s σ H D I hw =>
 wpAny_mono (h pins s σ H D (I.wish _) hw) (fun _ _ q=>q.unwish) fun _ _ z=>False.elim z
end
section
variable {X:Cx} {st:Stmt} {rest:List Stmt} {t u:TS} {e:Expr} {te:TE} {pos:Pos}
noncomputable def j9:TS:=fun D σ H=>D.nx σ H
noncomputable def qJ (t u:TS):TS:=fun D σ H=>t { D with nx:=u D } σ H
theorem oY:PSs X [] j9:=fun _ _ σ H _ I h=>wpAny_execs_nil ⟨σ,H,I,h⟩
theorem mm (h1:PS X st t) (h2:PSs X rest u):PSs X (st :: rest) (qJ t u):=by
 intro pins s σ H D I h
 refine wpAny_execs_cons (thn (h1 pins s σ H { D with nx:=u D } I h) fun f s1 q => ?_)
 cases f with
 | next =>
   obtain ⟨σ',H',I',q⟩:=q
   exact h2 pins s1 σ' H' D I' q
 | ret v=>exact q
 | brk=>exact q
 | cont=>exact q
noncomputable def kj:TS:=fun D σ H=>D.bk σ H
noncomputable def oo:TS:=fun D σ H=>D.ct σ H
theorem oZ:PS X (.Pass pos) j9:=fun _ _ σ H _ I h=>wpAny_Pass ⟨σ,H,I,h⟩
theorem mn:PS X (.Break pos) kj:=fun _ _ σ H _ I h=>wpAny_Break ⟨σ,H,I,h⟩
theorem iD:PS X (.Continue pos) oo:=fun _ _ σ H _ I h=>wpAny_Continue ⟨σ,H,I,h⟩
theorem Inv.quiet {pins:List (Addr × Obj)} {σ:St} {H:Hp} {s:Shared} (I:Inv X pins σ H s):interactive X.env = false:=by simp [interactive,I.ok.kind]
noncomputable def ot (te:TE):TS:=fun D σ H=>te σ H fun _ H1=>D.nx σ H1
theorem p3 (he:PE X e te) (hs:swapsWith e none pos.line X.env = pure false:=by rfl):PS X (.Expr e pos) (ot te):=by
 intro pins s σ H D I h
 exact wpAny_Expr_any (thn (he pins s σ H _ I h) fun v s1 ⟨x,H1,I1,r1,q1⟩=>⟨σ,H1,I1,q1⟩) I.quiet hs
noncomputable def qK (te:TE):TS:=fun D σ H=>te σ H D.rt
theorem qL (he:PE X e te):PS X (.Return (some e) pos) (qK te):=by
 intro pins s σ H D I h
 exact wpAny_Return_some (thn (he pins s σ H _ I h) fun v s1 ⟨x,H1,I1,r1,q1⟩=>⟨x, σ,H1,I1,r1,q1⟩)
noncomputable def qM (c:TT) (t u:TS):TS:=fun D σ H=>c σ H fun b H1=>if b = true then t D σ H1 else u D σ H1
theorem sH {c:Expr} {a b:List Stmt} {tc:TT} (hc:PT X c tc) (ha:PSs X a t) (hb:PSs X b u):PS X (.If c a b pos) (qM tc t u):=by
 intro pins s σ H D I h
 refine wpAny_If (thn (hc pins s σ H _ I h) fun d s1 ⟨H1,I1,q1⟩ => ?_)
 cases d with
 | true=>exact ha pins s1 σ H1 D I1 q1
 | false=>exact hb pins s1 σ H1 D I1 q1
end
noncomputable abbrev TG:=V -> St -> Hp -> (St -> Hp -> Prop) -> Prop
noncomputable abbrev TGs:=List V -> St -> Hp -> (St -> Hp -> Prop) -> Prop
noncomputable def PG (X:Cx) (target:Expr) (t:TG):Prop :=
 ∀ (pins:List (Addr × Obj)) (s:Shared) (σ:St) (H:Hp) (v:V) (u:Value) (Q:St -> Hp -> Prop),Inv X pins σ H s -> RelV v u -> t v σ H Q ->
  wpAny (model X.prog X.w) X.A (assign target X.env u) (fun _ s' => ∃ σ' H',Inv X pins σ' H' s' /\ Q σ' H') X.xe s
noncomputable def PGs (X:Cx) (ts:List Expr) (t:TGs):Prop :=
 ∀ (pins:List (Addr × Obj)) (s:Shared) (σ:St) (H:Hp) (vs:List V) (us:List Value) (Q:St -> Hp -> Prop),Inv X pins σ H s -> Vals vs us -> t vs σ H Q ->
  wpAny (model X.prog X.w) X.A (assignInOrder ((assignEach ts X.env).map (·.2)) us) (fun _ s' => ∃ σ' H',Inv X pins σ' H' s' /\ Q σ' H') X.xe s
noncomputable abbrev ja:=V -> V -> V -> Hp -> (Hp -> Prop) -> Prop
noncomputable def PSet (X:Cx) (t:ja):Prop :=
 ∀ (pins:List (Addr × Obj)) (s:Shared) (σ:St) (H:Hp) (o i v:V) (ov iv u:Value) (Q:Hp -> Prop),Inv X pins σ H s -> RelV o ov -> RelV i iv -> RelV v u -> t o i v H Q ->
  wpAny (model X.prog X.w) X.A (setItem ov iv u) (fun _ s' => ∃ H',Inv X pins σ H' s' /\ Q H') X.xe s
noncomputable abbrev TIp:=V -> V -> Hp -> VK -> Prop
noncomputable def PIp (X:Cx) (op:Operator) (t:TIp):Prop :=
 ∀ (pins:List (Addr × Obj)) (s:Shared) (σ:St) (H:Hp) (x y:V) (v u:Value) (Q:VK),Inv X pins σ H s -> RelV x v -> RelV y u -> t x y H Q ->
  wpAny (model X.prog X.w) X.A (inplaceOp op v u) (EP X pins σ Q) X.xe s
section
variable {X:Cx} {pos:Pos}
noncomputable def el (i:Nat):TG:=fun v σ H Q=>Q (σ.set i (some v)) H
theorem iK {i:Nat} {x:Str} (hN:X.N.Nodup) (hi:X.N[i]? = some x) (hx:Loc X.env.scope x) (hf:X.fn x = true ∨ X.env.scope.names.lookup x = some .local:=by first | exact .inl rfl | exact .inr rfl | assumption):PG X (.Name x pos) (el i):=by
 intro pins s σ H v u Q I r h
 exact wpAny_assign_Name (cI I hN hi hx r (fun s' I'=>⟨_,H,I',h⟩) hf)
noncomputable def tS:TGs:=fun vs σ H Q=>vs = [] /\ Q σ H
noncomputable def sJ (t:TG) (u:TGs):TGs:=fun vs σ H Q => ∃ v r,vs = v :: r /\ t v σ H fun σ' H'=>u r σ' H' Q
theorem p4:PGs X [] tS:=by
 intro pins s σ H vs us Q I r h
 obtain ⟨e,h⟩:=h
 subst e
 cases r
 exact assignInOrder_nil ⟨σ,H,I,h⟩
theorem mq {e:Expr} {es:List Expr} {t:TG} {u:TGs} (h1:PG X e t) (h2:PGs X es u)
 (hs:(assignEach (e :: es) X.env).map (·.2) = assign e X.env :: (assignEach es X.env).map (·.2):=by rfl):PGs X (e :: es) (sJ t u):=by
 intro pins s σ H vs us Q I r h
 obtain ⟨v,vr,e1,h⟩:=h
 subst e1
 cases r with
 | cons r rr =>
   rw [hs]
   refine assignInOrder_cons (thn (h1 pins s σ H _ _ _ I r h) fun _ s1 ⟨σ1,H1,I1,q1⟩ => ?_)
   exact h2 pins s1 σ1 H1 _ _ Q I1 rr q1
noncomputable def tT (K:PySem.W.Frag) (n:Nat) (t:TGs):TG:=fun v σ H Q => ∃ a xs,v = .ref a /\ SqT K H a xs /\ xs.length = n /\ t xs σ H Q
theorem qN {es:List Expr} {k:Nat} {t:TGs} {n:Nat} (hc:X.calm = true) (h:PGs X es t)
 (hn:(assignEach es X.env).length = n:=by rfl) (hst:(assignEach es X.env).findIdx? (·.1) = none:=by rfl):PG X (.Tuple es k pos) (tT X.K n t):=by
 intro pins s σ H v u Q I r hw
 obtain ⟨a,xs,e1,hq,hl,hw⟩:=hw
 subst e1
 cases r
 obtain ⟨its,rv,ht,hz⟩:=I.tuple hq
 refine assign_Tuple_tuple (I.ok.hd hc) ht (by simp [hn, <- hl,rv.length]) hst fun h' hx => ?_
 have I1:Inv X pins σ H { s with heap:=h' }:=I.kept (t':=s.toks) fun b o e=>hx b o (Nat.ne_of_lt (Heap.lt_size e)) e
 exact h pins _ σ H xs _ Q I1 (by simpa using rv) hw
noncomputable def tU (to ti:TE) (t:ja):TG:=fun v σ H Q=>to σ H fun o H1=>ti σ H1 fun i H2=>t o i v H2 fun H3=>Q σ H3
theorem qO {o i:Expr} {to ti:TE} {t:ja} (ho:PE X o to) (hi:PE X i ti) (hs:PSet X t)
 (ha:∀ v,assign (.Subscript o i pos) X.env v = (do
   let ov <- holding [v] (eval o X.env)
   let iv <- holding [v,ov] (eval i X.env)
   standAt pos
   holding [v,ov,iv] (setItem ov iv v)
   release [v,ov,iv] []):=by intro _;rfl):PG X (.Subscript o i pos) (tU to ti t):=by
 intro pins s σ H v u Q I r h
 rw [ha]
 refine wpAny_bind (wpAny_holding (thn (ho pins s σ H _ I h) fun ov s1 ⟨x,H1,I1,r1,q1⟩ => ?_))
 refine wpAny_bind (wpAny_holding (thn (hi pins s1 σ H1 _ I1 q1) fun iv s2 ⟨y,H2,I2,r2,q2⟩ => ?_))
 refine wpAny_bind (wpAny_standAt (wpAny_bind (wpAny_holding (thn (hs pins s2 σ H2 x y v ov iv u _ I2 r1 r2 r q2) fun _ s3 ⟨H3,I3,q3⟩ => ?_))))
 exact wpAny_release ⟨σ,H3,I3,q3⟩
noncomputable def jb (te:TE) (g:TG):TS:=fun D σ H=>te σ H fun x H1=>g x σ H1 D.nx
theorem kl {tg e:Expr} {te:TE} {g:TG} (he:PE X e te) (hg:PG X tg g) (hs:swapsWithSole [tg] e pos.line X.env = pure false:=by rfl) (hw:swappedStores [tg] e X.env = pure none:=by rfl)
 (h1:(assignEach [tg] X.env).map (·.2) = [assign tg X.env]:=by rfl):PS X (.Assign [tg] e pos) (jb te g):=by
 intro pins s σ H D I h
 refine wpAny_Assign_stores (thn (he pins s σ H _ I h) fun v s1 ⟨x,H1,I1,r1,q1⟩ => ?_) hs hw
 rw [h1]
 exact thn (hg pins s1 σ H1 x v _ I1 r1 q1) fun _ s2 q=>q
noncomputable def qP (i j:Nat) (ta:TA):TS:=fun D σ H=>ta σ H fun vs H1 => ∃ v w,vs = [v,w] /\ D.nx ((σ.set i (some v)).set j (some w)) H1
theorem qQ {i j:Nat} {x y:Str} {a b:Expr} {ta:TA} {px py pt:Pos} {kt k2 pt2} (hc:X.calm = true) (hN:X.N.Nodup) (hi:X.N[i]? = some x) (hj:X.N[j]? = some y) (hij:i ≠ j)
 (hx:X.env.scope.names.lookup x = some .local) (hy:X.env.scope.names.lookup y = some .local) (ha:PA X [a,b] ta)
 (hw:swappedStores [.Tuple [.Name x px, .Name y py] kt pt] (.Tuple [a,b] k2 pt2) X.env = pure (some [x,y]))
 (hs:swapsWithSole [.Tuple [.Name x px, .Name y py] kt pt] (.Tuple [a,b] k2 pt2) pos.line X.env = pure false:=by rfl) :
 PS X (.Assign [.Tuple [.Name x px, .Name y py] kt pt] (.Tuple [a,b] k2 pt2) pos) (qP i j ta):=by
 intro pins s σ H D I h
 rw [exec_Assign_arm]
 refine wpAny_bind (wpAny_standAt ?_)
 rw [hs]
 refine wpAny_bind (wpAny_pure ?_)
 rw [if_neg (by decide)]
 refine wpAny_bind (Tuple_ (thn (ha _ pins s σ H _ I h) fun us s1 ⟨vs,H1,I1,r1,q1⟩ => ?_))
 obtain ⟨v,w,e1,q1⟩:=q1
 subst e1
 obtain ⟨u1,u2,rfl,rv,rw'⟩:∃ u1 u2,us = [u1,u2] /\ RelV v u1 /\ RelV w u2:=by
  cases r1 with
  | cons p q =>
    cases q with
    | cons p' q' =>
      cases q'
      exact ⟨_,_,rfl,p,p'⟩
 refine wpAny_newObj_type ?_ (by show 2 <= sizeLine;decide)
 have I2:Inv X pins σ H1 { s1 with heap:=s1.heap.push { cls := .type "tuple",data := .seq [u1,u2].toArray } }:=I1.kept (t':=s1.toks) fun b o e=>Heap.get?_push_of_some _ e
 rw [hw]
 refine wpAny_bind (wpAny_pure ?_)
 show wpAny (model X.prog X.w) X.A (do rule "assign.swapped-stores";let items <- unpackItems (.ref s1.heap.objs.size) 2 none;assignInOrder [fun v=>bindName X.env y v,fun v=>bindName X.env x v] items.reverse;pure Flow.next) _ _ _
 refine wpAny_bind (wpAny_rule (wpAny_bind (unpackItems_tuple (items := #[u1,u2]) (I.ok.hd hc) (IsTup.new s1.heap _) fun h' hx' => ?_)))
 have I3:=I2.kept (h':=h') (t':=s1.toks) fun b o e=>hx' b o (Nat.ne_of_lt (Heap.lt_size e)) e
 show wpAny _ _ (assignInOrder [fun v=>bindName X.env y v,fun v=>bindName X.env x v] [u2,u1] >>= fun _=>pure Flow.next) _ _ _
 refine wpAny_bind (assignInOrder_cons (wpAny_bindName (cI I3 hN hj (.inl hy) rw' (fun s2 I4 => ?_) (.inr hy))))
 refine assignInOrder_cons (wpAny_bindName (cI I4 hN hi (.inl hx) rv (fun s3 I5=>assignInOrder_nil (wpAny_pure ?_)) (.inr hx)))
 rw [List.set_comm _ _ (Ne.symm hij)] at I5
 exact ⟨_,H1,I5,q1⟩
noncomputable def tV (i:Nat) (te:TE) (ti:TIp):TS:=fun D σ H => ∃ x, σ[i]? = some (some x) /\ te σ H fun y H1=>ti x y H1 fun z H2=>D.nx (σ.set i (some z)) H2
theorem qR {i:Nat} {x:Str} {e:Expr} {te:TE} {op:Operator} {ti:TIp} {pos':Pos} (hN:X.N.Nodup) (hi:X.N[i]? = some x) (hx:Loc X.env.scope x) (he:PE X e te) (ho:PIp X op ti) (hf:X.fn x = true ∨ X.env.scope.names.lookup x = some .local:=by first | exact .inl rfl | exact .inr rfl | assumption) :
 PS X (.AugAssign (.Name x pos') op e pos) (tV i te ti):=by
 intro pins s σ H D I h
 obtain ⟨v,e1,h⟩:=h
 obtain ⟨m,hn,hl⟩:=I.loc
 have vis:Vis X.env.scope x:=by rcases hx with k | k;exact .inl k;exact .inr (.inl k)
 obtain ⟨u,r,l⟩:=hl i x v hi e1 vis
 refine wpAny_AugAssign_Name ?_
 have go:wpAny (model X.prog X.w) X.A (eval e X.env) (fun w s₂ => wpAny (model X.prog X.w) X.A (inplaceOp op u w) (fun r s₃ => wpAny (model X.prog X.w) X.A (storeName X.env x r) (fun _=>SP X pins D .next) X.xe s₃) X.xe s₂) X.xe s:=by
  refine thn (he pins s σ H _ I h) fun w s1 ⟨y,H1,I1,r1,q1⟩ => ?_
  refine thn (ho pins s1 σ H1 v y u w _ I1 r r1 q1) fun z s2 ⟨zv,H2,I2,r2,q2⟩ => ?_
  exact cI I2 hN hi hx r2 (fun s3 I3=>⟨_,H2,I3,q2⟩) hf
 rcases l with ⟨hk,hm⟩ | ⟨hk,c,hc,hcell⟩
 ·exact wpAny_loadName_local I.ok.kind hk hn hm go
 ·rcases hk with hk | hk
  ·exact wpAny_loadName_cell I.ok.kind hk hc hcell go
  ·rcases hx with k | k
   ·have:X.env.scope.names.lookup x = some .free:=hk
    rw [k] at this;cases this
   ·have:X.env.scope.names.lookup x = some .free:=hk
    rw [k] at this;cases this
end
section
variable {X:Cx} {pos:Pos}
noncomputable def km (c:TT) (tb:TS):TS:=fun D σ H => ∃ W:Nat -> St -> Hp -> Prop,(∃ m,W m σ H) /\ ∀ m σ H,W m σ H ->
 c σ H fun b H1=>if b = true then ∃ N:St -> Hp -> Prop,(∀ σ' H',N σ' H' -> ∃ m',m' < m /\ W m' σ' H') /\ tb { D with nx:=N,ct:=N,bk:=D.nx } σ H1 else D.nx σ H1
theorem mv {c:Expr} {body:List Stmt} {tc:TT} {tb:TS} (hp:PassesOwn (model X.prog X.w) X.A X.env X.xe) (hc:PT X c tc) (hb:PSs X body tb):PS X (.While c body [] pos) (km tc tb):=by
 intro pins s σ H D I h
 obtain ⟨W,⟨m0,w0⟩,turn⟩:=h
 refine wpAny_While (codeAny_whileLoop (fun n s' => ∃ σ' H',Inv X pins σ' H' s' /\ W n σ' H') ?_ m0 ⟨σ,H,I,w0⟩)
 rintro n s1 ⟨σ1,H1,I1,w1⟩
 refine wpAny_passesOwn hp (thn (hc pins s1 σ1 H1 _ I1 (turn n σ1 H1 w1)) fun b s2 ⟨H2,I2,q2⟩ => ?_)
 cases b with
 | true =>
   obtain ⟨N,hN,q2⟩:=q2
   rw [if_pos rfl]
   refine wpAny_passesOwn hp (thn (hb pins s2 σ1 H2 _ I2 q2) fun f s3 q3 => ?_)
   cases f with
   | next =>
     obtain ⟨σ3,H3,I3,n3⟩:=q3
     obtain ⟨m',hm,w3⟩:=hN σ3 H3 n3
     exact ⟨m',hm, σ3,H3,I3,w3⟩
   | cont =>
     obtain ⟨σ3,H3,I3,n3⟩:=q3
     obtain ⟨m',hm,w3⟩:=hN σ3 H3 n3
     exact ⟨m',hm, σ3,H3,I3,w3⟩
   | brk=>exact q3
   | ret v=>exact q3
 | false =>
   rw [if_neg Bool.false_ne_true]
   exact wpAny_execs_nil ⟨σ1,H2,I2,q2⟩
end
structure It where
 go:Nat -> Hp -> Prop
 yld:Nat -> Hp -> V -> Hp -> Prop
 stop:Nat -> Hp -> Prop
noncomputable def bv (X:Cx) (pins:List (Addr × Obj)) (H:Hp) (b:Addr):Prop :=
 H b = none /\ b ≠ X.env.locals /\ b ∉ X.fs /\ (b ∈ X.ex ∨ X.s₀.heap.objs.size <= b) /\ (∀ x c,X.env.cells.lookup x = some c -> c ≠ b) /\ ∀ p ∈ X.pn ++ pins,p.1 ≠ b
theorem Inv.fpOk {X:Cx} {pins:List (Addr × Obj)} {σ:St} {H H':Hp} {s:Shared} {b:Addr} (I:Inv X pins σ H s) (hb:s.heap.objs.size <= b) (hn:H' b = none):bv X pins H' b:=by
 refine ⟨hn,Nat.ne_of_gt (Nat.lt_of_lt_of_le I.lt hb),I.nofs hb, .inr (Nat.le_trans I.sz hb),fun x c e z => ?_,fun p hp z => ?_⟩
 ·obtain ⟨v,q⟩:=I.cell x c e
  exact absurd (Nat.lt_of_lt_of_le q.lt (by rw [z];exact hb)) (Nat.lt_irrefl _)
 ·exact absurd (Nat.lt_of_lt_of_le (Heap.lt_size (I.pin p hp).1) (by rw [z];exact hb)) (Nat.lt_irrefl _)
structure fg (P:Program) (w:World) (K:PySem.W.Frag) (tg:Expr) (J:It) (fp:List Addr) (it:Addr) (tn:Nat -> Heap -> Prop):Prop where
 mem:it ∈ fp
 obj:∀ i h,tn i h -> ∀ b ∈ fp, ∃ o,h.get? b = some o /\ ∀ v,o.data ≠ .cell v
 keep:∀ i h h',tn i h -> (∀ b ∈ fp, ∀ o,h.get? b = some o -> h'.get? b = some o) -> tn i h'
 item:∀ (X:Cx),X.prog = P -> X.w = w -> X.K = K -> X.calm = true -> ∀ (i:Nat) (pins:List (Addr × Obj)) (s:Shared) (σ:St) (H:Hp) (E:Value -> Shared -> Prop),Inv X pins σ H s -> (∀ b ∈ fp,bv X pins H b) -> tn i s.heap -> J.go i H ->
  wpAny (model P w) X.A (pyNext (.ref it)) (fun r s1 => ∃ u,r = some u /\
   wpAny (model P w) X.A (letOwnedTupleGo tg (.ref it) u) (fun _ s2 => ∃ x H',Inv X pins σ H' s2 /\ RelV x u /\ J.yld i H x H' /\ tn (i + 1) s2.heap /\ ∀ b ∈ fp,H' b = none) E s1) E s
 done:∀ (X:Cx),X.prog = P -> X.w = w -> X.K = K -> X.calm = true -> ∀ (i:Nat) (pins:List (Addr × Obj)) (s:Shared) (σ:St) (H:Hp) (E:Value -> Shared -> Prop),Inv X pins σ H s -> (∀ b ∈ fp,bv X pins H b) -> tn i s.heap -> J.stop i H ->
  wpAny (model P w) X.A (pyNext (.ref it)) (fun r s1=>r = none /\ Inv X pins σ H s1) E s
 self:∀ (A:Around) (i:Nat) (s:Shared) (Q:Value -> Shared -> Prop) (E:Value -> Shared -> Prop),tn i s.heap -> Q (.ref it) s -> wpAny (model P w) A (pyIter (.ref it)) Q E s
noncomputable abbrev TI:=St -> Hp -> (It -> Hp -> Prop) -> Prop
noncomputable def PIE (X:Cx) (pins:List (Addr × Obj)) (σ:St) (tg:Expr) (R:It -> Hp -> Prop) (itv:Value) (s2:Shared):Prop :=
 ∃ (it:Addr) (fp:List Addr) (tn:Nat -> Heap -> Prop) (J:It) (H':Hp),itv = .ref it /\ Inv X pins σ H' s2 /\ fg X.prog X.w X.K tg J fp it tn /\ tn 0 s2.heap /\ (∀ b ∈ fp,bv X pins H' b) /\ R J H'
noncomputable def PI (X:Cx) (tg iter:Expr) (wi:TI):Prop :=
 ∀ (pins:List (Addr × Obj)) (s:Shared) (σ:St) (H:Hp) (R:It -> Hp -> Prop),Inv X pins σ H s -> wi σ H R ->
  wpAny (model X.prog X.w) X.A (eval iter X.env) (fun v s1=>wpAny (model X.prog X.w) X.A (pyIter v) (PIE X pins σ tg R) X.xe s1) X.xe s
theorem jc {M:Model} {A:Around} {E:Value -> Shared -> Prop} {s:Shared} {tg:Expr} {it:Addr} {u:Value} {o:Obj} {n:String} {vs:Array Value} {Q:Unit -> Shared -> Prop} (ho:s.heap.get? it = some o) (hc:o.cls = .type n) (hd:o.data = .fields vs)
 (hn : ["enumerate", "zip", "dict_itemiterator", "dict_reverseitemiterator", "odict_iterator", "itertools.zip_longest", "itertools.pairwise"].contains n = false) (hQ:Q () s):wpAny M A (letOwnedTupleGo tg (.ref it) u) Q E s:=by
 unfold letOwnedTupleGo
 cases tg <;> first
  | exact wpAny_pure hQ
  | (cases u <;> first
      | exact wpAny_pure hQ
      | (refine wpAny_bind (wpAny_load ho ?_)
         rw [hc,hd]
         show wpAny M A (if (["enumerate", "zip", "dict_itemiterator", "dict_reverseitemiterator", "odict_iterator", "itertools.zip_longest", "itertools.pairwise"].contains n && vs[0]? == some (rawInt _)) = true then _ else _) Q E s
         rw [if_neg (by intro h;rw [hn,Bool.false_and] at h;cases h)]
         exact wpAny_pure hQ))
noncomputable def Itl (K:PySem.W.Frag) (a:Addr):It :=
 ⟨fun i H => ∃ xs x,SqL K H a xs /\ xs[i]? = some x,fun i H x H'=>H' = H /\ ∀ xs,SqL K H a xs -> xs[i]? = some x,fun i H => ∃ xs,SqL K H a xs /\ xs.length <= i⟩
noncomputable def Itt (K:PySem.W.Frag) (a:Addr):It :=
 ⟨fun i H => ∃ xs x,SqT K H a xs /\ xs[i]? = some x,fun i H x H'=>H' = H /\ ∀ xs,SqT K H a xs -> xs[i]? = some x,fun i H => ∃ xs,SqT K H a xs /\ xs.length <= i⟩
noncomputable def Itr (lo:Int) (n:Nat):It:=⟨fun i _=>i < n,fun i H x H'=>H' = H /\ x = .int (lo + i),fun i _=>n <= i⟩
theorem kn {P:Program} {w:World} {K:PySem.W.Frag} {tg:Expr} (a it:Addr):fg P w K tg (Itl K a) [it] it (fun i h=>h.IsListIter it a i) where
 mem:=by simp
 obj:=fun i h st b hb=>by
  have e:b = it:=by simpa using hb
  subst e
  obtain ⟨o,e,c,d⟩:=st
  exact ⟨o,e,fun v z=>by rw [d] at z;cases z⟩
 keep:=fun i h h' st k=>st.at fun o e=>k it (by simp) o e
 item:=by
  intro X hP hw hK hc i pins s σ H E I hf st hg
  subst hP hw hK
  obtain ⟨xs,x,hq,hx⟩:=hg
  obtain ⟨its,rv,p,hz⟩:=I.list hq
  obtain ⟨u,hu,ru⟩:=rv.get hx
  obtain ⟨f0,f1,f2,f3,f4,f5⟩:=hf it (by simp)
  refine wpAny_pyNext_list_item st p.isList (x:=u) (by simpa using hu) fun h' st' sb => ?_
  have I1:Inv X pins σ H { s with heap:=h' }:=I.turned (t':=s.toks) (fun b o hb e=>(sb.2 b hb).trans e) f0 f1 f3 f4 f5
  obtain ⟨o,e,c,d⟩:=id st'
  exact ⟨u,rfl,jc (s := { s with heap:=h' }) e c d (by decide) ⟨x,H,I1,ru,⟨rfl,fun ys hy=>by rw [I.list_inj hy hq];exact hx⟩,st',fun b hb=>(hf b hb).1⟩⟩
 done:=by
  intro X hP hw hK hc i pins s σ H E I hf st hg
  subst hP hw hK
  obtain ⟨xs,hq,hx⟩:=hg
  obtain ⟨its,rv,p,hz⟩:=I.list hq
  obtain ⟨f0,f1,f2,f3,f4,f5⟩:=hf it (by simp)
  have hl:=rv.length
  exact wpAny_pyNext_list_end (I.ok.hd hc) st p.isList (by simp;omega) fun h' eb=>⟨rfl,I.turned (t':=s.toks) (fun b o hb e=>eb b o hb e) f0 f1 f3 f4 f5⟩
 self:=fun _ _ _ _ _ st h=>wpAny_pyIter_listiter st h
theorem jd {P:Program} {w:World} {K:PySem.W.Frag} {tg:Expr} (a it:Addr):fg P w K tg (Itt K a) [it] it (fun i h=>h.IsTupleIter it a i) where
 mem:=by simp
 obj:=fun i h st b hb=>by
  have e:b = it:=by simpa using hb
  subst e
  obtain ⟨o,e,c,d⟩:=st
  exact ⟨o,e,fun v z=>by rw [d] at z;cases z⟩
 keep:=fun i h h' st k=>st.at fun o e=>k it (by simp) o e
 item:=by
  intro X hP hw hK hc i pins s σ H E I hf st hg
  subst hP hw hK
  obtain ⟨xs,x,hq,hx⟩:=hg
  obtain ⟨its,rv,p,hz⟩:=I.tuple hq
  obtain ⟨u,hu,ru⟩:=rv.get hx
  obtain ⟨f0,f1,f2,f3,f4,f5⟩:=hf it (by simp)
  refine wpAny_pyNext_tuple_item st (show s.heap.IsTuple a its.toArray from p) (x:=u) (by simpa using hu) fun h' st' sb => ?_
  have I1:Inv X pins σ H { s with heap:=h' }:=I.turned (t':=s.toks) (fun b o hb e=>(sb.2 b hb).trans e) f0 f1 f3 f4 f5
  obtain ⟨o,e,c,d⟩:=id st'
  exact ⟨u,rfl,jc (s := { s with heap:=h' }) e c d (by decide) ⟨x,H,I1,ru,⟨rfl,fun ys hy=>by rw [I.tuple_inj hy hq];exact hx⟩,st',fun b hb=>(hf b hb).1⟩⟩
 done:=by
  intro X hP hw hK hc i pins s σ H E I hf st hg
  subst hP hw hK
  obtain ⟨xs,hq,hx⟩:=hg
  obtain ⟨its,rv,p,hz⟩:=I.tuple hq
  obtain ⟨f0,f1,f2,f3,f4,f5⟩:=hf it (by simp)
  have hl:=rv.length
  exact wpAny_pyNext_tuple_end (I.ok.hd hc) st (show s.heap.IsTuple a its.toArray from p) (by simp;omega) fun h' eb=>⟨rfl,I.turned (t':=s.toks) (fun b o hb e=>eb b o hb e) f0 f1 f3 f4 f5⟩
 self:=fun _ _ _ _ _ st h=>wpAny_pyIter_tupleiter st h
theorem je {P:Program} {w:World} {K:PySem.W.Frag} {tg:Expr} (it:Addr) (lo:Int) (n:Nat):fg P w K tg (Itr lo n) [it] it (fun i h=>IsRangeIter h it (lo + (i:Nat) * 1) ((n:Int) - (i:Nat)) 1) where
 mem:=by simp
 obj:=fun i h st b hb=>by
  have e:b = it:=by simpa using hb
  subst e
  exact ⟨_,st,fun v z=>by
   have z':Data.fields _ = Data.cell v:=z
   cases z'⟩
 keep:=fun i h h' st k=>k it (by simp) _ st
 item:=by
  intro X hP hw hK hc i pins s σ H E I hf st hg
  subst hP hw hK
  obtain ⟨f0,f1,f2,f3,f4,f5⟩:=hf it (by simp)
  have W:=Walks.range (prog:=X.prog) (w:=X.w) (I.ok.hd hc) it lo 1 n
  refine W.item i s _ _ hg st fun v h' tk hv st' kk => ?_
  obtain ⟨t,rfl⟩:=hv
  have I1:Inv X pins σ H { s with heap:=h',toks:=tk }:=I.turned (fun b o hb e=>kk b o (by simpa using hb) e) f0 f1 f3 f4 f5
  refine ⟨_,rfl,jc (s := { s with heap:=h',toks:=tk }) (n := "range_iterator") st' rfl rfl (by decide) ⟨.int (lo + i),H,I1,⟨t, ?_⟩,⟨rfl,rfl⟩,st',fun b hb=>(hf b hb).1⟩⟩
  rw [Int.mul_one]
 done:=by
  intro X hP hw hK hc i pins s σ H E I hf st hg
  subst hP hw hK
  obtain ⟨f0,f1,f2,f3,f4,f5⟩:=hf it (by simp)
  exact wpAny_pyNext_range_end (I.ok.hd hc) st (by have:n <= i:=hg;omega) fun h' eb=>⟨rfl,I.turned (t':=s.toks) (fun b o hb e=>eb b o hb e) f0 f1 f3 f4 f5⟩
 self:=fun _ _ _ _ _ st h=>wpAny_pyIter_rangeiter st h
end L2
namespace L2
open PySem PySem.Spec PyProof.Rows
section
variable {X:Cx} {tg:Expr}
theorem mw {pins:List (Addr × Obj)} {σ:St} {H:Hp} {s:Shared} {R:It -> Hp -> Prop} {E:Value -> Shared -> Prop} {lo hi:Int} {t u v:Tok} {tk:Nat} (I:Inv X pins σ H s) (h1 : -(2 ^ 62) <= lo) (h2:lo < 2 ^ 62) (h3 : -(2 ^ 62) <= hi) (h4:hi < 2 ^ 62)
 (q:R (Itr lo (hi - lo).toNat) H):wpAny (model X.prog X.w) X.A (pyIter (.ref s.heap.objs.size)) (PIE X pins σ tg R) E { s with heap:=s.heap.push { cls := .type "range",data := .fields #[.int lo t, .int hi u, .int 1 v] },toks:=tk }:=by
 refine wpAny_pyIter_range (IsRange.new ..) (small_one h1 h2 h3 h4) ?_
 have I1:Inv X pins σ H { s with heap:=s.heap.push { cls := .type "range",data := .fields #[.int lo t, .int hi u, .int 1 v] },toks:=tk }:=I.kept fun b o e=>Heap.get?_push_of_some _ e
 refine ⟨(s.heap.push { cls := .type "range",data := .fields #[.int lo t, .int hi u, .int 1 v] }).objs.size,[(s.heap.push { cls := .type "range",data := .fields #[.int lo t, .int hi u, .int 1 v] }).objs.size],_,_,H,rfl,
  I1.kept (t':=tk) fun b o e=>Heap.get?_push_of_some _ e,je _ lo (hi - lo).toNat, ?_,fun b hb => ?_,q⟩
 ·have e1:lo + ((0:Nat):Int) * 1 = lo:=by simp
  have e2:(((hi - lo).toNat:Nat):Int) - ((0:Nat):Int) = Builtin.Range.rangeSize lo hi 1:=by rw [rangeSize_one];split <;> omega
  show IsRangeIter _ _ (lo + ((0:Nat):Int) * 1) ((((hi - lo).toNat:Nat):Int) - ((0:Nat):Int)) 1
  rw [e1,e2]
  exact Heap.get?_push_size _ rfl
 ·have e:b = (s.heap.push { cls := .type "range",data := .fields #[.int lo t, .int hi u, .int 1 v] }).objs.size:=by simpa using hb
  subst e
  exact I1.fpOk (Nat.le_refl _) (I1.hok.fresh (Nat.le_refl _))
noncomputable def sK (ta:TA):TI:=fun σ H R=>ta σ H fun vs H1 => ∃ j:Int,vs = [.int j] /\ -(2 ^ 62) <= j /\ j < 2 ^ 62 /\ R (Itr 0 j.toNat) H1
theorem ko {a:Expr} {ta:TA} {p pos:Pos} (hg:Gl X "range") (hm:X.mg "range" = none) (ha:PA X [a] ta) (hs:starEach [a] X.env = [(false,eval a X.env)]:=by rfl):PI X tg (.Call (.Name "range" p) [a] [] pos) (sK ta):=by
 intro pins s σ H R I h
 refine Call_ (cS I hg hm boot_range (PyProof.Rows.callWith_type1 (thn (ha pos pins s σ H _ I h) fun us s1 ⟨vs,H1,I1,r1,q1⟩ => ?_) hs rfl))
 obtain ⟨j,e,q1,q2,q⟩:=q1
 subst e
 cases r1 with
 | cons r rr =>
   cases rr
   obtain ⟨t,rfl⟩:=r
   exact call_range_1 (mw I1 (by omega) (by omega) q1 q2 (by simpa using q))
noncomputable def qS (wi:TI) (g:TG) (tb:TS):TS:=fun D σ H=>wi σ H fun J H1 => ∃ W:Nat -> Nat -> St -> Hp -> Prop,(∃ m,W 0 m σ H1) /\ ∀ i m σ H,W i m σ H ->
 (J.stop i H /\ D.nx σ H) ∨ (J.go i H /\ ∃ N:St -> Hp -> Prop,(∀ σ' H',N σ' H' -> ∃ m',m' < m /\ W (i + 1) m' σ' H') /\ ∀ x H',J.yld i H x H' -> g x σ H' fun σ2 H2=>tb { D with nx:=N,ct:=N,bk:=D.nx } σ2 H2)
noncomputable def em (fp:List Addr) (h:Heap):List (Addr × Obj):=fp.filterMap fun b=>(h.get? b).map fun o=>(b,o)
theorem bT {fp:List Addr} {h:Heap} {b:Addr} {o:Obj} (hb:b ∈ fp) (e:h.get? b = some o):(b,o) ∈ em fp h:=List.mem_filterMap.mpr ⟨b,hb,by rw [e];rfl⟩
theorem kr {fp:List Addr} {h:Heap} {p:Addr × Obj} (hp:p ∈ em fp h):p.1 ∈ fp /\ h.get? p.1 = some p.2:=by
 obtain ⟨b,hb,e⟩:=List.mem_filterMap.mp hp
 cases q:h.get? b with
 | none=>rw [q] at e;cases e
 | some o =>
   rw [q] at e
   have e':(b,o) = p:=Option.some.inj e
   subst e'
   exact ⟨hb,q⟩
theorem Inv.pinned {pins:List (Addr × Obj)} {σ:St} {H:Hp} {s:Shared} {fp:List Addr} (I:Inv X pins σ H s) (hf:∀ b ∈ fp,bv X pins H b) (ho:∀ b ∈ fp, ∃ o,s.heap.get? b = some o /\ ∀ v,o.data ≠ .cell v):Inv X (pins ++ em fp s.heap) σ H s :=
 I.pins_of fun p hp=>(List.mem_append.mp hp).elim (fun z=>I.pin p (List.mem_append_right _ z)) fun z=>by
  obtain ⟨hb,e⟩:=kr z
  obtain ⟨f0,f1,f2,_⟩:=hf p.1 hb
  obtain ⟨o,e',d⟩:=ho p.1 hb
  rw [e] at e';cases e'
  exact ⟨e,f0,f1,f2,d⟩
theorem Inv.unpinned {pins pl:List (Addr × Obj)} {σ:St} {H:Hp} {s:Shared} (I:Inv X (pins ++ pl) σ H s):Inv X pins σ H s:=I.pins_of fun p hp=>I.pin p (List.mem_append_right _ (List.mem_append_left _ hp))
theorem qT {iter:Expr} {body:List Stmt} {wi:TI} {g:TG} {tb:TS} {pos:Pos} (hp:PassesOwn (model X.prog X.w) X.A X.env X.xe) (hc:X.calm = true) (hi:PI X tg iter wi) (hg:PG X tg g) (hb:PSs X body tb)
 (hs:∀ x,foldedSetIterable iter X.env x = pure x:=by intro _;rfl):PS X (.For tg iter body [] pos) (qS wi g tb):=by
 intro pins s σ H D I h
 refine wpAny_For (thn (hi pins s σ H _ I h) fun v s1 h1=>thn h1 fun itv s2 h2 => ?_) hs
 obtain ⟨it,fp,tn,J,H2,e,I2,T,st2,f2,W,⟨m0,w0⟩,turn⟩:=h2
 subst e
 have stat:∀ {H':Hp},(∀ b ∈ fp,H' b = none) -> ∀ b ∈ fp,bv X pins H' b:=fun hn b hb=>⟨hn b hb,(f2 b hb).2⟩
 refine codeAny_forLoop_any (fun n s' => ∃ i σ' H',Inv X pins σ' H' s' /\ tn i s'.heap /\ (∀ b ∈ fp,H' b = none) /\ W i n σ' H') ?_ m0 ⟨0, σ,H2,I2,st2,fun b hb=>(f2 b hb).1,w0⟩
 rintro n s3 ⟨i, σ3,H3,I3,st3,fr3,w3⟩
 rcases turn i n σ3 H3 w3 with ⟨stop,qn⟩ | ⟨go,N,hN,step⟩
 ·refine wpAny_passesOwn hp (thn (T.done X rfl rfl rfl hc i pins s3 σ3 H3 X.xe I3 (stat fr3) st3 stop) fun r s4 ⟨hr,I4⟩ => ?_)
  subst hr
  exact wpAny_execs_nil ⟨σ3,H3,I4,qn⟩
 ·refine wpAny_passesOwn hp (thn (T.item X rfl rfl rfl hc i pins s3 σ3 H3 X.xe I3 (stat fr3) st3 go) fun r s4 ⟨u,hr,h4⟩ => ?_)
  subst hr
  refine wpAny_passesOwn hp (thn h4 fun _ s5 ⟨x,H5,I5,r5,y5,st5,fr5⟩ => ?_)
  have I5':=I5.pinned (stat fr5) (T.obj _ _ st5)
  refine wpAny_passesOwn hp (thn (hg _ s5 σ3 H5 x u _ I5' r5 (step x H5 y5)) fun _ s6 ⟨σ6,H6,I6,q6⟩ => ?_)
  refine wpAny_passesOwn hp (thn (hb _ s6 σ6 H6 _ I6 q6) fun f s7 q7 => ?_)
  have again:∀ {σ7:St} {H7:Hp},Inv X (pins ++ em fp s5.heap) σ7 H7 s7 -> N σ7 H7 -> ∃ m,m < n /\ ∃ i σ' H',Inv X pins σ' H' s7 /\ tn i s7.heap /\ (∀ b ∈ fp,H' b = none) /\ W i m σ' H':=fun {σ7 H7} I7 n7=>by
   obtain ⟨m',hm,w7⟩:=hN σ7 H7 n7
   refine ⟨m',hm,i + 1, σ7,H7,I7.unpinned,T.keep _ _ _ st5 fun b hb o e=>(I7.pin (b,o) (List.mem_append_right _ (List.mem_append_right _ (bT hb e)))).1,fun b hb => ?_,w7⟩
   obtain ⟨o,e,d⟩:=T.obj _ _ st5 b hb
   exact (I7.pin (b,o) (List.mem_append_right _ (List.mem_append_right _ (bT hb e)))).2.1
  cases f with
  | next=>obtain ⟨σ7,H7,I7,n7⟩:=q7;exact again I7 n7
  | cont=>obtain ⟨σ7,H7,I7,n7⟩:=q7;exact again I7 n7
  | brk=>obtain ⟨σ7,H7,I7,q7⟩:=q7;exact ⟨σ7,H7,I7.unpinned,q7⟩
  | ret v=>obtain ⟨x7, σ7,H7,I7,r7,q7⟩:=q7;exact ⟨x7, σ7,H7,I7.unpinned,r7,q7⟩
end
end L2
namespace L2
open PySem PySem.Spec PyProof.Rows
noncomputable abbrev R2:=V -> V -> Hp -> VK -> Prop
noncomputable def OpR (X:Cx) (f:Value -> Value -> Sem Value) (r:R2):Prop :=
 ∀ (pins:List (Addr × Obj)) (s:Shared) (σ:St) (H:Hp) (x y:V) (v u:Value) (Q:VK),Inv X pins σ H s -> RelV x v -> RelV y u -> r x y H Q ->
  wpAny (model X.prog X.w) X.A (f v u) (EP X pins σ Q) X.xe s
noncomputable def UnR (X:Cx) (f:Value -> Sem Value) (r:V -> Hp -> VK -> Prop):Prop :=
 ∀ (pins:List (Addr × Obj)) (s:Shared) (σ:St) (H:Hp) (x:V) (v:Value) (Q:VK),Inv X pins σ H s -> RelV x v -> r x H Q ->
  wpAny (model X.prog X.w) X.A (f v) (EP X pins σ Q) X.xe s
noncomputable def CallR (X:Cx) (f:Value) (r:List V -> Hp -> VK -> Prop):Prop :=
 ∀ (pins:List (Addr × Obj)) (s:Shared) (σ:St) (H:Hp) (xs:List V) (us:List Value) (Q:VK),Inv X pins σ H s -> Vals xs us -> r xs H Q ->
  wpAny (model X.prog X.w) X.A (call f us) (EP X pins σ Q) X.xe s
noncomputable def tW (X:Cx) (r:V -> Hp -> (Bool -> Hp -> Prop) -> Prop):Prop :=
 ∀ (pins:List (Addr × Obj)) (s:Shared) (σ:St) (H:Hp) (x:V) (v:Value) (Q:Bool -> Hp -> Prop),Inv X pins σ H s -> RelV x v -> r x H Q ->
  wpAny (model X.prog X.w) X.A (truthy v) (TP X pins σ Q) X.xe s
noncomputable def tOp (r:R2) (ta tb:TE):TE:=fun σ H Q=>ta σ H fun x H1=>tb σ H1 fun y H2=>r x y H2 Q
noncomputable def tUn (r:V -> Hp -> VK -> Prop) (ta:TE):TE:=fun σ H Q=>ta σ H fun x H1=>r x H1 Q
noncomputable def rI (C:Int -> Int -> Prop) (g:Int -> Int -> V):R2:=fun x y H Q => ∃ i j,x = .int i /\ y = .int j /\ C i j /\ Q (g i j) H
noncomputable def rI0 (g:Int -> Int -> V):R2:=fun x y H Q => ∃ i j,x = .int i /\ y = .int j /\ Q (g i j) H
noncomputable def rU (g:Int -> V):V -> Hp -> VK -> Prop:=fun x H Q => ∃ i,x = .int i /\ Q (g i) H
section
variable {X:Cx} {a b c:Expr} {ta tb tc:TE} {pos:Pos}
theorem mx (ha:PE X a ta) (hb:PE X b tb) {pins:List (Addr × Obj)} {s:Shared} {σ:St} {H:Hp} {R:V -> V -> Hp -> Prop} (I:Inv X pins σ H s)
 (h:ta σ H fun x H1=>tb σ H1 fun y H2=>R x y H2) {Q:Value -> Shared -> Prop} {f:Value -> Value -> Sem Value}
 (hf:∀ v u s2 x y H2,Inv X pins σ H2 s2 -> RelV x v -> RelV y u -> R x y H2 -> wpAny (model X.prog X.w) X.A (f v u) Q X.xe s2) :
 wpAny (model X.prog X.w) X.A (eval a X.env) (fun v s₁ => wpAny (model X.prog X.w) X.A (eval b X.env) (fun u s₂ => wpAny (model X.prog X.w) X.A (f v u) Q X.xe s₂) X.xe s₁) X.xe s:=by
 refine thn (ha pins s σ H _ I h) fun v s1 ⟨x,H1,I1,r1,q1⟩ => ?_
 refine thn (hb pins s1 σ H1 _ I1 q1) fun u s2 ⟨y,H2,I2,r2,q2⟩ => ?_
 exact hf v u s2 x y H2 I2 r1 r2 q2
theorem sL {op:Operator} {r:R2} (ho:OpR X (binaryOp op) r) (ha:PE X a ta) (hb:PE X b tb):PE X (.BinOp a op b pos) (tOp r ta tb):=by
 intro pins s σ H Q I h
 exact wpAny_BinOp (mx ha hb I h fun v u s2 x y H2 I2 rx ry q=>ho pins s2 σ H2 x y v u Q I2 rx ry q)
theorem sM {op:UnaryOp} {r:V -> Hp -> VK -> Prop} (ho:UnR X (unaryOp op) r) (ha:PE X a ta):PE X (.UnaryOp op a pos) (tUn r ta):=by
 intro pins s σ H Q I h
 exact UnaryOp_ (thn (ha pins s σ H _ I h) fun v s1 ⟨x,H1,I1,r1,q1⟩=>ho pins s1 σ H1 x v Q I1 r1 q1)
theorem opI {f:Value -> Value -> Sem Value} {C:Int -> Int -> Prop} {g:Int -> Int -> Int}
 (rule:∀ (i j:Int) (t u:Tok) (s:Shared) (Q:Value -> Shared -> Prop) (E:Value -> Shared -> Prop),C i j -> Q (.int (g i j) s.toks) { s with toks:=s.toks + 1 } -> wpAny (model X.prog X.w) X.A (f (.int i t) (.int j u)) Q E s) :
 OpR X f (rI C fun i j => .int (g i j)):=by
 intro pins s σ H x y v u Q I rx ry h
 obtain ⟨i,j,rfl,rfl,hc,q⟩:=h
 obtain ⟨t,rfl⟩:=rx
 obtain ⟨t',rfl⟩:=ry
 exact rule i j t t' s _ _ hc ⟨.int (g i j),H,I.tok _,⟨_,rfl⟩,q⟩
theorem jf {f:Value -> Value -> Sem Value} {g:Int -> Int -> Int}
 (rule:∀ (i j:Int) (t u:Tok) (s:Shared) (Q:Value -> Shared -> Prop) (E:Value -> Shared -> Prop),Q (.int (g i j) s.toks) { s with toks:=s.toks + 1 } -> wpAny (model X.prog X.w) X.A (f (.int i t) (.int j u)) Q E s) :
 OpR X f (rI0 fun i j => .int (g i j)):=by
 intro pins s σ H x y v u Q I rx ry h
 obtain ⟨i,j,rfl,rfl,q⟩:=h
 obtain ⟨t,rfl⟩:=rx
 obtain ⟨t',rfl⟩:=ry
 exact rule i j t t' s _ _ ⟨.int (g i j),H,I.tok _,⟨_,rfl⟩,q⟩
theorem my {f:Value -> Value -> Sem Value} {g:Int -> Int -> Bool}
 (rule:∀ (i j:Int) (t u:Tok) (s:Shared) (Q:Value -> Shared -> Prop) (E:Value -> Shared -> Prop),Q (.bool (g i j)) s -> wpAny (model X.prog X.w) X.A (f (.int i t) (.int j u)) Q E s) :
 OpR X f (rI0 fun i j => .bl (g i j)):=by
 intro pins s σ H x y v u Q I rx ry h
 obtain ⟨i,j,rfl,rfl,q⟩:=h
 obtain ⟨t,rfl⟩:=rx
 obtain ⟨t',rfl⟩:=ry
 exact rule i j t t' s _ _ ⟨.bl (g i j),H,I,rfl,q⟩
noncomputable def tX (i j:Int):Prop := 0 <= j /\ j <= 1000000 /\ i.natAbs < 2 ^ 64
theorem op_add:OpR X (binaryOp .Add) (rI0 fun i j => .int (i + j)):=jf fun _ _ _ _ _ _ _ q=>add_int q
theorem qU:OpR X (binaryOp .Sub) (rI0 fun i j => .int (i - j)):=jf fun _ _ _ _ _ _ _ q=>sub_int q
theorem qV:OpR X (binaryOp .Mod) (rI (fun _ j => 0 < j) fun i j => .int (i % j)):=opI fun i j _ _ _ _ _ hc q=>by
 have h1:(0:Int) < j:=hc
 exact mod_int' (by omega) (by rw [Int.fmod_eq_emod_of_nonneg i (by omega)];exact q)
theorem qW:OpR X (binaryOp .Pow) (rI tX fun i j => .int (i ^ j.toNat)):=opI fun _ _ _ _ _ _ _ hc q=>pow_int_small hc.1 hc.2.1 hc.2.2 q
theorem p5:OpR X (inplaceOp .Add) (rI0 fun i j => .int (i + j)):=jf fun _ _ _ _ _ _ _ q=>iadd_int q
theorem p6:OpR X (inplaceOp .Sub) (rI0 fun i j => .int (i - j)):=jf fun _ _ _ _ _ _ _ q=>isub_int q
theorem unI {f:Value -> Sem Value} {g:Int -> Int}
 (rule:∀ (i:Int) (t:Tok) (s:Shared) (Q:Value -> Shared -> Prop) (E:Value -> Shared -> Prop),Q (.int (g i) s.toks) { s with toks:=s.toks + 1 } -> wpAny (model X.prog X.w) X.A (f (.int i t)) Q E s) :
 UnR X f (rU fun i => .int (g i)):=by
 intro pins s σ H x v Q I rx h
 obtain ⟨i,rfl,q⟩:=h
 obtain ⟨t,rfl⟩:=rx
 exact rule i t s _ _ ⟨.int (g i),H,I.tok _,⟨_,rfl⟩,q⟩
theorem qX:UnR X (unaryOp .USub) (rU fun i => .int (-i)):=unI fun _ _ _ _ _ q=>neg_int q
end
section
variable {X:Cx} {a b c:Expr} {ta tb tc:TE} {pos:Pos}
theorem sN:OpR X (compareOp .Lt) (rI0 fun i j => .bl (decide (i < j))):=my fun _ _ _ _ _ _ _ q=>lt_int q
theorem sP:OpR X (compareOp .Gt) (rI0 fun i j => .bl (decide (j < i))):=my fun _ _ _ _ _ _ _ q=>gt_int q
theorem sQ:OpR X (compareOp .GtE) (rI0 fun i j => .bl (decide (j <= i))):=my fun _ _ _ _ _ _ _ q=>ge_int q
theorem OpR.or {f:Value -> Value -> Sem Value} {r r':R2} (h:OpR X f r) (h':OpR X f r'):OpR X f (fun x y H Q=>r x y H Q ∨ r' x y H Q):=by
 intro pins s σ H x y v u Q I rx ry q
 rcases q with q | q
 ·exact h pins s σ H x y v u Q I rx ry q
 ·exact h' pins s σ H x y v u Q I rx ry q
theorem p7 {op:CmpOp} {r:R2} (ho:OpR X (compareOp op) r) (ha:PE X a ta) (hb:PE X b tb) (hm:behindInMarks op b = false):PE X (.Compare a [op] [b] pos) (tOp r ta tb):=by
 intro pins s σ H Q I h
 exact wpAny_Compare1 (mx ha hb I h fun v u s2 x y H2 I2 rx ry q=>ho pins s2 σ H2 x y v u Q I2 rx ry q) hm
noncomputable def ou (t:TE):TT:=fun σ H Q=>t σ H fun x H' => ∃ k,x = .bl k /\ Q k H'
theorem p8 {op:CmpOp} {r:R2} (ho:OpR X (compareOp op) r) (ha:PE X a ta) (hb:PE X b tb) (hm:behindInMarks op b = false):PT X (.Compare a [op] [b] pos) (ou (tOp r ta tb)):=by
 intro pins s σ H Q I h
 refine wpAny_isTrue_Compare1 (thn (ha pins s σ H _ I h) fun v s1 ⟨x,H1,I1,r1,q1⟩=>thn (hb pins s1 σ H1 _ I1 q1) fun u s2 ⟨y,H2,I2,r2,q2⟩ =>
  thn (ho pins s2 σ H2 x y v u _ I2 r1 r2 q2) fun c s3 ⟨z,H3,I3,r3,k,e,q3⟩ => ?_) hm
 subst e
 cases r3
 exact wpAny_truthy_bool ⟨H3,I3,q3⟩
noncomputable def mz (K:PySem.W.Frag) (x:V) (H:Hp) (k:Bool):Prop :=
 match x with
 | .non=>k = false
 | .bl b=>k = b
 | .int i=>k = (i != 0)
 | .str y=>y.length <= sizeLine /\ k = ((y.length:Int) != 0)
 | .byt y=>y.size <= sizeLine /\ k = ((y.size:Int) != 0)
 | .ref p=>(∃ xs,SqL K H p xs /\ k = !xs.isEmpty) ∨ (∃ xs,SqT K H p xs /\ k = !xs.isEmpty) ∨ ∃ kvs,H p = some (.dK kvs) /\ k = !kvs.isEmpty
 | _=>False
theorem jg {κ:Type} {kvs:List (κ × V)} {vs:List (κ × Value)} (r:KV kvs vs):(!vs.isEmpty) = !kvs.isEmpty:=by
 cases r <;> rfl
theorem en {xs:List V} {its:List Value} (r:Vals xs its):(!its.toArray.isEmpty) = !xs.isEmpty:=by
 cases r <;> simp
theorem cT:(sizeLine:Nat) < 2 ^ 63:=by rw [sizeLine_eq];decide
theorem ku:tW X (fun x H Q => ∃ k,mz X.K x H k /\ Q k H):=by
 intro pins s σ H x v Q I rx h
 obtain ⟨k,e,q⟩:=h
 have hl:=cT
 have hs:sizeLine = 16777216:=sizeLine_eq
 cases x with
 | non =>
   cases rx
   have e':k = false:=e
   subst e'
   exact truthy_none ⟨H,I,q⟩
 | bl b =>
   cases rx
   have e':k = b:=e
   subst e'
   exact wpAny_truthy_bool ⟨H,I,q⟩
 | int i =>
   obtain ⟨t,rfl⟩:=rx
   have e':k = (i != 0):=e
   subst e'
   exact PySem.P.truthy_int ⟨H,I,q⟩
 | str y =>
   obtain ⟨t,rfl⟩:=rx
   obtain ⟨hy,e'⟩:y.length <= sizeLine /\ k = ((y.length:Int) != 0):=e
   subst e'
   exact PySem.P.truthy_str (by omega) ⟨H,I.tok _,q⟩
 | byt y =>
   obtain ⟨t,rfl⟩:=rx
   obtain ⟨hy,e'⟩:y.size <= sizeLine /\ k = ((y.size:Int) != 0):=e
   subst e'
   exact PySem.W.truthy_bytes (by omega) ⟨H,I.tok _,q⟩
 | ref p =>
   cases rx
   have e':(∃ xs,SqL X.K H p xs /\ k = !xs.isEmpty) ∨ (∃ xs,SqT X.K H p xs /\ k = !xs.isEmpty) ∨ ∃ kvs,H p = some (.dK kvs) /\ k = !kvs.isEmpty:=e
   rcases e' with ⟨xs,hx,e'⟩ | ⟨xs,hx,e'⟩ | ⟨kvs,hx,e'⟩
   ·subst e'
    obtain ⟨its,r,pl,hz⟩:=I.list hx
    have hlen:=r.length
    exact wpAny_truthy_list pl.isList (by simp only [List.size_toArray];omega) ⟨H,I.tok _,by rw [en r];exact q⟩
   ·subst e'
    obtain ⟨its,r,pl,hz⟩:=I.tuple hx
    have hlen:=r.length
    exact truthy_tuple pl (by simp only [List.size_toArray];omega) ⟨H,I.tok _,by rw [en r];exact q⟩
   ·subst e'
    obtain ⟨hz,hS,vs,r,m⟩:kvs.length <= sizeLine /\ (p == sysModules) = false /\ ∃ vs,KV kvs vs /\ s.heap.DictOf (aI X.prog X.w) p vs:=I.hok p _ hx
    have hlen:kvs.length = vs.length:=Paired.length r
    exact wpAny_truthy_dict hS m (by omega) ⟨H,I.tok _,by rw [jg r];exact q⟩
 | _=>exact (show False from e).elim
theorem mC (ha:PE X a ta) (he:∀ whole,isTrue a X.env whole = (do let v <- whole;standAt a.pos;holding [v] (truthy v))) :
 PT X a (fun σ H Q=>ta σ H fun x H' => ∃ k,mz X.K x H' k /\ Q k H'):=by
 intro pins s σ H Q I h
 exact isTrue_plain (thn (ha pins s σ H _ I h) fun v s1 ⟨x,H1,I1,r1,q1⟩=>ku pins s1 σ H1 x v Q I1 r1 q1) (he _)
theorem jh:OpR X (binaryOp .Add) (fun x y H Q => ∃ i j,x = .str i /\ y = .str j /\ i.length + j.length <= sizeLine /\ Q (.str (i ++ j)) H):=by
 intro pins s σ H x y v u Q I rx ry h
 obtain ⟨i,j,rfl,rfl,hz,q⟩:=h
 obtain ⟨t,rfl⟩:=rx
 obtain ⟨t',rfl⟩:=ry
 exact add_str (fun t' tk=>⟨.str (i ++ j),H,I.tok _,⟨_,rfl⟩,q⟩) hz
theorem cq {x:V} {us:List Value} (r:Vals [x] us):∃ u,us = [u] /\ RelV x u:=by
 cases r with
 | cons r1 r2=>cases r2;exact ⟨_,rfl,r1⟩
theorem ji {x y:V} {us:List Value} (r:Vals [x,y] us):∃ u w',us = [u,w'] /\ RelV x u /\ RelV y w':=by
 cases r with
 | cons r1 r2 =>
   cases r2 with
   | cons r3 r4=>cases r4;exact ⟨_,_,rfl,r1,r3⟩
theorem mD:CallR X (.builtin "abs") (fun xs H Q => ∃ i,xs = [.int i] /\ Q (.int (if i < 0 then -i else i)) H):=by
 intro pins s σ H xs us Q I r h
 obtain ⟨i,rfl,q⟩:=h
 obtain ⟨u,rfl,t,rfl⟩:=cq r
 exact call_abs_int fun u tk=>⟨.int (if i < 0 then -i else i),H,I.tok _,⟨_,rfl⟩,q⟩
theorem kw (hc:X.calm = true):CallR X (.builtin "max") (fun xs H Q => ∃ i j,xs = [.int i, .int j] /\ Q (.int (if j > i then j else i)) H):=by
 intro pins s σ H xs us Q I r h
 obtain ⟨i,j,rfl,q⟩:=h
 obtain ⟨u,w',rfl,⟨t,rfl⟩,⟨t',rfl⟩⟩:=ji r
 refine max_two_ints (I.ok.hd hc) fun h' tk k=>⟨_,H,I.kept k, ?_,q⟩
 by_cases hj:j > i
 ·rw [if_pos hj,if_pos hj];exact ⟨_,rfl⟩
 ·rw [if_neg hj,if_neg hj];exact ⟨_,rfl⟩
theorem kx (hc:X.calm = true):CallR X (.builtin "min") (fun xs H Q => ∃ i j,xs = [.int i, .int j] /\ Q (.int (if j < i then j else i)) H):=by
 intro pins s σ H xs us Q I r h
 obtain ⟨i,j,rfl,q⟩:=h
 obtain ⟨u,w',rfl,⟨t,rfl⟩,⟨t',rfl⟩⟩:=ji r
 refine min_two_ints (I.ok.hd hc) fun h' tk k=>⟨_,H,I.kept k, ?_,q⟩
 by_cases hj:j < i
 ·rw [if_pos hj,if_pos hj];exact ⟨_,rfl⟩
 ·rw [if_neg hj,if_neg hj];exact ⟨_,rfl⟩
theorem ky:CallR X (.type "int") (fun xs H Q=>(∃ i,xs = [.int i] /\ Q (.int i) H) ∨ ∃ k,xs = [.bl k] /\ Q (.int (if k then 1 else 0)) H):=by
 intro pins s σ H xs us Q I r h
 rcases h with ⟨i,rfl,q⟩ | ⟨k,rfl,q⟩
 ·obtain ⟨u,rfl,t,rfl⟩:=cq r
  exact call_int_int ⟨.int i,H,I,⟨_,rfl⟩,q⟩
 ·obtain ⟨u,rfl,r1⟩:=cq r
  cases r1
  exact call_int_bool ⟨.int (if k then 1 else 0),H,I.tok _,⟨_,rfl⟩,q⟩
theorem gv:CallR X (.type "str") (fun xs H Q => ∃ i,xs = [.int i] /\ i.natAbs.log2 < 1920 /\ Q (.str (toString i)) H):=by
 intro pins s σ H xs us Q I r h
 obtain ⟨i,rfl,hz,q⟩:=h
 obtain ⟨u,rfl,t,rfl⟩:=cq r
 exact PySem.P.str_of_int hz ⟨.str _,H,I.tok _,⟨_,rfl⟩,q⟩
noncomputable def tY (K:PySem.W.Frag) (x:V) (H:Hp) (n:Nat):Prop :=
 match x with
 | .str y=>y.length <= sizeLine /\ n = y.length
 | .byt y=>y.size <= sizeLine /\ n = y.size
 | .ref p=>(∃ xs,SqL K H p xs /\ n = xs.length) ∨ ∃ xs,SqT K H p xs /\ n = xs.length
 | _=>False
theorem mF:CallR X (.builtin "len") (fun xs H Q => ∃ x n,xs = [x] /\ tY X.K x H n /\ Q (.int n) H):=by
 intro pins s σ H xs us Q I r h
 obtain ⟨x,n,rfl,e,q⟩:=h
 obtain ⟨u,rfl,rx⟩:=cq r
 have hl:=cT
 have hs:sizeLine = 16777216:=sizeLine_eq
 cases x with
 | str y =>
   obtain ⟨t,rfl⟩:=rx
   obtain ⟨hy,e'⟩:y.length <= sizeLine /\ n = y.length:=e
   subst e'
   exact len_str (by omega) ⟨.int _,H,I.tok _,⟨_,rfl⟩,q⟩
 | byt y =>
   obtain ⟨t,rfl⟩:=rx
   obtain ⟨hy,e'⟩:y.size <= sizeLine /\ n = y.size:=e
   subst e'
   exact PySem.W.len_bytes (by omega) ⟨.int _,H,I.tok _,⟨_,rfl⟩,q⟩
 | ref p =>
   cases rx
   have e':(∃ xs,SqL X.K H p xs /\ n = xs.length) ∨ ∃ xs,SqT X.K H p xs /\ n = xs.length:=e
   rcases e' with ⟨xs,hx,e'⟩ | ⟨xs,hx,e'⟩
   ·subst e'
    obtain ⟨its,r',pl,hz⟩:=I.list hx
    have hlen:=r'.length
    exact Calls.call_len_list pl.isList (by simp only [List.size_toArray];omega) ⟨.int xs.length,H,I.tok _,⟨_,by simp only [List.size_toArray];rw [hlen]⟩,q⟩
   ·subst e'
    obtain ⟨its,r',pl,hz⟩:=I.tuple hx
    have hlen:=r'.length
    exact len_tuple pl (by simp only [List.size_toArray];omega) ⟨.int xs.length,H,I.tok _,⟨_,by simp only [List.size_toArray];rw [hlen]⟩,q⟩
 | _=>exact (show False from e).elim
end
end L2
namespace L2
open PySem PySem.Spec PyProof.Rows
structure ObjM (h:Heap) (x dx C:Addr) (mA:Str -> Option Value):Prop where
 obj:h.get? x = some (PySem.W.instObj C dx)
 ns:h.Ns1 dx mA
 ne:dx ≠ x
theorem kz {h:Heap} {dx:Addr} {mA:Str -> Option Value} (n:h.Ns1 dx mA):∃ od,h.get? dx = some od /\ ∀ name,PySem.W.lookIn name od = some (mA name):=by
 obtain ⟨o,es,ep,ho,hd,hk,_,hm⟩:=n
 refine ⟨o,ho,fun name => ?_⟩
 have e:=hm name
 unfold nsFind findBy at e
 rw [<- Array.find?_toList] at e
 unfold PySem.W.lookIn
 rw [hd]
 dsimp only
 split
 ·rename_i y q
  rw [q] at e
  exact congrArg some e
 ·rename_i q
  rw [q] at e
  have a:es.toList.any (·.refKey) = false:=by
   rw [List.any_eq_false]
   intro y hy
   obtain ⟨z,t,hkey⟩:=hk y (Array.mem_toList_iff.mp hy)
   simp [DictEntry.refKey,hkey]
  have a' : ¬ es.toList.any (·.refKey) = true:=by rw [a];exact Bool.false_ne_true
  rw [if_neg a']
  exact congrArg some e
theorem ObjM.look {h:Heap} {x dx C:Addr} {mA:Str -> Option Value} (I:ObjM h x dx C mA):∃ od,PySem.W.InstAt h x (PySem.W.instObj C dx) C (some od) /\ ∀ name,PySem.W.lookIn name od = some (mA name) :=
 let ⟨od,ho,hl⟩:=kz I.ns
 ⟨od,⟨I.obj,rfl,rfl,ho⟩,hl⟩
section
variable {prog:Program} {w:World} {A:Around} {E:Value -> Shared -> Prop} {s:Shared} {K:PySem.W.Frag} {x dx C f:Addr} {mA:Str -> Option Value} {name:Str} {v:Value}
end
theorem RelO.some_of {v:V} {o:Option Value} (r:RelO (some v) o):∃ u,o = some u /\ RelV v u:=by
 cases o with
 | none=>exact (show False from r).elim
 | some u=>exact ⟨u,rfl,r⟩
section
variable {P:Program} {w:World} {H H':Hp} {h h':Heap} {a C dx:Addr} {fs fs':List (Str × V)}
theorem p9 (hok:HOk P w H h) (e:H a = some (.ins C dx fs)):∃ mA,ObjM h a dx C mA /\ (∀ f,RelO (fs.lookup f) (mA f)) /\ PySem.Within mA (fs.map (·.1)) /\ fs.length <= 1000 /\ H dx = some (.own a):=by
 obtain ⟨d,z,ne,ob,mA,n,r,q⟩:=(show ObjOk P w H h a (.ins C dx fs) from hok a _ e)
 exact ⟨mA,⟨ob,n,ne⟩,r,q,z,d⟩
end
structure Cls (K:PySem.W.Frag) (C:Addr):Prop where
 pg:PySem.W.plainGet K C Str.empty = true
 hd:PySem.W.hasDictIn K C = true
 po:PySem.W.plainOver K C = true
 sa:PySem.W.findIn K (.ref C) "__setattr__" = some (some (.builtin "object.__setattr__"))
theorem Cls.get {K:PySem.W.Frag} {C:Addr} (c:Cls K C) (f:Str):PySem.W.plainGet K C f = true:=c.pg
section
variable {X:Cx} {pins:List (Addr × Obj)} {σ:St} {H:Hp} {s:Shared} {a C dx:Addr} {fs:List (Str × V)} {f:Str} {v:V} {A:Around} {E:Value -> Shared -> Prop}
end
section
variable {X:Cx} {o e value:Expr} {f:Str} {pos pos' tpos:Pos} {ta tv:TE}
end
section
variable {X:Cx} {pins:List (Addr × Obj)} {σ:St} {H:Hp} {s:Shared} {A:Around} {E:Value -> Shared -> Prop} {Q:Value -> Shared -> Prop} {c:Value} {b:Bool}
inductive bw (K:PySem.W.Frag) (H:Hp):V -> Value -> Prop where
 | non:bw K H .non (.type "NoneType")
 | bl (x:Bool):bw K H (.bl x) (.type "bool")
 | int (i:Int):bw K H (.int i) (.type "int")
 | str (x:Str):bw K H (.str x) (.type "str")
 | flt (x:UInt64):bw K H (.flt x) (.type "float")
 | lst {a:Addr} {xs:List V} (e:H a = some (.lst xs)):bw K H (.ref a) (.type "list")
 | frz {a:Addr} {o:Obj} {xs:List V} (e:H a = some (.frz o (.lst xs))):bw K H (.ref a) (.type "list")
 | tup {a:Addr} {xs:List V} (e:H a = some (.tup xs)):bw K H (.ref a) (.type "tuple")
 | dK {a:Addr} {kvs:List (Key × V)} (e:H a = some (.dK kvs)):bw K H (.ref a) (.type "dict")
 | dT {a:Addr} {kvs:List (List Key × V)} (e:H a = some (.dT kvs)):bw K H (.ref a) (.type "dict")
 | ins {a C dx:Addr} {fs:List (Str × V)} (e:H a = some (.ins C dx fs)) (cl:Cls K C) (ha:PySem.W.findIn K (.ref C) "__class__" = some (some (.builtin "object.__class__")))
    (hn:PySem.W.specialIn K (.builtin "object.__class__") "__get__" = some (some (.builtin "getset_descriptor.__get__"))) (htk:PySem.W.takesIn K (.builtin "object.__class__") = some true)
    (hm:PySem.W.mroIn K C (.type "object") = some true):bw K H (.ref a) (.ref C)
theorem kA {x:V} {u t:Value} (I:Inv X pins σ H s) (rx:RelV x u) (ty:bw X.K H x t) (e:PySem.W.kitOne X.K t c = some b) (h:∀ tk,Q (.bool b) { s with toks:=tk }) :
 wpAny (model X.prog X.w) A (call (.builtin "isinstance") [u,c]) Q E s:=by
 cases ty with
 | non=>cases (show u = Value.none from rx);exact PySem.W.kia_one PySem.W.kitx_none I.kIn True.intro e (fun z=>nomatch z) h
 | bl y=>cases (show u = Value.bool y from rx);exact PySem.W.kia_one PySem.W.kitx_bool I.kIn True.intro e (fun z=>nomatch z) h
 | int i=>obtain ⟨t,q⟩:=(show ∃ t,u = Value.int i t from rx);cases q;exact PySem.W.kia_one PySem.W.kitx_int I.kIn True.intro e (fun z=>nomatch z) h
 | str y=>obtain ⟨t,q⟩:=(show ∃ t,u = Value.str y t from rx);cases q;exact PySem.W.kia_one PySem.W.kitx_str I.kIn True.intro e (fun z=>nomatch z) h
 | flt y=>obtain ⟨t,q⟩:=(show ∃ t,u = Value.float y t from rx);cases q;exact PySem.W.kia_one PySem.W.kitx_float I.kIn True.intro e (fun z=>nomatch z) h
 | @lst a xs ea =>
  cases (show u = Value.ref a from rx)
  obtain ⟨_,_,n,_,h1⟩:=(show ObjOk X.prog X.w H s.heap a (.lst xs) from I.hok a _ ea)
  exact PySem.W.kia_one PySem.W.kitx_list I.kIn ⟨_,h1,rfl⟩ e (fun z=>nomatch z) h
 | @frz a ob xs ea =>
  cases (show u = Value.ref a from rx)
  obtain ⟨_,_,_,n,_,h1⟩:=(show ObjOk X.prog X.w H s.heap a (.frz ob (.lst xs)) from I.hok a _ ea)
  exact PySem.W.kia_one PySem.W.kitx_list I.kIn ⟨_,h1,rfl⟩ e (fun z=>nomatch z) h
 | @tup a xs ea =>
  cases (show u = Value.ref a from rx)
  obtain ⟨_,_,_,p⟩:=(show ObjOk X.prog X.w H s.heap a (.tup xs) from I.hok a _ ea)
  obtain ⟨o,h1,h2,_⟩:=p
  exact PySem.W.kia_one PySem.W.kitx_tuple I.kIn ⟨o,h1,h2⟩ e (fun z=>nomatch z) h
 | @dK a kvs ea =>
  cases (show u = Value.ref a from rx)
  obtain ⟨_,_,vs,_,p⟩:=(show ObjOk X.prog X.w H s.heap a (.dK kvs) from I.hok a _ ea)
  obtain ⟨o,es,ep,h1,h2,_⟩:=p
  exact PySem.W.kia_one PySem.W.kitx_dict I.kIn ⟨o,h1,h2.1⟩ e (fun z=>nomatch z) h
 | @dT a kvs ea =>
  cases (show u = Value.ref a from rx)
  obtain ⟨_,_,xs,_,o,es,ep,h1,h2,_⟩:=(show ObjOk X.prog X.w H s.heap a (.dT kvs) from I.hok a _ ea)
  exact PySem.W.kia_one PySem.W.kitx_dict I.kIn ⟨o,h1,h2.1⟩ e (fun z=>nomatch z) h
 | @ins a C dx fs ea cl ha hn htk hm =>
  cases (show u = Value.ref a from rx)
  obtain ⟨mA,O,_⟩:=p9 I.hok ea
  obtain ⟨od,J,_⟩:=O.look
  exact PySem.W.kia_one (PySem.W.kitx_own (cl.get _) cl.hd ha hn htk hm) I.kIn J e (fun z=>nomatch z) h
end
end L2
namespace L2
open PySem PySem.Spec PyProof.Rows
structure Room (k:Nat) (A:Around):Prop where
 hd:A.handled = none
 dp:A.depth + 3 * k + 5 < recursionLimit
 un:A.units + 16 * k + 200 < cLine
theorem Room.deeper {k:Nat} {A:Around} (r:Room (k + 1) A) (env:Env):Room k (A.deeper env) :=
 ⟨r.hd,by have:=r.dp;show A.depth + 1 + 3 * k + 5 < _;omega,by have:=r.un;show A.units + 3 + 16 * k + 200 < _;omega⟩
theorem Room.depth {k:Nat} {A:Around} (r:Room k A):A.depth < recursionLimit:=by have:=r.dp;omega
theorem Room.units {k:Nat} {A:Around} (r:Room k A):A.units + 64 < cLine:=by have:=r.un;omega
noncomputable def qY:TA:=fun _ H Q=>Q [] H
noncomputable def ow (ta:TE) (tr:TA):TA:=fun σ H Q=>ta σ H fun x H1=>tr σ H1 fun xs H2=>Q (x :: xs) H2
section
variable {X:Cx} {e:Expr} {es:List Expr} {te:TE} {t:TA} {pos:Pos}
theorem kB:PA X [] qY:=fun _ _ _ _ H Q I h=>Calls.spliced_nil ⟨[],H,I, .nil,h⟩
theorem fh (ha:PE X e te) (hr:PA X es t) (hs:starEach (e :: es) X.env = (false,eval e X.env) :: starEach es X.env:=by rfl):PA X (e :: es) (ow te t):=by
 intro pos pins s σ H Q I h
 rw [hs]
 show wpAny _ _ (spliced ((false,eval e X.env) :: backTo pos (starEach es X.env))) _ _ s
 refine Calls.spliced_cons (thn (ha pins s σ H _ I h) fun u s1 ⟨x,H1,I1,r1,q1⟩ => ?_)
 exact thn (hr pos pins s1 σ H1 _ I1 q1) fun us s2 ⟨xs,H2,I2,r2,q2⟩=>⟨x :: xs,H2,I2, .cons r1 r2,q2⟩
noncomputable def tZ (t:TA):TE:=fun σ H Q=>t σ H fun xs H1=>xs.length <= sizeLine /\ ∀ p,H1 p = none -> Q (.ref p) (upd H1 p (.tup xs))
noncomputable def u3 (t:TA):TE:=fun σ H Q=>t σ H fun xs H1=>xs.length <= sizeLine /\ ∀ p,H1 p = none -> Q (.ref p) (upd H1 p (.lst xs))
theorem qZ {x1} (h:PA X es t):PE X (.Tuple es x1 pos) (tZ t):=by
 intro pins s σ H Q I hq
 refine wpAny_Tuple_spliced (thn (h pos pins s σ H _ I hq) fun us s1 ⟨xs,H1,I1,r,z,q⟩=>⟨by rw [<- r.length];exact z, ?_⟩)
 have hf:H1 s1.heap.objs.size = none:=I1.hok.fresh (Nat.le_refl _)
 refine ⟨.ref s1.heap.objs.size,upd H1 s1.heap.objs.size (.tup xs),I1.laid (t':=s1.toks) (fun b u e=>Heap.get?_push_of_some _ e) (Nat.le_refl _) ?_,rfl,q _ hf⟩
 exact ⟨z,us,r,⟨_,Heap.get?_push_size _ rfl,rfl,_,rfl⟩⟩
theorem r6 (h:PA X es t):PE X (.List es pos) (u3 t):=by
 intro pins s σ H Q I hq
 refine wpAny_List_spliced (thn (h pos pins s σ H _ I hq) fun us s1 ⟨xs,H1,I1,r,z,q⟩=>⟨by rw [<- r.length];exact z, ?_⟩)
 have hf:H1 s1.heap.objs.size = none:=I1.hok.fresh (Nat.le_refl _)
 refine ⟨.ref s1.heap.objs.size,upd H1 s1.heap.objs.size (.lst xs),I1.laid (t':=s1.toks) (fun b u e=>Heap.get?_push_of_some _ e) (Nat.le_refl _) ?_,rfl,q _ hf⟩
 exact ⟨z,us,0,r,Heap.get?_push_size _ rfl⟩
end
noncomputable abbrev Sp:=List V -> Hp -> VK -> XK -> Prop
noncomputable abbrev CXT:=List Env -> Hp -> Shared -> XK -> Value -> Shared -> Prop
structure jj (P:Program) (w:World) (K:PySem.W.Frag) (mg:Str -> Option Value) (base:Heap) (A:Around) (outer:List Env) (s:Shared) (H:Hp):Prop where
 frames:A.frames = some outer
 mod:Mod K mg base
 bs:∀ b o,base.get? b = some o -> s.heap.get? b = some o /\ H b = none
 bsz:base.objs.size <= s.heap.objs.size
 funs:s.heap.FunFrames base outer
 frf:∀ b ∈ frs outer,H b = none
 hok:HOk P w H s.heap
 bare:AllBare s.gens
noncomputable def CE (outer:List Env) (P:Program) (w:World) (H:Hp) (s:Shared) (Q:VK) (u:Value) (s':Shared):Prop :=
 ∃ v H',s'.os = s.os /\ AllBare s'.gens /\ Un (frs outer) [] H H' s.heap s'.heap /\ HOk P w H' s'.heap /\ RelV v u /\ Q v H'
noncomputable def CR (CX:CXT) (outer:List Env) (P:Program) (w:World) (H:Hp) (s:Shared) (Q:VK) (E:XK) (r:Result) (s':Shared):Prop :=
 match r with
 | .ok (.ret u)=>CE outer P w H s Q u s'
 | .ok _=>False
 | .error e=>CX outer H s E e s'
structure cj (P:Program) (w:World) (K:PySem.W.Frag) (mg:Str -> Option Value) (base:Heap) (CX:CXT) (k:Nat) (f:Addr) (fd:FuncData) (ps:List Str) (sp:Sp):Prop where
 len:∀ vs H Q E,sp vs H Q E -> vs.length = ps.length
 run:∀ (A:Around) (outer:List Env) (s:Shared) (H:Hp) (args:Args) (us:List Value) (vs:List V) (Q:VK) (E:XK),Room k A -> jj P w K mg base A outer s H -> BindsTo s fd args (ps.zip us) -> Vals vs us -> sp vs H Q E ->
  codeAny (model P w) A (.call (.ref f) args) (CR CX outer P w H s Q E) s
section
variable {X:Cx} {pins:List (Addr × Obj)} {σ:St} {H:Hp} {s s':Shared}
theorem Inv.env0 (I:Inv X pins σ H s):jj X.prog X.w X.K X.mg X.base X.A X.stack s H :=
 ⟨I.ok.frames,I.ok.mod,I.bs,Nat.le_trans I.ok.bsz I.sz,I.stack,I.stkFree,I.hok,I.bare⟩
theorem Inv.after {Q:VK} {u:Value} (I:Inv X pins σ H s) (h:CE X.stack X.prog X.w H s Q u s'):EP X pins σ Q u s':=by
 obtain ⟨v,H',os,bare,un,hok,r,q⟩:=h
 obtain ⟨hh,g,d,t,os'⟩:=s'
 obtain rfl:os' = s.os:=os
 exact ⟨v,H',I.call (h':=hh) (g':=g) (d':=d) (t':=t) (ch := []) un hok bare (fun b z=>absurd z (by simp)),r,q⟩
end
noncomputable def ox (sp:Sp) (dvs:List V) (E:XK) (t:TA):TE:=fun σ H Q=>t σ H fun vs H1=>sp (vs ++ dvs) H1 Q E
noncomputable def Binds (K:PySem.W.Frag) (fd:FuncData) (ps:List Str) (ds:List Value):Prop :=
 ∀ (s:Shared) (us:List Value),K.In s.heap -> (us ++ ds).length = ps.length -> BindsTo s fd ⟨us,[]⟩ (ps.zip (us ++ ds))
theorem Binds.all {K:PySem.W.Frag} {fd:FuncData} {ps:List Str} (h:∀ us:List Value,us.length = ps.length -> bindArgs fd ⟨us,[]⟩ = pure (ps.zip us)):Binds K fd ps []:=fun s us _ hl=>by
 rw [List.append_nil] at hl ⊢
 exact .of_eq (h us hl)
noncomputable def eo (CX:CXT) (X:Cx) (E:XK):Prop := ∀ (pins:List (Addr × Obj)) (σ:St) (H:Hp) (s:Shared) (e:Value) (s':Shared),Inv X pins σ H s -> CX X.stack H s E e s' -> X.xe e s'
section
variable {X:Cx} {CX:CXT} {k:Nat} {f C:Addr} {fd:FuncData} {ps:List Str} {sp:Sp} {dvs:List V} {ds:List Value} {E:XK} {x m:Str} {p pos apos:Pos} {e o:Expr} {es:List Expr} {ta:TE} {t:TA}
theorem kC {pins:List (Addr × Obj)} {σ:St} {H:Hp} {s:Shared} {Q:VK} {us:List Value} {vs:List V} (F:cj X.prog X.w X.K X.mg X.base CX k f fd ps sp) (hr:Room k X.A) (hb:Binds X.K fd ps ds) (hd:Vals dvs ds) (hx:eo CX X E)
 (I:Inv X pins σ H s) (r:Vals vs us) (h:sp (vs ++ dvs) H Q E):wpAny (model X.prog X.w) X.A (call (.ref f) us) (EP X pins σ Q) X.xe s:=by
 have r2:Vals (vs ++ dvs) (us ++ ds):=r.append hd
 have hl:(us ++ ds).length = ps.length:=by rw [<- r2.length];exact F.len _ _ _ _ h
 refine wpAny_call (codeAny_mono (F.run X.A X.stack s H ⟨us,[]⟩ (us ++ ds) (vs ++ dvs) Q E hr I.env0 (hb s us I.kIn hl) r2 h) fun r s' hq => ?_)
 cases r with
 | error e=>exact hx pins σ H s e s' I hq
 | ok fl =>
   cases fl with
   | ret u=>exact I.after hq
   | next=>exact False.elim hq
   | brk=>exact False.elim hq
   | cont=>exact False.elim hq
theorem pc (F:cj X.prog X.w X.K X.mg X.base CX k f fd ps sp) (hr:Room k X.A) (hg:Gl X x) (hm:X.mg x = some (.ref f)) (hk:PySem.W.keepIn X.K (.ref f) = true) (hb:Binds X.K fd ps ds) (hd:Vals dvs ds) (hx:eo CX X E)
 (ha:PA X (e :: es) t) (hdb:(x == ("__debug__":Str)) = false:=by decide) (he:starEach (e :: es) X.env = (false,eval e X.env) :: starEach es X.env:=by rfl) (hpl:(backTo pos (starEach es X.env)).any (·.1) = false:=by rfl) :
 PE X (.Call (.Name x p) (e :: es) [] pos) (ox sp dvs E t):=by
 intro pins s σ H Q I h
 refine wpAny_Call_Name_kw (iJ I hg hm ?_ hdb)
 refine PySem.W.callWith_K (h₀ := X.base) I.ok.mod.kin hk (thn (ha pos pins s σ H _ I h) fun us s1 ⟨vs,H1,I1,r,q⟩=>⟨I1.kIn, ?_⟩) he hpl
 exact kC F hr hb hd hx I1 r q
theorem mG (F:cj X.prog X.w X.K X.mg X.base CX k f fd ps sp) (hr:Room k X.A) (hg:Gl X x) (hm:X.mg x = some (.ref f)) (hk:PySem.W.keepIn X.K (.ref f) = true) (hb:Binds X.K fd ps ds) (hd:Vals dvs ds) (hx:eo CX X E)
 (hdb:(x == ("__debug__":Str)) = false:=by decide):PE X (.Call (.Name x p) [] [] pos) (ox sp dvs E qY):=by
 intro pins s σ H Q I h
 refine wpAny_Call_Name_kw (iJ I hg hm ?_ hdb)
 exact PySem.W.callWith_K0 I.kIn hk (kC (us := []) F hr hb hd hx I .nil h)
end
section
variable {X:Cx} {CX:CXT} {k:Nat} {f C:Addr} {fd:FuncData} {ps ks:List Str} {sp:Sp} {E:XK} {x m:Str} {p pos apos kpos:Pos} {e o:Expr} {es:List Expr} {kws:List Keyword} {te ta:TE} {t tk:TA} {nm:Option Str}
variable {g:List Value -> List Value -> List Value} {gV:List V -> List V -> List V}
end
structure dq (N P:List Str) (sc:Scope):Prop where
 kind:sc.kind = .function
 co:sc.isCoroutine = false
 gen:sc.isGenerator = false
 nd:N.Nodup
 pre:N.take P.length = P
 par:∀ x ∈ P,sc.names.lookup x = some .local ∨ sc.names.lookup x = some .cell
 nofree:∀ y ∈ sc.names,y.2 ≠ .free
theorem fD {kindOf:Str -> Option NameKind} {x:Str}:∀ {binds:List (Str × Value)} {m:Str -> Option Value},(∀ v,(x,v) ∉ binds) -> bindL kindOf binds m x = m x
 | [],_,_=>rfl
 | (n,v) :: r,m,h=>by
  unfold bindL
  rw [fD fun w hw=>h w (List.mem_cons_of_mem _ hw)]
  split
  ·have:x ≠ n:=by rintro rfl;exact h v List.mem_cons_self
   simp [this]
  ·rfl
theorem fE {kindOf:Str -> Option NameKind} {x:Str}:∀ {binds:List (Str × Value)} {m:Str -> Option Value},(∀ v,(x,v) ∉ binds) -> bindC kindOf binds m x = m x
 | [],_,_=>rfl
 | (n,v) :: r,m,h=>by
  unfold bindC
  rw [fE fun w hw=>h w (List.mem_cons_of_mem _ hw)]
  split
  ·rfl
  ·have:x ≠ n:=by rintro rfl;exact h v List.mem_cons_self
   simp [this]
theorem fF {kindOf:Str -> Option NameKind} {x:Str} {v:Value}:∀ {P:List Str} {vs:List Value} {i:Nat} {m:Str -> Option Value},P.Nodup -> P[i]? = some x -> vs[i]? = some v -> kindOf x = some .local ->
 bindL kindOf (P.zip vs) m x = some v
 | [],_,_,_,_,h,_,_=>by simp at h
 | _ :: _,[],_,_,_,_,h,_=>by simp at h
 | p :: P,w :: vs,0,m,nd,h1,h2,hk=>by
   simp at h1 h2;subst h1;subst h2
   show bindL kindOf ((p,w) :: P.zip vs) m p = _
   unfold bindL
   rw [fD fun v hv=>(List.nodup_cons.mp nd).1 (List.of_mem_zip hv).1,if_pos hk]
   simp
 | p :: P,w :: vs,i + 1,m,nd,h1,h2,hk=>by
   show bindL kindOf ((p,w) :: P.zip vs) m x = _
   unfold bindL
   exact fF (i:=i) (List.nodup_cons.mp nd).2 (by simpa using h1) (by simpa using h2) hk
theorem fG {kindOf:Str -> Option NameKind} {x:Str} {v:Value}:∀ {P:List Str} {vs:List Value} {i:Nat} {m:Str -> Option Value},P.Nodup -> P[i]? = some x -> vs[i]? = some v -> kindOf x ≠ some .local ->
 bindC kindOf (P.zip vs) m x = some v
 | [],_,_,_,_,h,_,_=>by simp at h
 | _ :: _,[],_,_,_,_,h,_=>by simp at h
 | p :: P,w :: vs,0,m,nd,h1,h2,hk=>by
   simp at h1 h2;subst h1;subst h2
   show bindC kindOf ((p,w) :: P.zip vs) m p = _
   unfold bindC
   rw [fE fun v hv=>(List.nodup_cons.mp nd).1 (List.of_mem_zip hv).1,if_neg hk]
   simp
 | p :: P,w :: vs,i + 1,m,nd,h1,h2,hk=>by
   show bindC kindOf ((p,w) :: P.zip vs) m x = _
   unfold bindC
   exact fG (i:=i) (List.nodup_cons.mp nd).2 (by simpa using h1) (by simpa using h2) hk
noncomputable def bL (N:List Str) (vs:List V):St:=vs.map some ++ List.replicate (N.length - vs.length) none
noncomputable def dO (CX:CXT) (P:Program) (w:World) (K:PySem.W.Frag) (mg:Str -> Option Value) (base:Heap) (N:List Str) (qual:Str) (scope:Scope) (f:Addr) (cd:Value) (A:Around) (outer:List Env) (s:Shared) (H:Hp) (E:XK):Cx where
 prog:=P
 w:=w
 K:=K
 mg:=mg
 base:=base
 A:=A.deeper (envOfC qual scope s.heap.objs.size f cd)
 N:=N
 s₀ := s
 H₀ := H
 env:=envOfC qual scope s.heap.objs.size f cd
 outer:=outer
 stack:=envOfC qual scope s.heap.objs.size f cd :: outer
 ex := []
 calm:=true
 fn:=fun _=>true
 pn := []
 xe:=fun e s'=>wpAny (model P w) (A.deeper (envOfC qual scope s.heap.objs.size f cd)) (leaving (envOfC qual scope s.heap.objs.size f cd) e) (fun _ s''=>CX outer H s E e s'') (fun e' s''=>CX outer H s E e' s'') s'
theorem gw {sc:Scope} {n:Nat} {x:Str} (h:sc.names.lookup x = some .cell):∃ c,(cellsFrom n sc.names []).lookup x = some c:=by
 have q:=PySem.W.cellsFrom_some sc.names n [] (.inl h)
 exact Option.isSome_iff_exists.mp q
theorem kD {CX:CXT} {P:Program} {w:World} {K:PySem.W.Frag} {mg:Str -> Option Value} {base:Heap} {N ps:List Str} {qual:Str} {scope:Scope} {f:Addr} {cd:Value} {A:Around} {outer:List Env} {s s1:Shared} {H:Hp} {E:XK} {us:List Value} {vs:List V}
 (S:dq N ps scope) (hd:A.handled = none) (e0:jj P w K mg base A outer s H) (hl:vs.length = ps.length) (r:Vals vs us)
 (x:InCallC s s.heap.objs.size (bindL (envOfC qual scope s.heap.objs.size f cd).kindOf (ps.zip us) fun _=>none) (cellsFrom (s.heap.objs.size + 1) scope.names []) (bindC (envOfC qual scope s.heap.objs.size f cd).kindOf (ps.zip us) fun _=>none) s1) :
 Inv (dO CX P w K mg base N qual scope f cd A outer s H E) [] (bL N vs) H s1:=by
 have hpl:ps.length <= N.length:=by have:=congrArg List.length S.pre;rw [List.length_take] at this;omega
 obtain ⟨h1,tk,rfl,hk⟩:=x.done
 have noA:∀ b:Addr,b ∉ (dO CX P w K mg base N qual scope f cd A outer s H E).ex:=fun b z=>absurd (show b ∈ ([]:List Addr) from z) (by simp)
 refine ⟨⟨e0.mod,S.kind,rfl,rfl,Nat.le_refl _,fun y z c h1 h2 => ?_,fun y hy => ?_,fun y c _ h => ?_,fun _=>hd,Around.frames_deeper e0.frames, .inr ⟨rfl,rfl⟩,fun b z=>absurd z (noA b),e0.bs,e0.bsz,fun b _ _=>noA b,fun b z=>absurd z (noA b),e0.funs,e0.frf⟩,
  rfl,e0.bare,Un.kept hk,⟨_,x.toInCall.ns,fun i y v h1 h2 h3 => ?_⟩,fun y c h=>⟨_,x.cell y c h⟩,e0.hok.fresh (Nat.le_refl _),fun y c h => ?_,fun p hp=>absurd (show p ∈ ([]:List (Addr × Obj)) from hp) (by simp),e0.hok.kept hk, ?_⟩
 ·exact name_of_addr x.apart (PySem.mem_of_lookup h1) (PySem.mem_of_lookup h2)
 ·have hy:scope.names.lookup y = some .cell ∨ scope.names.lookup y = some .free:=hy
  rcases hy with hy | hy
  ·exact gw hy
  ·exact absurd rfl (S.nofree _ (PySem.mem_of_lookup hy))
 ·exact Nat.le_of_lt (x.above y c (PySem.mem_of_lookup h))
 ·have hi:i < vs.length:=by
   unfold bL at h2
   by_cases hi:i < vs.length
   ·exact hi
   ·rw [List.getElem?_append_right (by simpa using hi)] at h2
    rw [List.getElem?_replicate] at h2
    split at h2 <;> cases h2
  have ha:vs[i]? = some v:=by
   unfold bL at h2
   rw [List.getElem?_append_left (by simpa using hi),List.getElem?_map] at h2
   cases e:vs[i]? with
   | none=>rw [e] at h2;cases h2
   | some a=>rw [e] at h2;cases h2;rfl
  obtain ⟨u,hu,rv⟩:=r.get ha
  have hp:ps[i]? = some y:=by
   rw [<- S.pre,List.getElem?_take_of_lt (by omega)];exact h1
  have ndP:ps.Nodup:=by rw [<- S.pre];exact S.nd.sublist (List.take_sublist _ _)
  refine ⟨u,rv, ?_⟩
  rcases S.par y (List.mem_of_getElem? hp) with k | k
  ·exact .inl ⟨k,fF ndP hp hu k⟩
  ·obtain ⟨c,e⟩:=gw (n:=s.heap.objs.size + 1) k
   refine .inr ⟨.inl k,c,e, ?_⟩
   have q:=x.cell y c e
   rw [fG ndP hp hu (by show scope.names.lookup y ≠ _;rw [k];decide)] at q
   exact q
 ·exact e0.hok.fresh (Nat.le_of_lt (x.above y c (PySem.mem_of_lookup h)))
 ·unfold bL
  show _ = N.length
  rw [List.length_append,List.length_map,List.length_replicate]
  omega
theorem sR {CX:CXT} {P:Program} {w:World} {K:PySem.W.Frag} {mg:Str -> Option Value} {base:Heap} {k:Nat} {f:Addr} {name qual:Str} {params:Arguments} {body:List Stmt} {scope:Scope} {dV kV doc pm cdv ct oc:Value} {an od:Option Addr}
 {osl:Array (Option Value)} {N ps:List Str} {sp:Sp} (lk:K.lookup f = some ⟨oc,od, .func (PySem.W.fnOf name qual params body scope dV kV doc pm an cdv ct),osl⟩) (hcd:PySem.W.codeIn K cdv qual = true) (S:dq N ps scope)
 (len:∀ vs H Q E,sp vs H Q E -> vs.length = ps.length)
 (hbody:∀ (A:Around) (outer:List Env) (s:Shared) (H:Hp) (vs:List V) (Q:VK) (E:XK),Room k (A.deeper (envOfC qual scope s.heap.objs.size f cdv)) -> sp vs H Q E ->
   ∃ t,PSs (dO CX P w K mg base N qual scope f cdv A outer s H E) body t /\ t { nx:=fun _ H'=>Q .non H',rt:=Q } (bL N vs) H) :
 cj P w K mg base CX (k + 1) f (PySem.W.fnOf name qual params body scope dV kV doc pm an cdv ct) ps sp:=by
 refine ⟨len,fun A outer s H args us vs Q E hr e0 hb r hsp => ?_⟩
 have hl:=len _ _ _ _ hsp
 have KX:K.In s.heap:=e0.mod.kin.keeps fun b o e=>(e0.bs b o e).1
 have lim:s.heap.NoLimit:=e0.mod.nolimit.keeps fun b o e=>(e0.bs b o e).1
 have hkind:∀ y ∈ ps.zip us,scope.names.lookup y.1 = some .local ∨ (scope.names.lookup y.1 = some .cell /\ ((cellsFrom (s.heap.objs.size + 1) scope.names []).lookup y.1).isSome = true):=fun ⟨n,v⟩ hy=>by
  rcases S.par n (List.of_mem_zip hy).1 with q | q
  ·exact .inl q
  ·exact .inr ⟨q,PySem.W.cellsFrom_some _ _ _ (.inl q)⟩
 refine codeAny_call_function hr.depth (KX _ _ lk) rfl S.co S.gen rfl (PySem.W.codeRec_of KX hcd) (hb _ _ _ _ ?_)
 refine wpAny_newFunctionEnv_cells S.kind hkind fun env he s1 x => ?_
 subst he
 refine ⟨lim.keeps x.toInCall.keep,codeAny_func ?_⟩
 obtain ⟨t,ht,hq⟩:=hbody A outer s H vs Q E (hr.deeper _) hsp
 have I:Inv (dO CX P w K mg base N qual scope f cdv A outer s H E) [] (bL N vs) H s1:=kD S hr.hd e0 hl r x
 refine wpAny_mono (ht [] s1 (bL N vs) H _ I hq) (fun fl s' hs => ?_) fun e s' hs=>hs
 have fin:∀ {σ':St} {H':Hp} {v:V} {u:Value},Inv (dO CX P w K mg base N qual scope f cdv A outer s H E) [] σ' H' s' -> RelV v u -> Q v H' -> CE outer P w H s Q u s' :=
  fun {σ' H' v u} J rv q=>⟨v,H',J.os,J.bare,J.base,J.hok,rv,q⟩
 cases fl with
 | ret u =>
   obtain ⟨v, σ',H',J,rv,q⟩:=hs
   exact fin J rv q
 | next =>
   obtain ⟨σ',H',J,q⟩:=hs
   exact fin (v:=V.non) (u:=Value.none) J rfl q
 | brk =>
   obtain ⟨_,_,_,q⟩:=hs
   exact False.elim q
 | cont =>
   obtain ⟨_,_,_,q⟩:=hs
   exact False.elim q
end L2
namespace L2
open PySem PySem.Spec PyProof.Rows
section
variable {X:Cx} {x:Str} {p pos:Pos} {e:Expr} {es:List Expr} {t:TA} {id T:String} {r:List V -> Hp -> VK -> Prop}
noncomputable def tCB (r:List V -> Hp -> VK -> Prop) (t:TA):TE:=fun σ H Q=>t σ H fun vs H1=>r vs H1 Q
theorem bF (hc:CallR X (.builtin id) r) (hg:Gl X x) (hm:X.mg x = none) (hv:bootBuiltins x = some (.builtin id)) (ha:PA X (e :: es) t) (hn:x ≠ "__name__" := by decide) (hdb:(x == ("__debug__":Str)) = false:=by decide)
 (he:starEach (e :: es) X.env = (false,eval e X.env) :: starEach es X.env:=by rfl) (hpl:(backTo pos (starEach es X.env)).any (·.1) = false:=by rfl):PE X (.Call (.Name x p) (e :: es) [] pos) (tCB r t):=by
 intro pins s σ H Q I h
 refine wpAny_Call_Name_kw (cS I hg hm hv ?_ hn hdb)
 exact PyProof.Rows.callWith_builtin1 (thn (ha pos pins s σ H _ I h) fun us s1 ⟨vs,H1,I1,r1,q1⟩=>hc pins s1 σ H1 vs us Q I1 r1 q1) he hpl
theorem cr (hc:CallR X (.type T) r) (hg:Gl X x) (hm:X.mg x = none) (hv:bootBuiltins x = some (.type T)) (ha:PA X (e :: es) t) (hn:x ≠ "__name__" := by decide) (hdb:(x == ("__debug__":Str)) = false:=by decide)
 (he:starEach (e :: es) X.env = (false,eval e X.env) :: starEach es X.env:=by rfl) (hpl:(backTo pos (starEach es X.env)).any (·.1) = false:=by rfl):PE X (.Call (.Name x p) (e :: es) [] pos) (tCB r t):=by
 intro pins s σ H Q I h
 refine wpAny_Call_Name_kw (cS I hg hm hv ?_ hn hdb)
 exact PyProof.Rows.callWith_type1 (thn (ha pos pins s σ H _ I h) fun us s1 ⟨vs,H1,I1,r1,q1⟩=>hc pins s1 σ H1 vs us Q I1 r1 q1) he hpl
end
end L2
namespace HT
open PySem PyProof.Rows
section
open PySem.SeqAt
open PySem.AutoSeq1 (wpAny_loadPart')
open PySem.MeetsSeq PySem.MeetsSeq2 PySem.MeetsSeq3
end
section
variable {prog:Program} {w:World} {A:Around} {E:Value -> Shared -> Prop} {s:Shared}
theorem cat_tup {t b:Addr} {vs ws:List Value} {Q:Value -> Shared -> Prop} (ht:IsTup s.heap t vs.toArray) (hb:IsTup s.heap b ws.toArray) (hv:vs ≠ [])
 (h1:ws = [] -> Q (.ref t) s) (h2:ws ≠ [] -> Q (.ref s.heap.objs.size) { s with heap:=s.heap.push { cls := .type "tuple",data := .seq (vs ++ ws).toArray } })
 (hsz:vs.length + ws.length <= sizeLine):wpAny (model prog w) A (binaryOp .Add (.ref t) (.ref b)) Q E s:=by
 obtain ⟨⟨cls,dd,data,sl⟩,ho,hc,n,hd⟩:=id ht
 obtain ⟨⟨cls2,dd2,data2,sl2⟩,ho2,hc2,n2,hd2⟩:=id hb
 simp only at hc hd hc2 hd2
 subst hc hd hc2 hd2
 have e:vs.toArray ++ ws.toArray = (vs ++ ws).toArray:=by simp
 by_cases hw:ws = []
 ·exact concat_meets ⟨_,ho,rfl⟩ ⟨_,ho2,rfl⟩ noFill_tuple_add seq_tuple_add PySem.F.slot_tuple_add PySem.F.entry_tuple_add (PySem.F.args_tuple_add_2 _ _)
   (tuple_addW1 t b vs.toArray ws.toArray n n2 dd dd2 sl sl2 (by simpa using hv) (by simp [hw])) ⟨ho,ho2,h1 hw⟩
 ·refine concat_meets ⟨_,ho,rfl⟩ ⟨_,ho2,rfl⟩ noFill_tuple_add seq_tuple_add PySem.F.slot_tuple_add PySem.F.entry_tuple_add (PySem.F.args_tuple_add_2 _ _)
   (tuple_addW2 t b vs.toArray ws.toArray n n2 dd dd2 sl sl2 (by simpa using hv) (by simpa using hw) (by rw [List.size_toArray,List.size_toArray];exact hsz)) ⟨ho,ho2, ?_⟩
  rw [e]
  exact h2 hw
noncomputable def sIx (n d:Nat):Option Int -> Nat
 | none=>d
 | some v=>if v < 0 then (v + (n:Int)).toNat else min v.toNat n
theorem r8 (n d:Nat) (hd:d <= n) (o:Option Int):sIx n d o <= n:=by
 cases o with
 | none=>exact hd
 | some v =>
   show (if v < 0 then (v + (n:Int)).toNat else min v.toNat n) <= n
   by_cases hv:v < 0
   ·rw [if_pos hv];omega
   ·rw [if_neg hv];exact Nat.min_le_right _ _
theorem iL (v:Int) (n d:Nat):(if v < 0 then max (v + (n:Int)) 0 else min v (n:Int)) = ((sIx n d (some v):Nat):Int):=by
 show (if v < 0 then max (v + (n:Int)) 0 else min v (n:Int)) = (((if v < 0 then (v + (n:Int)).toNat else min v.toNat n):Nat):Int)
 by_cases hv:v < 0
 ·simp only [if_pos hv];omega
 ·simp only [if_neg hv];omega
theorem jk (lo hi:Option Int) (n:Nat):Builtin.Slice.sliceAdjust lo hi 1 (n:Int) = (((sIx n 0 lo:Nat):Int),((sIx n n hi:Nat):Int)):=by
 have h1 : ¬ ((1:Int) < 0):=by omega
 unfold Builtin.Slice.sliceAdjust
 simp only [h1,if_false]
 refine Prod.ext ?_ ?_
 ·cases lo with
  | none=>rfl
  | some v=>exact iL v n 0
 ·cases hi with
  | none=>rfl
  | some v=>exact iL v n n
theorem jl (i j:Nat):Builtin.Slice.slicePlaces (i:Int) (j:Int) 1 = j - i:=by
 unfold Builtin.Slice.slicePlaces
 have h1:(1:Int) > 0:=by omega
 simp only [h1,if_true,Int.ediv_one]
 split <;> omega
theorem er {v:Value} {o:Option Int} {Q:Option Int -> Shared -> Prop} (p:IsPart v o) (h:Q o s):wpAny (model prog w) A (Builtin.Slice.slicePartIndex v) Q E s:=by
 cases p with
 | none=>exact slicePart_none h
 | int i t=>exact slicePart_int h
theorem ck {sl:Addr} {vl vu:Value} {lo hi:Option Int} {n:Nat} {Q:Int × Int × Nat -> Shared -> Prop} (hs:s.heap.IsSliceOf sl vl vu .none) (pl:IsPart vl lo) (pu:IsPart vu hi)
 (h:Q (((sIx n 0 lo:Nat):Int),1,sIx n n hi - sIx n 0 lo) s):wpAny (model prog w) A (Builtin.Slice.sliceApplied (.ref sl) (pure (n:Int))) Q E s:=by
 obtain ⟨os,hos,hcs,hds⟩:=id hs
 unfold Builtin.Slice.sliceApplied Builtin.Slice.sliceFields
 refine wpAny_bind (wpAny_bind (wpAny_field hos hds (x:=vl) rfl (wpAny_bind (wpAny_field hos hds (x:=vu) rfl (wpAny_bind (wpAny_field hos hds (x := .none) rfl (wpAny_pure ?_)))))))
 refine wpAny_bind (slicePart_none ?_)
 show wpAny _ _ (if ((1:Int) == 0) = true then _ else _) _ _ s
 rw [if_neg (by decide)]
 refine wpAny_bind (er pl (wpAny_bind (er pu (wpAny_bind (wpAny_pure ?_)))))
 show wpAny _ _ (match Builtin.Slice.sliceAdjust lo hi 1 (n:Int) with | (lo,hi)=>pure (lo,(1:Int),Builtin.Slice.slicePlaces lo hi 1)) _ _ s
 rw [jk lo hi n]
 show wpAny _ _ (pure (((sIx n 0 lo:Nat):Int),(1:Int),Builtin.Slice.slicePlaces ((sIx n 0 lo:Nat):Int) ((sIx n n hi:Nat):Int) 1)) _ _ s
 rw [jl]
 exact wpAny_pure h
theorem mH (xs:Array Value) (i k:Nat):((List.range k).filterMap fun (m:Nat)=>xs[((i:Int) + (m:Int) * 1).toNat]?).toArray = ((xs.toList.drop i).take k).toArray:=by
 have e:(fun (m:Nat)=>xs[((i:Int) + (m:Int) * 1).toNat]?) = fun m=>xs[i + m]? := by
  funext m
  have:((i:Int) + (m:Int) * 1).toNat = i + m:=by omega
  rw [this]
 rw [e]
 have:=pick_run xs i k
 rw [List.filterMap_map] at this
 have e2:((fun x=>xs[x]?) ∘ fun x=>i + x) = fun m=>xs[i + m]? := rfl
 rw [e2] at this
 rw [this]
theorem getItem_tuple_cut {t sl:Addr} {items:Array Value} {vl vu:Value} {lo hi:Option Int} {Q:Value -> Shared -> Prop} (ht:IsTup s.heap t items) (hs:s.heap.IsSliceOf sl vl vu .none) (pl:IsPart vl lo) (pu:IsPart vu hi)
 (hw : ¬ (sIx items.size 0 lo = 0 /\ sIx items.size items.size hi = items.size))
 (h:Q (.ref s.heap.objs.size) { s with heap:=s.heap.push { cls := .type "tuple",data := .seq ((items.toList.drop (sIx items.size 0 lo)).take (sIx items.size items.size hi - sIx items.size 0 lo)).toArray } })
 (hsz:items.size <= sizeLine):wpAny (model prog w) A (getItem (.ref t) (.ref sl)) Q E s:=by
 have htake:sizeOk (.seq ((items.toList.drop (sIx items.size 0 lo)).take (sIx items.size items.size hi - sIx items.size 0 lo)).toArray):=by
  show ((items.toList.drop (sIx items.size 0 lo)).take (sIx items.size items.size hi - sIx items.size 0 lo)).toArray.size <= sizeLine
  rw [List.size_toArray,List.length_take,List.length_drop,Array.length_toList]
  omega
 have hj:sIx items.size items.size hi <= items.size:=r8 _ _ (Nat.le_refl _) hi
 obtain ⟨os,hos,hcs,hds⟩:=id hs
 have hTs:s.TypeIs (.ref sl) "slice" := ⟨os,hos,hcs⟩
 unfold getItem
 try with_reducible refine wpAny_holding ?_
 first | refine wpAny_bind (wpAny_pure ?_) | skip
 refine wpAny_bind (wpAny_sequenceKey ht.typeIs (by decide) ?_)
 refine wpAny_bind (wpAny_callSpecial?_slot (name:=Str.ofString "__getitem__") ht.typeIs PyProof.Rows.slot_tuple_getitem
  (wpAny_call_entry PyProof.Rows.slot_tuple_getitem ht.typeIs entry_tuple_getitem ?_ (args_tuple_getitem _ _)))
 show wpAny _ _ (Builtin.Tuple.tupleItemsOf (.ref t) >>= _) _ _ s
 refine wpAny_bind (tupleItemsOf_ ht ?_)
 refine wpAny_bind (wpAny_typeOf hTs ?_)
 rw [if_pos (by decide)]
 refine wpAny_bind (ck hs pl pu ?_)
 have hno : ¬ ((((sIx items.size 0 lo:Nat):Int) == 0 && (1:Int) == 1 && (sIx items.size items.size hi - sIx items.size 0 lo) == items.size) = true):=by
  intro q
  rw [Bool.and_eq_true,Bool.and_eq_true] at q
  have q1:((sIx items.size 0 lo:Nat):Int) = 0:=eq_of_beq q.1.1
  have q2:sIx items.size items.size hi - sIx items.size 0 lo = items.size:=eq_of_beq q.2
  exact hw ⟨by omega,by omega⟩
 show wpAny _ _ (if (((sIx items.size 0 lo:Nat):Int) == 0 && (1:Int) == 1 && (sIx items.size items.size hi - sIx items.size 0 lo) == items.size) = true then _ else _) _ _ s
 rw [if_neg hno,mH]
 first
  | exact wpAny_bind (m:=Builtin.Tuple.tupleExact _) (wpAny_newObj_type (wpAny_pure ⟨_,rfl,wpAny_pure h⟩) htake)
  | exact wpAny_bind (m:=Builtin.Tuple.tupleExact _) (wpAny_newObj_type (wpAny_bind (wpAny_pure (wpAny_pure ⟨_,rfl,wpAny_pure h⟩))) htake)
  | exact wpAny_bind (wpAny_bind (m:=Builtin.Tuple.tupleExact _) (wpAny_newObj_type (wpAny_pure (wpAny_pure ⟨_,rfl,wpAny_pure h⟩)) htake))
  | exact wpAny_bind (wpAny_bind (m:=Builtin.Tuple.tupleExact _) (wpAny_newObj_type (wpAny_pure ⟨_,rfl,wpAny_pure h⟩) htake))
end
end HT
namespace L2
open PySem PySem.Spec PyProof.Rows
noncomputable abbrev TO:=St -> Hp -> (Option Int -> Hp -> Prop) -> Prop
noncomputable def PO (X:Cx) (e:Option Expr) (t:TO):Prop :=
 ∀ (pins:List (Addr × Obj)) (s:Shared) (σ:St) (H:Hp) (Q:Option Int -> Hp -> Prop),Inv X pins σ H s -> t σ H Q ->
  wpAny (model X.prog X.w) X.A (evalPart e X.env) (fun u s' => ∃ o H',Inv X pins σ H' s' /\ IsPart u o /\ Q o H') X.xe s
noncomputable def pd:TO:=fun _ H Q=>Q none H
noncomputable def sU (t:TE):TO:=fun σ H Q=>t σ H fun x H1 => ∃ i,x = .int i /\ Q (some i) H1
section
variable {X:Cx} {e:Expr} {te:TE} {lo hi:Option Expr} {tl th:TO} {pos p2:Pos}
theorem pf:PO X none pd:=by
 intro pins s σ H Q I h
 rw [evalPart_none]
 exact wpAny_pure ⟨none,H,I, .none,h⟩
theorem ph (h:PE X e te):PO X (some e) (sU te):=by
 intro pins s σ H Q I hw
 rw [evalPart_some]
 refine thn (h pins s σ H _ I hw) fun u s1 ⟨x,H1,I1,r1,q1⟩ => ?_
 obtain ⟨i,rfl,q⟩:=q1
 obtain ⟨t,rfl⟩:=r1
 exact ⟨some i,H1,I1, .int i t,q⟩
noncomputable def SlR (X:Cx) (r:V -> Option Int -> Option Int -> Hp -> VK -> Prop):Prop :=
 ∀ (pins:List (Addr × Obj)) (s:Shared) (σ:St) (H:Hp) (x:V) (v vl vu:Value) (lo hi:Option Int) (sl:Addr) (Q:VK),Inv X pins σ H s -> RelV x v -> s.heap.IsSliceOf sl vl vu .none -> IsPart vl lo -> IsPart vu hi -> r x lo hi H Q ->
  ∃ T id,typeLookup (.type T) "__getitem__" = pure (some (.builtin id)) /\ s.TypeIs v T /\ wpAny (model X.prog X.w) X.A (getItem v (.ref sl)) (EP X pins σ Q) X.xe s
theorem SlR.or {r r':V -> Option Int -> Option Int -> Hp -> VK -> Prop} (h:SlR X r) (h':SlR X r'):SlR X (fun x lo hi H Q=>r x lo hi H Q ∨ r' x lo hi H Q):=by
 intro pins s σ H x v vl vu lo hi sl Q I rx hs pl pu q
 rcases q with q | q
 ·exact h pins s σ H x v vl vu lo hi sl Q I rx hs pl pu q
 ·exact h' pins s σ H x v vl vu lo hi sl Q I rx hs pl pu q
noncomputable def tSl (r:V -> Option Int -> Option Int -> Hp -> VK -> Prop) (te:TE) (tl th:TO):TE:=fun σ H Q=>te σ H fun x H1=>tl σ H1 fun l H2=>th σ H2 fun u H3=>r x l u H3 Q
theorem mJ {r:V -> Option Int -> Option Int -> Hp -> VK -> Prop} (hr:SlR X r) (he:PE X e te) (hl:PO X lo tl) (hu:PO X hi th):PE X (.Subscript e (.Slice lo hi none p2) pos) (tSl r te tl th):=by
 intro pins s σ H Q I h
 refine Subscript_ (thn (he pins s σ H _ I h) fun v s1 ⟨x,H1,I1,r1,q1⟩ => ?_)
 refine wpAny_Slice (thn (hl pins s1 σ H1 _ I1 q1) fun vl s2 ⟨l,H2,I2,pl,q2⟩=>thn (hu pins s2 σ H2 _ I2 q2) fun vu s3 ⟨u,H3,I3,pu,q3⟩ => ?_)
 rw [evalPart_none]
 refine wpAny_pure ?_
 have I4:Inv X pins σ H3 { s3 with heap:=s3.heap.push { cls := .type "slice",data := .fields #[vl,vu, .none] } }:=I3.kept (t':=s3.toks) fun b ob q=>Heap.get?_push_of_some _ q
 obtain ⟨T,id,hT,ht,hg⟩:=hr pins { s3 with heap:=s3.heap.push { cls := .type "slice",data := .fields #[vl,vu, .none] } } σ H3 x v vl vu l u s3.heap.objs.size Q I4 r1 (Heap.IsSliceOf.new ..) pl pu q3
 show wpAny (model X.prog X.w) X.A (subscriptTail e (.Slice lo hi none p2) v (.ref s3.heap.objs.size)) (EP X pins σ Q) X.xe { s3 with heap:=s3.heap.push { cls := .type "slice",data := .fields #[vl,vu, .none] } }
 exact tail_any (ops := [.ref s3.heap.objs.size,v]) ht hT hg (by with_unfolding_all rfl)
noncomputable def cU (xs:List V) (lo hi:Option Int):List V:=(xs.drop (HT.sIx xs.length 0 lo)).take (HT.sIx xs.length xs.length hi - HT.sIx xs.length 0 lo)
theorem dF (xs:List V) (lo hi:Option Int):(cU xs lo hi).length <= xs.length:=by
 unfold cU
 rw [List.length_take,List.length_drop]
 omega
noncomputable def u4 (K:PySem.W.Frag):V -> Option Int -> Option Int -> Hp -> VK -> Prop:=fun x lo hi H Q => ∃ a xs,x = .ref a /\ SqT K H a xs /\
 ¬ (HT.sIx xs.length 0 lo = 0 /\ HT.sIx xs.length xs.length hi = xs.length) /\ ∀ p,H p = none -> Q (.ref p) (upd H p (.tup (cU xs lo hi)))
theorem sl_tup:SlR X (u4 X.K):=by
 intro pins s σ H x v vl vu lo hi sl Q I rx hs pl pu h
 obtain ⟨a,xs,rfl,hx,hw,q⟩:=h
 cases rx
 obtain ⟨its,r,ht,hz⟩:=I.tuple hx
 have hlen:its.toArray.size = xs.length:=by rw [List.size_toArray];exact r.length.symm
 refine ⟨"tuple",_,PyProof.Rows.slot_tuple_getitem.lookup,ht.typeIs, ?_⟩
 refine HT.getItem_tuple_cut ht hs pl pu (by rw [hlen];exact hw) ?_ (by rw [hlen];exact hz)
 rw [hlen]
 refine ⟨.ref s.heap.objs.size,_,I.laid (t':=s.toks) (o := .tup (cU xs lo hi)) (fun b ob q=>Heap.get?_push_of_some _ q) (Nat.le_refl _) ?_,rfl,q _ (I.hok.fresh (Nat.le_refl _))⟩
 exact ⟨Nat.le_trans (dF xs lo hi) hz,_,(r.drop (HT.sIx xs.length 0 lo)).take (HT.sIx xs.length xs.length hi - HT.sIx xs.length 0 lo),IsTup.new _ _⟩
noncomputable def oy (K:PySem.W.Frag):R2:=fun x y H Q => ∃ a b xs ys,x = .ref a /\ y = .ref b /\ SqT K H a xs /\ SqT K H b ys /\ xs ≠ [] /\ xs.length + ys.length <= sizeLine /\
 (ys = [] -> Q (.ref a) H) /\ (ys ≠ [] -> ∀ p,H p = none -> Q (.ref p) (upd H p (.tup (xs ++ ys))))
theorem Vals.nil_iff {xs:List V} {us:List Value} (r:Vals xs us):us = [] ↔ xs = []:=by
 cases r with
 | nil=>simp
 | cons _ _=>simp
theorem op_catT:OpR X (binaryOp .Add) (oy X.K):=by
 intro pins s σ H x y v u Q I rx ry h
 obtain ⟨a,b,xs,ys,rfl,rfl,ha,hb,hx,hz,q1,q2⟩:=h
 cases rx
 cases ry
 obtain ⟨its,r1,p1,_⟩:=I.tuple ha
 obtain ⟨its2,r2,p2,_⟩:=I.tuple hb
 refine HT.cat_tup p1 p2 (fun z=>hx (r1.nil_iff.mp z)) (fun z=>⟨.ref a,H,I,rfl,q1 (r2.nil_iff.mp z)⟩) (fun z => ?_) (by rw [<- r1.length, <- r2.length];exact hz)
 refine ⟨.ref s.heap.objs.size,_,I.laid (t':=s.toks) (o := .tup (xs ++ ys)) (fun b ob q=>Heap.get?_push_of_some _ q) (Nat.le_refl _) ?_,rfl,q2 (fun w=>z (r2.nil_iff.mpr w)) _ (I.hok.fresh (Nat.le_refl _))⟩
 exact ⟨by rw [List.length_append];exact hz,_,r1.append r2,IsTup.new _ _⟩
end
end L2
namespace L2
open PySem PySem.Spec PyProof.Rows
noncomputable def ixN (n:Nat) (i:Int):Option Nat:=if 0 <= i then (if i < n then some i.toNat else none) else if -(n:Int) <= i then some (i + n).toNat else none
noncomputable def atI {α:Type} (xs:List α) (i:Int):Option α := (ixN xs.length i).bind fun j=>xs[j]?
theorem iM {n:Nat} {i:Int} {j:Nat} (h:ixN n i = some j):seqIndex? i n = some j /\ j < n /\ -(n:Int) <= i /\ i < n:=by
 unfold ixN at h
 by_cases h0 : 0 <= i
 ·rw [if_pos h0] at h
  by_cases h1:i < n
  ·rw [if_pos h1] at h
   have e:i.toNat = j:=Option.some.inj h
   exact ⟨by rw [seqIndex_of h0 h1,e],by omega,by omega,h1⟩
  ·rw [if_neg h1] at h;cases h
 ·rw [if_neg h0] at h
  by_cases h1 : -(n:Int) <= i
  ·rw [if_pos h1] at h
   have e:(i + n).toNat = j:=Option.some.inj h
   exact ⟨by rw [seqIndex_neg (by omega) h1,e],by omega,h1,by omega⟩
  ·rw [if_neg h1] at h;cases h
theorem iN {α:Type} {xs:List α} {i:Int} {v : α} (h:atI xs i = some v):∃ j,seqIndex? i xs.length = some j /\ xs[j]? = some v /\ j < xs.length /\ -(xs.length:Int) <= i /\ i < xs.length:=by
 unfold atI at h
 cases e:ixN xs.length i with
 | none=>rw [e] at h;cases h
 | some j =>
   rw [e] at h
   obtain ⟨h1,h2,h3,h4⟩:=iM e
   exact ⟨j,h1,h,h2,h3,h4⟩
noncomputable def fj (b:Expr):Prop := ∀ o i,subscripted b false o i = operate [o,i] (getItem o i)
noncomputable def IxR (X:Cx) (r:R2):Prop :=
 ∀ (value slice:Expr) (pins:List (Addr × Obj)) (s:Shared) (σ:St) (H:Hp) (x y:V) (v u:Value) (Q:VK),Inv X pins σ H s -> RelV x v -> RelV y u -> r x y H Q ->
  subscripted slice false v u = operate [v,u] (getItem v u) -> wpAny (model X.prog X.w) X.A (subscriptTail value slice v u) (EP X pins σ Q) X.xe s
noncomputable def MtR (X:Cx) (id:String) (r:V -> List V -> Hp -> VK -> Prop):Prop :=
 ∀ (pins:List (Addr × Obj)) (s:Shared) (σ:St) (H:Hp) (x:V) (xs:List V) (v:Value) (us:List Value) (Q:VK),Inv X pins σ H s -> RelV x v -> Vals xs us -> r x xs H Q ->
  wpAny (model X.prog X.w) X.A (call (.builtin id) (v :: us)) (EP X pins σ Q) X.xe s
section
variable {X:Cx} {a b:Expr} {ta tb:TE} {pos:Pos}
theorem IxR.or {r r':R2} (h:IxR X r) (h':IxR X r'):IxR X (fun x y H Q=>r x y H Q ∨ r' x y H Q):=by
 intro value slice pins s σ H x y v u Q I rx ry q hs
 rcases q with q | q
 ·exact h value slice pins s σ H x y v u Q I rx ry q hs
 ·exact h' value slice pins s σ H x y v u Q I rx ry q hs
theorem sV {r:R2} (hr:IxR X r) (ha:PE X a ta) (hb:PE X b tb) (hs:fj b):PE X (.Subscript a b pos) (tOp r ta tb):=by
 intro pins s σ H Q I h
 exact Subscript_ (mx ha hb I h fun v u s2 x y H2 I2 rx ry q=>hr a b pins s2 σ H2 x y v u Q I2 rx ry q (hs _ _))
noncomputable def u5 (K:PySem.W.Frag):R2:=fun x y H Q => ∃ p xs i v,x = .ref p /\ y = .int i /\ SqL K H p xs /\ atI xs i = some v /\ Q v H
noncomputable def u6 (K:PySem.W.Frag):R2:=fun x y H Q => ∃ p xs i v,x = .ref p /\ y = .int i /\ SqT K H p xs /\ atI xs i = some v /\ Q v H
theorem ix_list:IxR X (u5 X.K):=by
 intro value slice pins s σ H x y v u Q I rx ry h hs
 obtain ⟨p,xs,i,z,rfl,rfl,hq,he,q⟩:=h
 cases rx
 obtain ⟨t,rfl⟩:=ry
 obtain ⟨its,r,pl,hz⟩:=I.list hq
 obtain ⟨j,h1,h2,h3,h4,h5⟩:=iN he
 obtain ⟨w,ew,rw'⟩:=r.get h2
 have hl:=r.length
 have hn:=cT
 have fin:EP X pins σ Q w s:=⟨z,H,I,rw',q⟩
 by_cases h0 : 0 <= i
 ·have hj:i.toNat = j:=by
   rw [seqIndex_of h0 h5] at h1
   exact Option.some.inj h1
  exact item_listR pl.isList h0 (by omega) (by rw [hj];simpa using ew) fin hs
 ·have hj:(i + (its.toArray.size:Int)).toNat = j:=by
   rw [seqIndex_neg (by omega) h4] at h1
   rw [List.size_toArray, <- hl]
   exact Option.some.inj h1
  exact subscriptTail_builtinR (x:=w) pl.isList.typeIs slot_list_getitem.lookup
   (wpAny_getItem_list_neg (Q:=fun r s'=>r = w /\ EP X pins σ Q r s') pl.isList (by omega) (by rw [List.size_toArray] <;> omega) (by omega) (by rw [hj];simpa using ew) ⟨rfl,fin⟩) hs
theorem ix_tup:IxR X (u6 X.K):=by
 intro value slice pins s σ H x y v u Q I rx ry h hs
 obtain ⟨p,xs,i,z,rfl,rfl,hq,he,q⟩:=h
 cases rx
 obtain ⟨t,rfl⟩:=ry
 obtain ⟨its,r,pl,hz⟩:=I.tuple hq
 obtain ⟨j,h1,h2,h3,h4,h5⟩:=iN he
 obtain ⟨w,ew,rw'⟩:=r.get h2
 have hl:=r.length
 have hn:=cT
 have fin:EP X pins σ Q w s:=⟨z,H,I,rw',q⟩
 exact subscriptTail_builtinR (x:=w) pl.typeIs slot_tuple_getitem.lookup
  (getItem_tuple (j:=j) (Q:=fun r s'=>r = w /\ EP X pins σ Q r s') pl (by omega) (by omega) (by rw [List.size_toArray, <- hl];exact h1) (by simpa using ew) ⟨rfl,fin⟩) hs
theorem jm (its:List Value) (n j:Nat) (u:Value):Obj.mapSeq (·.setIfInBounds j u) { cls := .type "list",data := .seq its.toArray n } = { cls := .type "list",data := .seq (its.set j u).toArray n }:=by
 simp [Obj.mapSeq]
theorem Inv.lst {pins:List (Addr × Obj)} {σ:St} {H:Hp} {s:Shared} {p:Addr} {xs:List V} (I:Inv X pins σ H s) (h:H p = some (.lst xs)) :
 ∃ (its:List Value) (n:Nat),Vals xs its /\ s.heap.get? p = some { cls := .type "list",data := .seq its.toArray n } /\ xs.length <= sizeLine:=by
 obtain ⟨z,its,n,r,e⟩:=I.hok p _ h
 exact ⟨its,n,r,e,z⟩
theorem Inv.lstUpd {pins:List (Addr × Obj)} {σ:St} {H:Hp} {s:Shared} {p:Addr} {xs ys:List V} {its its':List Value} {n n':Nat} {f:Obj -> Obj} (I:Inv X pins σ H s) (h:H p = some (.lst xs))
 (ho:s.heap.get? p = some { cls := .type "list",data := .seq its.toArray n }) (hf:f { cls := .type "list",data := .seq its.toArray n } = { cls := .type "list",data := .seq its'.toArray n' }) (r:Vals ys its') (hz:ys.length <= sizeLine) (t:Nat) :
 Inv X pins σ (upd H p (.lst ys)) { s with heap:=s.heap.update p f,toks:=t }:=by
 have e:(s.heap.update p f).get? p = some { cls := .type "list",data := .seq its'.toArray n' }:=by
  rw [Heap.get?_update_self f ho (by rw [hf] <;> rfl),hf]
 refine I.write (x:=p) (e:=p) (by rw [h];trivial) (.inl rfl) (fun b u hb q=>(Heap.get?_update_other _ _ (Ne.symm hb)).trans q) ⟨_,e⟩ ?_
 exact ⟨hz,its',n',r,e⟩
noncomputable def oz:V -> V -> V -> Hp -> (Hp -> Prop) -> Prop:=fun o i v H Q => ∃ p xs k j,o = .ref p /\ i = .int k /\ H p = some (.lst xs) /\ ixN xs.length k = some j /\ Q (upd H p (.lst (xs.set j v)))
theorem mK:PSet X oz:=by
 intro pins s σ H o i v ov iv u Q I ro ri rv h
 obtain ⟨p,xs,k,j,rfl,rfl,hp,hj,q⟩:=h
 cases ro
 obtain ⟨t,rfl⟩:=ri
 obtain ⟨its,n,r,ho,hz⟩:=I.lst hp
 obtain ⟨h1,h2,h3,h4⟩:=iM hj
 have hl:=r.length
 have hn:=cT
 have I':Inv X pins σ (upd H p (.lst (xs.set j v))) { s with heap:=s.heap.update p (Obj.mapSeq (·.setIfInBounds j u)) } :=
  I.lstUpd hp ho (jm its n j u) (r.set rv j) (by rw [List.length_set];exact hz) s.toks
 by_cases h0 : 0 <= k
 ·have hk:k.toNat = j:=by
   rw [seqIndex_of h0 h4] at h1
   exact Option.some.inj h1
  exact PySem.W.ki_setAt ho h0 (by omega) (by rw [List.size_toArray, <- hl];exact h4) (by rw [hk];exact ⟨_,I',q⟩)
 ·have hk:(k + (its.toArray.size:Int)).toNat = j:=by
   rw [seqIndex_neg (by omega) h3] at h1
   rw [List.size_toArray, <- hl]
   exact Option.some.inj h1
  exact PySem.W.ki_setBack ho (by omega) (by rw [List.size_toArray, <- hl];exact h3) (by omega) (by rw [hk];exact ⟨_,I',q⟩)
theorem gx (lo hi:Option Int) (n:Nat):(sliceBounds lo hi none n).1 = ((HT.sIx n 0 lo:Nat):Int) /\ (sliceBounds lo hi none n).2.1 = ((HT.sIx n n hi:Nat):Int) /\ (sliceBounds lo hi none n).2.2 = 1:=by
 refine ⟨?_, ?_,rfl⟩
 ·cases lo with
  | none=>simp [sliceBounds,HT.sIx]
  | some i =>
    simp only [sliceBounds,HT.sIx,Option.getD_none,show (1:Int) > 0 by decide,if_true]
    by_cases h:i < 0
    ·simp only [h,if_true] <;> omega
    ·simp only [h,if_false] <;> omega
 ·cases hi with
  | none=>simp [sliceBounds,HT.sIx]
  | some i =>
    simp only [sliceBounds,HT.sIx,Option.getD_none,show (1:Int) > 0 by decide,if_true]
    by_cases h:i < 0
    ·simp only [h,if_true] <;> omega
    ·simp only [h,if_false] <;> omega
theorem gc (its:List Value) (lo hi:Option Int):slicePick its.toArray lo hi none = ((its.drop (HT.sIx its.length 0 lo)).take (HT.sIx its.length its.length hi - HT.sIx its.length 0 lo)).toArray:=by
 obtain ⟨h1,h2,h3⟩:=gx lo hi its.toArray.size
 unfold slicePick
 rw [h1,h2,h3]
 simp only [sliceRange_one,pick_run,List.size_toArray] <;> rfl
noncomputable def u7 (K:PySem.W.Frag):V -> Option Int -> Option Int -> Hp -> VK -> Prop:=fun x lo hi H Q => ∃ a xs,x = .ref a /\ SqL K H a xs /\ ∀ p,H p = none -> Q (.ref p) (upd H p (.lst (cU xs lo hi)))
theorem sl_list:SlR X (u7 X.K):=by
 intro pins s σ H x v vl vu lo hi sl Q I rx hs pl pu h
 obtain ⟨a,xs,rfl,hx,q⟩:=h
 cases rx
 obtain ⟨its,r,ht,hz⟩:=I.list hx
 have hlen:=r.length
 refine ⟨"list",_,slot_list_getitem.lookup,ht.isList.typeIs, ?_⟩
 refine wpAny_getItem_list_slice ht.isList hs pl pu .none (by simp) ?_ (by rw [List.size_toArray] <;> omega)
 rw [gc, <- hlen]
 refine ⟨.ref s.heap.objs.size,_,I.laid (t':=s.toks) (o := .lst (cU xs lo hi)) (fun b ob q=>Heap.get?_push_of_some _ q) (Nat.le_refl _) ?_,rfl,q _ (I.hok.fresh (Nat.le_refl _))⟩
 exact ⟨Nat.le_trans (dF xs lo hi) hz,_,0,(r.drop (HT.sIx xs.length 0 lo)).take (HT.sIx xs.length xs.length hi - HT.sIx xs.length 0 lo),Heap.get?_push_size _ rfl⟩
theorem gy:CallR X (.type "list") (fun xs H Q => ∃ p ys,xs = [.ref p] /\ (SqL X.K H p ys ∨ SqT X.K H p ys) /\ ∀ l,H l = none -> Q (.ref l) (upd H l (.lst ys))):=by
 intro pins s σ H xs us Q I r h
 obtain ⟨p,ys,rfl,hq,q⟩:=h
 obtain ⟨u,rfl,rx⟩:=cq r
 cases rx
 have fin:∀ (its:List Value),Vals ys its -> ys.length <= sizeLine -> ∀ (h':Heap) (c':Nat),(∀ b o',s.heap.get? b = some o' -> h'.get? b = some o') ->
  h'.get? s.heap.objs.size = some { cls := .type "list",dict:=none,data := .seq its.toArray c',slots := #[] } -> EP X pins σ Q (.ref s.heap.objs.size) { s with heap:=h' }:=fun its r' hz h' c' kp e =>
  ⟨.ref s.heap.objs.size,_,I.laid (t':=s.toks) kp (Nat.le_refl _) (show ObjOk X.prog X.w _ h' _ (.lst ys) from ⟨hz,its,c',r',e⟩),rfl,q _ (I.hok.fresh (Nat.le_refl _))⟩
 rcases hq with hq | hq
 ·obtain ⟨its,r',pl,hz⟩:=I.list hq
  have hlen:=r'.length
  obtain ⟨o,ho,hc,n,hd⟩:=pl.isList
  exact call_list_seq p (.inl rfl) ho hc hd (fun h' c' kp e=>fin its r' hz h' c' kp e) (by simp only [List.size_toArray] <;> omega)
 ·obtain ⟨its,r',pl,hz⟩:=I.tuple hq
  have hlen:=r'.length
  obtain ⟨o,ho,hc,n,hd⟩:=pl
  exact call_list_seq p (.inr rfl) ho hc hd (fun h' c' kp e=>fin its r' hz h' c' kp e) (by simp only [List.size_toArray] <;> omega)
theorem gd:CallR X (.type "tuple") (fun xs H Q => ∃ p ys,xs = [.ref p] /\ ((SqL X.K H p ys /\ ∀ l,H l = none -> Q (.ref l) (upd H l (.tup ys))) ∨ (SqT X.K H p ys /\ Q (.ref p) H))):=by
 intro pins s σ H xs us Q I r h
 obtain ⟨p,ys,rfl,h⟩:=h
 obtain ⟨u,rfl,rx⟩:=cq r
 cases rx
 rcases h with ⟨hq,q⟩ | ⟨hq,q⟩
 ·obtain ⟨its,r',pl,hz⟩:=I.list hq
  have hlen:=r'.length
  refine call_tuple_list pl.isList (fun h' kp => ?_) (by simp only [List.size_toArray] <;> omega)
  have I1:Inv X pins σ H { s with heap:=h' }:=I.kept (t':=s.toks) kp
  have I2:Inv X pins σ (upd H h'.objs.size (.tup ys)) { s with heap:=h'.push { cls := .type "tuple",data := .seq its.toArray } } :=
   I1.laid (t':=s.toks) (fun b o e=>Heap.get?_push_of_some _ e) (Nat.le_refl _) (show ObjOk X.prog X.w _ _ _ (.tup ys) from ⟨hz,its,r',IsTup.new _ _⟩)
  exact ⟨.ref h'.objs.size,_,I2,rfl,q _ (I1.hok.fresh (Nat.le_refl _))⟩
 ·obtain ⟨its,r',pl,hz⟩:=I.tuple hq
  exact call_tuple_same pl ⟨.ref p,H,I,rfl,q⟩
noncomputable def tyV (K:PySem.W.Frag) (T:String) (x:V) (H:Hp):Prop:=match x with
 | .str _=>T = "str"
 | .int _=>T = "int"
 | .ref p=>(T = "list" /\ ∃ xs,SqL K H p xs) ∨ (T = "tuple" /\ ∃ o,K.lookup p = some o /\ o.cls = .type "tuple" /\ o.dict = none) ∨
  (T = "dict" /\ ((∃ kvs,H p = some (.dK kvs)) ∨ ∃ kvs,H p = some (.dT kvs))) ∨ (T = "set" /\ ∃ S n,H p = some (.set S n))
 | _=>False
theorem r9 {pins:List (Addr × Obj)} {σ:St} {H:Hp} {s:Shared} {T:String} {x:V} {v:Value} (I:Inv X pins σ H s) (r:RelV x v) (ty:tyV X.K T x H) :
 s.TypeIs v T /\ ∀ a,v = .ref a -> ∃ ob,s.heap.get? a = some ob /\ ob.dict = none:=by
 cases x with
 | str z =>
   obtain ⟨t,rfl⟩:=r
   cases (show T = "str" from ty)
   exact ⟨typeIs_str s z t,fun _ e=>nomatch e⟩
 | int i =>
   obtain ⟨t,rfl⟩:=r
   cases (show T = "int" from ty)
   exact ⟨typeIs_int s i t,fun _ e=>nomatch e⟩
 | ref p =>
   cases r
   rcases ty with ⟨rfl,xs,hq⟩ | ⟨rfl,o,hk,hc,hd⟩ | ⟨rfl,hk⟩ | ⟨rfl,S,n,hk⟩
   ·obtain ⟨its,_,pl,_⟩:=I.list hq
    refine ⟨pl.isList.typeIs,fun a e => ?_⟩
    cases e
    obtain ⟨o,n,e,c,hd,_⟩:=pl
    exact ⟨o,e,hd⟩
   ·refine ⟨⟨o,I.kIn p o hk,hc⟩,fun a e => ?_⟩
    cases e
    exact ⟨o,I.kIn _ o hk,hd⟩
   ·have z:∃ o,s.heap.get? p = some o /\ o.ExactDict:=by
     rcases hk with ⟨kvs,hk⟩ | ⟨kvs,hk⟩
     ·obtain ⟨_,_,_,_,o,_,_,e,ex,_⟩:=I.hok p _ hk
      exact ⟨o,e,ex⟩
     ·obtain ⟨_,_,_,_,o,_,_,e,ex,_⟩:=I.hok p _ hk
      exact ⟨o,e,ex⟩
    obtain ⟨o,e,ex⟩:=z
    refine ⟨⟨o,e,ex.1⟩,fun a e2 => ?_⟩
    cases e2
    exact ⟨o,e,ex.2.1⟩
   ·obtain ⟨o,_,_,_,e,ex,_⟩:=I.hok p _ hk
    refine ⟨⟨o,e,ex.1⟩,fun a e2 => ?_⟩
    cases e2
    exact ⟨o,e,ex.2.1⟩
 | _=>exact False.elim ty
noncomputable def tBM (K:PySem.W.Frag) (T:String) (r:V -> List V -> Hp -> VK -> Prop) (to:TE) (t:TA):TE:=fun σ H Q=>to σ H fun x H1=>tyV K T x H1 /\ t σ H1 fun xs H2=>r x xs H2 Q
variable {o e:Expr} {es:List Expr} {to:TE} {t:TA} {name:Str} {apos cpos:Pos} {T id:String} {r:V -> List V -> Hp -> VK -> Prop}
theorem oA (pa:PlainAttrs T) (slot:Slot T name id) (hty:typeOf (.builtin id) = pure (.type "method_descriptor")) (hm:MtR X id r) (ho:PE X o to) (ha:PA X (e :: es) t)
 (hbase:attributeBase o name X.env (eval o X.env) = eval o X.env:=by rfl)
 (hfew:((backTo cpos (starEach (e :: es) X.env)).all (fun x => !x.1) && (backToKw cpos (keywordEach [] X.env)).all (fun x=>x.1.isSome)
   && decide ((e :: es).length + ([]:List Keyword).length + (if ([]:List Keyword).isEmpty then 0 else 1) < 30)) = true:=by rfl)
 (hline:(apos.endLine == cpos.line) = true:=by rfl) (hs:starEach (e :: es) X.env = (false,eval e X.env) :: starEach es X.env:=by rfl) (hplain:(backTo cpos (starEach es X.env)).any (·.1) = false:=by rfl) :
 PE X (.Call (.Attribute o name apos) (e :: es) [] cpos) (tBM X.K T r to t):=by
 intro pins s σ H Q I h
 refine wpAny_Call_method_late hbase hfew hline rfl (thn (ho pins s σ H _ I h) fun v s1 ⟨x,H1,I1,r1,ty,q1⟩ => ?_)
 obtain ⟨h1,h2⟩:=r9 I1 r1 ty
 refine ⟨T,id,pa,slot,hty,h1,h2, ?_⟩
 have hA:=ha cpos pins s1 σ H1 _ I1 q1
 rw [hs] at hA ⊢
 refine Calls.callWith_builtin (by show (false || (backTo cpos (starEach es X.env)).any (·.1)) = false;rw [hplain] <;> rfl) (Calls.evalArgs_plain ?_)
 exact thn hA fun us s2 ⟨vs,H2,I2,r2,q2⟩=>hm pins s2 σ H2 x vs v us Q I2 r1 r2 q2
end
end L2
namespace L2
open PySem PySem.Spec PyProof.Rows
noncomputable def MtM (X:Cx) (id:String) (r:V -> List V -> Hp -> VK -> Prop):Prop :=
 ∀ (pins:List (Addr × Obj)) (s:Shared) (σ:St) (H:Hp) (x:V) (xs:List V) (v:Value) (us:List Value) (Q:VK),Inv X pins σ H s -> RelV x v -> Vals xs us -> r x xs H Q ->
  wpAny (model X.prog X.w) X.A (call (.builtin id) (v :: us)) (EP X pins σ Q) X.xe s
theorem Vals.one:∀ {x:V} {us:List Value},Vals [x] us -> ∃ u,us = [u] /\ RelV x u
 | _,_, .cons r .nil=>⟨_,rfl,r⟩
theorem Vals.reverse {xs:List V} {us:List Value} (h:Vals xs us):Vals xs.reverse us.reverse:=by
 induction h with
 | nil=>exact .nil
 | cons r t ih=>rw [List.reverse_cons,List.reverse_cons];exact Vals.append ih (.cons r .nil)
theorem Vals.rep {xs:List V} {us:List Value} (h:Vals xs us):∀ k:Nat,Vals (List.replicate k xs).flatten (List.replicate k us).flatten
 | 0 => .nil
 | k + 1=>by
   rw [List.replicate_succ,List.replicate_succ,List.flatten_cons,List.flatten_cons]
   exact Vals.append h (Vals.rep h k)
theorem cV (its:List Value):∀ (k:Nat) (acc:List Value),
 List.foldl (fun x1 x2=>x1 ++ x2) acc.toArray (List.replicate k its.toArray) = (acc ++ (List.replicate k its).flatten).toArray
 | 0,acc=>by simp
 | k + 1,acc=>by
   have e:acc.toArray ++ its.toArray = (acc ++ its).toArray:=by simp
   have e2:(acc ++ its) ++ (List.replicate k its).flatten = acc ++ (List.replicate (k + 1) its).flatten:=by
    rw [List.replicate_succ,List.flatten_cons,List.append_assoc]
   rw [<- e2, <- cV its k (acc ++ its), <- e,List.replicate_succ,List.foldl_cons]
section
variable {X:Cx} {pins:List (Addr × Obj)} {σ:St} {H:Hp} {s:Shared} {l b:Addr} {xs ys zs:List V}
theorem Inv.lset {its its':List Value} {n:Nat} {f:Array Value -> Array Value} {t':Nat} (I:Inv X pins σ H s) (hH:H l = some (.lst xs))
 (e:s.heap.get? l = some { cls := .type "list",data := .seq its.toArray n }) (hf:f its.toArray = its'.toArray) (hv:Vals ys its') (hz:ys.length <= sizeLine) :
 Inv X pins σ (upd H l (.lst ys)) { s with heap:=s.heap.update l (Obj.mapSeq f),toks:=t' }:=by
 have q:=PySem.IsL.update e f
 rw [hf] at q
 refine I.write (x:=l) (e:=l) (by rw [hH];exact trivial) (.inl rfl) (fun b' u hb hu=>(Heap.get?_update_other s.heap (Obj.mapSeq f) (Ne.symm hb)).trans hu) ⟨_,q⟩ ?_
 exact ⟨hz,its',_,hv,q⟩
theorem Inv.lnew {its:List Value} {t':Nat} (I:Inv X pins σ H s) (hv:Vals ys its) (hz:ys.length <= sizeLine) :
 Inv X pins σ (upd H s.heap.objs.size (.lst ys)) { s with heap:=s.heap.push { cls := .type "list",data := .seq its.toArray },toks:=t' } :=
 I.laid (fun _ _ q=>Heap.get?_push_of_some _ q) (Nat.le_refl _) ⟨hz,its,0,hv,Heap.get?_push_size _ rfl⟩
theorem Inv.fresh (I:Inv X pins σ H s):H s.heap.objs.size = none:=I.hok.fresh (Nat.le_refl _)
theorem Inv.lstM (I:Inv X pins σ H s) (hH:H l = some (.lst xs)):xs.length <= sizeLine /\ ∃ (its:List Value) (n:Nat),Vals xs its /\ xs.length = its.length /\ s.heap.get? l = some { cls := .type "list",data := .seq its.toArray n }:=by
 obtain ⟨z,its,n,r,e⟩:=I.hok l _ hH
 exact ⟨z,its,n,r,r.length,e⟩
theorem dP {n:Nat} (h:n <= sizeLine):Builtin.List.listTooLong n = false:=by
 unfold Builtin.List.listTooLong
 exact decide_eq_false (by omega)
end
section
variable {X:Cx}
noncomputable def iO:V -> List V -> Hp -> VK -> Prop:=fun x vs H Q => ∃ l xs y,x = .ref l /\ vs = [y] /\ H l = some (.lst xs) /\ xs.length < sizeLine /\ Q .non (upd H l (.lst (xs ++ [y])))
theorem fH:MtM X "list.append" iO:=by
 intro pins s σ H x vs v us Q I rx rv h
 obtain ⟨l,xs,y,rfl,rfl,hH,hz,q⟩:=h
 cases rx
 obtain ⟨u,rfl,ru⟩:=rv.one
 obtain ⟨z,its,n,r,hl,e⟩:=I.lstM hH
 refine call_meets F.slot_list_append ⟨_,e,rfl⟩ F.entry_list_append (F.args_list_append_2 _ _) (PySem.list_append l its.toArray n u (by rw [List.size_toArray];omega)) ⟨e, ?_⟩
 refine ⟨.non,_,I.lset (its':=its ++ [u]) hH e (by simp) (r.append (.cons ru .nil)) ?_,rfl,q⟩
 rw [List.length_append,List.length_singleton]
 omega
noncomputable def pi:V -> List V -> Hp -> VK -> Prop:=fun x vs H Q => ∃ l b xs zs,x = .ref l /\ vs = [.ref b] /\ H l = some (.lst xs) /\ H b = some (.lst zs) /\ xs.length + zs.length <= sizeLine /\ Q .non (upd H l (.lst (xs ++ zs)))
theorem tL:MtM X "list.extend" pi:=by
 intro pins s σ H x vs v us Q I rx rv h
 obtain ⟨l,b,xs,zs,rfl,rfl,hH,hB,hz,q⟩:=h
 cases rx
 obtain ⟨u,rfl,ru⟩:=rv.one
 cases ru
 obtain ⟨z,its,n,r,hl,e⟩:=I.lstM hH
 obtain ⟨z2,its2,n2,r2,hl2,e2⟩:=I.lstM hB
 have hsz:its.toArray.size + its2.toArray.size <= sizeLine:=by rw [List.size_toArray,List.size_toArray];omega
 have hlong : ¬ (!its.toArray.isEmpty && Builtin.List.listTooLong (its.toArray.size + its2.toArray.size)) = true:=by
  rw [dP hsz,Bool.and_false]
  exact Bool.false_ne_true
 refine call_meets F.slot_list_extend ⟨_,e,rfl⟩ F.entry_list_extend (F.args_list_extend_2 _ _)
  (AutoSeq1.list_extend_list_list_0 l its.toArray n b its2.toArray n2 hlong (by rw [List.size_toArray];omega) (by omega)) ⟨e,e2, ?_⟩
 refine ⟨.non,_,I.lset (its':=its ++ its2) hH e (by simp) (r.append r2) ?_,rfl,q⟩
 rw [List.length_append]
 omega
noncomputable def u8:R2:=fun x y H Q => ∃ l b xs zs,x = .ref l /\ y = .ref b /\ H l = some (.lst xs) /\ H b = some (.lst zs) /\ xs.length + zs.length <= sizeLine /\ ∀ p,H p = none -> Q (.ref p) (upd H p (.lst (xs ++ zs)))
theorem op_cat:OpR X (binaryOp .Add) u8:=by
 intro pins s σ H x y v u Q I rx ry h
 obtain ⟨l,b,xs,zs,rfl,rfl,hH,hB,hz,q⟩:=h
 cases rx
 cases ry
 obtain ⟨z,its,n,r,hl,e⟩:=I.lstM hH
 obtain ⟨z2,its2,n2,r2,hl2,e2⟩:=I.lstM hB
 refine PySem.P.add_list e e2 ?_ (by rw [List.size_toArray,List.size_toArray];omega)
 have ea:its.toArray ++ its2.toArray = (its ++ its2).toArray:=by simp
 rw [ea]
 exact ⟨.ref _,_,I.lnew (t':=s.toks) (r.append r2) (by rw [List.length_append];omega),rfl,q _ I.fresh⟩
noncomputable def u9:R2:=fun x y H Q => ∃ l k xs,x = .ref l /\ y = .int k /\ H l = some (.lst xs) /\ -(2 ^ 63) <= k /\ k < 2 ^ 63 /\ xs.length * k.toNat <= sizeLine /\
 ∀ p,H p = none -> Q (.ref p) (upd H p (.lst (List.replicate k.toNat xs).flatten))
theorem iP {α:Type} (xs:List α) (k:Nat):(List.replicate k xs).flatten.length = k * xs.length:=by
 induction k with
 | zero=>simp
 | succ k ih=>rw [List.replicate_succ,List.flatten_cons,List.length_append,ih,Nat.succ_mul,Nat.add_comm]
theorem op_rep:OpR X (binaryOp .Mult) u9:=by
 intro pins s σ H x y v u Q I rx ry h
 obtain ⟨l,k,xs,rfl,rfl,hH,h1,h2,hz,q⟩:=h
 cases rx
 obtain ⟨t,rfl⟩:=ry
 obtain ⟨z,its,n,r,hl,e⟩:=I.lstM hH
 have hlen:its.toArray.size * k.toNat <= sizeLine:=by rw [List.size_toArray, <- hl];exact hz
 have hcap : ¬ its.toArray.size * k.toNat > (2 ^ 63 - 1) / 8:=by
  have:(sizeLine:Nat) <= (2 ^ 63 - 1) / 8:=by decide
  omega
 have hfit : ¬ (!Builtin.List.listFitsIndex k) = true:=by
  rw [fitsIndex_both h1 h2]
  exact Bool.false_ne_true
 have hlong : ¬ Builtin.List.listTooLong (its.toArray.size * k.toNat) = true:=by
  rw [dP hlen]
  exact Bool.false_ne_true
 have hnew:List.foldl (fun x1 x2=>x1 ++ x2) #[] (List.replicate (if its.toArray.isEmpty = true then 0 else k.toNat) its.toArray) = (List.replicate k.toNat its).flatten.toArray:=by
  have f0:∀ m:Nat,List.foldl (fun x1 x2=>x1 ++ x2) #[] (List.replicate m its.toArray) = (List.replicate m its).flatten.toArray:=fun m=>by
   have:=cV its m []
   rw [List.nil_append] at this
   exact this
  rw [f0]
  cases its with
  | nil=>simp
  | cons a r'=>rw [if_neg (by simp)]
 refine wpAny_binaryOp_repeat_ref (T := "list") (U := "int") (by decide) ⟨_,e,rfl⟩ (fun s'=>typeIs_int s' k t) noFill_list_mul F.fills_int_mul F.slot_int_rmul repeat_list F.slot_int_index.lookup
  (call_meets F.slot_int_rmul (typeIs_int s k t) F.entry_int_rmul (F.args_int_rmul_2 _ _) (int___rmul___int_list k t l its.toArray n)
    ⟨e,rfl,⟨_,e,rfl⟩,call_meets F.slot_list_mul ⟨_,e,rfl⟩ F.entry_list_mul (F.args_list_mul_2 _ _) (AutoListH.list___mul___list_int_3 l its.toArray n k t hfit hcap hlong) ⟨e, ?_⟩⟩)
 rw [hnew]
 exact ⟨.ref _,_,I.lnew (t':=s.toks) (r.rep k.toNat) (by rw [iP,Nat.mul_comm];exact hz),rfl,q _ I.fresh⟩
end
section
variable {prog:Program} {w:World} {A:Around} {E:Value -> Shared -> Prop} {s:Shared}
end
section
variable {X:Cx}
end
end L2
namespace Att
open PySem PySem.W PySem.Calls PyProof.Rows
theorem et {P:Params} {h:Heap}:∀ (ns:List Int) (vs:List Value),WellAll P h vs (ns.map WData.int) -> IntsAre vs ns:=by
 intro ns
 induction ns with
 | nil =>
   intro vs w
   rw [List.map_nil] at w
   cases w
   exact .nil
 | cons n ns ih =>
   intro vs w
   rw [List.map_cons] at w
   cases w with
   | cons a b =>
     cases a
     exact .cons _ _ (ih _ b)
theorem kE {l:OpenLaw} {n:Nat} (hn:l.most = some n) {P:Params} {h:Heap} {args:List WData} {vals:List Value}
 (hpre:l.row.toRowW.claim.pre args = true) (hwl:WellAll P h vals args) :
 ∃ a vs ns,vals = [Value.ref a] /\ args = [WData.list (ns.map WData.int)] /\ h.get? a = some { cls := .type "list",data := .seq vs.toArray } /\ IntsAre vs ns /\ ns.length <= n:=by
 have hsh:WShape.hasAll [] args [.list .int] = true:=(pre_splitW hpre).1
 have hc:l.pre.holds [] { args:=args } = true:=(pre_splitW hpre).2
 obtain ⟨d,r,rfl,h1,h2⟩:=hasAllW_cons hsh
 obtain rfl:=hasAllW_nil h2
 obtain ⟨xs,rfl,h3⟩:=hasW_list h1
 obtain ⟨ns,rfl⟩:=items_int h3
 have hlen:ns.length <= n:=by
  unfold OpenLaw.pre at hc
  have h4:(WTm.not (.lt (.lit (.int (n:Int))) (.len (.arg 0)))).holds [] { args := [.list (ns.map .int)] } = true:=by
   have h4:=(holds_andW hc).1
   rw [hn] at h4
   exact h4
  have h5:=condW_of h4 (w_not (w_lt w_lit (w_len_list (w_arg rfl))))
  rw [List.length_map] at h5
  refine Nat.le_of_not_lt fun q => ?_
  have q':(n:Int) < ((ns.length:Nat):Int):=by omega
  first
   | (rw [decide_eq_true q'] at h5;exact absurd h5 (by decide))
   | (simp at h5;omega)
 cases hwl with
 | cons w1 w2 =>
   cases w2
   cases w1 with
   | list ho hall=>exact ⟨_,_,ns,rfl,rfl,ho,et ns _ hall,hlen⟩
theorem kF (l:OpenLaw) (args:List WData):l.row.toRowW.claim.post args (.bool true) args = true :=
 postW_of (r:=l.row.toRowW) (X:=(true == true))
  (show WShape.has [] (.bool true) .bool = true by first | rfl | decide | simp [WShape.has,WShape.arms,WShape.armsAll])
  (show (WTm.eq .res (.lit (.bool true))).value [] { args:=args,res:=some (.bool true),after:=args } = some (.bool (true == true)) from w_eq_bool (w_res rfl) w_lit) rfl
theorem attach_call {l:OpenLaw} {n:Nat} {q:Program} {loose:List Str} {XP:(Str -> Option Value) -> Heap -> Prop} {YP:World -> Heap -> Prop} {d:DefRec}
 (hn:l.most = some n) (hdf:d.params.defaults = [])
 (call:∀ (w:World) (s₀ s₁:Shared) (mg mb:Str -> Option Value) (fa:Addr) (o:Obj) (pm cd doc:Value) (a:Addr) (vs:List Value) (ns:List Int),
   Ground q loose [] XP w s₀ mg mb s₁.heap -> YP w s₁.heap ->
   s₁.heap.get? fa = some o -> o.data = .func (docDef d.name d.params d.body d.scope pm cd doc) -> s₁.heap.CodeRec cd d.name -> mg d.name = some (.ref fa) ->
   s₁.heap.get? a = some { cls := .type "list",data := .seq vs.toArray } -> IntsAre vs ns -> ns.length <= n -> s₁.gens = #[] ->
   codeAny (model l.prog w) callerA (.call (.ref fa) ⟨[.ref a],[]⟩) (fun r s'=>r = .ok (.ret (.bool true)) /\ OldK s₁.heap s'.heap /\ s'.os = s₁.os /\ AllBare s'.gens) s₁) :
 WalkO q loose XP YP l.row.toRowW d [] (fun f vs=>PySem.call f vs):=by
 intro w s₀ s₁ mg mb G Y fa o pm cd doc dV kV ho hd hcd hD hmg hg args vals as hpre hlay hrd hwl hlo
 obtain rfl:dV = .none:=Dflts.none hD hdf
 obtain rfl:kV = .none:=Dflts.noKw hD
 obtain ⟨a,vs,ns,rfl,rfl,hobj,hints,hlen⟩:=kE hn hpre hwl
 refine enter_call (codeAny_mono (call w s₀ s₁ mg mb fa o pm cd doc a vs ns G Y ho (fd_plain hd) hcd hmg hobj hints hlen hg) fun r s' hq => ?_)
 obtain ⟨rfl,h2,h3,h4⟩:=hq
 exact ⟨.inl ⟨.bool true, .bool true,[],rfl,fun _=>rfl, .bool true,kF l _,fun _=>⟨List.Pairwise.nil,fun _ hm=>(nomatch hm)⟩⟩,h2,h3,h4⟩
section
variable {prog:Program} {w:World} {A:Around} {E:Value -> Shared -> Prop} {s:Shared} {K:Frag}
noncomputable def ug (h:Heap) (L d:Addr):List (Addr × Obj):=(List.range h.objs.size).filterMap fun a=>if a = L ∨ a = d then none else (h.get? a).map fun o=>(a,o)
end
end Att
namespace L2
open PySem PySem.Spec PyProof.Rows
theorem fI:∀ {vs:List Value} {ns:List Int},IntsAre vs ns -> Vals (ns.map V.int) vs
 | _,_, .nil => .nil
 | _,_, .cons n t h => .cons ⟨t,rfl⟩ (fI h)
noncomputable def jn (H:Hp):Prop := ∀ b,H b = none ∨ ∃ o xs,H b = some (.frz o (.lst xs))
theorem mL {P:Program} {w:World} {K:PySem.W.Frag} {mg mb:Str -> Option Value} {CX:CXT} {k:Nat} {fa a:Addr} {fd:FuncData} {x:Str} {sp:Sp} {s₁:Shared} {vs:List Value} {ns:List Int}
 (KX:K.In s₁.heap) (hns:s₁.heap.Ns mainGlobals mg) (hb:s₁.heap.Ns builtinsNs mb) (hbb:∀ x:Str,x ≠ "__name__" -> mb x = bootBuiltins x) (hlim:s₁.heap.NoLimit) (hg:s₁.gens = #[])
 (ha:s₁.heap.get? a = some { cls := .type "list",data := .seq vs.toArray }) (hi:IntsAre vs ns) (hl:ns.length <= sizeLine) (hr:Room k callerA)
 (F:∀ base:Heap,K.In base -> base.Ns mainGlobals mg -> cj P w K mg base CX k fa fd [x] sp) (hbind:∀ (s:Shared) (u:Value),BindsTo s fd ⟨[u],[]⟩ [(x,u)])
 (hsp:∀ H:Hp,jn H -> SqL K H a (ns.map V.int) -> sp [.ref a] H (fun v _=>v = .bl true) fun _ _ _=>False)
 (hCX:∀ H e s',CX [] H s₁ (fun _ _ _=>False) e s' -> False) :
 codeAny (model P w) callerA (.call (.ref fa) ⟨[.ref a],[]⟩) (fun r s'=>r = .ok (.ret (.bool true)) /\ OldK s₁.heap s'.heap /\ s'.os = s₁.os /\ AllBare s'.gens) s₁ := by
 have rv:=fI hi
 have lenV:=hi.length
 have core:∀ H:Hp,jn H -> SqL K H a (ns.map V.int) -> HOk P w H s₁.heap -> (∀ b,H b ≠ none -> b = a) -> (H a ≠ none -> K.lookup a = none) ->
  codeAny (model P w) callerA (.call (.ref fa) ⟨[.ref a],[]⟩) (fun r s'=>r = .ok (.ret (.bool true)) /\ OldK s₁.heap s'.heap /\ s'.os = s₁.os /\ AllBare s'.gens) s₁ := by
  intro H hO hS hok hA hK
  have base_of:∀ {b:Addr} {o:Obj},s₁.heap.get? b = some o -> H b = none -> (cH s₁.heap H).get? b = some o:=fun e n=>mf e n
  have noA:∀ {b:Addr} {o:Obj} {es:Array DictEntry} {ep:Nat},s₁.heap.get? b = some o -> o.data = .dict es ep -> H b = none:=fun {b o es ep} e d=>by
   cases q:H b with
   | none=>rfl
   | some u =>
     have e':b = a:=hA b (by rw [q];simp)
     subst e'
     rw [ha] at e;cases e
     have d':Data.seq vs.toArray _ = Data.dict es ep:=d
     cases d'
  have nsK:∀ {b:Addr} {m:Str -> Option Value},s₁.heap.Ns b m -> (cH s₁.heap H).Ns b m:=fun {b m} ⟨o,es,ep,e,d,r⟩=>⟨o,es,ep,base_of e (noA e d),d,r⟩
  have hKb:K.In (cH s₁.heap H):=fun b o e=>base_of (KX b o e) (by
   cases q:H b with
   | none=>rfl
   | some u =>
     have e':b = a:=hA b (by rw [q];simp)
     subst e'
     rw [hK (by rw [q];simp)] at e;cases e)
  have hM:Mod K mg (cH s₁.heap H):=⟨hKb,nsK hns,⟨mb,nsK hb,hbb⟩,let ⟨mc,h1,h2⟩:=hlim; ⟨mc,nsK h1,h2⟩⟩
  have e0:jj P w K mg (cH s₁.heap H) callerA [] s₁ H:=⟨rfl,hM,fun b o e=>oU e,Nat.le_of_eq (kh _ _),trivial,fun b hb=>absurd (show b ∈ ([]:List Addr) from hb) (by simp),hok, .of_eq hg⟩
  refine codeAny_mono ((F _ hKb (nsK hns)).run callerA [] s₁ H ⟨[.ref a],[]⟩ [.ref a] [.ref a] _ _ hr e0 (hbind s₁ (.ref a)) (.cons rfl .nil) (hsp H hO hS)) fun r s' h => ?_
  cases r with
  | error e=>exact (hCX H e s' h).elim
  | ok fl =>
    cases fl with
    | next=>exact False.elim h
    | brk=>exact False.elim h
    | cont=>exact False.elim h
    | ret u =>
      obtain ⟨v,H',os,bare,un,hok',r',q⟩:=h
      have q':v = .bl true:=q
      subst q'
      obtain rfl:u = Value.bool true:=r'
      refine ⟨rfl,OldK.of_keep fun b o e => ?_,os,bare⟩
      cases q:H b with
      | none=>exact un.keep b o e q (by intro z;exact absurd (show b ∈ ([]:List Addr) from z) (by simp)) (by simp)
      | some u =>
        rcases hO b with z | ⟨ob,xs,z⟩
        ·rw [q] at z;cases z
        ·have z2:=un.frzs b ob _ z
         obtain ⟨e1,_⟩:=hok b _ z
         obtain ⟨e2,_⟩:=hok' b _ z2
         rw [e] at e1;cases e1
         exact e2
 cases hk:K.lookup a with
 | some o =>
   have e:=KX a o hk
   rw [ha] at e
   cases e
   refine core (fun _=>none) (fun _ => .inl rfl) (.inr ⟨_,vs.toArray,_,hk,rfl,rfl,rfl,by rw [List.size_toArray,lenV];exact hl,by simpa using rv⟩) (fun b u z=>by have z':(none:Option HO) = some u:=z;cases z') (fun b z=>absurd rfl z) fun z=>absurd rfl z
 | none =>
   refine core (fun b=>if b = a then some (.frz { cls := .type "list",data := .seq vs.toArray } (.lst (ns.map V.int))) else none) (fun b => ?_) (.inl (.inr ⟨{ cls := .type "list",data := .seq vs.toArray },if_pos rfl⟩)) (fun b u z => ?_) (fun b z => ?_) fun _=>hk
   ·by_cases hb:b = a
    ·exact .inr ⟨_,_,if_pos hb⟩
    ·exact .inl (if_neg hb)
   ·by_cases hb:b = a
    ·have z':=(if_pos hb).symm.trans z
     cases z'
     subst hb
     exact ⟨ha,by rw [List.length_map];exact hl,vs,_,rv,ha⟩
    ·have z':=(if_neg hb).symm.trans z
     cases z'
   ·by_cases hb:b = a
    ·exact hb
    ·exact absurd (if_neg hb) z
end L2
namespace L2
open PySem PySem.Spec PyProof.Rows
theorem walk_of {l:PySem.W.OpenLaw} {n k:Nat} {q:Program} {loose:List Str} {XP:(Str -> Option Value) -> Heap -> Prop} {YP:World -> Heap -> Prop} {d:DefRec} {K:Params -> PySem.W.Frag} {CX:World -> CXT} {sp:World -> Sp} {x:Str}
 (hn:l.most = some n) (hn2:n <= sizeLine) (hdf:d.params.defaults = []) (hr:Room k callerA)
 (hY:∀ (w:World) (h:Heap),YP w h -> (K w.params).In h)
 (F:∀ (w:World) (mg:Str -> Option Value) (fa:Addr) (h:Heap),(K w.params).In h -> h.Ns mainGlobals mg -> mg d.name = some (.ref fa) ->
   ∃ fd:FuncData,(∀ (s:Shared) (u:Value),BindsTo s fd ⟨[u],[]⟩ [(x,u)]) /\
    ∀ base:Heap,(K w.params).In base -> base.Ns mainGlobals mg -> cj l.prog w (K w.params) mg base (CX w) k fa fd [x] (sp w))
 (hsp:∀ (w:World) (H:Hp) (a:Addr) (ns:List Int),ns.length <= n -> jn H -> SqL (K w.params) H a (ns.map V.int) -> sp w [.ref a] H (fun v _=>v = .bl true) fun _ _ _=>False)
 (hCX:∀ (w:World) (H:Hp) (s:Shared) (e:Value) (s':Shared),CX w [] H s (fun _ _ _=>False) e s' -> False) :
 PySem.W.WalkO q loose XP YP l.row.toRowW d [] (fun f vs=>PySem.call f vs):=by
 refine Att.attach_call hn hdf fun w s₀ s₁ mg mb fa o pm cd doc a vs ns G Y ho hd hcd hmg hobj hints hlen hg => ?_
 have KX:=hY w _ Y
 obtain ⟨fd,hb,hF⟩:=F w mg fa _ KX G.T.g hmg
 exact mL KX G.T.g G.T.b G.T.builtins G.T.nolimit hg hobj hints (Nat.le_trans hlen hn2) hr hF hb (fun H hO hS=>hsp w H a ns hlen hO hS) fun H e s'=>hCX w H s₁ e s'
end L2
namespace L2
open PySem PySem.Spec PyProof.Rows
noncomputable def am (s:Stmt):Arguments:=match s with
 | .FunctionDef _ a _ _ _ _ _ _ _ _=>a
 | _ => { posonlyargs := [],args := [],vararg:=none,kwonlyargs := [],kw_defaults := [],kwarg:=none,defaults := [] }
noncomputable def aj (s:Stmt):List Stmt:=match s with
 | .FunctionDef _ _ b _ _ _ _ _ _ _=>b
 | _ => []
noncomputable def af (s:Stmt):Scope:=match s with
 | .FunctionDef _ _ _ _ _ _ sc _ _ _=>sc
 | _ => { kind := .function,names := [],isGenerator:=false,isCoroutine:=false }
noncomputable abbrev CX0:CXT:=fun _ _ _ _ _ _=>False
noncomputable abbrev E0:XK:=fun _ _ _=>False
theorem oB {X:Cx}:eo CX0 X E0:=fun _ _ _ _ _ _ _ h=>h.elim
structure Fun (K:PySem.W.Frag) (x qual:Str) (st:Stmt) (f:Addr) (fd:FuncData):Prop where
 ex:∃ (oc:Value) (od:Option Addr) (kV doc pm:Value) (an:Option Addr) (cdv ct:Value) (osl:Array (Option Value)),
  fd = PySem.W.fnOf x qual (am st) (aj st) (af st) .none kV doc pm an cdv ct /\ K.lookup f = some ⟨oc,od, .func fd,osl⟩ /\ PySem.W.codeIn K cdv qual = true
 kp:PySem.W.keepIn K (.ref f) = true
section
variable {P:Program} {w:World} {K:PySem.W.Frag} {mg:Str -> Option Value} {base:Heap}
theorem Fun.ok {x qual:Str} {st:Stmt} {f:Addr} {fd:FuncData} {N ps:List Str} {k:Nat} {sp:Sp} (F:Fun K x qual st f fd) (S:dq N ps (af st)) (len:∀ vs H Q E,sp vs H Q E -> vs.length = ps.length)
 (hbody:∀ (cdv:Value) (A:Around) (outer:List Env) (s:Shared) (H:Hp) (vs:List V) (Q:VK) (E:XK),Room k (A.deeper (envOfC qual (af st) s.heap.objs.size f cdv)) -> sp vs H Q E ->
   ∃ t,PSs (dO CX0 P w K mg base N qual (af st) f cdv A outer s H E).nox (aj st) t /\ t { nx:=fun _ H'=>Q .non H',rt:=Q } (bL N vs) H):cj P w K mg base CX0 (k + 1) f fd ps sp:=by
 obtain ⟨oc,od,kV,doc,pm,an,cdv,ct,osl,rfl,lk,hcd⟩:=F.ex
 refine sR lk hcd S len fun A outer s H vs Q E hr hsp => ?_
 obtain ⟨t,h,q⟩:=hbody cdv A outer s H vs Q E hr hsp
 exact ⟨t,h.nox,q⟩
theorem Fun.binds {x qual:Str} {st:Stmt} {f:Addr} {fd:FuncData} {ps:List Str} (F:Fun K x qual st f fd)
 (h:∀ (kV doc pm:Value) (an:Option Addr) (cdv ct:Value) (us:List Value),us.length = ps.length -> bindArgs (PySem.W.fnOf x qual (am st) (aj st) (af st) .none kV doc pm an cdv ct) ⟨us,[]⟩ = pure (ps.zip us)):Binds K fd ps []:=by
 obtain ⟨oc,od,kV,doc,pm,an,cdv,ct,osl,rfl,lk,hcd⟩:=F.ex
 exact .all (h kV doc pm an cdv ct)
theorem aP {x qual:Str} {st:Stmt} {f:Addr} {oc:Value} {od an:Option Addr} {osl:Array (Option Value)} {kV doc pm cdv ct:Value} (l:K.lookup f = some ⟨oc,od, .func (PySem.W.fnOf x qual (am st) (aj st) (af st) .none kV doc pm an cdv ct),osl⟩)
 (c:PySem.W.codeIn K cdv qual = true) (k:PySem.W.keepIn K (.ref f) = true):Fun K x qual st f (PySem.W.fnOf x qual (am st) (aj st) (af st) .none kV doc pm an cdv ct):=⟨⟨oc,od,kV,doc,pm,an,cdv,ct,osl,rfl,l,c⟩,k⟩
end
section
variable {X:Cx}
end
noncomputable def Same (H H':Hp):Prop := ∀ b o,H b = some o -> H' b = some o
theorem Same.trans {H H1 H2:Hp} (a:Same H H1) (b:Same H1 H2):Same H H2:=fun c o h=>b c o (a c o h)
theorem Same.free {H H':Hp} (e:Same H H') {l:Addr} (h:H' l = Option.none):H l = Option.none:=by
 cases q:H l with
 | none=>rfl
 | some o =>
   rw [e l o q] at h
   cases h
end L2
namespace HT
open PySem PySem.Spec PyProof.Rows
section
variable {prog:Program} {w:World} {A:Around} {E:Value -> Shared -> Prop} {s:Shared}
theorem getItem_tuple_whole {t sl:Addr} {items:Array Value} {vl vu:Value} {lo hi:Option Int} {Q:Value -> Shared -> Prop} (ht:IsTup s.heap t items) (hs:s.heap.IsSliceOf sl vl vu .none) (pl:IsPart vl lo) (pu:IsPart vu hi)
 (hw:sIx items.size 0 lo = 0 /\ sIx items.size items.size hi = items.size) (h:Q (.ref t) s):wpAny (model prog w) A (getItem (.ref t) (.ref sl)) Q E s:=by
 obtain ⟨os,hos,hcs,hds⟩:=id hs
 have hTs:s.TypeIs (.ref sl) "slice" := ⟨os,hos,hcs⟩
 unfold getItem
 try with_reducible refine wpAny_holding ?_
 first | refine wpAny_bind (wpAny_pure ?_) | skip
 refine wpAny_bind (wpAny_sequenceKey ht.typeIs (by decide) ?_)
 refine wpAny_bind (wpAny_callSpecial?_slot (name:=Str.ofString "__getitem__") ht.typeIs PyProof.Rows.slot_tuple_getitem
  (wpAny_call_entry PyProof.Rows.slot_tuple_getitem ht.typeIs entry_tuple_getitem ?_ (args_tuple_getitem _ _)))
 show wpAny _ _ (Builtin.Tuple.tupleItemsOf (.ref t) >>= _) _ _ s
 refine wpAny_bind (tupleItemsOf_ ht ?_)
 refine wpAny_bind (wpAny_typeOf hTs ?_)
 rw [if_pos (by decide)]
 refine wpAny_bind (ck hs pl pu ?_)
 have hno:(((sIx items.size 0 lo:Nat):Int) == 0 && (1:Int) == 1 && (sIx items.size items.size hi - sIx items.size 0 lo) == items.size) = true:=by
  rw [hw.1,hw.2];simp
 show wpAny _ _ (if (((sIx items.size 0 lo:Nat):Int) == 0 && (1:Int) == 1 && (sIx items.size items.size hi - sIx items.size 0 lo) == items.size) = true then _ else _) _ _ s
 rw [if_pos hno]
 refine wpAny_bind (m:=Builtin.Tuple.tupleIsExact (.ref t)) ?_
 unfold Builtin.Tuple.tupleIsExact
 refine wpAny_bind (wpAny_typeOf ht.typeIs (wpAny_pure ?_))
 show wpAny _ _ (if true = true then _ else _) _ _ s
 rw [if_pos rfl]
 exact wpAny_bind (wpAny_rule (wpAny_pure ⟨_,rfl,wpAny_pure h⟩))
end
end HT
namespace L2
open PySem PySem.Spec PyProof.Rows
section
variable {X:Cx}
noncomputable def ua (K:PySem.W.Frag):V -> Option Int -> Option Int -> Hp -> VK -> Prop:=fun x lo hi H Q => ∃ a xs,x = .ref a /\ SqT K H a xs /\ (HT.sIx xs.length 0 lo = 0 /\ HT.sIx xs.length xs.length hi = xs.length) /\ Q x H
theorem mM:SlR X (ua X.K):=by
 intro pins s σ H x v vl vu lo hi sl Q I rx hs pl pu h
 obtain ⟨a,xs,rfl,hx,hw,q⟩:=h
 cases rx
 obtain ⟨its,r,ht,hz⟩:=I.tuple hx
 have hlen:=r.length
 refine ⟨"tuple",_,slot_tuple_getitem.lookup,ht.typeIs, ?_⟩
 refine HT.getItem_tuple_whole ht hs pl pu (by rw [List.size_toArray, <- hlen];exact hw) ⟨.ref a,H,I,rfl,q⟩
end
end L2
namespace L2
open PySem PySem.Spec PyProof.Rows
section
variable {κ:Type} [DecidableEq κ]
noncomputable def be (kvs:List (κ × V)) (k : κ):Option V:=(kvs.find? fun kv=>decide (kv.1 = k)).map (·.2)
noncomputable def bo (kvs:List (κ × V)) (k : κ) (v:V):List (κ × V) :=
 if (kvs.any fun kv=>decide (kv.1 = k)) = true then kvs.map (fun kv=>if kv.1 = k then (kv.1,v) else kv) else kvs ++ [(k,v)]
noncomputable def oC (kvs:List (κ × V)) (k : κ):List (κ × V):=kvs.filter fun kv=>decide (kv.1 ≠ k)
theorem cJ {p : κ × V} {r:List (κ × V)} {k : κ} (e:p.1 = k):be (p :: r) k = some p.2:=by simp [be,List.find?_cons,e]
theorem cK {p : κ × V} {r:List (κ × V)} {k : κ} (e : ¬ p.1 = k):be (p :: r) k = be r k:=by simp [be,List.find?_cons,e]
theorem gz (k : κ):∀ kvs:List (κ × V),(kvs.any fun kv=>decide (kv.1 = k)) = (be kvs k).isSome
 | [] => rfl
 | p :: r=>by
   rw [List.any_cons]
   by_cases e:p.1 = k
   ·simp only [cJ e,decide_eq_true e,Bool.true_or,Option.isSome_some]
   ·rw [cK e,decide_eq_false e,Bool.false_or];exact gz k r
theorem dG (kvs:List (κ × V)) (k : κ) (v:V):(bo kvs k v).length <= kvs.length + 1:=by
 unfold bo
 split
 ·rw [List.length_map];omega
 ·rw [List.length_append,List.length_cons,List.length_nil];omega
theorem RelO.isSome_eq {o:Option V} {u:Option Value} (r:RelO o u):o.isSome = u.isSome:=by
 cases o with
 | none=>cases u with
   | none=>rfl
   | some _=>exact (show False from r).elim
 | some _=>cases u with
   | none=>exact (show False from r).elim
   | some _=>rfl
theorem KV.val {kvs:List (κ × V)} {vs:List (κ × Value)} (r:KV kvs vs) (k : κ):RelO (be kvs k) (valueAt vs k):=by
 unfold KV at r
 induction r with
 | nil=>exact True.intro
 | @cons p q ps qs h t ih =>
  obtain ⟨h1,h2⟩:=h
  by_cases e:p.1 = k
  ·have e':q.1 = k:=h1.symm.trans e
   have b:valueAt (q :: qs) k = some q.2:=by simp [valueAt,List.find?_cons,e']
   rw [cJ e,b];exact h2
  ·have e' : ¬ q.1 = k:=fun z=>e (h1.trans z)
   have b:valueAt (q :: qs) k = valueAt qs k:=by simp [valueAt,List.find?_cons,e']
   rw [cK e,b];exact ih
theorem KV.any {kvs:List (κ × V)} {vs:List (κ × Value)} (r:KV kvs vs) (k : κ):(kvs.any fun kv=>decide (kv.1 = k)) = vs.any fun kv=>decide (kv.1 = k):=by
 unfold KV at r
 induction r with
 | nil=>rfl
 | cons h t ih=>rw [List.any_cons,List.any_cons,ih,h.1]
theorem KV.repl {kvs:List (κ × V)} {vs:List (κ × Value)} (r:KV kvs vs) (k : κ) {y:V} {u:Value} (ry:RelV y u) :
 KV (kvs.map fun kv=>if kv.1 = k then (kv.1,y) else kv) (vs.map fun kv=>if kv.1 = k then (kv.1,u) else kv):=by
 unfold KV at r ⊢
 induction r with
 | nil=>exact .nil
 | @cons p q ps qs h t ih =>
  rw [List.map_cons,List.map_cons]
  refine .cons ?_ ih
  obtain ⟨h1,h2⟩:=h
  by_cases e:p.1 = k
  ·rw [if_pos e,if_pos (h1.symm.trans e)];exact ⟨h1,ry⟩
  ·rw [if_neg e,if_neg (fun z=>e (h1.trans z))];exact ⟨h1,h2⟩
theorem KV.put {kvs:List (κ × V)} {vs:List (κ × Value)} (r:KV kvs vs) (k : κ) {y:V} {u:Value} (ry:RelV y u):KV (bo kvs k y) (stored vs k u):=by
 unfold bo stored
 rw [r.any k]
 by_cases e:(vs.any fun kv=>decide (kv.1 = k)) = true
 ·rw [if_pos e,if_pos e];exact r.repl k ry
 ·rw [if_neg e,if_neg e];exact Paired.snoc r ⟨rfl,ry⟩
theorem KV.drop {kvs:List (κ × V)} {vs:List (κ × Value)} (r:KV kvs vs) (k : κ):KV (oC kvs k) (without vs k):=by
 unfold KV at r ⊢
 unfold oC without
 induction r with
 | nil=>exact .nil
 | @cons p q ps qs h t ih =>
  obtain ⟨h1,h2⟩:=h
  rw [List.filter_cons,List.filter_cons]
  by_cases e:p.1 = k
  ·have a : ¬ decide (p.1 ≠ k) = true:=by simp [e]
   have b : ¬ decide (q.1 ≠ k) = true:=by simp [h1.symm.trans e]
   rw [if_neg a,if_neg b];exact ih
  ·have e' : ¬ q.1 = k:=fun z=>e (h1.trans z)
   have a:decide (p.1 ≠ k) = true:=by simp [e]
   have b:decide (q.1 ≠ k) = true:=by simp [e']
   rw [if_pos a,if_pos b];exact .cons ⟨h1,h2⟩ ih
theorem KV.keys {kvs:List (κ × V)} {vs:List (κ × Value)} (r:KV kvs vs):kvs.map (·.1) = vs.map (·.1):=by
 unfold KV at r
 induction r with
 | nil=>rfl
 | cons h t ih=>rw [List.map_cons,List.map_cons,ih,h.1]
theorem KV.length {kvs:List (κ × V)} {vs:List (κ × Value)} (r:KV kvs vs):kvs.length = vs.length:=Paired.length r
end
theorem jo {P:Program} {w:World} {k:Key} {u:Value} (r:RelV (kV k) u):(aI P w).is k u = true:=by
 cases k with
 | inl i=>obtain ⟨t,e⟩:=(show ∃ t,u = Value.int i t from r);subst e;exact iB P w i t
 | inr x=>obtain ⟨t,e⟩:=(show ∃ t,u = Value.str x t from r);subst e;exact iC P w x t
theorem fJ {P:Program} {w:World}:∀ {ks:List Key} {us:List Value},Vals (ks.map kV) us -> ItemsAre (aI P w) ks us
 | [],_,r=>by rw [List.map_nil] at r;cases r;exact .nil
 | k :: ks,_,r=>by
   rw [List.map_cons] at r
   cases r with
   | cons h t=>exact .cons (jo h) (fJ t)
noncomputable abbrev KT (H:Hp):List (List Key × V) -> List (List Key × Addr × Value) -> Prop:=Paired fun p q=>p.1 = q.1 /\ H q.2.1 = some (.tup (p.1.map kV)) /\ RelV p.2 q.2.2
theorem KT.val {H:Hp} {kvs:List (List Key × V)} {xs:List (List Key × Addr × Value)} (r:KT H kvs xs) (k:List Key):RelO (be kvs k) ((atKey xs k).map (·.2)):=by
 induction r with
 | nil=>exact True.intro
 | @cons p q ps qs h t ih =>
  obtain ⟨h1,_,h2⟩:=h
  by_cases e:p.1 = k
  ·have e':q.1 = k:=h1.symm.trans e
   have b:atKey (q :: qs) k = some q.2:=by simp [atKey,List.find?_cons,e']
   rw [cJ e,b];exact h2
  ·have e' : ¬ q.1 = k:=fun z=>e (h1.trans z)
   have b:atKey (q :: qs) k = atKey qs k:=by simp [atKey,List.find?_cons,e']
   rw [cK e,b];exact ih
theorem KT.repl {H:Hp} {kvs:List (List Key × V)} {xs:List (List Key × Addr × Value)} (r:KT H kvs xs) (k:List Key) {y:V} {u:Value} (ry:RelV y u) :
 KT H (kvs.map fun kv=>if kv.1 = k then (kv.1,y) else kv) (xs.map (putAt k u)):=by
 induction r with
 | nil=>exact .nil
 | @cons p q ps qs h t ih =>
  rw [List.map_cons,List.map_cons]
  refine .cons ?_ ih
  obtain ⟨h1,h2,h3⟩:=h
  unfold putAt
  by_cases e:p.1 = k
  ·rw [if_pos e,if_pos (h1.symm.trans e)];exact ⟨h1,h2,ry⟩
  ·rw [if_neg e,if_neg (fun z=>e (h1.trans z))];exact ⟨h1,h2,h3⟩
theorem KT.put {H:Hp} {kvs:List (List Key × V)} {xs:List (List Key × Addr × Value)} (r:KT H kvs xs) (k:List Key) {b:Addr} {y:V} {u:Value} (hb:H b = some (.tup (k.map kV))) (ry:RelV y u) :
 KT H (bo kvs k y) (storedH xs k b u):=by
 have e:(kvs.any fun kv=>decide (kv.1 = k)) = (atKey xs k).isSome:=by
  rw [gz,(r.val k).isSome_eq,Option.isSome_map]
 unfold bo storedH
 rw [e]
 by_cases q:(atKey xs k).isSome = true
 ·rw [if_pos q,if_pos q];exact r.repl k ry
 ·rw [if_neg q,if_neg q];exact Paired.snoc r ⟨rfl,hb,ry⟩
theorem KT.keeps {H H':Hp} {kvs:List (List Key × V)} {xs:List (List Key × Addr × Value)} (r:KT H kvs xs) (ht:∀ b ys,H b = some (.tup ys) -> H' b = some (.tup ys)):KT H' kvs xs :=
 Paired.mapP r fun _ _ z=>⟨z.1,ht _ _ z.2.1,z.2.2⟩
section
variable {P:Program} {w:World} {H:Hp} {h:Heap} {a:Addr}
theorem oD {u:HO} (ok:HOk P w H h) (e:Rd H a u):ObjOk P w H h a u:=e.ok ok
theorem jp {kvs:List (Key × V)} (ok:HOk P w H h) (e:Rd H a (.dK kvs)):kvs.length <= sizeLine /\ (a == sysModules) = false /\ ∃ vs,KV kvs vs /\ h.DictOf (aI P w) a vs :=
 show ObjOk P w H h a (.dK kvs) from oD ok e
theorem sW {kvs:List (Key × V)} (ok:HOk P w H h) (e:H a = some (.dK kvs)):kvs.length <= sizeLine /\ (a == sysModules) = false /\ ∃ vs,KV kvs vs /\ h.DictOf (aI P w) a vs:=jp ok (.inl e)
theorem gA {ks:List Key} (ok:HOk P w H h) (e:H a = some (.tup (ks.map kV))):(tupleKind (aI P w)).is h ks a:=by
 obtain ⟨_,its,r,o,h1,h2,n,h3⟩:=(show ObjOk P w H h a (.tup (ks.map kV)) from ok a _ e)
 exact ⟨o,its.toArray,n,h1,h2,h3,by simpa using fJ r⟩
theorem jq {kvs:List (List Key × V)} (ok:HOk P w H h) (e:Rd H a (.dT kvs)):kvs.length <= sizeLine /\ (a == sysModules) = false /\
 ∃ xs,KT H kvs xs /\ h.DictOfH (tupleKind (aI P w)) a xs:=by
 obtain ⟨z,y,xs,r,o,es,ep,h1,h2,h3,h4,h5⟩:=(show ObjOk P w H h a (.dT kvs) from oD ok e)
 refine ⟨z,y,xs,r,o,es,ep,h1,h2,h3,h4,fun x hx => ?_,h5⟩
 have all:∀ {l:List (List Key × V)} {m:List (List Key × Addr × Value)},KT H l m -> ∀ x ∈ m,(tupleKind (aI P w)).is h x.1 x.2.1:=by
  intro l m q
  induction q with
  | nil=>intro x hx;exact nomatch hx
  | @cons p q ps qs hq t ih =>
   intro x hx
   rcases List.mem_cons.mp hx with e | hx
   ·subst e
    exact gA ok (by rw [<- hq.1];exact hq.2.1)
   ·exact ih x hx
 exact all r x hx
theorem sX {kvs:List (List Key × V)} (ok:HOk P w H h) (e:H a = some (.dT kvs)):kvs.length <= sizeLine /\ (a == sysModules) = false /\
 ∃ xs,KT H kvs xs /\ h.DictOfH (tupleKind (aI P w)) a xs:=jq ok (.inl e)
end
noncomputable def DGet (H:Hp) (a:Addr) (y:V) (r:Option V):Prop :=
 (∃ kvs k,Rd H a (.dK kvs) /\ y = kV k /\ r = be kvs k) ∨ ∃ kvs k b,Rd H a (.dT kvs) /\ y = .ref b /\ H b = some (.tup (k.map kV)) /\ r = be kvs k
noncomputable def DPut (H:Hp) (a:Addr) (y v:V) (H':Hp):Prop :=
 (∃ kvs k,H a = some (.dK kvs) /\ y = kV k /\ kvs.length < sizeLine /\ H' = upd H a (.dK (bo kvs k v))) ∨
 ∃ kvs k b,H a = some (.dT kvs) /\ y = .ref b /\ H b = some (.tup (k.map kV)) /\ kvs.length < sizeLine /\ H' = upd H a (.dT (bo kvs k v))
theorem DGet.k {H:Hp} {a:Addr} {kvs:List (Key × V)} {k:Key} (e:H a = some (.dK kvs)):DGet H a (kV k) (be kvs k) := .inl ⟨kvs,k, .inl e,rfl,rfl⟩
theorem DGet.t {H:Hp} {a b:Addr} {kvs:List (List Key × V)} {k:List Key} (e:H a = some (.dT kvs)) (eb:H b = some (.tup (k.map kV))):DGet H a (.ref b) (be kvs k) := .inr ⟨kvs,k,b, .inl e,rfl,eb,rfl⟩
theorem DPut.k {H:Hp} {a:Addr} {kvs:List (Key × V)} {k:Key} {v:V} (e:H a = some (.dK kvs)) (hl:kvs.length < sizeLine):DPut H a (kV k) v (upd H a (.dK (bo kvs k v))) := .inl ⟨kvs,k,e,rfl,hl,rfl⟩
theorem DPut.t {H:Hp} {a b:Addr} {kvs:List (List Key × V)} {k:List Key} {v:V} (e:H a = some (.dT kvs)) (eb:H b = some (.tup (k.map kV))) (hl:kvs.length < sizeLine) :
 DPut H a (.ref b) v (upd H a (.dT (bo kvs k v))) := .inr ⟨kvs,k,b,e,rfl,eb,hl,rfl⟩
section
variable {X:Cx} {pins:List (Addr × Obj)} {σ:St} {H:Hp} {s:Shared} {a:Addr} {y v:V} {u r:Value} {o:Option V} {A:Around} {E:Value -> Shared -> Prop}
theorem kG {Q:Value -> Shared -> Prop} (hu:A.units + 1 < cLine) (I:Inv X pins σ H s) (g:DGet H a y (some v)) (ry:RelV y u) (h:∀ w' s',Inv X pins σ H s' -> RelV v w' -> Q w' s') :
 wpAny (model X.prog X.w) A (getItem (.ref a) u) Q E s:=by
 rcases g with ⟨kvs,k,e,ey,l⟩ | ⟨kvs,k,b,e,ey,eb,l⟩
 ·subst ey
  obtain ⟨z,hd,vs,rel,dd⟩:=jp I.hok e
  obtain ⟨w',hw,rw'⟩:=RelO.some_of (v:=v) (o:=valueAt vs k) (by rw [l];exact rel.val k)
  exact wpAny_getItem_of (jo ry) dd.mapOf hw (h w' _ (I.tok _) rw')
 ·subst ey
  cases (show u = Value.ref b from ry)
  obtain ⟨z,hd,xs,rel,dd⟩:=jq I.hok e
  obtain ⟨w',hw,rw'⟩:=RelO.some_of (v:=v) (o:=(atKey xs k).map (·.2)) (by rw [l];exact rel.val k)
  obtain ⟨p,hp,hp2⟩:=Option.map_eq_some_iff.mp hw
  refine wpAny_getItem_heap (tupleKind_room_in1 hu) (gA I.hok eb) dd hp ?_
  rw [hp2]
  exact h w' _ (I.tok _) rw'
theorem iQ {h':Heap} {t':Nat} {ob:HO} (I:Inv X pins σ H s) (mu:Mut (H a)) (hs:Heap.SameBut a s.heap h') (he:∃ q,h'.get? a = some q) (new:ObjOk X.prog X.w (upd H a ob) h' a ob) :
 Inv X pins σ (upd H a ob) { s with heap:=h',toks:=t' } :=
 I.write (x:=a) (e:=a) mu (.inl rfl) (fun b q hb z=>(hs.2 b hb).trans z) he new
theorem rf {P:Program} {w:World} {H':Hp} {h':Heap} {kvs:List (Key × V)} {vs:List (Key × Value)} (z:kvs.length <= sizeLine) (hd:(a == sysModules) = false) (rel:KV kvs vs) (dd:h'.DictOf (aI P w) a vs) :
 ObjOk P w H' h' a (.dK kvs):=⟨z,hd,vs,rel,dd⟩
theorem kH {H':Hp} {Q:Unit -> Shared -> Prop} (hu:A.units + 1 < cLine) (I:Inv X pins σ H s) (g:DPut H a y v H') (ry:RelV y u) (rv:RelV v r) (h:∀ s',Inv X pins σ H' s' -> Q () s') :
 wpAny (model X.prog X.w) A (setItem (.ref a) u r) Q E s:=by
 rcases g with ⟨kvs,k,e,ey,l,eH⟩ | ⟨kvs,k,b,e,ey,eb,l,eH⟩
 ·subst ey eH
  obtain ⟨z,hd,vs,rel,dd⟩:=sW I.hok e
  have hz:vs.length <= sizeLine:=by rw [<- rel.length];exact z
  have hl:(bo kvs k v).length <= sizeLine:=by have:=dG kvs k v;omega
  refine wpAny_setItem_pairs (hsz:=hz) (jo ry) dd fun h' dd' hs=>h _ ?_
  have he:∃ q,h'.get? a = some q:=let ⟨q,_,_,hq,_⟩:=dd'; ⟨q,hq⟩
  exact iQ I (by rw [e];exact True.intro) hs he (rf hl hd (rel.put k rv) dd')
 ·subst ey eH
  cases (show u = Value.ref b from ry)
  obtain ⟨z,hd,xs,rel,dd⟩:=sX I.hok e
  have hz:xs.length <= sizeLine:=by rw [<- Paired.length rel];exact z
  have hl:(bo kvs k v).length <= sizeLine:=by have:=dG kvs k v;omega
  refine wpAny_setItem_heap (hsz:=hz) (tupleKind_room_in1 hu) (gA I.hok eb) dd fun h' dd' hs=>h _ ?_
  obtain ⟨q,es,ep,hq,h2,h3,h4,_,h5⟩:=dd'
  refine iQ I (by rw [e];exact True.intro) hs ⟨q,hq⟩ ⟨hl,hd,_,(rel.put k eb rv).keeps fun c ys ec => ?_,q,es,ep,hq,h2,h3,h4,h5⟩
  rw [ah (sB ec e (fun z=>nomatch z))]
  exact ec
end
section
variable {X:Cx} {pins:List (Addr × Obj)} {σ:St} {H:Hp} {s:Shared} {a:Addr} {kvs:List (Key × V)} {k:Key} {u:Value} {A:Around} {E:Value -> Shared -> Prop}
end
section
variable {X:Cx} {o i e value:Expr} {pos pos' tpos:Pos} {td ty tv:TE}
end
section
variable {X:Cx} {pos:Pos}
end
structure M1 (X:Cx) (o:Expr) (m:Str) (apos:Pos) (e:Expr) (cpos:Pos):Prop where
 base:attributeBase o m X.env (eval o X.env) = eval o X.env
 few:((backTo cpos (starEach [e] X.env)).all (fun x => !x.1) && (backToKw cpos (keywordEach [] X.env)).all (fun x=>x.1.isSome)
  && decide (([e]:List Expr).length + ([]:List Keyword).length + (if ([]:List Keyword).isEmpty then 0 else 1) < 30)) = true
 line:(apos.endLine == cpos.line) = true
 trees:backTo cpos (starEach [e] X.env) = [(false,eval e X.env)]
structure M2 (X:Cx) (o:Expr) (m:Str) (apos:Pos) (e f:Expr) (cpos:Pos):Prop where
 base:attributeBase o m X.env (eval o X.env) = eval o X.env
 few:((backTo cpos (starEach [e,f] X.env)).all (fun x => !x.1) && (backToKw cpos (keywordEach [] X.env)).all (fun x=>x.1.isSome)
  && decide (([e,f]:List Expr).length + ([]:List Keyword).length + (if ([]:List Keyword).isEmpty then 0 else 1) < 30)) = true
 line:(apos.endLine == cpos.line) = true
 trees:backTo cpos (starEach [e,f] X.env) = [(false,eval e X.env),(false,eval f X.env)]
noncomputable def IsD (H:Hp) (a:Addr):Prop:=(∃ kvs,Rd H a (.dK kvs)) ∨ ∃ kvs,Rd H a (.dT kvs)
theorem rg {X:Cx} {pins:List (Addr × Obj)} {σ:St} {H:Hp} {s:Shared} {a:Addr} (I:Inv X pins σ H s) (d:IsD H a) :
 s.TypeIs (.ref a) "dict" /\ (∀ b,Value.ref a = .ref b -> ∃ ob,s.heap.get? b = some ob /\ ob.dict = none) /\ (a == sysModules) = false:=by
 rcases d with ⟨kvs,e⟩ | ⟨kvs,e⟩
 ·obtain ⟨_,hd,vs,_,dd⟩:=jp I.hok e
  refine ⟨dd.typeIs,fun b q => ?_,hd⟩
  cases q
  obtain ⟨ob,_,_,h1,h2,_⟩:=dd
  exact ⟨ob,h1,h2.2.1⟩
 ·obtain ⟨_,hd,xs,_,dd⟩:=jq I.hok e
  refine ⟨dd.typeIs,fun b q => ?_,hd⟩
  cases q
  obtain ⟨ob,_,_,h1,h2,_⟩:=dd
  exact ⟨ob,h1,h2.2.1⟩
section
variable {X:Cx} {pins:List (Addr × Obj)} {σ:St} {H:Hp} {s:Shared} {a:Addr} {y d:V} {u r:Value} {o:Option V} {A:Around} {E:Value -> Shared -> Prop}
end
section
variable {X:Cx} {o e f:Expr} {apos cpos:Pos} {td ty tx:TE}
end
section
variable {X:Cx} {pins:List (Addr × Obj)} {σ:St} {H:Hp} {s:Shared} {a:Addr} {kvs:List (Key × V)} {A:Around} {E:Value -> Shared -> Prop}
end
section
variable {X:Cx} {pins:List (Addr × Obj)} {σ:St} {H:Hp} {s:Shared} {a:Addr} {y:V} {u:Value} {A:Around} {E:Value -> Shared -> Prop}
end
end L2
namespace L2
open PySem PySem.Spec PyProof.Rows
section
variable {κ:Type} [DecidableEq κ]
end
end L2
namespace L2
open PySem PySem.Spec PyProof.Rows
noncomputable def aM (elt:Expr) (gens:List Comprehension) (scope:Scope) (pos:Pos) (d:Nat) (acc:Value) (env:Env) (k:Sem Fin):Sem Fin :=
 match gens[d + 1]? with
 | some g'=>eval g'.iter env >>= fun x=>standAt g'.iter.pos >>= fun _=>foldedSetIterable g'.iter env x >>= fun x=>holding [x] (pyIter x) >>= fun it' =>
    runOwn (.compStart (.ListComp elt gens scope pos) (d + 1) it' acc env) env >>= fun _=>k
 | none=>(eval elt env >>= fun x=>call (.builtin "list.append") [acc,x] >>= fun _=>pure ()) >>= fun _=>k
noncomputable def aS (ifs:List Expr) (env:Env):Sem Bool :=
 forIn ifs true fun c r=>if r = true then do let ok <- isTrue c env (eval c env);pure (ForInStep.yield ok) else pure (ForInStep.yield r)
theorem gB (elt target iter:Expr) (ifs:List Expr) (gens:List Comprehension) (scope:Scope) (pos:Pos) (d:Nat) (it acc:Value) (env:Env)
 (hd:gens[d]? = some ⟨target,iter,ifs,0⟩) (ha:∀ g',gens[d + 1]? = some g' -> g'.is_async = 0) :
 compTurn (.ListComp elt gens scope pos) d it acc env = (standAt iter.pos >>= fun _=>pyNext it >>= fun r=>match r with
  | none=>pure (.done .next)
  | some v=>letOwnedTupleGo target it v >>= fun _=>assign target env v >>= fun _=>aS ifs env >>= fun ok =>
    (if ok = true then aM elt gens scope pos d acc env (again (.compLoop (.ListComp elt gens scope pos) d it acc env)) else again (.compLoop (.ListComp elt gens scope pos) d it acc env))):=by
 unfold compTurn
 simp only [hd]
 unfold aM aS
 cases hn:gens[d + 1]? with
 | none=>rfl
 | some g' =>
   obtain ⟨t',i',f',a'⟩:=g'
   have e:a' = 0:=ha _ hn
   subst e
   rfl
noncomputable abbrev TC:=St -> Hp -> (St -> Hp -> Prop) -> Prop
noncomputable def dr (J:It) (g:TG) (tb:TC) (N:St -> Hp -> Prop) (σ:St) (H:Hp):Prop :=
 ∃ W:Nat -> Nat -> St -> Hp -> Prop,(∃ m,W 0 m σ H) /\ ∀ i m σ H,W i m σ H ->
  (J.stop i H /\ N σ H) ∨ (J.go i H /\ ∃ N':St -> Hp -> Prop,(∀ σ' H',N' σ' H' -> ∃ m',m' < m /\ W (i + 1) m' σ' H') /\ ∀ x H',J.yld i H x H' -> g x σ H' fun σ2 H2=>tb σ2 H2 N')
noncomputable def PB (X:Cx) (F:Sem Fin -> Sem Fin) (t:TC):Prop :=
 ∀ (pins:List (Addr × Obj)) (s:Shared) (σ:St) (H:Hp) (N:St -> Hp -> Prop) (k:Sem Fin) (Q:Fin -> Shared -> Prop) (E:Value -> Shared -> Prop),Inv X pins σ H s -> t σ H N ->
  (∀ s' σ' H',Inv X pins σ' H' s' -> N σ' H' -> wpAny (model X.prog X.w) X.A k Q E s') -> wpAny (model X.prog X.w) X.A (F k) Q E s
section
variable {X:Cx}
theorem nox {α:Type} {m:Sem α} {Q : α -> Shared -> Prop} {E:Value -> Shared -> Prop} {s:Shared} (hx:∀ e s,X.xe e s -> False) (h:wpAny (model X.prog X.w) X.A m Q X.xe s):wpAny (model X.prog X.w) X.A m Q E s :=
 wpAny_mono h (fun _ _ q=>q) fun e s' q=>(hx e s' q).elim
noncomputable def ez (ts:List TT) (tb:TC):TC:=match ts with
 | [] => tb
 | t :: r=>fun σ H N=>t σ H fun b H1=>if b = true then ez r tb σ H1 N else N σ H1
theorem eA {env:Env} {M:Model} {A:Around} {Q:Bool -> Shared -> Prop} {E:Value -> Shared -> Prop} {s:Shared} (h:Q false s):∀ ifs:List Expr,
 wpAny M A (forIn ifs false fun c r=>if r = true then do let ok <- isTrue c env (eval c env);pure (ForInStep.yield ok) else pure (ForInStep.yield r)) Q E s
 | [] => wpAny_pure h
 | c :: r=>by
   rw [List.forIn_cons]
   simp only [Bool.false_eq_true,if_false]
   exact wpAny_bind (wpAny_pure (eA h r))
theorem gC (hx:∀ e s,X.xe e s -> False) {tb:TC} {N:St -> Hp -> Prop}:∀ {ifs:List Expr} {ts:List TT},Paired (fun c t=>PT X c t) ifs ts ->
 ∀ (pins:List (Addr × Obj)) (s:Shared) (σ:St) (H:Hp) (E:Value -> Shared -> Prop),Inv X pins σ H s -> ez ts tb σ H N ->
 wpAny (model X.prog X.w) X.A (aS ifs X.env) (fun ok s' => ∃ H',Inv X pins σ H' s' /\ if ok = true then tb σ H' N else N σ H') E s
 | _,_, .nil=>fun pins s σ H E I h=>wpAny_pure ⟨H,I,by rw [if_pos rfl];exact h⟩
 | c :: ifs,_, .cons (b:=t) hc hr=>by
   intro pins s σ H E I h
   have ih:=gC hx hr (tb:=tb) (N:=N) pins
   unfold aS at ih ⊢
   rw [List.forIn_cons]
   simp only [if_true]
   refine wpAny_bind (wpAny_bind (nox hx (thn (hc pins s σ H _ I h) fun b s1 ⟨H1,I1,q1⟩=>wpAny_pure ?_)))
   cases b with
   | false =>
     rw [if_neg Bool.false_ne_true] at q1
     exact eA ⟨H1,I1,by rw [if_neg Bool.false_ne_true];exact q1⟩ ifs
   | true =>
     rw [if_pos rfl] at q1
     exact ih s1 σ H1 E I1 q1
theorem mN (hx:∀ e s,X.xe e s -> False) {F:Sem Fin -> Sem Fin} {tb:TC} (hb:PB X F tb) {ifs:List Expr} {ts:List TT} (hp:Paired (fun c t=>PT X c t) ifs ts) :
 PB X (fun k=>aS ifs X.env >>= fun ok=>if ok = true then F k else k) (ez ts tb):=by
 intro pins s σ H N k Q E I h hk
 refine wpAny_bind (thn (gC hx hp pins s σ H E I h) fun ok s1 ⟨H1,I1,q1⟩ => ?_)
 cases ok with
 | false =>
   rw [if_neg Bool.false_ne_true] at q1 ⊢
   exact hk s1 σ H1 I1 q1
 | true =>
   rw [if_pos rfl] at q1 ⊢
   exact hb pins s1 σ H1 N k Q E I1 q1 hk
noncomputable def oE (p:Addr) (te:TE):TC:=fun σ H N=>te σ H fun x H1 => ∃ xs,H1 p = some (.lst xs) /\ xs.length < sizeLine /\ N σ (upd H1 p (.lst (xs ++ [x])))
theorem fk (hx:∀ e s,X.xe e s -> False) {elt:Expr} {gens:List Comprehension} {scope:Scope} {pos:Pos} {d:Nat} {p:Addr} {te:TE} (he:PE X elt te) (hd:gens[d + 1]? = none) :
 PB X (aM elt gens scope pos d (.ref p) X.env) (oE p te):=by
 intro pins s σ H N k Q E I h hk
 unfold aM
 rw [hd]
 refine wpAny_bind (wpAny_bind (nox hx (thn (he pins s σ H _ I h) fun u s1 ⟨x,H1,I1,r1,xs,e1,l1,q1⟩ => ?_)))
 refine wpAny_bind (nox hx (thn (fH (X:=X) pins s1 σ H1 (.ref p) [x] (.ref p) [u] (fun _ H2=>N σ H2) I1 rfl (.cons r1 .nil) ⟨p,xs,x,rfl,rfl,e1,l1,q1⟩) fun v s2 ⟨_,H2,I2,_,q2⟩ => ?_))
 exact wpAny_pure (hk s2 σ H2 I2 q2)
theorem fK (hx:∀ e s,X.xe e s -> False) (hc:X.calm = true) {elt target iter:Expr} {ifs:List Expr} {gens:List Comprehension} {scope:Scope} {pos:Pos} {d:Nat} {acc:Value}
 (hd:gens[d]? = some ⟨target,iter,ifs,0⟩) (ha:∀ g',gens[d + 1]? = some g' -> g'.is_async = 0) {g:TG} (hg:PG X target g) {tb:TC}
 (hb:PB X (fun k=>aS ifs X.env >>= fun ok=>if ok = true then aM elt gens scope pos d acc X.env k else k) tb)
 {pins:List (Addr × Obj)} {s:Shared} {σ:St} {H:Hp} {N:St -> Hp -> Prop} {it:Addr} {fp:List Addr} {tn:Nat -> Heap -> Prop} {J:It} (I:Inv X pins σ H s) (T:fg X.prog X.w X.K target J fp it tn)
 (t0:tn 0 s.heap) (f2:∀ b ∈ fp,bv X pins H b) (h:dr J g tb N σ H) :
 codeAny (model X.prog X.w) X.A (.compLoop (.ListComp elt gens scope pos) d (.ref it) acc X.env) (fun r s'=>match r with | .ok _ => ∃ σ' H',Inv X pins σ' H' s' /\ N σ' H' | .error _=>False) s:=by
 obtain ⟨W,⟨m0,w0⟩,turn⟩:=h
 have stat:∀ {H':Hp},(∀ b ∈ fp,H' b = none) -> ∀ b ∈ fp,bv X pins H' b:=fun hn b hb=>⟨hn b hb,(f2 b hb).2⟩
 refine codeAny_loop rfl (fun n s' => ∃ i σ' H',Inv X pins σ' H' s' /\ tn i s'.heap /\ (∀ b ∈ fp,H' b = none) /\ W i n σ' H') ?_ m0 ⟨0, σ,H,I,t0,fun b hb=>(f2 b hb).1,w0⟩
 rintro n s3 ⟨i, σ3,H3,I3,st3,fr3,w3⟩
 show wpAny _ _ ((compTurn (.ListComp elt gens scope pos) d (.ref it) acc X.env).onRaise (fun x=>do noteFrame x X.env;theTreesLotGoes x)) _ _ s3
 refine wpAny_noted ?_
 rw [gB elt target iter ifs gens scope pos d (.ref it) acc X.env hd ha]
 refine wpAny_bind (wpAny_standAt (wpAny_bind ?_))
 show wpAny (model X.prog X.w) X.A _ _ _ s3
 rcases turn i n σ3 H3 w3 with ⟨stop,qn⟩ | ⟨go,N',hN,step⟩
 ·refine thn (T.done X rfl rfl rfl hc i pins s3 σ3 H3 _ I3 (stat fr3) st3 stop) fun r s4 ⟨hr,I4⟩ => ?_
  subst hr
  exact wpAny_pure ⟨σ3,H3,I4,qn⟩
 ·refine thn (T.item X rfl rfl rfl hc i pins s3 σ3 H3 _ I3 (stat fr3) st3 go) fun r s4 ⟨u,hr,h4⟩ => ?_
  subst hr
  refine wpAny_bind (thn h4 fun _ s5 ⟨x,H5,I5,r5,y5,st5,fr5⟩ => ?_)
  have I5':=I5.pinned (stat fr5) (T.obj _ _ st5)
  refine wpAny_bind (nox hx (thn (hg _ s5 σ3 H5 x u _ I5' r5 (step x H5 y5)) fun _ s6 ⟨σ6,H6,I6,q6⟩ => ?_))
  refine hb _ s6 σ6 H6 N' (again (.compLoop (.ListComp elt gens scope pos) d (.ref it) acc X.env)) _ _ I6 q6 fun s7 σ7 H7 I7 n7 => ?_
  obtain ⟨m',hm,w7⟩:=hN σ7 H7 n7
  refine wpAny_pure ⟨rfl,m',hm,i + 1, σ7,H7,I7.unpinned,T.keep _ _ _ st5 fun b hb o e=>(I7.pin (b,o) (List.mem_append_right _ (List.mem_append_right _ (bT hb e)))).1,fun b hb => ?_,w7⟩
  obtain ⟨o,e,dd⟩:=T.obj _ _ st5 b hb
  exact (I7.pin (b,o) (List.mem_append_right _ (List.mem_append_right _ (bT hb e)))).2.1
theorem eB {elt target iter:Expr} {ifs:List Expr} {gens:List Comprehension} {scope:Scope} {pos:Pos} {d:Nat} {it acc:Value} {env:Env} {prog:Program} {w:World} {A:Around} {R:Result -> Shared -> Prop} {s:Shared}
 (hd:gens[d]? = some ⟨target,iter,ifs,0⟩)
 (h0:codeAny (model prog w) A (.compLoop (.ListComp elt gens scope pos) d it acc env) R s)
 (h:wpAny (model prog w) A (pyIter it) (fun it' s'=>codeAny (model prog w) A (.compLoop (.ListComp elt gens scope pos) d it' acc env) R s')
   (notedBy (model prog w) A env fun x s'=>R (.error x) s') s) :
 codeAny (model prog w) A (.compStart (.ListComp elt gens scope pos) d it acc env) R s:=by
 refine codeAny_of_tree ?_
 show wpAny _ _ ((compStart (.ListComp elt gens scope pos) d it acc env).onRaise (fun x=>do noteFrame x env;standAt theWindowsPlace)) _ _ s
 refine wpAny_notedAt ?_
 unfold compStart
 have hc:(clausesOf (.ListComp elt gens scope pos))[d]? = some ⟨target,iter,ifs,0⟩:=hd
 rw [hc]
 show wpAny _ _ (ask >>= _) _ _ s
 refine wpAny_bind (wpAny_askSetting (wpAny_ite ?_))
 split
 ·first
   | exact wpAny_bind (wpAny_pure (wpAny_pure (And.intro rfl h0)))
   | exact wpAny_pure (And.intro rfl h0)
 ·first
   | exact wpAny_bind (wpAny_rule (wpAny_bind (wpAny_standAt (wpAny_bind (wpAny_mono h (fun it' s' h'=>wpAny_pure (And.intro rfl h')) fun _ _ x=>x)))))
   | (refine wpAny_bind (wpAny_rule ?_);show wpAny _ _ (standAt iter.pos >>= _) _ _ s;exact wpAny_bind (wpAny_standAt (wpAny_bind (wpAny_mono h (fun it' s' h'=>wpAny_pure (And.intro rfl h')) fun _ _ x=>x))))
theorem fL (hx:∀ e s,X.xe e s -> False) (hc:X.calm = true) {elt target iter:Expr} {ifs:List Expr} {gens:List Comprehension} {scope:Scope} {pos:Pos} {d:Nat} {acc:Value}
 (hd:gens[d + 1]? = some ⟨target,iter,ifs,0⟩) (ha:∀ g',gens[d + 1 + 1]? = some g' -> g'.is_async = 0) {wi:TI} (hi:PI X target iter wi) {g:TG} (hg:PG X target g) {tb:TC}
 (hb:PB X (fun k=>aS ifs X.env >>= fun ok=>if ok = true then aM elt gens scope pos (d + 1) acc X.env k else k) tb)
 (hs:∀ x,foldedSetIterable iter X.env x = pure x) :
 PB X (aM elt gens scope pos d acc X.env) (fun σ H N=>wi σ H fun J H1=>dr J g tb N σ H1):=by
 intro pins s σ H N k Q E I h hk
 unfold aM
 rw [hd]
 refine wpAny_bind (nox hx (thn (hi pins s σ H _ I h) fun v s1 h1 => ?_))
 refine wpAny_bind (wpAny_standAt (wpAny_bind (wpAny_of_eq (hs v) ?_)))
 refine wpAny_bind (wpAny_holding (nox hx (thn h1 fun itv s2 h2 => ?_)))
 obtain ⟨it,fp,tn,J,H2,e,I2,T,st2,f2,hw⟩:=h2
 subst e
 have loop:=fK (acc:=acc) hx hc hd ha hg hb I2 T st2 f2 hw
 refine wpAny_bind (wpAny_runOwn (codeAny_mono (eB (R:=fun r s'=>match r with | .ok _ => ∃ σ' H',Inv X pins σ' H' s' /\ N σ' H' | .error _=>False) hd loop (T.self _ 0 _ _ _ st2 loop)) fun r s3 hr => ?_))
 cases r with
 | error e=>exact hr.elim
 | ok f =>
   obtain ⟨σ3,H3,I3,n3⟩:=hr
   exact hk s3 σ3 H3 I3 n3
noncomputable def aC (cells:List (Str × Addr)):List (Str × NameKind) -> List (Str × Addr) -> List (Str × Addr)
 | [],acc=>acc
 | (n,k) :: r,acc=>if k == .free then (match cells.lookup n with | some c=>aC cells r ((n,c) :: acc) | none=>aC cells r acc) else aC cells r acc
theorem dH {env:Env}:∀ (names:List (Str × NameKind)) (acc:List (Str × Addr)),(∀ x ∈ names,x.2 = .free -> (env.cells.lookup x.1).isSome = true) ->
 (forIn names acc fun (x:Str × NameKind) (r:List (Str × Addr))=>(match x with | (name,kind)=>if (kind == NameKind.free) = true then do let c <- cellOf env name;pure (ForInStep.yield ((name,c) :: r)) else pure (ForInStep.yield r):Sem (ForInStep (List (Str × Addr))))) = (pure (aC env.cells names acc):Sem (List (Str × Addr)))
 | [],acc,_=>rfl
 | (n,k) :: r,acc,h=>by
  rw [List.forIn_cons]
  have ih:=fun acc'=>dH r acc' fun x hx=>h x (List.mem_cons_of_mem _ hx)
  unfold aC
  by_cases hk:(k == NameKind.free) = true
  ·obtain ⟨c,hc⟩:=Option.isSome_iff_exists.mp (h (n,k) List.mem_cons_self (beq_iff_eq.mp hk))
   have hc':env.cells.lookup n = some c:=hc
   have e1:cellOf env n = pure c:=by unfold cellOf;rw [hc']
   simp only [hk,if_true,e1,hc',pure_bind]
   exact ih _
  ·simp only [hk,if_false,pure_bind]
   exact ih _
theorem eC {scope:Scope} {env:Env} (h:∀ x ∈ scope.names,x.2 = .free -> (env.cells.lookup x.1).isSome = true):closureFor scope env = pure (aC env.cells scope.names []):=by
 unfold closureFor
 have e:=dH (env:=env) scope.names [] h
 simp only [bind_pure]
 exact e
theorem bU {cells:List (Str × Addr)} {y:Str} {c:Addr}:∀ {names:List (Str × NameKind)} {acc:List (Str × Addr)},(y,c) ∈ aC cells names acc -> (y,c) ∈ acc ∨ (cells.lookup y = some c /\ (y,NameKind.free) ∈ names)
 | [],acc,h => .inl h
 | (n,k) :: r,acc,h=>by
  unfold aC at h
  by_cases hk:(k == NameKind.free) = true
  ·rw [if_pos hk] at h
   have hk':k = .free:=beq_iff_eq.mp hk
   subst hk'
   cases hl:cells.lookup n with
   | none =>
     rw [hl] at h
     rcases bU h with z | ⟨z1,z2⟩
     ·exact .inl z
     ·exact .inr ⟨z1,List.mem_cons_of_mem _ z2⟩
   | some c' =>
     rw [hl] at h
     rcases bU h with z | ⟨z1,z2⟩
     ·rcases List.mem_cons.mp z with e | z
      ·cases e
       exact .inr ⟨hl,List.mem_cons_self⟩
      ·exact .inl z
     ·exact .inr ⟨z1,List.mem_cons_of_mem _ z2⟩
  ·rw [if_neg hk] at h
   rcases bU h with z | ⟨z1,z2⟩
   ·exact .inl z
   ·exact .inr ⟨z1,List.mem_cons_of_mem _ z2⟩
theorem bV {cells:List (Str × Addr)} {y:Str} {c:Addr} (hc:cells.lookup y = some c):∀ {names:List (Str × NameKind)} {acc:List (Str × Addr)},((y,c) ∈ acc ∨ (y,NameKind.free) ∈ names) -> (y,c) ∈ aC cells names acc
 | [],acc,h=>by
  rcases h with h | h
  ·exact h
  ·simp at h
 | (n,k) :: r,acc,h=>by
  unfold aC
  by_cases hk:(k == NameKind.free) = true
  ·rw [if_pos hk]
   have hk':k = .free:=beq_iff_eq.mp hk
   subst hk'
   cases hl:cells.lookup n with
   | none =>
     refine bV hc ?_
     rcases h with h | h
     ·exact .inl h
     ·rcases List.mem_cons.mp h with e | h
      ·cases e;rw [hl] at hc;cases hc
      ·exact .inr h
   | some c' =>
     refine bV hc ?_
     rcases h with h | h
     ·exact .inl (List.mem_cons_of_mem _ h)
     ·rcases List.mem_cons.mp h with e | h
      ·cases e;rw [hl] at hc;cases hc;exact .inl List.mem_cons_self
      ·exact .inr h
  ·rw [if_neg hk]
   refine bV hc ?_
   rcases h with h | h
   ·exact .inl h
   ·rcases List.mem_cons.mp h with e | h
    ·cases e;exact absurd rfl hk
    ·exact .inr h
theorem bR:∀ (names:List (Str × NameKind)) (n:Nat) (acc acc':List (Str × Addr)),cellsFrom n names (acc ++ acc') = cellsFrom n names acc ++ acc'
 | [],_,_,_=>rfl
 | (x,k) :: r,n,acc,acc'=>by
  unfold cellsFrom
  by_cases hk:(k == NameKind.cell) = true
  ·rw [if_pos hk,if_pos hk]
   exact bR r (n + 1) ((x,n) :: acc) acc'
  ·rw [if_neg hk,if_neg hk]
   exact bR r n acc acc'
theorem bS:∀ {names:List (Str × NameKind)} {n:Nat} {acc:List (Str × Addr)} {y:Str} {c:Addr},(y,c) ∈ cellsFrom n names acc -> (y,c) ∈ acc ∨ (n <= c /\ (y,NameKind.cell) ∈ names)
 | [],_,_,_,_,h => .inl h
 | (x,k) :: r,n,acc,y,c,h=>by
  unfold cellsFrom at h
  by_cases hk:(k == NameKind.cell) = true
  ·rw [if_pos hk] at h
   have hk':k = .cell:=beq_iff_eq.mp hk
   subst hk'
   rcases bS h with z | ⟨z1,z2⟩
   ·rcases List.mem_cons.mp z with e | z
    ·cases e;exact .inr ⟨Nat.le_refl _,List.mem_cons_self⟩
    ·exact .inl z
   ·exact .inr ⟨Nat.le_of_succ_le z1,List.mem_cons_of_mem _ z2⟩
  ·rw [if_neg hk] at h
   rcases bS h with z | ⟨z1,z2⟩
   ·exact .inl z
   ·exact .inr ⟨z1,List.mem_cons_of_mem _ z2⟩
structure aN (sc osc:Scope) (oN N':List Str) (fr:List (Option Nat)):Prop where
 kind:sc.kind = .function
 nd:(sc.names.map (·.1)).Nodup
 ndN:N'.Nodup
 free:∀ x ∈ sc.names,x.2 = .free -> osc.names.lookup x.1 = some .cell ∨ osc.names.lookup x.1 = some .free
 len:fr.length = N'.length
 fr:∀ (i j:Nat) (x:Str),N'[i]? = some x -> fr[i]? = some (some j) -> oN[j]? = some x /\ (x,NameKind.free) ∈ sc.names
noncomputable def inh (fr:List (Option Nat)) (σ:St):St:=fr.map fun o=>o.bind fun j=>(σ[j]?).join
noncomputable def aO (X:Cx) (sc:Scope) (L:Addr):Env :=
 { scope:=relabel sc X.env,locals:=L,globals:=X.env.globals,cells:=cellsFrom (L + 1) sc.names (aC X.env.cells sc.names []),qual:=X.env.qual,func:=none,code:=X.env.code,frame:=X.env.frame,builtins:=X.env.builtins }
noncomputable def ar (X:Cx) (sc:Scope) (N':List Str) (s:Shared) (H:Hp) (fp:List Addr):Cx :=
 { X with N:=N',s₀ := s,H₀ := H,env:=aO X sc s.heap.objs.size,outer:=X.stack,stack:=X.stack,ex:=fp,fn:=fun x=>sc.names.lookup x == some .cell,pn := [],xe:=fun _ _=>False }
theorem aB:∀ {l:List (Str × NameKind)} {x:Str} {k:NameKind},(l.map (·.1)).Nodup -> (x,k) ∈ l -> l.lookup x = some k
 | (y,k') :: r,x,k,nd,h=>by
  have nd':(y :: r.map (·.1)).Nodup:=nd
  obtain ⟨n1,n2⟩:=List.nodup_cons.mp nd'
  rw [List.lookup_cons]
  rcases List.mem_cons.mp h with e | hm
  ·cases e;simp
  ·have hne:(x == y) = false:=by
    refine beq_eq_false_iff_ne.mpr fun e => ?_
    subst e
    exact n1 (List.mem_map.mpr ⟨(x,k),hm,rfl⟩)
   rw [hne]
   exact aB n2 hm
theorem bx {env:Env}:∀ {names:List (Str × NameKind)} {x:Str},
 (names.map fun (n,k)=>if (k == NameKind.free && env.scope.kind == .function && env.kindOf n == some .cell) then (n,NameKind.cell) else (n,k)).lookup x =
   (names.lookup x).map fun k=>if (k == NameKind.free && env.scope.kind == .function && env.kindOf x == some .cell) then NameKind.cell else k
 | [],_=>rfl
 | (n,k) :: r,x=>by
  have ih:=bx (env:=env) (names:=r) (x:=x)
  show List.lookup x ((if (k == NameKind.free && env.scope.kind == .function && env.kindOf n == some .cell) = true then (n,NameKind.cell) else (n,k)) :: _) = _
  rw [List.lookup_cons (a:=x) (b:=k)]
  by_cases hx:x = n
  ·subst hx
   simp only [beq_self_eq_true]
   show _ = some (if (k == NameKind.free && env.scope.kind == .function && env.kindOf x == some .cell) = true then NameKind.cell else k)
   by_cases hc:(k == NameKind.free && env.scope.kind == .function && env.kindOf x == some .cell) = true
   ·rw [if_pos hc,if_pos hc,List.lookup_cons];simp only [beq_self_eq_true]
   ·rw [if_neg hc,if_neg hc,List.lookup_cons];simp only [beq_self_eq_true]
  ·have hb:(x == n) = false:=beq_eq_false_iff_ne.mpr hx
   rw [hb]
   by_cases hc:(k == NameKind.free && env.scope.kind == .function && env.kindOf n == some .cell) = true
   ·rw [if_pos hc,List.lookup_cons,hb];exact ih
   ·rw [if_neg hc,List.lookup_cons,hb];exact ih
section
variable {pins:List (Addr × Obj)} {σ:St} {H:Hp} {s:Shared} {sc:Scope} {N':List Str} {fr:List (Option Nat)} {fp:List Addr}
theorem cW (I:Inv X pins σ H s) (B:aN sc X.env.scope X.N N' fr):∀ x ∈ sc.names,x.2 = .free -> (X.env.cells.lookup x.1).isSome = true:=fun x hx e=>by
 obtain ⟨c,hc⟩:=I.ok.has x.1 (B.free x hx e)
 rw [hc];rfl
theorem kI (I:Inv X pins σ H s) (f2:∀ b ∈ fp,bv X pins H b) (hfo:∀ b ∈ fp,b < s.heap.objs.size) (B:aN sc X.env.scope X.N N' fr) :
 Inv (ar X sc N' s H fp) [] (inh fr σ) H { s with heap:=pushCells (s.heap.push { cls := .type "dict",data := .dict #[] }) sc.names }:=by
 have hkp:∀ b o,s.heap.get? b = some o -> (pushCells (s.heap.push { cls := .type "dict",data := .dict #[] }) sc.names).get? b = some o:=fun b o e=>pushCells_keeps _ _ b o (Heap.get?_push_of_some _ e)
 have ok:=cellsFrom_ok sc.names (s.heap.push { cls := .type "dict",data := .dict #[] }) (s.heap.objs.size + 1) [] ⟨fun _ _ hm=>(nomatch hm),List.Pairwise.nil⟩ (by rw [Heap.size_push];exact Nat.le_refl _)
 rw [Heap.size_push] at ok
 have capp:cellsFrom (s.heap.objs.size + 1) sc.names (aC X.env.cells sc.names []) = cellsFrom (s.heap.objs.size + 1) sc.names [] ++ aC X.env.cells sc.names []:=bR sc.names _ [] _
 have cof:∀ x c,(aO X sc s.heap.objs.size).cells.lookup x = some c -> ((x,c) ∈ cellsFrom (s.heap.objs.size + 1) sc.names [] /\ s.heap.objs.size < c) ∨ (X.env.cells.lookup x = some c /\ (x,NameKind.free) ∈ sc.names):=fun x c e=>by
  have m:=PySem.mem_of_lookup e
  have m':(x,c) ∈ cellsFrom (s.heap.objs.size + 1) sc.names (aC X.env.cells sc.names []):=m
  rw [capp] at m'
  rcases List.mem_append.mp m' with z | z
  ·exact .inl ⟨z,(ok.empty x c z).2⟩
  ·rcases bU z with q | q
   ·simp at q
   ·exact .inr q
 have cOld:∀ x c,X.env.cells.lookup x = some c -> c < s.heap.objs.size:=fun x c e=>by
  obtain ⟨v,q⟩:=I.cell x c e
  exact q.lt
 have kindF:∀ x,(x,NameKind.free) ∈ sc.names -> (aO X sc s.heap.objs.size).kindOf x = some .cell ∨ (aO X sc s.heap.objs.size).kindOf x = some .free:=fun x hx=>by
  have e1:sc.names.lookup x = some .free:=aB B.nd hx
  have e2:(aO X sc s.heap.objs.size).kindOf x = _:=bx (env:=X.env) (names:=sc.names) (x:=x)
  rw [e1] at e2
  rw [e2]
  by_cases hc:(NameKind.free == NameKind.free && X.env.scope.kind == .function && X.env.kindOf x == some .cell) = true
  ·exact .inl (by simp only [Option.map_some,if_pos hc])
  ·exact .inr (by simp only [Option.map_some,if_neg hc])
 have cellF:∀ x c,(x,NameKind.free) ∈ sc.names -> X.env.cells.lookup x = some c -> (aO X sc s.heap.objs.size).cells.lookup x = some c:=fun x c hx hc=>by
  have m:=bV (acc := []) hc (.inr hx)
  have m2:(x,c) ∈ (aO X sc s.heap.objs.size).cells:=by
   show (x,c) ∈ cellsFrom (s.heap.objs.size + 1) sc.names (aC X.env.cells sc.names [])
   rw [capp]
   exact List.mem_append_right _ m
  cases hl:(aO X sc s.heap.objs.size).cells.lookup x with
  | none =>
    exfalso
    have:∀ {l:List (Str × Addr)},(x,c) ∈ l -> l.lookup x = none -> False:=by
     intro l
     induction l with
     | nil=>intro h;simp at h
     | cons a r ih =>
       intro h e
       obtain ⟨y,d⟩:=a
       rw [List.lookup_cons] at e
       rcases List.mem_cons.mp h with z | z
       ·cases z;simp at e
       ·by_cases hxy:(x == y) = true
        ·rw [hxy] at e;cases e
        ·simp only [Bool.not_eq_true] at hxy
         rw [hxy] at e
         exact ih z e
    exact this m2 hl
  | some c' =>
    rcases cof x c' hl with ⟨z,_⟩ | ⟨z,_⟩
    ·rcases bS z with q | ⟨_,q⟩
     ·simp at q
     ·have a1:=aB B.nd hx
      have a2:=aB B.nd q
      rw [a1] at a2;cases a2
    ·rw [hc] at z;rw [z]
 have kindC:∀ x,(aO X sc s.heap.objs.size).kindOf x = some .cell -> (x,NameKind.cell) ∈ sc.names ∨ (x,NameKind.free) ∈ sc.names:=fun x e=>by
  have e2:(aO X sc s.heap.objs.size).kindOf x = _:=bx (env:=X.env) (names:=sc.names) (x:=x)
  rw [e2] at e
  cases hl:sc.names.lookup x with
  | none=>rw [hl] at e;cases e
  | some k =>
    rw [hl] at e
    have m:=PySem.mem_of_lookup hl
    cases k with
    | cell=>exact .inl m
    | free=>exact .inr m
    | «local» => simp at e
    | globalImplicit=>simp at e
    | globalExplicit=>simp at e
 have kindFr:∀ x,(aO X sc s.heap.objs.size).kindOf x = some .free -> (x,NameKind.free) ∈ sc.names:=fun x e=>by
  have e2:(aO X sc s.heap.objs.size).kindOf x = _:=bx (env:=X.env) (names:=sc.names) (x:=x)
  rw [e2] at e
  cases hl:sc.names.lookup x with
  | none=>rw [hl] at e;cases e
  | some k =>
    rw [hl] at e
    have m:=PySem.mem_of_lookup hl
    cases k with
    | free=>exact m
    | cell=>simp at e
    | «local» => simp at e
    | globalImplicit=>simp at e
    | globalExplicit=>simp at e
 refine ⟨⟨I.ok.mod,B.kind,I.ok.glob,I.ok.blt,Nat.le_refl _,fun y z c h1 h2 => ?_,fun y hy => ?_,fun y c hf h => ?_,I.ok.hd,I.ok.frames, .inl rfl,fun b hb=>⟨?_,fun x c e => ?_⟩,fun b o e=>I.bs b o e, ?_,fun b o e hb => ?_,fun b hb => ?_,I.stack,I.stkFree⟩,
  rfl,I.bare,Un.kept hkp,⟨_,(Heap.Ns.new s.heap (.type "dict")).keeps (pushCells_keeps _ _),fun i x v h1 h2 h3 => ?_⟩,fun y c h => ?_,I.hok.fresh (Nat.le_refl _),fun y c h => ?_,fun p hp=>absurd (show p ∈ ([]:List (Addr × Obj)) from hp) (by simp),I.hok.kept hkp, ?_⟩
 ·rcases cof y c h1 with ⟨a1,a2⟩ | ⟨a1,a2⟩
  ·rcases cof z c h2 with ⟨b1,b2⟩ | ⟨b1,b2⟩
   ·exact name_of_addr ok.apart a1 b1
   ·exact absurd (cOld z c b1) (Nat.not_lt.mpr (Nat.le_of_lt a2))
  ·rcases cof z c h2 with ⟨b1,b2⟩ | ⟨b1,b2⟩
   ·exact absurd (cOld y c a1) (Nat.not_lt.mpr (Nat.le_of_lt b2))
   ·exact I.ok.inj y z c a1 b1
 ·have hy':(y,NameKind.cell) ∈ sc.names ∨ (y,NameKind.free) ∈ sc.names:=by
   rcases hy with hy | hy
   ·exact kindC y hy
   ·exact .inr (kindFr y hy)
  rcases hy' with q | q
  ·exact Option.isSome_iff_exists.mp (PySem.W.cellsFrom_some sc.names _ _ (.inl (aB B.nd q)))
  ·obtain ⟨c,hc⟩:=Option.isSome_iff_exists.mp (cW I B _ q rfl)
   exact ⟨c,cellF y c q hc⟩
 ·have hf':(sc.names.lookup y == some .cell) = true:=hf
  have hf2:sc.names.lookup y = some .cell:=by simpa using hf'
  rcases cof y c h with ⟨_,a2⟩ | ⟨_,a2⟩
  ·exact Nat.le_of_lt a2
  ·rw [aB B.nd a2] at hf2;cases hf2
 ·exact Nat.ne_of_lt (hfo b hb)
 ·rcases cof x c e with ⟨_,a2⟩ | ⟨a1,_⟩
  ·exact Nat.ne_of_gt (Nat.lt_trans (hfo b hb) a2)
  ·exact (f2 b hb).2.2.2.2.1 x c a1
 ·exact Nat.le_trans I.ok.bsz I.sz
 ·obtain ⟨f0,f1,f3,f4,f5,f6⟩:=f2 b hb
  rcases f4 with z | z
  ·exact I.ok.noex b o e z
  ·exact absurd (Nat.lt_of_lt_of_le (Nat.lt_of_lt_of_le (Heap.lt_size e) I.ok.bsz) z) (Nat.lt_irrefl _)
 ·obtain ⟨f0,f1,f3,f4,f5,f6⟩:=f2 b hb
  exact fun z=>(List.mem_cons.mp (I.stkSub b z)).elim f1 f3
 ·have hi:∃ j,fr[i]? = some (some j) /\ σ[j]? = some (some v):=by
   unfold inh at h2
   rw [List.getElem?_map] at h2
   cases e:fr[i]? with
   | none=>rw [e] at h2;cases h2
   | some o =>
     rw [e] at h2
     cases o with
     | none=>cases h2
     | some j =>
       refine ⟨j,rfl, ?_⟩
       have h2':some ((σ[j]?).join) = some (some v):=h2
       cases e' : σ[j]? with
       | none=>rw [e'] at h2';cases h2'
       | some w=>rw [e'] at h2';cases h2';rfl
  obtain ⟨j,e1,e2⟩:=hi
  obtain ⟨n1,n2⟩:=B.fr i j x h1 e1
  obtain ⟨m,hn,hl⟩:=I.loc
  have hv:Vis X.env.scope x := .inr (B.free (x, .free) n2 rfl)
  obtain ⟨u,ru,lk⟩:=hl j x v n1 e2 hv
  refine ⟨u,ru, .inr ⟨kindF x n2, ?_⟩⟩
  rcases lk with ⟨k1,_⟩ | ⟨_,c,hc,hcell⟩
  ·have k1':X.env.scope.names.lookup x = some .local:=k1
   rcases B.free (x, .free) n2 rfl with z | z
   ·rw [k1'] at z;cases z
   ·rw [k1'] at z;cases z
  ·exact ⟨c,cellF x c n2 hc,hcell.keeps hkp⟩
 ·rcases cof y c h with ⟨a1,a2⟩ | ⟨a1,a2⟩
  ·exact ⟨_,(ok.empty y c a1).1⟩
  ·obtain ⟨v,q⟩:=I.cell y c a1
   exact ⟨v,q.keeps hkp⟩
 ·rcases cof y c h with ⟨a1,a2⟩ | ⟨a1,a2⟩
  ·exact I.hok.fresh (Nat.le_of_lt a2)
  ·exact I.freeC y c a1
 ·show (inh fr σ).length = N'.length
  unfold inh
  rw [List.length_map]
  exact B.len
theorem fM {σ':St} {H':Hp} {s':Shared} {h':Heap} (I:Inv X pins σ H s) (f2:∀ b ∈ fp,bv X pins H b) (J:Inv (ar X sc N' s H fp) [] σ' H' s') (hs:Heap.SameBut s.heap.objs.size s'.heap h') :
 Inv X pins σ H' { s' with heap:=h' }:=by
 have u:Un (frs X.stack) fp H H' s.heap s'.heap:=J.base
 have ne:∀ b o,s.heap.get? b = some o -> b ≠ s.heap.objs.size:=fun b o e=>Nat.ne_of_lt (Heap.lt_size e)
 refine I.call' (s' := { s' with heap:=h' }) (ch:=fp) J.os ⟨fun b o e n hb hx => ?_,fun b o e n hb hx => ?_,u.free,fun b o e hx => ?_,u.tups,u.frzs,u.tbls⟩ (fun b v e => ?_) J.bare fun b hb => ?_
 ·exact (hs.2 b (ne b o e)).trans (u.keep b o e n hb hx)
 ·obtain ⟨sl,q⟩:=u.slot b o e n hb hx
  exact ⟨sl,(hs.2 b (ne b o e)).trans q⟩
 ·obtain ⟨o',q⟩:=u.there b o e hx
  exact ⟨o',(hs.2 b (ne b o e)).trans q⟩
 ·refine (J.hok b v e).stay (fun c w hc q=>(hs.2 c ?_).trans q) (fun _ q=>q) fun _ _ q=>q
  have fr:H' s.heap.objs.size = none:=J.free
  rcases hc with z | z
  ·rw [z];intro z2;rw [z2,fr] at e;cases e
  ·intro z2;rw [z2,fr] at z;cases z
 ·obtain ⟨f0,f1,f3,f4,f5,f6⟩:=f2 b hb
  exact ⟨f4,f1,f5,f6⟩
theorem gf {Q:Env -> Shared -> Prop} {E:Value -> Shared -> Prop} {M:Model} {A:Around}
 (h:Q { scope:=sc,locals:=s.heap.objs.size,globals:=X.env.globals,cells:=cellsFrom (s.heap.objs.size + 1) sc.names (aC X.env.cells sc.names []),qual:=X.env.qual,func:=none,code:=X.env.code,frame:=X.env.frame,builtins:=X.env.builtins }
   { s with heap:=pushCells (s.heap.push { cls := .type "dict",data := .dict #[] }) sc.names }) :
 wpAny M A (newFunctionEnv sc X.env.globals (aC X.env.cells sc.names []) [] X.env.qual none .none (some X.env)) Q E s:=by
 simp only [newFunctionEnv,Option.isSome_some,if_true]
 refine wpAny_bind (wpAny_alloc ?_)
 refine wpAny_bind (wpAny_layCells _ (fun name kind cells=>by cases hkc:kind == NameKind.cell <;> simp [hkc]) _ _ _ _ ?_)
 rw [show ({ s with heap:=s.heap.push { cls := .type "dict",data := .dict #[] } }:Shared).heap.objs.size = s.heap.objs.size + 1 from Heap.size_push ..]
 exact wpAny_bind (wpAny_pure (wpAny_pure h))
theorem gD (hc:X.calm = true) {elt target iter:Expr} {ifs:List Expr} {rest:List Comprehension} {pos:Pos} {E:Value -> Shared -> Prop}
 (hx:∀ e s,X.xe e s -> False) (B:aN sc X.env.scope X.N N' fr) (ha:∀ g',rest[0]? = some g' -> g'.is_async = 0) {wi:TI} (hi:PI X target iter wi) {g:TG} {tb:Addr -> TC}
 (hg:∀ s H fp,PG (ar X sc N' s H fp) target g)
 (hb:∀ s H fp p,PB (ar X sc N' s H fp) (fun k=>aS ifs (ar X sc N' s H fp).env >>= fun ok=>if ok = true then aM elt (⟨target,iter,ifs,0⟩ :: rest) sc pos 0 (.ref p) (ar X sc N' s H fp).env k else k) (tb p))
 {Nn:Addr -> St -> Hp -> Prop} {RR:Value -> Addr -> Result -> Shared -> Prop} (I:Inv X pins σ H s)
 (h:wi σ H fun J H1 => ∀ p,H1 p = none -> dr J g (tb p) (Nn p) (inh fr σ) (upd H1 p (.lst [])))
 (hR:∀ p fp s3 H3 s' σ' H' f,Inv X pins σ H3 s3 -> (∀ b ∈ fp,bv X pins H3 b) -> Inv (ar X sc N' s3 H3 fp) [] σ' H' s' -> Nn p σ' H' -> RR (.ref p) s3.heap.objs.size (.ok f) s') :
 wpAny (model X.prog X.w) X.A (eval iter X.env) (fun x s₁ => wpAny (model X.prog X.w) X.A (pyIter x) (fun it s₂ => wpAny (model X.prog X.w) X.A (newList []) (fun acc s₃ =>
  wpAny (model X.prog X.w) X.A (newFunctionEnv sc X.env.globals (aC X.env.cells sc.names []) [] X.env.qual none .none (some X.env)) (fun cenv s₄ =>
   codeAny (model X.prog X.w) X.A (.compStart (.ListComp elt (⟨target,iter,ifs,0⟩ :: rest) sc pos) 0 it acc { cenv with scope:=relabel sc X.env }) (RR acc cenv.locals) s₄) E s₃) E s₂) E s₁) E s:=by
 refine nox hx (thn (hi pins s σ H _ I h) fun v s1 h1=>nox hx (thn h1 fun itv s2 h2 => ?_))
 obtain ⟨it,fp,tn,J,H2,e,I2,T,st2,f2,hw⟩:=h2
 subst e
 have hf:H2 s2.heap.objs.size = none:=I2.hok.fresh (Nat.le_refl _)
 refine wpAny_newList ?_
 have I3:Inv X pins σ (upd H2 s2.heap.objs.size (.lst [])) { s2 with heap:=s2.heap.push { cls := .type "list",dict:=none,data := .seq ([]:List Value).toArray } } :=
  I2.laid (t':=s2.toks) (fun b u e=>Heap.get?_push_of_some _ e) (Nat.le_refl _) ⟨Nat.zero_le _,[],0, .nil,Heap.get?_push_size _ rfl⟩
 have fneq:∀ b ∈ fp,b ≠ s2.heap.objs.size:=fun b hb z=>by
  obtain ⟨o,e,_⟩:=T.obj _ _ st2 b hb
  exact absurd (Heap.lt_size e) (by rw [z];exact Nat.lt_irrefl _)
 have f3:∀ b ∈ fp,bv X pins (upd H2 s2.heap.objs.size (.lst [])) b:=fun b hb=>⟨by rw [ah (fneq b hb)];exact (f2 b hb).1,(f2 b hb).2⟩
 have hfo:∀ b ∈ fp,b < (s2.heap.push { cls := .type "list",dict:=none,data := .seq ([]:List Value).toArray }).objs.size:=fun b hb=>by
  obtain ⟨o,e,_⟩:=T.obj _ _ st2 b hb
  rw [Heap.size_push]
  exact Nat.lt_succ_of_lt (Heap.lt_size e)
 have st3:tn 0 (s2.heap.push { cls := .type "list",dict:=none,data := .seq ([]:List Value).toArray }):=T.keep _ _ _ st2 fun b _ o e=>Heap.get?_push_of_some _ e
 refine gf ?_
 have J4:=kI (N':=N') I3 f3 hfo B
 have st4:=T.keep _ (h':=pushCells (({ s2 with heap:=s2.heap.push { cls := .type "list",dict:=none,data := .seq ([]:List Value).toArray } }:Shared).heap.push { cls := .type "dict",data := .dict #[] }) sc.names) _ st3 fun b _ o e=>pushCells_keeps _ _ b o (Heap.get?_push_of_some _ e)
 have f4:∀ b ∈ fp,bv (ar X sc N' { s2 with heap:=s2.heap.push { cls := .type "list",dict:=none,data := .seq ([]:List Value).toArray } } (upd H2 s2.heap.objs.size (.lst [])) fp) [] (upd H2 s2.heap.objs.size (.lst [])) b:=fun b hb =>
  ⟨(f3 b hb).1,(J4.ok.exf b hb).1,J4.ok.exfs b hb, .inl hb,(J4.ok.exf b hb).2,fun p hp=>absurd (show p ∈ ([]:List (Addr × Obj)) from hp) (by simp)⟩
 have loop:=fK (X:=ar X sc N' { s2 with heap:=s2.heap.push { cls := .type "list",dict:=none,data := .seq ([]:List Value).toArray } } (upd H2 s2.heap.objs.size (.lst [])) fp) (fun _ _ z=>z) hc
  (elt:=elt) (pos:=pos) (scope:=sc) (gens:=⟨target,iter,ifs,0⟩ :: rest) (d := 0) (acc := .ref s2.heap.objs.size) rfl (fun g' e=>ha g' (by simpa using e)) (hg _ _ _) (hb _ _ _ _) J4 T st4 f4 (hw _ hf)
 refine codeAny_mono (eB (R:=fun r s'=>match r with | .ok _ => ∃ σ' H',Inv (ar X sc N' { s2 with heap:=s2.heap.push { cls := .type "list",dict:=none,data := .seq ([]:List Value).toArray } } (upd H2 s2.heap.objs.size (.lst [])) fp) [] σ' H' s' /\ Nn s2.heap.objs.size σ' H' | .error _=>False)
  (gens:=⟨target,iter,ifs,0⟩ :: rest) (d := 0) rfl loop (T.self _ 0 _ _ _ st4 loop)) fun r s5 hr => ?_
 cases r with
 | error e=>exact hr.elim
 | ok f =>
   obtain ⟨σ5,H5,I5,n5⟩:=hr
   exact hR _ fp _ _ s5 σ5 H5 f I3 f3 I5 n5
noncomputable def jr (wi:TI) (g:TG) (tb:Addr -> TC) (fr:List (Option Nat)):TE:=fun σ H Q=>wi σ H fun J H1 => ∀ p,H1 p = none -> dr J g (tb p) (fun _ H2=>Q (.ref p) H2) (inh fr σ) (upd H1 p (.lst []))
theorem fN (B:aN sc X.env.scope X.N N' fr):∀ x ∈ sc.names,x.2 = .local -> sc.names.lookup x.1 = some .local:=fun x hx e=>by
 obtain ⟨n,k⟩:=x
 have e':k = .local:=e
 subst e'
 exact aB B.nd hx
theorem dJ (hc:X.calm = true) {elt target iter:Expr} {ifs:List Expr} {rest:List Comprehension} {pos:Pos}
 (hx:∀ e s,X.xe e s -> False) (B:aN sc X.env.scope X.N N' fr) (ha:∀ g',rest[0]? = some g' -> g'.is_async = 0) {wi:TI} (hi:PI X target iter wi) {g:TG} {tb:Addr -> TC}
 (hg:∀ s H fp,PG (ar X sc N' s H fp) target g)
 (hb:∀ s H fp p,PB (ar X sc N' s H fp) (fun k=>aS ifs (ar X sc N' s H fp).env >>= fun ok=>if ok = true then aM elt (⟨target,iter,ifs,0⟩ :: rest) sc pos 0 (.ref p) (ar X sc N' s H fp).env k else k) (tb p))
 (hs:∀ x,foldedSetIterable iter X.env x = pure x) :
 PE X (.ListComp elt (⟨target,iter,ifs,0⟩ :: rest) sc pos) (jr wi g tb fr):=by
 intro pins s σ H Q I h
 rw [eval_ListComp]
 refine wpAny_comprehension_free (use:=none) rfl hs (eC (cW I B)) B.kind (fN B) (gD (Nn:=fun p _ H2=>Q (.ref p) H2) (RR:=fun acc C=>compPost (model X.prog X.w) X.A X.xe none (EP X pins σ Q) acc C) hc hx B ha hi hg hb I h ?_)
 intro p fp s3 H3 s' σ' H' f I3 f3 J q
 obtain ⟨m,hn,_⟩:=J.loc
 exact ⟨m,hn,fun h' hs'=>⟨.ref p,H',fM I3 f3 J hs',rfl,q⟩⟩
theorem eD (hc:X.calm = true) {elt target iter:Expr} {ifs:List Expr} {rest:List Comprehension} {pos pos' spos:Pos} {x:Str} {i:Nat}
 (hx:∀ e s,X.xe e s -> False) (B:aN sc X.env.scope X.N N' fr) (ha:∀ g',rest[0]? = some g' -> g'.is_async = 0) {wi:TI} (hi:PI X target iter wi) {g:TG} {tb:Addr -> TC}
 (hg:∀ s H fp,PG (ar X sc N' s H fp) target g)
 (hb:∀ s H fp p,PB (ar X sc N' s H fp) (fun k=>aS ifs (ar X sc N' s H fp).env >>= fun ok=>if ok = true then aM elt (⟨target,iter,ifs,0⟩ :: rest) sc pos 0 (.ref p) (ar X sc N' s H fp).env k else k) (tb p))
 (hs:∀ x,foldedSetIterable iter X.env x = pure x) (hgx:PG X (.Name x pos') (el i))
 (hsw:swapsWith (.ListComp elt (⟨target,iter,ifs,0⟩ :: rest) sc pos) (some (.Name x pos')) spos.line X.env = pure true) :
 PS X (.Assign [.Name x pos'] (.ListComp elt (⟨target,iter,ifs,0⟩ :: rest) sc pos) spos) (jb (jr wi g tb fr) (el i)):=by
 intro pins s σ H D I h
 rw [exec_Assign_Name_used _ _ _ _ hsw]
 refine wpAny_bind (wpAny_standAt (wpAny_bind ?_))
 show wpAny _ X.A (do let _ <- comprehension (.ListComp elt (⟨target,iter,ifs,0⟩ :: rest) sc pos) sc X.env _ (newList []) false (eval iter X.env) (some (assign (.Name x pos') X.env))) _ _ s
 refine wpAny_bind (wpAny_mono (wpAny_comprehension_free (use:=some (assign (.Name x pos') X.env)) (Q:=fun _ s'=>SP X pins D .next s') rfl hs (eC (cW I B)) B.kind (fN B)
  (gD (Nn:=fun p _ H2=>D.nx (σ.set i (some (.ref p))) H2) (RR:=fun acc C=>compPost (model X.prog X.w) X.A X.xe (some (assign (.Name x pos') X.env)) (fun _ s'=>SP X pins D .next s') acc C) hc hx B ha hi hg hb I h ?_)) (fun _ s' hq=>wpAny_pure (wpAny_pure hq)) fun _ _ e=>e)
 intro p fp s3 H3 s' σ' H' f I3 f3 J q
 obtain ⟨m,⟨o,es,ep,ho,hd,hk,hm⟩,_⟩:=J.loc
 have I4:Inv X pins σ H' s':=fM (h':=s'.heap) I3 f3 J ⟨rfl,fun _ _=>rfl⟩
 have hL:(ar X sc N' s3 H3 fp).env.locals = s3.heap.objs.size:=rfl
 rw [hL] at ho
 have fr0:H' s3.heap.objs.size = none:=J.free
 have neL:s3.heap.objs.size ≠ X.env.locals:=Nat.ne_of_gt I3.lt
 have nfs:s3.heap.objs.size ∉ X.fs:=I3.nofs (Nat.le_refl _)
 have I5:Inv X (pins ++ [(s3.heap.objs.size,o)]) σ H' s':=I4.pins_of fun pr hp=>by
  rcases List.mem_append.mp hp with z | z
  ·exact I4.pin pr (List.mem_append_right _ z)
  ·have e:pr = (s3.heap.objs.size,o):=by simpa using z
   subst e
   exact ⟨ho,fr0,neL,nfs,fun v z=>by rw [hd] at z;cases z⟩
 show wpAny _ X.A (assign (.Name x pos') X.env (.ref p)) _ _ _
 refine thn (hgx _ s' σ H' (.ref p) (.ref p) D.nx I5 rfl q) fun _ s6 ⟨σ6,H6,I6,q6⟩ => ?_
 obtain ⟨ho6,fr6,_⟩:=I6.pin (s3.heap.objs.size,o) (List.mem_append_right _ (List.mem_append_right _ (by simp)))
 refine ⟨m,⟨o,es,ep,ho6,hd,hk,hm⟩,fun h' hs'=>⟨σ6,H6, ?_,q6⟩⟩
 refine (I6.unpinned).turned (t':=s6.toks) (it:=s3.heap.objs.size) (fun b o hb e=>(hs'.2 b hb).trans e) fr6 neL (.inr I3.sz) (fun y c e z => ?_) fun pr hp z => ?_
 ·obtain ⟨v,q⟩:=I3.cell y c e
  exact absurd q.lt (by rw [z];exact Nat.lt_irrefl _)
 ·exact absurd (Heap.lt_size (I3.pin pr hp).1) (by rw [z];exact Nat.lt_irrefl _)
end
end
end L2
namespace L2
open PySem PySem.Spec PyProof.Rows
section
variable {X:Cx}
end
section
variable {X:Cx} {pins:List (Addr × Obj)} {σ:St} {H:Hp} {s:Shared} {sc:Scope} {N':List Str} {fr:List (Option Nat)} {fp:List Addr}
end
end L2
namespace L2
namespace Zp
open PySem PySem.Spec PyProof.Rows
noncomputable def At (t:Bool) (h:Heap) (i l:Addr) (k:Nat):Prop:=match t with | true=>h.IsTupleIter i l k | false=>h.IsListIter i l k
noncomputable def Sq (t:Bool) (h:Heap) (l:Addr) (xs:Array Value):Prop:=match t with | true=>h.IsTuple l xs | false=>h.IsList l xs
theorem At.up {t:Bool} {h h':Heap} {i l:Addr} {k:Nat} (x:At t h i l k) (e:∀ o,h.get? i = some o -> h'.get? i = some o):At t h' i l k:=by
 cases t <;> (obtain ⟨o,ho,r⟩:=x;exact ⟨o,e o ho,r⟩)
theorem Sq.up {t:Bool} {h h':Heap} {l:Addr} {xs:Array Value} (x:Sq t h l xs) (e:∀ o,h.get? l = some o -> h'.get? l = some o):Sq t h' l xs:=by
 cases t <;> (obtain ⟨o,ho,r⟩:=x;exact ⟨o,e o ho,r⟩)
theorem At.lt {t:Bool} {h:Heap} {i l:Addr} {k:Nat} (x:At t h i l k):∃ o,h.get? i = some o /\ ∀ v,o.data ≠ .cell v:=by
 cases t <;> (obtain ⟨o,ho,hc,hd⟩:=x;exact ⟨o,ho,fun v z=>by rw [hd] at z;cases z⟩)
section
variable {prog:Program} {w:World} {A:Around} {E:Value -> Shared -> Prop} {s:Shared}
open Builtin.SmallTypes in
theorem mP {i l:Addr} {k:Nat} {xs:Array Value} {x:Value} {Q:Value -> Shared -> Prop} (hi:s.heap.IsTupleIter i l k) (hl:s.heap.IsTuple l xs) (hx:xs[k]? = some x)
 (q:∀ h',h'.IsTupleIter i l (k + 1) -> Heap.SameBut i s.heap h' -> Q x { s with heap:=h' }):wpAny (model prog w) A (nextOf (.ref i)) Q E s:=by
 obtain ⟨ob,hob,hcl,hda⟩:=id hi
 obtain ⟨oq,hoq,_,nq,hdq⟩:=hl
 unfold nextOf
 refine wpAny_bind (wpAny_callSpecial?_slot (name:=Str.ofString "__next__") hi.typeIs F.slot_tuple_iterator_next (wpAny_call_entry F.slot_tuple_iterator_next hi.typeIs F.entry_tuple_iterator_next ?_ (F.args_tuple_iterator_next_1 _)))
 refine wpAny_bind (m:=field (.ref i) 0) (wpAny_field hob hda (x := .ref l) rfl ?_)
 refine (if_neg (c:=(Value.ref l == Value.none) = true) Bool.false_ne_true) ▸ ?_
 refine wpAny_bind (m:=field (.ref i) 1) (wpAny_field hob hda (x := .int k 0) rfl ?_)
 refine wpAny_bind (m:=seqItems? (.ref l)) (wpAny_seqItems hoq hdq ?_)
 simp only [Int.toNat_natCast,hx]
 refine wpAny_bind (wpAny_setField hob hda (by simp) (wpAny_pure ⟨x,rfl,wpAny_pure (q _ ⟨_,Heap.get?_update_self _ hob (Obj.isFreed_of_fields (Obj.data_mapFields hda _)),(Obj.cls_mapFields ..).trans hcl, ?_⟩ (Heap.SameBut.update ..))⟩))
 rw [Obj.data_mapFields hda];simp [rawInt]
open Builtin.SmallTypes in
theorem pj {i l:Addr} {k:Nat} {xs:Array Value} {Q:Value -> Shared -> Prop} (hn:A.handled = none) (hi:s.heap.IsTupleIter i l k) (hl:s.heap.IsTuple l xs) (hx:xs[k]? = none)
 (q:∀ h' e,Heap.ExtBut i s.heap h' -> (∃ o,h'.get? e = some o /\ o.cls = .type "StopIteration") -> E (.ref e) { s with heap:=h' }):wpAny (model prog w) A (nextOf (.ref i)) Q E s:=by
 obtain ⟨ob,hob,hcl,hda⟩:=id hi
 obtain ⟨oq,hoq,_,nq,hdq⟩:=hl
 unfold nextOf
 refine wpAny_bind (wpAny_callSpecial?_slot (name:=Str.ofString "__next__") hi.typeIs F.slot_tuple_iterator_next (wpAny_call_entry F.slot_tuple_iterator_next hi.typeIs F.entry_tuple_iterator_next ?_ (F.args_tuple_iterator_next_1 _)))
 refine wpAny_bind (m:=field (.ref i) 0) (wpAny_field hob hda (x := .ref l) rfl ?_)
 refine (if_neg (c:=(Value.ref l == Value.none) = true) Bool.false_ne_true) ▸ ?_
 refine wpAny_bind (m:=field (.ref i) 1) (wpAny_field hob hda (x := .int k 0) rfl ?_)
 refine wpAny_bind (m:=seqItems? (.ref l)) (wpAny_seqItems hoq hdq ?_)
 simp only [Int.toNat_natCast,hx]
 refine wpAny_bind (wpAny_rule (wpAny_bind (wpAny_setField hob hda (by simp) ?_)))
 refine wpAny_bind (m:=newExc (.type "StopIteration") []) ?_
 simp only [newExc,newTuple]
 refine wpAny_bind (wpAny_newObj_type ?_ (by size_fits))
 refine wpAny_bind (m:=firstArgMember _ _) (wpAny_of_eq (a:=Value.none) (by first | rfl | (simp only [firstArgMember];rfl)) (wpAny_newObj_type ?_ (by size_fits)))
 simp only [raiseNew]
 refine wpAny_bind (wpAny_handled ?_)
 first | rw [show A.in1.handled = none from hn] | rw [hn]
 exact wpAny_bind (wpAny_pure (wpAny_throw (q _ _ (((Heap.SameBut.update ..).extBut.push _).push _) ⟨_,Heap.get?_push_size _ rfl,rfl⟩)))
open Builtin.SmallTypes in
theorem pk {t:Bool} {i l:Addr} {k:Nat} {xs:Array Value} {x:Value} {Q:Value -> Shared -> Prop} (hi:At t s.heap i l k) (hl:Sq t s.heap l xs) (hx:xs[k]? = some x)
 (q:∀ h',At t h' i l (k + 1) -> Heap.SameBut i s.heap h' -> Q x { s with heap:=h' }):wpAny (model prog w) A (nextOf (.ref i)) Q E s:=by
 cases t with
 | true=>exact mP hi hl hx q
 | false=>exact wpAny_nextOf_list_item hi hl hx q
open Builtin.SmallTypes in
theorem nx_end {t:Bool} {i l:Addr} {k:Nat} {xs:Array Value} {Q:Value -> Shared -> Prop} (hn:A.handled = none) (hi:At t s.heap i l k) (hl:Sq t s.heap l xs) (hx:xs[k]? = none)
 (q:∀ h' e,Heap.ExtBut i s.heap h' -> (∃ o,h'.get? e = some o /\ o.cls = .type "StopIteration") -> E (.ref e) { s with heap:=h' }):wpAny (model prog w) A (nextOf (.ref i)) Q E s:=by
 cases t with
 | true=>exact pj hn hi hl hx q
 | false=>exact wpAny_nextOf_list_end hn hi hl hx q
noncomputable def itO (t:Bool) (l:Addr):Obj:=match t with | true => { cls := .type "tuple_iterator",data := .fields #[.ref l, .int 0 0] } | false => { cls := .type "list_iterator",data := .fields #[.ref l, .int 0 0] }
theorem at_new {t:Bool} {h:Heap} {i l:Addr} (e:h.get? i = some (itO t l)):At t h i l 0:=by
 cases t <;> exact ⟨_,e,rfl,rfl⟩
end
end Zp
end L2
namespace L2
open PySem PySem.Spec PyProof.Rows
section
variable {X:Cx} {pins:List (Addr × Obj)} {σ:St} {H:Hp} {s:Shared} {h':Heap}
theorem Inv.turnedL {t':Nat} {fp:List Addr} (I:Inv X pins σ H s) (hf:∀ b ∈ fp,bv X pins H b) (k:∀ b o,b ∉ fp -> s.heap.get? b = some o -> h'.get? b = some o):Inv X pins σ H { s with heap:=h',toks:=t' }:=by
 have nit:∀ b u,H b = some u -> b ∉ fp:=fun b u e z=>by rw [(hf b z).1] at e;cases e
 refine I.step (g':=s.gens) (d':=s.drawn) (ch:=fp) (fun b hb => ?_) (fun b o _ _ hc e _=>k b o hc e) (fun b o _ _ hc e _=>⟨o.slots,k b o hc e⟩) (fun _ _ _ _ n=>n)
  (fun b o hc e=>⟨o,k b o hc e⟩) (fun _ _ e=>e) (fun _ _ _ e=>e) (fun b ps e=>⟨#[],by rw [e];simp⟩) (fun m hm => ?_) (fun b u e => ?_) I.bare
 ·obtain ⟨_,f1,_,f3,f4,f5⟩:=hf b hb
  exact ⟨f3,f1,f4,f5⟩
 ·obtain ⟨o,es,ep,ho,r⟩:=hm
  exact ⟨o,es,ep,k _ o (fun z=>(hf _ z).2.1 rfl) ho,r⟩
 ·refine (I.hok b u e).stay (fun c v hc q=>k c v ?_ q) (fun _ q=>q) fun _ _ q=>q
  rcases hc with z | z
  ·rw [z];exact nit b u e
  ·exact nit c _ z
end
noncomputable def SqV (K:PySem.W.Frag) (t:Bool) (H:Hp) (a:Addr) (xs:List V):Prop:=match t with | true=>SqT K H a xs | false=>SqL K H a xs
theorem Inv.sqv {X:Cx} {pins:List (Addr × Obj)} {σ:St} {H:Hp} {s:Shared} {t:Bool} {a:Addr} {xs:List V} (I:Inv X pins σ H s) (h:SqV X.K t H a xs):∃ its:List Value,Vals xs its /\ Zp.Sq t s.heap a its.toArray:=by
 cases t with
 | true=>obtain ⟨its,r,p,_⟩:=I.tuple h;exact ⟨its,r,p⟩
 | false=>obtain ⟨its,r,p,_⟩:=I.list h;exact ⟨its,r,p.isList⟩
theorem Inv.sqv_inj {X:Cx} {pins:List (Addr × Obj)} {σ:St} {H:Hp} {s:Shared} {t:Bool} {a:Addr} {xs ys:List V} (I:Inv X pins σ H s) (h:SqV X.K t H a xs) (h':SqV X.K t H a ys):xs = ys:=by
 cases t with
 | true=>exact I.tuple_inj h h'
 | false=>exact I.list_inj h h'
section
variable {X:Cx}
end
end L2
namespace L2
namespace En
open PySem PySem.Spec PyProof.Rows
section
variable {prog:Program} {w:World} {A:Around} {E:Value -> Shared -> Prop} {s:Shared}
open Builtin.SmallTypes Zp in
theorem rh {z i a:Addr} {t:Bool} {k:Nat} {xs:Array Value} {x old:Value} {Q:Value -> Shared -> Prop} (hz:IsEnum s.heap z i k old) (hi:At t s.heap i a k) (ha:Sq t s.heap a xs) (hx:xs[k]? = some x) (hne:z ≠ i)
 (q:∀ h',IsEnumOut h' z i ((k:Int) + 1) x s.heap.objs.size -> At t h' i a (k + 1) -> h'.get? s.heap.objs.size = some { cls := .type "tuple",data := .seq #[.int k s.toks,x] } ->
   (∀ b o,b ≠ z -> b ≠ i -> s.heap.get? b = some o -> h'.get? b = some o) -> Q (.ref s.heap.objs.size) { s with heap:=h',toks:=s.toks + 1 }) :
 wpAny (model prog w) A (Builtin.«enumerate.__next__» ⟨[.ref z],[]⟩) (fun fin s' => ∃ v,fin = .done (.ret v) /\ Q v s') E s:=by
 obtain ⟨hp,g,d,tk,os⟩:=s
 refine wpAny_bind (m:=field (.ref z) 2) (wpAny_field hz rfl (x := .ref i) rfl (wpAny_bind (pk hi ha hx fun g1 i1 s1 => ?_)))
 have S1:Heap.SameBut i hp g1:=s1
 clear s1
 have Z1:IsEnum g1 z i k old:=(S1.2 z hne).trans hz
 refine wpAny_bind (m:=field (.ref z) 3) (wpAny_field (s:=⟨g1,g,d,tk,os⟩) Z1 rfl (x:=rawInt k) rfl ?_)
 refine wpAny_bind (m:=field (.ref z) 4) (wpAny_field (s:=⟨g1,g,d,tk,os⟩) Z1 rfl (x := .none) rfl ?_)
 refine wpAny_bind (m:=mkInt k) (wpAny_mkInt ?_)
 refine wpAny_bind (m:=setField (.ref z) 3 (rawInt ((k:Int) + 1))) (wpAny_setField_rec (s:=⟨g1,g,d,tk + 1,os⟩) Z1 (by simp) fun g2 z2 s2 => ?_)
 have S2:Heap.SameBut z g1 g2:=s2
 have Z2:IsEnum g2 z i ((k:Int) + 1) old:=z2
 clear s2 z2
 refine wpAny_bind (m:=setField (.ref z) 4 .none) (wpAny_setField_rec (s:=⟨g2,g,d,tk + 1,os⟩) Z2 (by simp) fun g3 z3 s3 => ?_)
 have S3:Heap.SameBut z g2 g3:=s3
 have Z3:IsEnum g3 z i ((k:Int) + 1) old:=z3
 clear s3 z3
 refine wpAny_bind (m:=newTuple [.int k tk,x]) (wpAny_newTuple ?_)
 have Z4:IsEnum (g3.push { cls := .type "tuple",data := .seq #[.int k tk,x] }) z i ((k:Int) + 1) old:=Heap.get?_push_of_some _ Z3
 have sz:g3.objs.size = hp.objs.size:=by rw [S3.1,S2.1,S1.1]
 have zl:z < hp.objs.size:=Heap.lt_size hz
 have T4:(g3.push { cls := .type "tuple",data := .seq #[.int k tk,x] }).get? hp.objs.size = some { cls := .type "tuple",data := .seq #[.int k tk,x] }:=by rw [<- sz];exact Heap.get?_push_size _ rfl
 have K4:∀ b o,b ≠ z -> b ≠ i -> hp.get? b = some o -> (g3.push { cls := .type "tuple",data := .seq #[.int k tk,x] }).get? b = some o:=fun b o bz bi e =>
  Heap.get?_push_of_some _ (S3.extBut b o bz (S2.extBut b o bz (S1.extBut b o bi e)))
 have I4:At t (g3.push { cls := .type "tuple",data := .seq #[.int k tk,x] }) i a (k + 1):=i1.up fun o e=>Heap.get?_push_of_some _ (S3.extBut i o hne.symm (S2.extBut i o hne.symm e))
 rw [sz]
 generalize g3.push { cls := .type "tuple",data := .seq #[.int k tk,x] } = g4 at Z4 T4 K4 I4
 refine wpAny_bind (m:=ownedTupleIsFree (.ref z)) ?_
 unfold ownedTupleIsFree
 refine wpAny_bind (wpAny_field (s:=⟨g4,g,d,tk + 1,os⟩) Z4 rfl (x := .none) rfl (wpAny_pure ?_))
 simp only [if_true]
 refine wpAny_bind (wpAny_rule (wpAny_bind (wpAny_field (s:=⟨g4,g,d,tk + 1,os⟩) Z4 rfl (x:=old) rfl (wpAny_bind (wpAny_setField_rec (s:=⟨g4,g,d,tk + 1,os⟩) Z4 (by simp) fun g5 z5 s5 => ?_)))))
 have S5:Heap.SameBut z g4 g5:=s5
 have Z5:IsEnum g5 z i ((k:Int) + 1) x:=z5
 clear s5 z5
 refine wpAny_bind (m:=ownedTupleHandOut (.ref z) (.ref hp.objs.size)) ?_
 unfold ownedTupleHandOut
 refine wpAny_bind (wpAny_setField_rec (s:=⟨g5,g,d,tk + 1,os⟩) Z5 (by simp) fun g6 z6 s6 => ?_)
 have S6:Heap.SameBut z g5 g6:=s6
 have Z6:IsEnumOut g6 z i ((k:Int) + 1) x hp.objs.size:=z6
 clear s6 z6
 refine wpAny_setField_rec (s:=⟨g6,g,d,tk + 1,os⟩) Z6 (by simp) fun g7 z7 s7 => ?_
 have S7:Heap.SameBut z g6 g7:=s7
 have Z7:IsEnumOut g7 z i ((k:Int) + 1) x hp.objs.size:=z7
 clear s7 z7
 have up:∀ b o,b ≠ z -> g4.get? b = some o -> g7.get? b = some o:=fun b o bz e=>S7.extBut b o bz (S6.extBut b o bz (S5.extBut b o bz e))
 exact wpAny_bind (wpAny_letGo (wpAny_pure ⟨_,rfl,q g7 Z7 (I4.up fun o e=>up i o hne.symm e) (up _ _ (Nat.ne_of_gt zl) T4) fun b o bz bi e=>up b o bz (K4 b o bz bi e)⟩))
theorem nxt_item {z i a:Addr} {t:Bool} {k:Nat} {xs:Array Value} {x old:Value} {Q:Option Value -> Shared -> Prop} (hz:IsEnum s.heap z i k old) (hi:Zp.At t s.heap i a k) (ha:Zp.Sq t s.heap a xs) (hx:xs[k]? = some x) (hne:z ≠ i)
 (q:∀ h',IsEnumOut h' z i ((k:Int) + 1) x s.heap.objs.size -> Zp.At t h' i a (k + 1) -> h'.get? s.heap.objs.size = some { cls := .type "tuple",data := .seq #[.int k s.toks,x] } ->
   (∀ b o,b ≠ z -> b ≠ i -> s.heap.get? b = some o -> h'.get? b = some o) -> Q (some (.ref s.heap.objs.size)) { s with heap:=h',toks:=s.toks + 1 }) :
 wpAny (model prog w) A (pyNext (.ref z)) Q E s:=by
 have ty:s.TypeIs (.ref z) "enumerate" := ⟨_,hz,rfl⟩
 unfold pyNext
 exact wpAny_bind (wpAny_attempt (wpAny_callSpecial?_slot (name:=Str.ofString "__next__") ty F.slot_enumerate_next (wpAny_call_entry F.slot_enumerate_next ty F.entry_enumerate_next
  (rh hz hi ha hx hne fun h' a1 a2 a3 a4=>wpAny_pure (q h' a1 a2 a3 a4)) (F.args_enumerate_next_1 _))))
theorem nxt_end {z i a:Addr} {t:Bool} {k:Nat} {xs:Array Value} {old:Value} {Q:Option Value -> Shared -> Prop} (hn:A.handled = none) (hz:IsEnum s.heap z i k old) (hi:Zp.At t s.heap i a k) (ha:Zp.Sq t s.heap a xs) (hx:xs[k]? = none)
 (q:∀ h',Heap.ExtBut i s.heap h' -> Q none { s with heap:=h' }):wpAny (model prog w) A (pyNext (.ref z)) Q E s:=by
 have ty:s.TypeIs (.ref z) "enumerate" := ⟨_,hz,rfl⟩
 unfold pyNext
 refine wpAny_bind (wpAny_attempt (wpAny_callSpecial?_slot (name:=Str.ofString "__next__") ty F.slot_enumerate_next (wpAny_call_entry F.slot_enumerate_next ty F.entry_enumerate_next ?_ (F.args_enumerate_next_1 _))))
 refine wpAny_bind (m:=field (.ref z) 2) (wpAny_field hz rfl (x := .ref i) rfl (wpAny_bind (Zp.nx_end hn hi ha hx fun h' x he hs => ?_)))
 obtain ⟨o,ho,hc⟩:=hs
 exact wpAny_bind (wpAny_isInstance (T := "StopIteration") (b:=true) ⟨o,ho,hc⟩ isSubtype_stop (wpAny_pure (q _ he)))
open AutoSeq1 (wpAny_loadPart') in
theorem pv (l:Addr) (items:Array Value) (n:Nat) (dct:Option Addr) (sl:Array (Option Value)) :
 Meets (Builtin.«enumerate.__new__» ⟨[.type "enumerate", .ref l],[]⟩) (fun _ R s=>s.heap.get? l = some { cls := .type "tuple",dict:=dct,data := .seq items n,slots:=sl } /\
  R (.ok (.ret (.ref (s.heap.push (Zp.itO true l)).objs.size))) { s with heap:=(s.heap.push (Zp.itO true l)).push { cls := .type "enumerate",data := .fields #[.none, .bool false, .ref s.heap.objs.size,rawInt 0, .none, .none] } }) :=
 .of_wp fun prog w A R s h=>by
  obtain ⟨hp,g,d,tk,os⟩:=s;obtain ⟨hl,h⟩:=h
  have hsub:=sub_enumerate
  have hT:Heap.IsTuple (Shared.heap ⟨hp,g,d,tk,os⟩) l items:=⟨_,hl,rfl,n,rfl⟩
  wp_walk using wpAny_loadPart' hl
  refine wpAny_stack_any fun st=>wpAny_pure ?_
  split
  ·rename_i c _ _ _ _ _
   cases (c == Value.type "enumerate") <;> (wp_walk using wpAny_loadPart' hl,wpAny_pyIter_tuple hT;exact ⟨_,rfl,h⟩)
  ·wp_walk using wpAny_loadPart' hl,wpAny_pyIter_tuple hT
   exact ⟨_,rfl,h⟩
theorem call_enum {t:Bool} {l:Addr} {items:Array Value} {Q:Value -> Shared -> Prop} (hL:Zp.Sq t s.heap l items)
 (q:∀ h',IsEnum h' (s.heap.objs.size + 1) s.heap.objs.size 0 .none -> Zp.At t h' s.heap.objs.size l 0 -> (∀ b o,s.heap.get? b = some o -> h'.get? b = some o) -> Q (.ref (s.heap.objs.size + 1)) { s with heap:=h' }) :
 wpAny (model prog w) A (call (.type "enumerate") [.ref l]) Q E s:=by
 cases t with
 | false=>exact call_enumerate_list hL fun h' a b _ k=>q h' a b k
 | true =>
   obtain ⟨⟨c,dct,dt,sl⟩,hl,hc,n,hd⟩:=hL
   have hc':c = .type "tuple" := hc
   have hd':dt = .seq items n:=hd
   subst hc' hd'
   refine callType_new F.called_enumerate (by decide) (F.typeCall_enumerate_1 _) (F.newCall_enumerate_1 _) (fun obj=>F.args_object_init_2 obj _) F.entry_enumerate_new (pv l items n dct sl) ⟨hl, ?_⟩
   have z1:(s.heap.push (Zp.itO true l)).objs.size = s.heap.objs.size + 1:=Heap.size_push ..
   have e:((s.heap.push (Zp.itO true l)).push { cls := .type "enumerate",data := .fields #[.none, .bool false, .ref s.heap.objs.size,rawInt 0, .none, .none] }).get? (s.heap.push (Zp.itO true l)).objs.size = some _:=Heap.get?_push_size _ rfl
   rw [z1] at e
   show _ /\ _
   rw [z1]
   exact ⟨⟨_,e,rfl⟩,q _ e (Zp.at_new (Heap.get?_push_of_some _ (Heap.get?_push_size _ rfl))) fun b o x=>Heap.get?_push_of_some _ (Heap.get?_push_of_some _ x)⟩
end
end En
open PySem PySem.Spec PyProof.Rows
noncomputable def Ite (K:PySem.W.Frag) (t:Bool) (a:Addr):It :=
 ⟨fun i H => ∃ xs x,SqV K t H a xs /\ xs[i]? = some x,
  fun i H v H' => ∃ p x,H p = none /\ v = .ref p /\ H' = upd H p (.tup [.int (i:Nat),x]) /\ ∀ xs,SqV K t H a xs -> xs[i]? = some x,
  fun i H => ∃ xs,SqV K t H a xs /\ xs.length <= i⟩
theorem kJ {P:Program} {w:World} {K:PySem.W.Frag} {elts:List Expr} {cx} {pos:Pos} {t:Bool} {z i a:Addr} (hzi:z ≠ i) :
 fg P w K (.Tuple elts cx pos) (Ite K t a) [z,i] z (fun k h=>(∃ old,IsEnum h z i k old) /\ Zp.At t h i a k) where
 mem:=by simp
 obj:=fun k h ⟨⟨old,hz⟩,hi⟩ c hc=>by
  simp only [List.mem_cons,List.not_mem_nil,or_false] at hc
  rcases hc with rfl | rfl
  ·exact ⟨_,hz,fun v e=>by cases e⟩
  ·exact hi.lt
 keep:=fun k h h' ⟨⟨old,hz⟩,hi⟩ kk=>⟨⟨old,kk z (by simp) _ hz⟩,hi.up fun o e=>kk i (by simp) o e⟩
 item:=by
  intro X hP hw hK hc k pins s σ H E I hf st hg
  subst hP hw hK
  obtain ⟨⟨old,hz⟩,hi⟩:=st
  obtain ⟨xs,x,qx,ex⟩:=hg
  obtain ⟨is,rx,px⟩:=I.sqv qx
  obtain ⟨ux,hux,rux⟩:=rx.get ex
  refine En.nxt_item hz hi px (by simpa using hux) hzi fun h1 z1 i1 p1 k1=>⟨_,rfl, ?_⟩
  refine wpAny_letOwnedTupleGo_enum (s := { s with heap:=h1,toks:=s.toks + 1 }) z1 fun h2 z2 s2 => ?_
  have lt:∀ {c o},s.heap.get? c = some o -> c ≠ s.heap.objs.size:=fun e=>Nat.ne_of_lt (Heap.lt_size e)
  have nz:s.heap.objs.size ≠ z:=(lt hz).symm
  have hi0:∃ o,s.heap.get? i = some o:=hi.lt.imp fun _ h=>h.1
  have up:∀ c o,c ≠ z -> h1.get? c = some o -> h2.get? c = some o:=fun c o n e=>s2.extBut _ _ n e
  have IL:Inv X pins σ (upd H s.heap.objs.size (.tup [.int (k:Nat),x])) { s with heap:=s.heap.push { cls := .type "tuple",data := .seq #[.int k s.toks,ux] },toks:=s.toks + 1 } :=
   I.laid (fun b o e=>Heap.get?_push_of_some _ e) (Nat.le_refl _) ⟨by rw [sizeLine_eq];simp,[.int k s.toks,ux], .cons ⟨_,rfl⟩ (.cons rux .nil),IsTup.new _ _⟩
  have fr:∀ c ∈ [z,i],c ≠ s.heap.objs.size:=fun c hc=>by
   simp only [List.mem_cons,List.not_mem_nil,or_false] at hc
   rcases hc with rfl | rfl
   ·exact lt hz
   ·obtain ⟨o,e⟩:=hi0;exact lt e
  have un:∀ c ∈ [z,i],upd H s.heap.objs.size (.tup [.int (k:Nat),x]) c = none:=fun c hc=>by
   rw [ah (fr c hc)];exact (hf c hc).1
  have kk:∀ c o,c ∉ [z,i] -> (s.heap.push { cls := .type "tuple",data := .seq #[.int k s.toks,ux] }).get? c = some o -> h2.get? c = some o:=fun c o hc e=>by
   simp only [List.mem_cons,List.not_mem_nil,or_false,not_or] at hc
   rcases Heap.get?_push_cases e with ⟨rfl,rfl⟩ | e
   ·exact up _ _ nz p1
   ·exact up _ _ hc.1 (k1 c o hc.1 hc.2 e)
  have I2:Inv X pins σ (upd H s.heap.objs.size (.tup [.int (k:Nat),x])) { s with heap:=h2,toks:=s.toks + 1 } :=
   Inv.turnedL (s := { s with heap:=s.heap.push { cls := .type "tuple",data := .seq #[.int k s.toks,ux] },toks:=s.toks + 1 }) (h':=h2) (t':=s.toks + 1) (fp := [z,i]) IL (fun c hc=>⟨un c hc,(hf c hc).2⟩) kk
  refine ⟨.ref s.heap.objs.size,_,I2,rfl,⟨_,x,I.hok.fresh (Nat.le_refl _),rfl,rfl,fun xs' q1 => ?_⟩,⟨⟨ux,by simpa using z2⟩,i1.up fun o e=>up _ o hzi.symm e⟩,un⟩
  rw [I.sqv_inj q1 qx];exact ex
 done:=by
  intro X hP hw hK hc k pins s σ H E I hf st hg
  subst hP hw hK
  obtain ⟨⟨old,hz⟩,hi⟩:=st
  obtain ⟨xs,qx,hend⟩:=hg
  obtain ⟨is,rx,px⟩:=I.sqv qx
  have lx:=rx.length
  refine En.nxt_end (I.ok.hd hc) hz hi px (by simp;omega) fun h1 k1=>⟨rfl,I.turnedL (t':=s.toks) hf fun c o hc e => ?_⟩
  simp only [List.mem_cons,List.not_mem_nil,or_false,not_or] at hc
  exact k1 c o hc.2 e
 self:=fun A k s Q E ⟨⟨old,hz⟩,_⟩ h=>wpAny_pyIter_enum hz h
section
variable {X:Cx}
noncomputable def sY (K:PySem.W.Frag) (ta:TA):TI:=fun σ H R=>ta σ H fun vs H1 => ∃ a t xs,vs = [.ref a] /\ SqV K t H1 a xs /\ R (Ite K t a) H1
theorem pw {elts:List Expr} {cx} {pos p pos':Pos} {a:Expr} {ta:TA} (hg:Gl X "enumerate") (hm:X.mg "enumerate" = none) (ha:PA X [a] ta) (hs:starEach [a] X.env = [(false,eval a X.env)]) :
 PI X (.Tuple elts cx pos) (.Call (.Name "enumerate" p) [a] [] pos') (sY X.K ta):=by
 intro pins s σ H R I h
 refine Call_ (cS I hg hm (u := .type "enumerate") boot_enumerate (PyProof.Rows.callWith_type1 (thn (ha pos' pins s σ H _ I h) fun us s1 ⟨vs,H1,I1,r1,q1⟩ => ?_) hs rfl))
 obtain ⟨a',t,xs,rfl,qx,q⟩:=q1
 cases r1 with
 | cons r rr =>
   cases rr
   cases r
   obtain ⟨is,rx,px⟩:=I1.sqv qx
   refine En.call_enum px fun h1 z1 i1 k1 => ?_
   refine wpAny_pyIter_enum z1 ?_
   refine ⟨_,_,_,_,H1,rfl,I1.kept (t':=s1.toks) k1,kJ (t:=t) (a:=a') (by simp),⟨⟨_,z1⟩,i1⟩,fun c hc => ?_,q⟩
   have hle:s1.heap.objs.size <= c:=by
    simp only [List.mem_cons,List.not_mem_nil,or_false] at hc
    rcases hc with rfl | rfl <;> omega
   exact I1.fpOk hle (I1.hok.fresh hle)
end
end L2
namespace L2
namespace Rv
open PySem PySem.Spec PyProof.Rows
section
variable {prog:Program} {w:World} {A:Around} {E:Value -> Shared -> Prop} {s:Shared}
end
end Rv
open PySem PySem.Spec PyProof.Rows
section
variable {X:Cx}
end
end L2
namespace L2
namespace Mi
open PySem PySem.Spec PyProof.Rows
inductive D where
 | non | bl (b:Bool) | int (i:Int) | str (x:Str) | tup (ds:List D) | con (ds:List D) | ref (a:Addr)
inductive O where
 | lst (ds:List D)
 | dct (t:Bool) (kvs:List (D × D))
 | fdc (kvs:List (D × D))
noncomputable abbrev Mem:=Addr -> Option O
noncomputable def fz:Option O -> Bool
 | some (.lst _)=>false
 | some (.dct _ _)=>false
 | _=>true
noncomputable abbrev ai:=List (Option D)
noncomputable def ag (M:Mem) (a:Addr) (o:O):Mem:=fun b=>if b = a then some o else M b
theorem ad {M:Mem} {a:Addr} {o:O}:ag M a o a = some o:=by unfold ag;rw [if_pos rfl]
theorem ao {M:Mem} {a b:Addr} {o:O} (h:b ≠ a):ag M a o b = M b:=by unfold ag;rw [if_neg h]
noncomputable def SqF (K:PySem.W.Frag) (H:Hp) (a:Addr) (xs:List V):Prop :=
 (∃ o,H a = some (.frz o (.lst xs))) ∨
  ∃ (o:Obj) (its:Array Value) (n:Nat),K.lookup a = some o /\ o.cls = .type "list" /\ o.dict = none /\ o.data = .seq its n /\ its.size <= sizeLine /\ Vals xs its.toList
theorem SqF.sq {K:PySem.W.Frag} {H:Hp} {a:Addr} {xs:List V} (h:SqF K H a xs):SqL K H a xs:=by
 rcases h with ⟨o,h⟩ | h
 ·exact .inl (.inr ⟨o,h⟩)
 ·exact .inr h
mutual
noncomputable def RD (K:PySem.W.Frag) (H:Hp):D -> V -> Prop
 | .non,v=>v = .non
 | .bl b,v=>v = .bl b
 | .int i,v=>v = .int i
 | .str x,v=>v = .str x
 | .tup ds,v => ∃ a vs,v = .ref a /\ H a = some (.tup vs) /\ RDs K H ds vs
 | .con ds,v => ∃ a vs,v = .ref a /\ SqF K H a vs /\ RDs K H ds vs
 | .ref a,v=>v = .ref a
noncomputable def RDs (K:PySem.W.Frag) (H:Hp):List D -> List V -> Prop
 | [],vs=>vs = []
 | d :: ds,vs => ∃ v r,vs = v :: r /\ RD K H d v /\ RDs K H ds r
end
structure Stab (H H':Hp):Prop where
 tup:∀ a xs,H a = some (.tup xs) -> H' a = some (.tup xs)
 frz:∀ a o u,H a = some (.frz o u) -> H' a = some (.frz o u)
theorem Stab.sqF {K:PySem.W.Frag} {H H':Hp} (st:Stab H H') {a:Addr} {xs:List V} (h:SqF K H a xs):SqF K H' a xs:=by
 rcases h with ⟨o,h⟩ | h
 ·exact .inl ⟨o,st.frz _ _ _ h⟩
 ·exact .inr h
mutual
theorem RD.mono {K:PySem.W.Frag} {H H':Hp} (st:Stab H H'):∀ {d:D} {v:V},RD K H d v -> RD K H' d v
 | .non,_,h=>h
 | .bl _,_,h=>h
 | .int _,_,h=>h
 | .str _,_,h=>h
 | .tup ds,v,h=>by
  unfold RD at h ⊢
  obtain ⟨a,vs,e,q,r⟩:=h
  exact ⟨a,vs,e,st.tup _ _ q,RDs.mono st r⟩
 | .con ds,v,h=>by
  unfold RD at h ⊢
  obtain ⟨a,vs,e,q,r⟩:=h
  exact ⟨a,vs,e,st.sqF q,RDs.mono st r⟩
 | .ref _,_,h=>h
theorem RDs.mono {K:PySem.W.Frag} {H H':Hp} (st:Stab H H'):∀ {ds:List D} {vs:List V},RDs K H ds vs -> RDs K H' ds vs
 | [],_,h=>h
 | d :: ds,vs,h=>by
   unfold RDs at h ⊢
   obtain ⟨v,r,e,h1,h2⟩:=h
   exact ⟨v,r,e,RD.mono st h1,RDs.mono st h2⟩
end
section
variable {K:PySem.W.Frag} {H H':Hp}
theorem RD.int_iff {i:Int} {v:V}:RD K H (.int i) v ↔ v = .int i:=by unfold RD;exact Iff.rfl
theorem RD.bl_iff {b:Bool} {v:V}:RD K H (.bl b) v ↔ v = .bl b:=by unfold RD;exact Iff.rfl
theorem RD.non_iff {v:V}:RD K H .non v ↔ v = .non:=by unfold RD;exact Iff.rfl
theorem RD.str_iff {x:Str} {v:V}:RD K H (.str x) v ↔ v = .str x:=by unfold RD;exact Iff.rfl
theorem RD.ref_iff {a:Addr} {v:V}:RD K H (.ref a) v ↔ v = .ref a:=by unfold RD;exact Iff.rfl
theorem RD.tup_iff {ds:List D} {v:V}:RD K H (.tup ds) v ↔ ∃ a vs,v = .ref a /\ H a = some (.tup vs) /\ RDs K H ds vs:=by rw [RD]
theorem RD.con_iff {ds:List D} {v:V}:RD K H (.con ds) v ↔ ∃ a vs,v = .ref a /\ SqF K H a vs /\ RDs K H ds vs:=by rw [RD]
theorem RDs.nil_iff {vs:List V}:RDs K H [] vs ↔ vs = []:=by rw [RDs]
theorem RDs.cons_iff {d:D} {ds:List D} {vs:List V}:RDs K H (d :: ds) vs ↔ ∃ v r,vs = v :: r /\ RD K H d v /\ RDs K H ds r:=by rw [RDs]
theorem RDs.nil:RDs K H [] []:=RDs.nil_iff.mpr rfl
theorem RDs.cons {d:D} {ds:List D} {v:V} {vs:List V} (h:RD K H d v) (r:RDs K H ds vs):RDs K H (d :: ds) (v :: vs):=RDs.cons_iff.mpr ⟨v,vs,rfl,h,r⟩
theorem RDs.length:∀ {ds:List D} {vs:List V},RDs K H ds vs -> vs.length = ds.length
 | [],_,h=>by rw [RDs.nil_iff.mp h];rfl
 | d :: ds,_,h=>by
   obtain ⟨v,r,rfl,_,h2⟩:=RDs.cons_iff.mp h
   simp [RDs.length h2]
theorem RDs.get:∀ {ds:List D} {vs:List V} {i:Nat} {d:D},RDs K H ds vs -> ds[i]? = some d -> ∃ v,vs[i]? = some v /\ RD K H d v
 | [],_,_,_,_,e=>by simp at e
 | d :: ds,_,0,d',h,e=>by
   obtain ⟨v,r,rfl,h1,h2⟩:=RDs.cons_iff.mp h
   simp at e;subst e
   exact ⟨v,rfl,h1⟩
 | d :: ds,_,i + 1,d',h,e=>by
   obtain ⟨v,r,rfl,h1,h2⟩:=RDs.cons_iff.mp h
   obtain ⟨u,q1,q2⟩:=RDs.get (i:=i) (d:=d') h2 (by simpa using e)
   exact ⟨u,by simpa using q1,q2⟩
theorem RDs.getV {ds:List D} {vs:List V} {i:Nat} {v:V} (h:RDs K H ds vs) (e:vs[i]? = some v):∃ d,ds[i]? = some d /\ RD K H d v:=by
 have hl:=h.length
 have hi:i < vs.length:=(List.getElem?_eq_some_iff.mp e).1
 obtain ⟨d,hd⟩:∃ d,ds[i]? = some d:=⟨ds[i]'(by omega),List.getElem?_eq_getElem (by omega)⟩
 obtain ⟨u,q1,q2⟩:=h.get hd
 rw [e] at q1;cases q1
 exact ⟨d,hd,q2⟩
theorem RDs.append:∀ {ds es:List D} {vs us:List V},RDs K H ds vs -> RDs K H es us -> RDs K H (ds ++ es) (vs ++ us)
 | [],_,_,_,h,q=>by rw [RDs.nil_iff.mp h];exact q
 | d :: ds,_,_,_,h,q=>by
   obtain ⟨v,r,rfl,h1,h2⟩:=RDs.cons_iff.mp h
   exact RDs.cons h1 (RDs.append h2 q)
theorem RDs.take:∀ {ds:List D} {vs:List V} (n:Nat),RDs K H ds vs -> RDs K H (ds.take n) (vs.take n)
 | [],_,n,h=>by rw [RDs.nil_iff.mp h];simp;exact RDs.nil
 | _ :: _,_,0,h=>by simp;exact RDs.nil
 | d :: ds,_,n + 1,h=>by
   obtain ⟨v,r,rfl,h1,h2⟩:=RDs.cons_iff.mp h
   exact RDs.cons h1 (RDs.take n h2)
theorem RDs.drop:∀ {ds:List D} {vs:List V} (n:Nat),RDs K H ds vs -> RDs K H (ds.drop n) (vs.drop n)
 | [],_,n,h=>by rw [RDs.nil_iff.mp h];simp;exact RDs.nil
 | d :: ds,_,0,h=>h
 | d :: ds,_,n + 1,h=>by
   obtain ⟨v,r,rfl,h1,h2⟩:=RDs.cons_iff.mp h
   exact RDs.drop n h2
theorem RDs.set:∀ {ds:List D} {vs:List V} (n:Nat) {d:D} {v:V},RD K H d v -> RDs K H ds vs -> RDs K H (ds.set n d) (vs.set n v)
 | [],_,n,_,_,_,h=>by rw [RDs.nil_iff.mp h];exact RDs.nil
 | d :: ds,_,0,_,_,q,h=>by
   obtain ⟨v,r,rfl,h1,h2⟩:=RDs.cons_iff.mp h
   exact RDs.cons q h2
 | d :: ds,_,n + 1,_,_,q,h=>by
   obtain ⟨v,r,rfl,h1,h2⟩:=RDs.cons_iff.mp h
   exact RDs.cons h1 (RDs.set n q h2)
theorem RDs.reverse {ds:List D} {vs:List V} (h:RDs K H ds vs):RDs K H ds.reverse vs.reverse:=by
 induction ds generalizing vs with
 | nil=>rw [RDs.nil_iff.mp h];exact RDs.nil
 | cons d ds ih =>
   obtain ⟨v,r,rfl,h1,h2⟩:=RDs.cons_iff.mp h
   rw [List.reverse_cons,List.reverse_cons]
   exact (ih h2).append (RDs.cons h1 RDs.nil)
theorem RDs.rep {ds:List D} {vs:List V} (h:RDs K H ds vs):∀ k:Nat,RDs K H (List.replicate k ds).flatten (List.replicate k vs).flatten
 | 0=>RDs.nil
 | k + 1=>by
   rw [List.replicate_succ,List.replicate_succ,List.flatten_cons,List.flatten_cons]
   exact h.append (h.rep k)
theorem RDs.ints:∀ (ns:List Int),RDs K H (ns.map D.int) (ns.map V.int)
 | [] => RDs.nil
 | n :: ns=>RDs.cons (RD.int_iff.mpr rfl) (RDs.ints ns)
end
mutual
noncomputable def D.eqb:D -> D -> Bool
 | .non, .non=>true
 | .bl a, .bl b=>a == b
 | .int a, .int b=>decide (a = b)
 | .str a, .str b=>decide (a = b)
 | .tup a, .tup b=>D.eqbs a b
 | .con a, .con b=>D.eqbs a b
 | .ref a, .ref b=>decide (a = b)
 | _,_=>false
noncomputable def D.eqbs:List D -> List D -> Bool
 | [],[] => true
 | a :: r,b :: s=>D.eqb a b && D.eqbs r s
 | _,_=>false
end
mutual
theorem D.eqb_eq:∀ (a b:D),D.eqb a b = true -> a = b
 | .non, .non,_=>rfl
 | .bl a, .bl b,h=>by simp [D.eqb] at h;rw [h]
 | .int a, .int b,h=>by simp [D.eqb] at h;rw [h]
 | .str a, .str b,h=>by simp [D.eqb] at h;rw [h]
 | .tup a, .tup b,h=>by simp [D.eqb] at h;rw [D.eqbs_eq a b h]
 | .con a, .con b,h=>by simp [D.eqb] at h;rw [D.eqbs_eq a b h]
 | .ref a, .ref b,h=>by simp [D.eqb] at h;rw [h]
 | .non, .bl _,h=>by simp [D.eqb] at h
 | .non, .int _,h=>by simp [D.eqb] at h
 | .non, .str _,h=>by simp [D.eqb] at h
 | .non, .tup _,h=>by simp [D.eqb] at h
 | .non, .con _,h=>by simp [D.eqb] at h
 | .non, .ref _,h=>by simp [D.eqb] at h
 | .bl _, .non,h=>by simp [D.eqb] at h
 | .bl _, .int _,h=>by simp [D.eqb] at h
 | .bl _, .str _,h=>by simp [D.eqb] at h
 | .bl _, .tup _,h=>by simp [D.eqb] at h
 | .bl _, .con _,h=>by simp [D.eqb] at h
 | .bl _, .ref _,h=>by simp [D.eqb] at h
 | .int _, .non,h=>by simp [D.eqb] at h
 | .int _, .bl _,h=>by simp [D.eqb] at h
 | .int _, .str _,h=>by simp [D.eqb] at h
 | .int _, .tup _,h=>by simp [D.eqb] at h
 | .int _, .con _,h=>by simp [D.eqb] at h
 | .int _, .ref _,h=>by simp [D.eqb] at h
 | .str _, .non,h=>by simp [D.eqb] at h
 | .str _, .bl _,h=>by simp [D.eqb] at h
 | .str _, .int _,h=>by simp [D.eqb] at h
 | .str _, .tup _,h=>by simp [D.eqb] at h
 | .str _, .con _,h=>by simp [D.eqb] at h
 | .str _, .ref _,h=>by simp [D.eqb] at h
 | .tup _, .non,h=>by simp [D.eqb] at h
 | .tup _, .bl _,h=>by simp [D.eqb] at h
 | .tup _, .int _,h=>by simp [D.eqb] at h
 | .tup _, .str _,h=>by simp [D.eqb] at h
 | .tup _, .con _,h=>by simp [D.eqb] at h
 | .tup _, .ref _,h=>by simp [D.eqb] at h
 | .con _, .non,h=>by simp [D.eqb] at h
 | .con _, .bl _,h=>by simp [D.eqb] at h
 | .con _, .int _,h=>by simp [D.eqb] at h
 | .con _, .str _,h=>by simp [D.eqb] at h
 | .con _, .tup _,h=>by simp [D.eqb] at h
 | .con _, .ref _,h=>by simp [D.eqb] at h
 | .ref _, .non,h=>by simp [D.eqb] at h
 | .ref _, .bl _,h=>by simp [D.eqb] at h
 | .ref _, .int _,h=>by simp [D.eqb] at h
 | .ref _, .str _,h=>by simp [D.eqb] at h
 | .ref _, .tup _,h=>by simp [D.eqb] at h
 | .ref _, .con _,h=>by simp [D.eqb] at h
theorem D.eqbs_eq:∀ (a b:List D),D.eqbs a b = true -> a = b
 | [],[],_=>rfl
 | a :: r,b :: s,h=>by
   simp [D.eqbs] at h
   rw [D.eqb_eq a b h.1,D.eqbs_eq r s h.2]
 | [],_ :: _,h=>by simp [D.eqbs] at h
 | _ :: _,[],h=>by simp [D.eqbs] at h
end
mutual
theorem D.eqb_refl:∀ (a:D),D.eqb a a = true
 | .non=>rfl
 | .bl _=>by simp [D.eqb]
 | .int _=>by simp [D.eqb]
 | .str _=>by simp [D.eqb]
 | .tup a=>by simp [D.eqb,D.eqbs_refl a]
 | .con a=>by simp [D.eqb,D.eqbs_refl a]
 | .ref _=>by simp [D.eqb]
theorem D.eqbs_refl:∀ (a:List D),D.eqbs a a = true
 | [] => rfl
 | a :: r=>by simp [D.eqbs,D.eqb_refl a,D.eqbs_refl r]
end
noncomputable instance:DecidableEq D:=fun a b=>if h:D.eqb a b = true then isTrue (D.eqb_eq a b h) else isFalse fun e=>h (by rw [e];exact D.eqb_refl b)
noncomputable def RKey:D -> Key -> Prop
 | .int i,k=>k = .inl i
 | .str x,k=>k = .inr x
 | _,_=>False
noncomputable def RKeys:D -> List Key -> Prop
 | .tup ds,ks=>Paired RKey ds ks
 | _,_=>False
noncomputable def bA (kvs:List (D × D)) (k:D):Option D:=(kvs.find? fun p=>decide (p.1 = k)).map (·.2)
noncomputable def gE (kvs:List (D × D)) (k v:D):List (D × D):=if (kvs.any fun p=>decide (p.1 = k)) = true then kvs.map (fun p=>if p.1 = k then (p.1,v) else p) else kvs ++ [(k,v)]
noncomputable def cL:D -> Bool
 | .int _=>true
 | .str _=>true
 | _=>false
noncomputable def cz:D -> Bool
 | .tup ds=>ds.all cL
 | _=>false
noncomputable def js (t:Bool) (k:D):Bool:=if t then cz k else cL k
theorem gF {k:D} (h:cL k = true):∃ q,RKey k q:=by
 cases k <;> first | (simp [cL] at h;done) | exact ⟨_,rfl⟩
theorem iR:∀ {ds:List D},ds.all cL = true -> ∃ ks,Paired RKey ds ks
 | [],_=>⟨[], .nil⟩
 | d :: ds,h=>by
   simp only [List.all_cons,Bool.and_eq_true] at h
   obtain ⟨k,hk⟩:=gF h.1
   obtain ⟨ks,hs⟩:=iR h.2
   exact ⟨k :: ks, .cons hk hs⟩
theorem iS {k:D} (h:cz k = true):∃ q,RKeys k q:=by
 cases k <;> first | (simp [cz] at h;done) | exact iR h
noncomputable def RO (K:PySem.W.Frag) (H:Hp) (a:Addr):O -> Prop
 | .lst ds => ∃ vs,H a = some (.lst vs) /\ RDs K H ds vs
 | .dct false kvs => ∃ ps,H a = some (.dK ps) /\ Paired (fun (p:D × D) (q:Key × V)=>RKey p.1 q.1 /\ RD K H p.2 q.2) kvs ps
 | .dct true kvs => ∃ ps,H a = some (.dT ps) /\ Paired (fun (p:D × D) (q:List Key × V)=>RKeys p.1 q.1 /\ RD K H p.2 q.2) kvs ps
 | .fdc kvs => ∃ o ps,H a = some (.frz o (.dT ps)) /\ Paired (fun (p:D × D) (q:List Key × V)=>RKeys p.1 q.1 /\ RD K H p.2 q.2) kvs ps
noncomputable def RM (K:PySem.W.Frag) (M:Mem) (H:Hp):Prop := ∀ a o,M a = some o -> RO K H a o
noncomputable def RS (K:PySem.W.Frag) (H:Hp) (σ:St) (ρ:ai):Prop := σ.length = ρ.length /\ ∀ (i:Nat) (d:D), ρ[i]? = some (some d) -> ∃ v, σ[i]? = some (some v) /\ RD K H d v
structure Ext (M:Mem) (H:Hp) (M':Mem) (H':Hp):Prop where
 kp:∀ a o,fz (M a) = true -> H a = some o -> H' a = some o
 nw:∀ a o,fz (M a) = true -> H a = some o -> M' a = M a
section
variable {K:PySem.W.Frag} {M M' M'':Mem} {H H' H'':Hp}
theorem Ext.keep (x:Ext M H M' H') (a:Addr) (o:HO) (n:M a = none) (e:H a = some o):H' a = some o:=x.kp a o (by rw [n];rfl) e
theorem Ext.new (x:Ext M H M' H') (a:Addr) (o:HO) (n:M a = none) (e:H a = some o):M' a = none:=(x.nw a o (by rw [n];rfl) e).trans n
theorem Ext.refl:Ext M H M H:=⟨fun _ _ _ h=>h,fun _ _ _ _=>rfl⟩
theorem Ext.trans (a:Ext M H M' H') (b:Ext M' H' M'' H''):Ext M H M'' H'' :=
 ⟨fun c o n h=>b.kp c o (by rw [a.nw c o n h];exact n) (a.kp c o n h),fun c o n h=>(b.nw c o (by rw [a.nw c o n h];exact n) (a.kp c o n h)).trans (a.nw c o n h)⟩
theorem RM.mut (r:RM K M H) {a:Addr} {o:O} (h:M a = some o):∃ ho,H a = some ho /\ (∀ xs,ho ≠ .tup xs) /\ (fz (some o) = false -> Mut (some ho) /\ ∀ ob u,ho ≠ .frz ob u):=by
 have q:=r a o h
 cases o with
 | lst ds =>
   obtain ⟨vs,e,_⟩:=q
   exact ⟨_,e,fun _ z=>(by cases z),fun _=>⟨trivial,fun _ _ z=>(by cases z)⟩⟩
 | dct t kvs =>
   cases t with
   | false=>obtain ⟨ps,e,_⟩:=q;exact ⟨_,e,fun _ z=>(by cases z),fun _=>⟨trivial,fun _ _ z=>(by cases z)⟩⟩
   | true=>obtain ⟨ps,e,_⟩:=q;exact ⟨_,e,fun _ z=>(by cases z),fun _=>⟨trivial,fun _ _ z=>(by cases z)⟩⟩
 | fdc kvs=>obtain ⟨ob,ps,e,_⟩:=q;exact ⟨_,e,fun _ z=>(by cases z),fun z=>(by cases z)⟩
theorem RM.fzT (r:RM K M H) {a:Addr} {xs:List V} (e:H a = some (.tup xs)):M a = none:=by
 cases q:M a with
 | none=>rfl
 | some o =>
   obtain ⟨ho,q1,q2,_⟩:=r.mut q
   rw [e] at q1;cases q1
   exact absurd rfl (q2 xs)
theorem RM.fzF (r:RM K M H) {a:Addr} {ob:Obj} {u:HO} (e:H a = some (.frz ob u)):fz (M a) = true:=by
 cases q:M a with
 | none=>rfl
 | some o =>
   obtain ⟨ho,q1,_,q2⟩:=r.mut q
   rw [e] at q1;cases q1
   cases z:fz (some o) with
   | true=>rfl
   | false=>exact absurd rfl ((q2 z).2 ob u)
theorem RM.out (r:RM K M H) {a:Addr} (h:H a = none):M a = none:=by
 cases e:M a with
 | none=>rfl
 | some o =>
   obtain ⟨ho,q,_⟩:=r.mut e
   rw [h] at q;cases q
theorem Ext.stab (r:RM K M H) (x:Ext M H M' H'):Stab H H' where
 tup:=fun a xs e=>x.keep a _ (r.fzT e) e
 frz:=fun a o u e=>x.kp a _ (r.fzF e) e
theorem RS.mono (st:Stab H H') {σ:St} {ρ:ai} (h:RS K H σ ρ):RS K H' σ ρ :=
 ⟨h.1,fun i d e=>let ⟨v,q,r⟩:=h.2 i d e; ⟨v,q,r.mono st⟩⟩
theorem RS.set {σ:St} {ρ:ai} (h:RS K H σ ρ) (i:Nat) {d:D} {v:V} (r:RD K H d v):RS K H (σ.set i (some v)) (ρ.set i (some d)):=by
 refine ⟨by simp [h.1],fun j e q => ?_⟩
 by_cases hij:i = j
 ·subst hij
  have hi:i < ρ.length:=by
   have:=(List.getElem?_eq_some_iff.mp q).1
   simpa using this
  rw [List.getElem?_set_self hi] at q
  cases q
  exact ⟨v,by rw [List.getElem?_set_self (by rw [h.1];exact hi)],r⟩
 ·rw [List.getElem?_set_ne hij] at q ⊢
  exact h.2 j e q
noncomputable def fo (fr:List (Option Nat)) (ρ:ai):ai:=fr.map fun o=>o.bind fun j=>(ρ[j]?).join
theorem RS.inh {σ:St} {ρ:ai} (h:RS K H σ ρ) (fr:List (Option Nat)):RS K H (inh fr σ) (fo fr ρ):=by
 refine ⟨by simp [L2.inh,fo],fun i d e => ?_⟩
 unfold fo at e
 unfold L2.inh
 rw [List.getElem?_map] at e ⊢
 cases q:fr[i]? with
 | none=>rw [q] at e;cases e
 | some o =>
   rw [q] at e
   cases o with
   | none=>cases e
   | some j =>
     have e':some ((ρ[j]?).join) = some (some d):=e
     cases q' : ρ[j]? with
     | none=>rw [q'] at e';cases e'
     | some w =>
       rw [q'] at e'
       cases e'
       obtain ⟨v,v1,v2⟩:=h.2 j d q'
       exact ⟨v,by simp [v1],v2⟩
theorem RO.mono (st:Stab H H') {a:Addr} {o:O} (h:RO K H a o) (e:∀ ho,H a = some ho -> H' a = some ho):RO K H' a o:=by
 cases o with
 | lst ds=>obtain ⟨vs,q,r⟩:=h;exact ⟨vs,e _ q,r.mono st⟩
 | dct t kvs =>
   cases t with
   | false=>obtain ⟨ps,q,r⟩:=h;exact ⟨ps,e _ q,Paired.mapP r fun _ _ z=>⟨z.1,z.2.mono st⟩⟩
   | true=>obtain ⟨ps,q,r⟩:=h;exact ⟨ps,e _ q,Paired.mapP r fun _ _ z=>⟨z.1,z.2.mono st⟩⟩
 | fdc kvs=>obtain ⟨ob,ps,q,r⟩:=h;exact ⟨ob,ps,e _ q,Paired.mapP r fun _ _ z=>⟨z.1,z.2.mono st⟩⟩
theorem RM.new {p:Addr} {ho:HO} (r:RM K M H) (n:H p = none):RM K M (upd H p ho):=fun a o e=>by
 have ne:a ≠ p:=fun z=>by subst z;obtain ⟨_,q,_⟩:=r.mut e;rw [n] at q;cases q
 refine (r a o e).mono ⟨fun b xs q => ?_,fun b o u q => ?_⟩ fun ho' q=>by rw [ah ne];exact q
 ·rw [ah (aF q n)];exact q
 ·rw [ah (aF q n)];exact q
theorem Ext.new' {p:Addr} {ho:HO} (n:H p = none):Ext M H M (upd H p ho):=⟨fun a o _ e=>by rw [ah (aF e n)];exact e,fun _ _ _ _=>rfl⟩
theorem RM.lay {p:Addr} {ho:HO} {o:O} (r:RM K M H) (n:H p = none) (h:RO K (upd H p ho) p o):RM K (ag M p o) (upd H p ho):=fun a o' e=>by
 by_cases z:a = p
 ·subst z;rw [ad] at e;cases e;exact h
 ·rw [ao z] at e;exact r.new n a o' e
theorem Ext.lay {p:Addr} {ho:HO} {o:O} (n:H p = none):Ext M H (ag M p o) (upd H p ho) :=
 ⟨fun a u _ e=>by rw [ah (aF e n)];exact e,fun a u m e=>by rw [ao (aF e n)]⟩
theorem RM.put {p:Addr} {ho:HO} {o o0:O} (r:RM K M H) (m:M p = some o0) (h:RO K (upd H p ho) p o) (w:fz (some o0) = false:=by rfl):RM K (ag M p o) (upd H p ho):=fun a o' e=>by
 by_cases z:a = p
 ·subst z;rw [ad] at e;cases e;exact h
 ·rw [ao z] at e
  obtain ⟨hp,q1,q2,q3⟩:=r.mut m
  refine (r a o' e).mono ⟨fun b xs q => ?_,fun b o u q => ?_⟩ fun ho' q=>by rw [ah z];exact q
  ·rw [ah (fun z=>by subst z;rw [q1] at q;cases q;exact q2 xs rfl)];exact q
  ·rw [ah (fun z=>by subst z;rw [q1] at q;cases q;exact (q3 w).2 o u rfl)];exact q
theorem Ext.put {p:Addr} {ho:HO} {o o0:O} (m:M p = some o0) (w:fz (some o0) = false:=by rfl):Ext M H (ag M p o) (upd H p ho) :=
 ⟨fun a u n e=>by rw [ah (fun z=>by subst z;rw [m,w] at n;cases n)];exact e,fun a u n e=>ao (fun z=>by subst z;rw [m,w] at n;cases n)⟩
theorem RM.stabPut {p:Addr} {ho:HO} {o0:O} (r:RM K M H) (m:M p = some o0) (w:fz (some o0) = false:=by rfl):Stab H (upd H p ho):=(Ext.put (o:=o0) (ho:=ho) m w).stab r
end
noncomputable abbrev QD:=D -> Mem -> Prop
noncomputable abbrev TEd:=ai -> Mem -> QD -> Prop
noncomputable abbrev TTd:=ai -> Mem -> (Bool -> Mem -> Prop) -> Prop
noncomputable abbrev TAd:=ai -> Mem -> (List D -> Mem -> Prop) -> Prop
structure bj where
 nx:ai -> Mem -> Prop
 rt:QD
 bk:ai -> Mem -> Prop:=fun _ _=>False
 ct:ai -> Mem -> Prop:=fun _ _=>False
noncomputable abbrev TSd:=bj -> ai -> Mem -> Prop
noncomputable def aa (T:TEd):Prop := ∀ ρ M Q Q',(∀ d M',Q d M' -> Q' d M') -> T ρ M Q -> T ρ M Q'
noncomputable def aq (T:TTd):Prop := ∀ ρ M Q Q',(∀ d M',Q d M' -> Q' d M') -> T ρ M Q -> T ρ M Q'
noncomputable def aU (T:TAd):Prop := ∀ ρ M Q Q',(∀ d M',Q d M' -> Q' d M') -> T ρ M Q -> T ρ M Q'
structure LeD (a b:bj):Prop where
 nx:∀ ρ M,a.nx ρ M -> b.nx ρ M
 rt:∀ d M,a.rt d M -> b.rt d M
 bk:∀ ρ M,a.bk ρ M -> b.bk ρ M
 ct:∀ ρ M,a.ct ρ M -> b.ct ρ M
noncomputable def au (T:TSd):Prop := ∀ a b ρ M,LeD a b -> T a ρ M -> T b ρ M
noncomputable def KE' (K:PySem.W.Frag) (M:Mem) (H:Hp) (Q:VK):QD:=fun d M' => ∀ v H',Ext M H M' H' -> RM K M' H' -> RD K H' d v -> Q v H'
noncomputable def KT' (K:PySem.W.Frag) (M:Mem) (H:Hp) (Q:Bool -> Hp -> Prop):Bool -> Mem -> Prop:=fun b M' => ∀ H',Ext M H M' H' -> RM K M' H' -> Q b H'
noncomputable def KA' (K:PySem.W.Frag) (M:Mem) (H:Hp) (Q:List V -> Hp -> Prop):List D -> Mem -> Prop:=fun ds M' => ∀ vs H',Ext M H M' H' -> RM K M' H' -> RDs K H' ds vs -> Q vs H'
noncomputable def lE (K:PySem.W.Frag) (T:TEd):TE:=fun σ H Q => ∃ ρ M,RS K H σ ρ /\ RM K M H /\ T ρ M (KE' K M H Q)
noncomputable def lT (K:PySem.W.Frag) (T:TTd):TT:=fun σ H Q => ∃ ρ M,RS K H σ ρ /\ RM K M H /\ T ρ M (KT' K M H Q)
noncomputable def lA (K:PySem.W.Frag) (T:TAd):TA:=fun σ H Q => ∃ ρ M,RS K H σ ρ /\ RM K M H /\ T ρ M (KA' K M H Q)
structure Link (K:PySem.W.Frag) (M:Mem) (H:Hp) (a:bj) (b:aZ):Prop where
 nx:∀ ρ M' σ H',Ext M H M' H' -> RS K H' σ ρ -> RM K M' H' -> a.nx ρ M' -> b.nx σ H'
 rt:∀ d M' v H',Ext M H M' H' -> RM K M' H' -> RD K H' d v -> a.rt d M' -> b.rt v H'
 bk:∀ ρ M' σ H',Ext M H M' H' -> RS K H' σ ρ -> RM K M' H' -> a.bk ρ M' -> b.bk σ H'
 ct:∀ ρ M' σ H',Ext M H M' H' -> RS K H' σ ρ -> RM K M' H' -> a.ct ρ M' -> b.ct σ H'
noncomputable def lS (K:PySem.W.Frag) (T:TSd):TS:=fun D σ H => ∃ ρ M A,RS K H σ ρ /\ RM K M H /\ Link K M H A D /\ T A ρ M
theorem Link.ext {K:PySem.W.Frag} {M M':Mem} {H H':Hp} {a:bj} {b:aZ} (l:Link K M H a b) (x:Ext M H M' H'):Link K M' H' a b :=
 ⟨fun ρ M2 σ H2 y=>l.nx ρ M2 σ H2 (x.trans y),fun d M2 v H2 y=>l.rt d M2 v H2 (x.trans y),fun ρ M2 σ H2 y=>l.bk ρ M2 σ H2 (x.trans y),fun ρ M2 σ H2 y=>l.ct ρ M2 σ H2 (x.trans y)⟩
theorem PE.imp {X:Cx} {e:Expr} {t t':TE} (h:PE X e t) (i:∀ σ H Q,t' σ H Q -> t σ H Q):PE X e t':=fun pins s σ H Q I q=>h pins s σ H Q I (i _ _ _ q)
theorem PT.imp {X:Cx} {e:Expr} {t t':TT} (h:PT X e t) (i:∀ σ H Q,t' σ H Q -> t σ H Q):PT X e t':=fun pins s σ H Q I q=>h pins s σ H Q I (i _ _ _ q)
theorem PW.imp {X:Cx} {e:Expr} {t t':TT} (h:PW X e t) (i:∀ σ H Q,t' σ H Q -> t σ H Q):PW X e t':=fun wh pins s σ H Q I q=>h wh pins s σ H Q I (i _ _ _ q)
theorem PA.imp {X:Cx} {e:List Expr} {t t':TA} (h:PA X e t) (i:∀ σ H Q,t' σ H Q -> t σ H Q):PA X e t':=fun p pins s σ H Q I q=>h p pins s σ H Q I (i _ _ _ q)
theorem PS.imp {X:Cx} {e:Stmt} {t t':TS} (h:PS X e t) (i:∀ D σ H,t' D σ H -> t D σ H):PS X e t':=fun pins s σ H D I q=>h pins s σ H D I (i _ _ _ q)
theorem PSs.imp {X:Cx} {e:List Stmt} {t t':TS} (h:PSs X e t) (i:∀ D σ H,t' D σ H -> t D σ H):PSs X e t':=fun pins s σ H D I q=>h pins s σ H D I (i _ _ _ q)
end Mi
end L2
namespace L2
namespace Mi
open PySem PySem.Spec PyProof.Rows
theorem KE'.ext {K:PySem.W.Frag} {M M2 M':Mem} {H H2:Hp} {Q:VK} {d:D} (x:Ext M H M2 H2) (h:KE' K M H Q d M'):KE' K M2 H2 Q d M':=fun v H' y=>h v H' (x.trans y)
theorem KT'.ext {K:PySem.W.Frag} {M M2 M':Mem} {H H2:Hp} {Q:Bool -> Hp -> Prop} {d:Bool} (x:Ext M H M2 H2) (h:KT' K M H Q d M'):KT' K M2 H2 Q d M':=fun H' y=>h H' (x.trans y)
theorem KA'.ext {K:PySem.W.Frag} {M M2 M':Mem} {H H2:Hp} {Q:List V -> Hp -> Prop} {d:List D} (x:Ext M H M2 H2) (h:KA' K M H Q d M'):KA' K M2 H2 Q d M':=fun v H' y=>h v H' (x.trans y)
noncomputable abbrev R2d:=D -> D -> Mem -> QD -> Prop
noncomputable abbrev R1d:=D -> Mem -> QD -> Prop
noncomputable abbrev RAd:=List D -> Mem -> QD -> Prop
noncomputable def av (r:R2d):Prop := ∀ x y M Q Q',(∀ d M',Q d M' -> Q' d M') -> r x y M Q -> r x y M Q'
noncomputable def gh (r:R1d):Prop := ∀ x M Q Q',(∀ d M',Q d M' -> Q' d M') -> r x M Q -> r x M Q'
noncomputable def aG (r:RAd):Prop := ∀ x M Q Q',(∀ d M',Q d M' -> Q' d M') -> r x M Q -> r x M Q'
noncomputable def l2 (K:PySem.W.Frag) (rd:R2d):R2:=fun v u H Q => ∃ x y M,RM K M H /\ RD K H x v /\ RD K H y u /\ rd x y M (KE' K M H Q)
noncomputable def l1 (K:PySem.W.Frag) (rd:R1d):V -> Hp -> VK -> Prop:=fun v H Q => ∃ x M,RM K M H /\ RD K H x v /\ rd x M (KE' K M H Q)
noncomputable def lR (K:PySem.W.Frag) (rd:RAd):List V -> Hp -> VK -> Prop:=fun vs H Q => ∃ ds M,RM K M H /\ RDs K H ds vs /\ rd ds M (KE' K M H Q)
noncomputable def lMt (K:PySem.W.Frag) (rd:D -> List D -> Mem -> QD -> Prop):V -> List V -> Hp -> VK -> Prop:=fun v vs H Q => ∃ x ds M,RM K M H /\ RD K H x v /\ RDs K H ds vs /\ rd x ds M (KE' K M H Q)
noncomputable def dQ (i:Nat):TEd:=fun ρ M Q => ∃ d, ρ[i]? = some (some d) /\ Q d M
noncomputable def wC (d:D):TEd:=fun _ M Q=>Q d M
noncomputable def wOp (rd:R2d) (ta tb:TEd):TEd:=fun ρ M Q=>ta ρ M fun x M1=>tb ρ M1 fun y M2=>rd x y M2 Q
noncomputable def wUn (rd:R1d) (ta:TEd):TEd:=fun ρ M Q=>ta ρ M fun x M1=>rd x M1 Q
noncomputable def bH:TAd:=fun _ M Q=>Q [] M
noncomputable def bf (ta:TEd) (tr:TAd):TAd:=fun ρ M Q=>ta ρ M fun x M1=>tr ρ M1 fun xs M2=>Q (x :: xs) M2
noncomputable def wAr (rd:RAd) (t:TAd):TEd:=fun ρ M Q=>t ρ M fun ds M1=>rd ds M1 Q
theorem mQ {i:Nat}:aa (dQ i):=fun _ _ _ _ h ⟨d,e,q⟩=>⟨d,e,h _ _ q⟩
theorem gG {d:D}:aa (wC d):=fun _ _ _ _ h q=>h _ _ q
theorem cA {rd:R2d} {ta tb:TEd} (hr:av rd) (ha:aa ta) (hb:aa tb):aa (wOp rd ta tb):=fun ρ M Q Q' h q =>
 ha _ _ _ _ (fun x M1 q1=>hb _ _ _ _ (fun y M2 q2=>hr _ _ _ _ _ h q2) q1) q
theorem pz {rd:R1d} {ta:TEd} (hr:gh rd) (ha:aa ta):aa (wUn rd ta):=fun ρ M Q Q' h q=>ha _ _ _ _ (fun x M1 q1=>hr _ _ _ _ h q1) q
theorem aD:aU bH:=fun _ _ _ _ h q=>h _ _ q
theorem aR {ta:TEd} {tr:TAd} (ha:aa ta) (hr:aU tr):aU (bf ta tr):=fun ρ M Q Q' h q =>
 ha _ _ _ _ (fun x M1 q1=>hr _ _ _ _ (fun xs M2 q2=>h _ _ q2) q1) q
theorem du {rd:RAd} {t:TAd} (hr:aG rd) (ht:aU t):aa (wAr rd t):=fun ρ M Q Q' h q=>ht _ _ _ _ (fun ds M1 q1=>hr _ _ _ _ h q1) q
section
variable {X:Cx} {a b:Expr} {ta tb:TEd} {pos:Pos}
theorem rj {i:Nat} {x:Str} (hN:X.N[i]? = some x) (hv:Vis X.env.scope x) (hd:(x == ("__debug__":Str)) = false) (hcd:(x == ("__classdict__":Str)) = false):PE X (.Name x pos) (lE X.K (dQ i)):=by
 refine PE.imp (qC hN hv hd hcd) fun σ H Q h => ?_
 obtain ⟨ρ,M,rs,rm,d,e,q⟩:=h
 obtain ⟨v,hv,rd⟩:=rs.2 i d e
 exact ⟨v,hv,q v H Ext.refl rm rd⟩
theorem rl {i:Int} {j:Nat}:PE X (.Constant (.int i) j pos) (lE X.K (wC (.int i))) :=
 PE.imp qD fun σ H Q ⟨ρ,M,rs,rm,q⟩=>q _ H Ext.refl rm (RD.int_iff.mpr rfl)
theorem sZ {i:Bool} {j:Nat}:PE X (.Constant (.bool i) j pos) (lE X.K (wC (.bl i))) :=
 PE.imp sC fun σ H Q ⟨ρ,M,rs,rm,q⟩=>q _ H Ext.refl rm (RD.bl_iff.mpr rfl)
theorem rn {x:Str} {j:Nat}:PE X (.Constant (.str x) j pos) (lE X.K (wC (.str x))) :=
 PE.imp qE fun σ H Q ⟨ρ,M,rs,rm,q⟩=>q _ H Ext.refl rm (RD.str_iff.mpr rfl)
theorem dv {K:PySem.W.Frag} {rd:R2d} (hr:av rd) (ma:aa ta) (mb:aa tb) (σ:St) (H:Hp) (Q:VK) (h:lE K (wOp rd ta tb) σ H Q):tOp (l2 K rd) (lE K ta) (lE K tb) σ H Q:=by
 obtain ⟨ρ,M,rs,rm,q⟩:=h
 refine ⟨ρ,M,rs,rm,ma _ _ _ _ (fun x M1 q1 v H1 x1 rm1 rd1 => ?_) q⟩
 refine ⟨ρ,M1,rs.mono (x1.stab rm),rm1,mb _ _ _ _ (fun y M2 q2 u H2 x2 rm2 rd2 => ?_) q1⟩
 exact ⟨x,y,M2,rm2,rd1.mono (x2.stab rm1),rd2,hr _ _ _ _ _ (fun d M' k=>k.ext (x1.trans x2)) q2⟩
theorem t3 {op:Operator} {rd:R2d} (ho:OpR X (binaryOp op) (l2 X.K rd)) (hr:av rd) (ma:aa ta) (mb:aa tb) (ha:PE X a (lE X.K ta)) (hb:PE X b (lE X.K tb)):PE X (.BinOp a op b pos) (lE X.K (wOp rd ta tb)) :=
 PE.imp (sL ho ha hb) (dv hr ma mb)
theorem rp {op:CmpOp} {rd:R2d} (ho:OpR X (compareOp op) (l2 X.K rd)) (hr:av rd) (ma:aa ta) (mb:aa tb) (ha:PE X a (lE X.K ta)) (hb:PE X b (lE X.K tb)) (hm:behindInMarks op b = false) :
 PE X (.Compare a [op] [b] pos) (lE X.K (wOp rd ta tb)):=PE.imp (p7 ho ha hb hm) (dv hr ma mb)
noncomputable def dR (t:TEd):TTd:=fun ρ M Q=>t ρ M fun x M1 => ∃ k,x = .bl k /\ Q k M1
theorem mR {t:TEd} (h:aa t):aq (dR t):=fun ρ M Q Q' i q=>h _ _ _ _ (fun x M1 ⟨k,e,q1⟩=>⟨k,e,i _ _ q1⟩) q
theorem mU {K:PySem.W.Frag} {t:TEd} (m:aa t) (σ:St) (H:Hp) (Q:Bool -> Hp -> Prop) (h:lT K (dR t) σ H Q):ou (lE K t) σ H Q:=by
 obtain ⟨ρ,M,rs,rm,q⟩:=h
 refine ⟨ρ,M,rs,rm,m _ _ _ _ (fun x M1 ⟨k,e,q1⟩ v H1 x1 rm1 rd1 => ?_) q⟩
 subst e
 exact ⟨k,RD.bl_iff.mp rd1,q1 H1 x1 rm1⟩
theorem rq {op:CmpOp} {rd:R2d} (ho:OpR X (compareOp op) (l2 X.K rd)) (hr:av rd) (ma:aa ta) (mb:aa tb) (ha:PE X a (lE X.K ta)) (hb:PE X b (lE X.K tb)) (hm:behindInMarks op b = false) :
 PT X (.Compare a [op] [b] pos) (lT X.K (dR (wOp rd ta tb))) :=
 PT.imp (p8 ho ha hb hm) fun σ H Q h=>by
  have h1:=mU (cA hr ma mb) σ H Q h
  exact dv hr ma mb σ H _ h1
theorem t4 {op:UnaryOp} {rd:R1d} (ho:UnR X (unaryOp op) (l1 X.K rd)) (hr:gh rd) (ma:aa ta) (ha:PE X a (lE X.K ta)):PE X (.UnaryOp op a pos) (lE X.K (wUn rd ta)) :=
 PE.imp (sM ho ha) fun σ H Q ⟨ρ,M,rs,rm,q⟩=>⟨ρ,M,rs,rm,ma _ _ _ _ (fun x M1 q1 v H1 x1 rm1 rd1=>⟨x,M1,rm1,rd1,hr _ _ _ _ (fun d M' k=>k.ext x1) q1⟩) q⟩
theorem t5 {rd:R2d} (ho:IxR X (l2 X.K rd)) (hr:av rd) (ma:aa ta) (mb:aa tb) (ha:PE X a (lE X.K ta)) (hb:PE X b (lE X.K tb)) (hs:fj b):PE X (.Subscript a b pos) (lE X.K (wOp rd ta tb)) :=
 PE.imp (sV ho ha hb hs) (dv hr ma mb)
theorem cB:PA X [] (lA X.K bH):=PA.imp kB fun σ H Q ⟨ρ,M,rs,rm,q⟩=>q _ H Ext.refl rm RDs.nil
theorem kK {K:PySem.W.Frag} {tr:TAd} (ma:aa ta) (mr:aU tr) (σ:St) (H:Hp) (Q:List V -> Hp -> Prop) (h:lA K (bf ta tr) σ H Q):ow (lE K ta) (lA K tr) σ H Q:=by
 obtain ⟨ρ,M,rs,rm,q⟩:=h
 refine ⟨ρ,M,rs,rm,ma _ _ _ _ (fun x M1 q1 v H1 x1 rm1 rd1 => ?_) q⟩
 refine ⟨ρ,M1,rs.mono (x1.stab rm),rm1,mr _ _ _ _ (fun xs M2 q2 vs H2 x2 rm2 rd2 => ?_) q1⟩
 exact q2 (v :: vs) H2 (x1.trans x2) rm2 (RDs.cons (rd1.mono (x2.stab rm1)) rd2)
theorem bI {e:Expr} {es:List Expr} {tr:TAd} (ma:aa ta) (mr:aU tr) (ha:PE X e (lE X.K ta)) (hr:PA X es (lA X.K tr)) (hs:starEach (e :: es) X.env = (false,eval e X.env) :: starEach es X.env) :
 PA X (e :: es) (lA X.K (bf ta tr)):=PA.imp (fh ha hr hs) (kK ma mr)
theorem bd {K:PySem.W.Frag} {rd:RAd} {t:TAd} (hr:aG rd) (mt:aU t) (σ:St) (H:Hp) (Q:VK) (h:lE K (wAr rd t) σ H Q):tCB (lR K rd) (lA K t) σ H Q:=by
 obtain ⟨ρ,M,rs,rm,q⟩:=h
 exact ⟨ρ,M,rs,rm,mt _ _ _ _ (fun ds M1 q1 vs H1 x1 rm1 rd1=>⟨ds,M1,rm1,rd1,hr _ _ _ _ (fun d M' k=>k.ext x1) q1⟩) q⟩
noncomputable def gH:RAd:=fun ds M Q=>ds.length <= sizeLine /\ Q (.tup ds) M
noncomputable def gI:RAd:=fun ds M Q=>ds.length <= sizeLine /\ ∀ p,M p = none -> Q (.ref p) (ag M p (.lst ds))
theorem kL:aG gH:=fun _ _ _ _ h ⟨z,q⟩=>⟨z,h _ _ q⟩
theorem kM:aG gI:=fun _ _ _ _ h ⟨z,q⟩=>⟨z,fun p n=>h _ _ (q p n)⟩
theorem ca {K:PySem.W.Frag} {M:Mem} {H:Hp} {Q:VK} {ds:List D} {vs:List V} {p:Addr} (rm:RM K M H) (rd:RDs K H ds vs) (q:KE' K M H Q (.tup ds) M) (n:H p = none):Q (.ref p) (upd H p (.tup vs)):=by
 have x:Ext M H M (upd H p (.tup vs)):=Ext.new' n
 exact q (.ref p) _ x (rm.new n) (RD.tup_iff.mpr ⟨p,vs,rfl,aL,rd.mono (x.stab rm)⟩)
theorem bJ {K:PySem.W.Frag} {M:Mem} {H:Hp} {Q:VK} {ds:List D} {vs:List V} {p:Addr} (rm:RM K M H) (rd:RDs K H ds vs) (q:∀ p,M p = none -> KE' K M H Q (.ref p) (ag M p (.lst ds))) (n:H p = none):Q (.ref p) (upd H p (.lst vs)):=by
 have x:Ext M H (ag M p (.lst ds)) (upd H p (.lst vs)):=Ext.lay n
 have x0:Ext M H M (upd H p (.lst vs)):=Ext.new' n
 exact q p (rm.out n) (.ref p) _ x (rm.lay n ⟨vs,aL,rd.mono (x0.stab rm)⟩) (RD.ref_iff.mpr rfl)
theorem rz {es:List Expr} {t:TAd} {k:Nat} (mt:aU t) (h:PA X es (lA X.K t)):PE X (.Tuple es k pos) (lE X.K (wAr gH t)) :=
 PE.imp (qZ h) fun σ H Q ⟨ρ,M,rs,rm,q⟩=>⟨ρ,M,rs,rm,mt _ _ _ _ (fun ds M1 ⟨z,q1⟩ vs H1 x1 rm1 rd1=>⟨by rw [rd1.length];exact z,fun p n=>ca rm1 rd1 (q1.ext x1) n⟩) q⟩
theorem rA {es:List Expr} {t:TAd} (mt:aU t) (h:PA X es (lA X.K t)):PE X (.List es pos) (lE X.K (wAr gI t)) :=
 PE.imp (r6 h) fun σ H Q ⟨ρ,M,rs,rm,q⟩=>⟨ρ,M,rs,rm,mt _ _ _ _ (fun ds M1 ⟨z,q1⟩ vs H1 x1 rm1 rd1=>⟨by rw [rd1.length];exact z,fun p n=>bJ rm1 rd1 (fun p' n'=>(q1 p' n').ext x1) n⟩) q⟩
end
end Mi
end L2
namespace L2
open PySem PySem.Spec PyProof.Rows
section
variable {X:Cx}
end
namespace Mi
section
variable {X:Cx}
end
end Mi
end L2
namespace L2
open PySem PySem.Spec PyProof.Rows
theorem dS:fillsNumberSlot (.type "tuple") "mul" = pure false :=
 PyProof.Rows.fillsNumberSlot_seq (id := "tuple.__mul__") (r:=some (.builtin "tuple.__rmul__")) F.slot_tuple_mul.lookup (by decide +kernel) F.slot_tuple_rmul.lookup (by decide +kernel)
theorem gJ:seqRepeat? (.type "tuple") = pure (some (.builtin "tuple.__mul__")):=by
 unfold seqRepeat?
 rw [PyProof.Rows.seqSlot_of (T := "tuple") (name := "__mul__") (id := "tuple.__mul__") F.slot_tuple_mul.lookup (by decide +kernel),PyProof.Rows.seqSlot_of (T := "tuple") (name := "__rmul__") (id := "tuple.__rmul__") F.slot_tuple_rmul.lookup (by decide +kernel)]
 rfl
theorem fq (a:Int) (t:Tok) (l:Addr) (items:Array Value) (n:Nat) (d:Option Addr) (sl:Array (Option Value)) :
 Meets (Builtin.«int.__rmul__» ⟨[.int a t, .ref l],[]⟩) (fun _ R s=>s.heap.get? l = some { cls := .type "tuple",dict:=d,data := .seq items n,slots:=sl } /\ R (.ok (.ret Value.notImplemented)) s) :=
 .of_wp fun prog w A R s h=>by obtain ⟨hp,g,d,tk,os⟩:=s;obtain ⟨hl,h⟩:=h;wp_walk;exact ⟨_,rfl,h⟩
open AutoSeq1 (wpAny_loadPart') in
theorem kN (l:Addr) (items:Array Value) (n:Nat) (dd:Option Addr) (sl:Array (Option Value)) (x:Int) (u:Tok) (h1 : -(2 ^ 63) <= x) (h2:x < 2 ^ 63) (hz:items.size * x.toNat <= sizeLine) :
 Meets (Builtin.«tuple.__mul__» ⟨[.ref l, .int x u],[]⟩) (fun _ R s=>s.heap.get? l = some { cls := .type "tuple",dict:=dd,data := .seq items n,slots:=sl } /\
  (if items.isEmpty || x == 1 then R (.ok (.ret (.ref l))) s else R (.ok (.ret (.ref s.heap.objs.size))) { s with heap:=s.heap.push { cls := .type "tuple",data := .seq ((List.replicate x.toNat items).foldl (· ++ ·) #[]) } })) :=
 .of_wp fun prog w A R s h=>by
  obtain ⟨hp,g,d,tk,os⟩:=s;obtain ⟨hl,h⟩:=h
  have f1:=AutoSeq1.idx_int
  have c0:(decide (x < -(2 ^ 63)) || decide (x ≥ 2 ^ 63)) = false:=by
   rw [decide_eq_false (by omega),decide_eq_false (by omega)];rfl
  wp_walk using wpAny_loadPart' hl
  refine wpAny_ite_false (decide_eq_false (by rw [c0];decide)) ?_
  dsimp only
  by_cases e1:(items.isEmpty || x == 1) = true
  ·rw [if_pos e1] at h
   wp_walk using wpAny_loadPart' hl
   exact ⟨_,rfl,h⟩
  ·rw [if_neg e1] at h
   wp_walk using wpAny_loadPart' hl
   simp only [Bool.or_eq_true,not_or] at e1
   by_cases e2:x <= 0
   ·have e3:(decide (x <= 0) || items.isEmpty) = true:=by rw [decide_eq_true e2];rfl
    rw [if_pos e3]
    have e4:x.toNat = 0:=by omega
    rw [e4] at h
    wp_walk
    exact ⟨_,rfl,h⟩
   ·have e3 : ¬ (decide (x <= 0) || items.isEmpty) = true:=by simp;exact ⟨by omega,by simpa using e1.1⟩
    rw [if_neg e3]
    have hx:((items.size:Nat):Int) * x = ((items.size * x.toNat:Nat):Int):=by
     rw [Int.natCast_mul,Int.toNat_of_nonneg (by omega)]
    have hs:sizeLine = 16777216:=sizeLine_eq
    have e5 : ¬ ((items.size:Nat):Int) * x > (2 ^ 63 - 1) / 8:=by rw [hx];omega
    rw [if_neg e5]
    have e6 : ¬ Builtin.Tuple.tupleTooMany (((items.size:Nat):Int) * x) = true:=by
     rw [hx];unfold Builtin.Tuple.tupleTooMany
     intro h6;have h7:=of_decide_eq_true h6;omega
    rw [if_neg e6]
    wp_walk
    have hsz:((List.replicate x.toNat items).foldl (· ++ ·) #[]).size <= sizeLine:=by
     have:∀ (k:Nat) (a:Array Value),((List.replicate k items).foldl (· ++ ·) a).size = a.size + items.size * k:=by
      intro k;induction k with
      | zero=>intro a;simp
      | succ k ih=>intro a;rw [List.replicate_succ,List.foldl_cons,ih,Array.size_append,Nat.mul_succ];omega
     rw [this];simpa using hz
    refine wpAny_ite_false (decide_eq_false (Nat.not_lt.mpr hsz)) ?_
    wp_walk
    exact ⟨_,rfl,h⟩
end L2
namespace L2
open PySem PySem.Spec PyProof.Rows
section
variable {X:Cx}
noncomputable def oF (K:PySem.W.Frag):R2:=fun x y H Q => ∃ l k xs,x = .ref l /\ y = .int k /\ SqT K H l xs /\ -(2 ^ 63) <= k /\ k < 2 ^ 63 /\ xs.length * k.toNat <= sizeLine /\
 ((xs = [] ∨ k = 1) -> Q (.ref l) H) /\ (¬ (xs = [] ∨ k = 1) -> ∀ p,H p = none -> Q (.ref p) (upd H p (.tup (List.replicate k.toNat xs).flatten)))
theorem pA:OpR X (binaryOp .Mult) (oF X.K):=by
 intro pins s σ H x y v u Q I rx ry h
 obtain ⟨l,k,xs,rfl,rfl,hH,h1,h2,hz,q1,q2⟩:=h
 cases rx
 obtain ⟨t,rfl⟩:=ry
 obtain ⟨its,r,p1,_⟩:=I.tuple hH
 have hl:=r.length
 obtain ⟨⟨cls,dd,dat,sl⟩,e,hc,n,hd⟩:=p1
 dsimp only at hc hd
 subst hc hd
 have hlen:its.toArray.size * k.toNat <= sizeLine:=by rw [List.size_toArray, <- hl];exact hz
 have f0:∀ m:Nat,List.foldl (fun x1 x2=>x1 ++ x2) #[] (List.replicate m its.toArray) = (List.replicate m its).flatten.toArray:=fun m=>by
  have:=cV its m []
  rw [List.nil_append] at this
  exact this
 refine wpAny_binaryOp_repeat_ref (T := "tuple") (U := "int") (by decide) ⟨_,e,rfl⟩ (fun s'=>typeIs_int s' k t) dS F.fills_int_mul F.slot_int_rmul gJ F.slot_int_index.lookup
  (call_meets F.slot_int_rmul (typeIs_int s k t) F.entry_int_rmul (F.args_int_rmul_2 _ _) (fq k t l its.toArray n dd sl)
    ⟨e,rfl,⟨_,e,rfl⟩,call_meets F.slot_tuple_mul ⟨_,e,rfl⟩ F.entry_tuple_mul (F.args_tuple_mul_2 _ _) (kN l its.toArray n dd sl k t h1 h2 hlen) ⟨e, ?_⟩⟩)
 have hi:(its.toArray.isEmpty || k == 1) = true ↔ (xs = [] ∨ k = 1):=by
  rw [<- r.nil_iff];simp
 split
 ·next c=>exact ⟨.ref l,H,I,rfl,q1 (hi.mp c)⟩
 ·next c =>
  rw [f0]
  refine ⟨.ref s.heap.objs.size,_,I.laid (t':=s.toks) (o := .tup (List.replicate k.toNat xs).flatten) (fun b ob q=>Heap.get?_push_of_some _ q) (Nat.le_refl _) ?_,rfl,q2 (fun z=>c (hi.mpr z)) _ (I.hok.fresh (Nat.le_refl _))⟩
  exact ⟨by rw [iP,Nat.mul_comm];exact hz,_,r.rep k.toNat,IsTup.new _ _⟩
end
end L2
namespace L2
open PySem PySem.Spec PyProof.Rows
section
variable {X:Cx}
theorem pB:OpR X (binaryOp .Add) (fun x y H Q => ∃ a b ys,x = .ref a /\ y = .ref b /\ SqT X.K H a [] /\ SqT X.K H b ys /\ Q (.ref b) H):=by
 intro pins s σ H x y v u Q I rx ry h
 obtain ⟨a,b,ys,rfl,rfl,ha,hb,q⟩:=h
 cases rx
 cases ry
 obtain ⟨its,r1,p1,_⟩:=I.tuple ha
 obtain ⟨its2,r2,p2,_⟩:=I.tuple hb
 have e0:its = []:=r1.nil_iff.mpr rfl
 obtain ⟨⟨cls,dd,data,sl⟩,ho,hc,n,hd⟩:=id p1
 obtain ⟨⟨cls2,dd2,data2,sl2⟩,ho2,hc2,n2,hd2⟩:=id p2
 simp only at hc hd hc2 hd2
 subst hc hd hc2 hd2
 exact concat_meets ⟨_,ho,rfl⟩ ⟨_,ho2,rfl⟩ noFill_tuple_add seq_tuple_add PySem.F.slot_tuple_add PySem.F.entry_tuple_add (PySem.F.args_tuple_add_2 _ _)
  (tuple_addW0 a b its.toArray its2.toArray n n2 dd dd2 sl sl2 (by simp [e0])) ⟨ho,ho2,⟨.ref b,H,I,rfl,q⟩⟩
end
end L2
namespace L2
namespace Mi
open PySem PySem.Spec PyProof.Rows
section
variable {X:Cx}
end
end Mi
end L2
namespace L2
namespace Mi
open PySem PySem.Spec PyProof.Rows
noncomputable def MulOk (i j:Int):Prop:=(-(2 ^ 64) < i /\ i < 2 ^ 64) ∨ (-(2 ^ 64) < j /\ j < 2 ^ 64) ∨ (Builtin.Int.intBits i <= 2 ^ 20 /\ Builtin.Int.intBits j <= 2 ^ 20)
theorem MulOk.ok {i j:Int} (h:MulOk i j):IntMulOk i j:=by
 rcases h with h | h | h
 ·exact IntMulOk.of_left (intBits_le_64 h.1 h.2)
 ·exact IntMulOk.of_right (intBits_le_64 h.1 h.2)
 ·exact IntMulOk.of_bits h.1 h.2
noncomputable def cX:R2d
 | .int i, .int j,M,Q=>Q (.int (i + j)) M
 | .tup a, .tup b,M,Q=>(a ≠ [] ∨ True) /\ a.length + b.length <= sizeLine /\ Q (.tup (a ++ b)) M
 | .ref a, .ref b,M,Q => ∃ xs ys,M a = some (.lst xs) /\ M b = some (.lst ys) /\ xs.length + ys.length <= sizeLine /\ ∀ p,M p = none -> Q (.ref p) (ag M p (.lst (xs ++ ys)))
 | .str x, .str y,M,Q=>x.length + y.length <= sizeLine /\ Q (.str (x ++ y)) M
 | _,_,_,_=>False
noncomputable def jt:R2d
 | .int i, .int j,M,Q=>Q (.int (i - j)) M
 | _,_,_,_=>False
noncomputable def fu:R2d
 | .int i, .int j,M,Q=>MulOk i j /\ Q (.int (i * j)) M
 | .ref a, .int k,M,Q => ∃ xs,M a = some (.lst xs) /\ -(2 ^ 63) <= k /\ k < 2 ^ 63 /\ xs.length * k.toNat <= sizeLine /\ ∀ p,M p = none -> Q (.ref p) (ag M p (.lst (List.replicate k.toNat xs).flatten))
 | .tup ds, .int k,M,Q => -(2 ^ 63) <= k /\ k < 2 ^ 63 /\ ds.length * k.toNat <= sizeLine /\ Q (.tup (List.replicate k.toNat ds).flatten) M
 | _,_,_,_=>False
noncomputable def gi:R2d
 | .int i, .int j,M,Q => 0 < j /\ j < 2 ^ 256 /\ Q (.int (i / j)) M
 | _,_,_,_=>False
noncomputable def ju:R2d
 | .int i, .int j,M,Q => 0 < j /\ Q (.int (i % j)) M
 | _,_,_,_=>False
noncomputable def jv:R2d
 | .int i, .int j,M,Q => 0 <= j /\ j <= 1000000 /\ i.natAbs < 2 ^ 64 /\ Q (.int (i ^ j.toNat)) M
 | _,_,_,_=>False
theorem gK:av cX:=by
 intro x y M Q Q' h q
 cases x <;> cases y <;> first
  | exact q.elim
  | exact h _ _ q
  | exact ⟨q.1,h _ _ q.2⟩
  | exact ⟨q.1,q.2.1,h _ _ q.2.2⟩
  | (obtain ⟨xs,ys,e1,e2,z,q⟩:=q;exact ⟨xs,ys,e1,e2,z,fun p n=>h _ _ (q p n)⟩)
theorem mV:av jt:=by
 intro x y M Q Q' h q
 cases x <;> cases y <;> first | exact q.elim | exact h _ _ q
theorem mW:av fu:=by
 intro x y M Q Q' h q
 cases x <;> cases y <;> first
  | exact q.elim
  | exact ⟨q.1,h _ _ q.2⟩
  | exact ⟨q.1,q.2.1,q.2.2.1,h _ _ q.2.2.2⟩
  | (obtain ⟨xs,e1,z1,z2,z3,q⟩:=q;exact ⟨xs,e1,z1,z2,z3,fun p n=>h _ _ (q p n)⟩)
theorem kO:av gi:=by
 intro x y M Q Q' h q
 cases x <;> cases y <;> first | exact q.elim | exact ⟨q.1,q.2.1,h _ _ q.2.2⟩
theorem mX:av ju:=by
 intro x y M Q Q' h q
 cases x <;> cases y <;> first | exact q.elim | exact ⟨q.1,h _ _ q.2⟩
theorem mY:av jv:=by
 intro x y M Q Q' h q
 cases x <;> cases y <;> first | exact q.elim | exact ⟨q.1,q.2.1,q.2.2.1,h _ _ q.2.2.2⟩
section
variable {X:Cx}
theorem OpR.of {f:Value -> Value -> Sem Value} {r r':R2} (h:OpR X f r) (i:∀ v u H Q,r' v u H Q -> r v u H Q):OpR X f r':=fun pins s σ H x y v u Q I rx ry q=>h pins s σ H x y v u Q I rx ry (i _ _ _ _ q)
theorem IxR.of {r r':R2} (h:IxR X r) (i:∀ v u H Q,r' v u H Q -> r v u H Q):IxR X r':=fun a b pins s σ H x y v u Q I rx ry q=>h a b pins s σ H x y v u Q I rx ry (i _ _ _ _ q)
theorem CallR.of {f:Value} {r r':List V -> Hp -> VK -> Prop} (h:CallR X f r) (i:∀ vs H Q,r' vs H Q -> r vs H Q):CallR X f r':=fun pins s σ H xs us Q I rx q=>h pins s σ H xs us Q I rx (i _ _ _ q)
theorem t6 {K:PySem.W.Frag} {M:Mem} {H:Hp} {Q:VK} {a b:List D} {v u:V} (rm:RM K M H) (rx:RD K H (.tup a) v) (ry:RD K H (.tup b) u) (q:cX (.tup a) (.tup b) M (KE' K M H Q)):oy K v u H Q ∨ ∃ a b ys,v = .ref a /\ u = .ref b /\ SqT K H a [] /\ SqT K H b ys /\ Q (.ref b) H:=by
 obtain ⟨a',vs,rfl,ha,r1⟩:=RD.tup_iff.mp rx
 obtain ⟨b',us,rfl,hb,r2⟩:=RD.tup_iff.mp ry
 obtain ⟨_,z2,q⟩:=q
 have l1:=r1.length
 have l2:=r2.length
 by_cases z1:a = []
 ·subst z1
  have:vs = []:=RDs.nil_iff.mp r1
  subst this
  exact .inr ⟨a',b',us,rfl,rfl,SqT.of ha,SqT.of hb,q _ H Ext.refl rm ry⟩
 refine .inl ⟨a',b',vs,us,rfl,rfl,SqT.of ha,SqT.of hb,fun e=>z1 (List.length_eq_zero_iff.mp (by rw [<- l1,e];rfl)),by omega,fun e => ?_,fun _ p n=>ca rm (r1.append r2) q n⟩
 have eb:b = []:=List.length_eq_zero_iff.mp (by rw [<- l2,e];rfl)
 subst eb
 rw [List.append_nil] at q
 exact q _ H Ext.refl rm rx
theorem gL:OpR X (binaryOp .Add) (l2 X.K cX):=by
 refine OpR.of (op_add.or ((op_catT.or pB).or (op_cat.or jh))) fun v u H Q h => ?_
 obtain ⟨x,y,M,rm,rx,ry,q⟩:=h
 cases x <;> cases y <;> first
  | exact q.elim
  | (cases RD.int_iff.mp rx;cases RD.int_iff.mp ry;exact .inl ⟨_,_,rfl,rfl,q _ H Ext.refl rm (RD.int_iff.mpr rfl)⟩)
  | exact .inr (.inl (t6 rm rx ry q))
  | (cases RD.ref_iff.mp rx;cases RD.ref_iff.mp ry
     obtain ⟨xs,ys,e1,e2,z,q⟩:=q
     obtain ⟨vs,h1,r1⟩:=rm _ _ e1
     obtain ⟨us,h2,r2⟩:=rm _ _ e2
     have l1:=r1.length
     have l2:=r2.length
     refine .inr (.inr (.inl ⟨_,_,vs,us,rfl,rfl,h1,h2,by omega,fun p n=>bJ rm (r1.append r2) q n⟩)))
  | (cases RD.str_iff.mp rx;cases RD.str_iff.mp ry;exact .inr (.inr (.inr ⟨_,_,rfl,rfl,q.1,q.2 _ H Ext.refl rm (RD.str_iff.mpr rfl)⟩)))
theorem mZ:OpR X (binaryOp .Sub) (l2 X.K jt):=by
 refine OpR.of qU fun v u H Q h => ?_
 obtain ⟨x,y,M,rm,rx,ry,q⟩:=h
 cases x <;> cases y <;> first
  | exact q.elim
  | (cases RD.int_iff.mp rx;cases RD.int_iff.mp ry;exact ⟨_,_,rfl,rfl,q _ H Ext.refl rm (RD.int_iff.mpr rfl)⟩)
theorem op_mul_i:OpR X (binaryOp .Mult) (rI MulOk fun i j => .int (i * j)):=opI fun _ _ _ _ _ _ _ hc q=>mul_int q hc.ok
theorem t7 {K:PySem.W.Frag} {M:Mem} {H:Hp} {Q:VK} {a:List D} {k:Int} {v u:V} (rm:RM K M H) (rx:RD K H (.tup a) v) (ry:RD K H (.int k) u) (q:fu (.tup a) (.int k) M (KE' K M H Q)):oF K v u H Q:=by
 obtain ⟨a',vs,rfl,ha,r1⟩:=RD.tup_iff.mp rx
 cases RD.int_iff.mp ry
 obtain ⟨z1,z2,z3,q⟩:=q
 have l1:=r1.length
 refine ⟨a',k,vs,rfl,rfl,SqT.of ha,z1,z2,by rw [l1];exact z3,fun e => ?_,fun _ p n=>ca rm (r1.rep _) q n⟩
 have ea:(List.replicate k.toNat a).flatten = a:=by
  rcases e with e | e
  ·have:a = []:=List.length_eq_zero_iff.mp (by rw [<- l1,e];rfl)
   subst this;simp
  ·subst e;simp
 rw [ea] at q
 exact q _ H Ext.refl rm rx
theorem n6:OpR X (binaryOp .Mult) (l2 X.K fu):=by
 refine OpR.of (op_mul_i.or (op_rep.or pA)) fun v u H Q h => ?_
 obtain ⟨x,y,M,rm,rx,ry,q⟩:=h
 cases x <;> cases y <;> first
  | exact q.elim
  | (cases RD.int_iff.mp rx;cases RD.int_iff.mp ry;exact .inl ⟨_,_,rfl,rfl,q.1,q.2 _ H Ext.refl rm (RD.int_iff.mpr rfl)⟩)
  | (cases RD.ref_iff.mp rx;cases RD.int_iff.mp ry
     obtain ⟨xs,e1,z1,z2,z3,q⟩:=q
     obtain ⟨vs,h1,r1⟩:=rm _ _ e1
     have l1:=r1.length
     exact .inr (.inl ⟨_,_,vs,rfl,rfl,h1,z1,z2,by rw [l1];exact z3,fun p n=>bJ rm (r1.rep _) q n⟩))
  | exact .inr (.inr (t7 rm rx ry q))
theorem n8:OpR X (binaryOp .FloorDiv) (rI (fun _ j => 0 < j /\ j < 2 ^ 256) fun i j => .int (i / j)):=L2.opI fun i j _ _ _ _ _ hc q=>by
 have h1:(0:Int) < j:=hc.1
 have h2:j < 2 ^ 256:=hc.2
 have h3:j.natAbs.log2 < 256:=(Nat.log2_lt (by omega)).mpr (by omega)
 exact floordiv_int (by omega) (by rw [Int.fdiv_eq_ediv_of_nonneg i (by omega)];exact q) (.inl (PyProof.noPylong_of_log2 (by omega)))
theorem kP:OpR X (binaryOp .FloorDiv) (l2 X.K gi):=by
 refine OpR.of n8 fun v u H Q h => ?_
 obtain ⟨x,y,M,rm,rx,ry,q⟩:=h
 cases x <;> cases y <;> first
  | exact q.elim
  | (cases RD.int_iff.mp rx;cases RD.int_iff.mp ry;exact ⟨_,_,rfl,rfl,⟨q.1,q.2.1⟩,q.2.2 _ H Ext.refl rm (RD.int_iff.mpr rfl)⟩)
theorem n9:OpR X (binaryOp .Mod) (l2 X.K ju):=by
 refine OpR.of qV fun v u H Q h => ?_
 obtain ⟨x,y,M,rm,rx,ry,q⟩:=h
 cases x <;> cases y <;> first
  | exact q.elim
  | (cases RD.int_iff.mp rx;cases RD.int_iff.mp ry;exact ⟨_,_,rfl,rfl,q.1,q.2 _ H Ext.refl rm (RD.int_iff.mpr rfl)⟩)
theorem nc:OpR X (binaryOp .Pow) (l2 X.K jv):=by
 refine OpR.of qW fun v u H Q h => ?_
 obtain ⟨x,y,M,rm,rx,ry,q⟩:=h
 cases x <;> cases y <;> first
  | exact q.elim
  | (cases RD.int_iff.mp rx;cases RD.int_iff.mp ry;exact ⟨_,_,rfl,rfl,⟨q.1,q.2.1,q.2.2.1⟩,q.2.2.2 _ H Ext.refl rm (RD.int_iff.mpr rfl)⟩)
noncomputable def jw:R1d
 | .int i,M,Q=>Q (.int (-i)) M
 | _,_,_=>False
theorem gM:gh jw:=by
 intro x M Q Q' h q
 cases x <;> first | exact q.elim | exact h _ _ q
theorem UnR.of {f:Value -> Sem Value} {r r':V -> Hp -> VK -> Prop} (h:UnR X f r) (i:∀ v H Q,r' v H Q -> r v H Q):UnR X f r':=fun pins s σ H x v Q I rx q=>h pins s σ H x v Q I rx (i _ _ _ q)
theorem ng:UnR X (unaryOp .USub) (l1 X.K jw):=by
 refine UnR.of qX fun v H Q h => ?_
 obtain ⟨x,M,rm,rx,q⟩:=h
 cases x <;> first
  | exact q.elim
  | (cases RD.int_iff.mp rx;exact ⟨_,rfl,q _ H Ext.refl rm (RD.int_iff.mpr rfl)⟩)
noncomputable def aw {α β:Type} (f : α -> Option β):List α -> Option (List β)
 | [] => some []
 | x :: xs=>(f x).bind fun y=>(aw f xs).map (y :: ·)
noncomputable def rb:Nat -> Mem -> D -> Option PyData
 | _,_, .non=>some .none
 | _,_, .bl b=>some (.bool b)
 | _,_, .int i=>some (.int i)
 | _,_, .str x=>if PyData.strOk x = true then some (.str x) else none
 | n + 1,M, .tup ds=>(aw (rb n M) ds).map PyData.tuple
 | n + 1,M, .con ds=>(aw (rb n M) ds).map PyData.list
 | n + 1,M, .ref a=>match M a with
   | some (.lst ds)=>(aw (rb n M) ds).map PyData.list
   | _=>none
 | 0,_, .tup _=>none
 | 0,_, .con _=>none
 | 0,_, .ref _=>none
theorem bW {n:Nat} {M:Mem} (ih:∀ d p,rb n M d = some p -> p.depth <= n /\ p.canLay0 = true):∀ {ds:List D} {ps:List PyData},aw (rb n M) ds = some ps -> PyData.depthAll ps <= n /\ PyData.canLayAll0 ps = true
 | [],ps,h=>by
  simp [aw] at h;subst h
  exact ⟨Nat.zero_le _,rfl⟩
 | d :: ds,ps,h=>by
   simp only [aw] at h
   cases e1:rb n M d with
   | none=>rw [e1] at h;cases h
   | some p =>
     rw [e1] at h
     cases e2:aw (rb n M) ds with
     | none=>simp [e2] at h
     | some qs =>
       simp [e2] at h
       subst h
       obtain ⟨a1,a2⟩:=ih d p e1
       obtain ⟨b1,b2⟩:=bW ih e2
       refine ⟨?_, ?_⟩
       ·show max p.depth (PyData.depthAll qs) <= n
        omega
       ·show (p.canLay0 && PyData.canLayAll0 qs) = true
        rw [a2,b2];rfl
theorem bq {M:Mem}:∀ (n:Nat) (d:D) (p:PyData),rb n M d = some p -> p.depth <= n /\ p.canLay0 = true
 | n, .non,p,h=>by simp [rb] at h;subst h;exact ⟨Nat.zero_le _,rfl⟩
 | n, .bl b,p,h=>by simp [rb] at h;subst h;exact ⟨Nat.zero_le _,rfl⟩
 | n, .int b,p,h=>by simp [rb] at h;subst h;exact ⟨Nat.zero_le _,rfl⟩
 | n, .str x,p,h=>by
   simp [rb] at h
   obtain ⟨h1,h2⟩:=h
   subst h2;exact ⟨Nat.zero_le _,h1⟩
 | 0, .tup _,p,h=>by simp [rb] at h
 | 0, .con _,p,h=>by simp [rb] at h
 | 0, .ref _,p,h=>by simp [rb] at h
 | n + 1, .tup ds,p,h=>by
   simp only [rb] at h
   cases e:aw (rb n M) ds with
   | none=>rw [e] at h;cases h
   | some ps =>
     rw [e] at h;cases h
     obtain ⟨a,b⟩:=bW (bq n) e
     exact ⟨Nat.succ_le_succ a,b⟩
 | n + 1, .con ds,p,h=>by
   simp only [rb] at h
   cases e:aw (rb n M) ds with
   | none=>rw [e] at h;cases h
   | some ps =>
     rw [e] at h;cases h
     obtain ⟨a,b⟩:=bW (bq n) e
     exact ⟨Nat.succ_le_succ a,b⟩
 | n + 1, .ref a,p,h=>by
   simp only [rb] at h
   cases e0:M a with
   | none=>rw [e0] at h;cases h
   | some o =>
     rw [e0] at h
     cases o with
     | dct _ _=>cases h
     | fdc _=>cases h
     | lst ds =>
       simp only at h
       cases e:aw (rb n M) ds with
       | none=>rw [e] at h;cases h
       | some ps =>
         rw [e] at h;cases h
         obtain ⟨a,b⟩:=bW (bq n) e
         exact ⟨Nat.succ_le_succ a,b⟩
theorem bX {K:PySem.W.Frag} {H:Hp} {n:Nat} {M:Mem} {h:Heap} (ih:∀ d p v u,rb n M d = some p -> RD K H d v -> RelV v u -> ∃ as,Reads h u p as) :
 ∀ {ds:List D} {ps:List PyData} {vs:List V} {us:List Value},aw (rb n M) ds = some ps -> RDs K H ds vs -> Vals vs us -> ∃ as,ReadsAll h us ps as
 | [],ps,vs,us,hm,r,rv=>by
  simp [aw] at hm;subst hm
  rw [RDs.nil_iff.mp r] at rv
  cases rv
  exact ⟨_, .nil⟩
 | d :: ds,ps,vs,us,hm,r,rv=>by
   obtain ⟨v,vr,rfl,r1,r2⟩:=RDs.cons_iff.mp r
   cases rv with
   | cons q1 q2 =>
     simp only [aw] at hm
     cases e1:rb n M d with
     | none=>rw [e1] at hm;cases hm
     | some p =>
       rw [e1] at hm
       cases e2:aw (rb n M) ds with
       | none=>simp [e2] at hm
       | some qs =>
         simp [e2] at hm
         subst hm
         obtain ⟨as,ra⟩:=ih d p v _ e1 r1 q1
         obtain ⟨bs,rbs⟩:=bX ih e2 r2 q2
         exact ⟨_, .cons ra rbs⟩
theorem br {pins:List (Addr × Obj)} {σ:St} {H:Hp} {s:Shared} {M:Mem} (I:Inv X pins σ H s) (rm:RM X.K M H):∀ (n:Nat) (d:D) (p:PyData) (v:V) (u:Value),rb n M d = some p -> RD X.K H d v -> RelV v u -> ∃ as,Reads s.heap u p as
 | n, .non,p,v,u,h,r,q=>by simp [rb] at h;subst h;cases RD.non_iff.mp r;cases q;exact ⟨_, .none⟩
 | n, .bl b,p,v,u,h,r,q=>by simp [rb] at h;subst h;cases RD.bl_iff.mp r;cases q;exact ⟨_, .bool b⟩
 | n, .int b,p,v,u,h,r,q=>by simp [rb] at h;subst h;cases RD.int_iff.mp r;obtain ⟨t,rfl⟩:=q;exact ⟨_, .int b t⟩
 | n, .str x,p,v,u,h,r,q=>by
   simp [rb] at h
   obtain ⟨_,h2⟩:=h
   subst h2;cases RD.str_iff.mp r;obtain ⟨t,rfl⟩:=q;exact ⟨_, .str x t⟩
 | 0, .tup _,p,_,_,h,_,_=>by simp [rb] at h
 | 0, .con _,p,_,_,h,_,_=>by simp [rb] at h
 | 0, .ref _,p,_,_,h,_,_=>by simp [rb] at h
 | n + 1, .tup ds,p,v,u,h,r,q=>by
   simp only [rb] at h
   cases e:aw (rb n M) ds with
   | none=>rw [e] at h;cases h
   | some ps =>
     rw [e] at h;cases h
     obtain ⟨a,vs,rfl,ha,rs⟩:=RD.tup_iff.mp r
     cases q
     obtain ⟨its,rv,⟨o,ho,hc,k,hd⟩,_⟩:=I.tuple (SqT.of ha)
     obtain ⟨as,ra⟩:=bX (br I rm n) e rs rv
     exact ⟨_, .tuple ho hc hd (by simpa using ra)⟩
 | n + 1, .con ds,p,v,u,h,r,q=>by
   simp only [rb] at h
   cases e:aw (rb n M) ds with
   | none=>rw [e] at h;cases h
   | some ps =>
     rw [e] at h;cases h
     obtain ⟨a,vs,rfl,ha,rs⟩:=RD.con_iff.mp r
     cases q
     obtain ⟨its,rv,⟨o,k,ho,hc,_,hd⟩,_⟩:=I.list ha.sq
     obtain ⟨as,ra⟩:=bX (br I rm n) e rs rv
     exact ⟨_, .list ho hc hd (by simpa using ra)⟩
 | n + 1, .ref a,p,v,u,h,r,q=>by
   simp only [rb] at h
   cases e0:M a with
   | none=>rw [e0] at h;cases h
   | some o =>
     rw [e0] at h
     cases o with
     | dct _ _=>cases h
     | fdc _=>cases h
     | lst ds =>
       simp only at h
       cases e:aw (rb n M) ds with
       | none=>rw [e] at h;cases h
       | some ps =>
         rw [e] at h;cases h
         cases RD.ref_iff.mp r
         cases q
         obtain ⟨vs,ha,rs⟩:=rm _ _ e0
         obtain ⟨its,rv,⟨o,k,ho,hc,_,hd⟩,_⟩:=I.list (SqL.of ha)
         obtain ⟨as,ra⟩:=bX (br I rm n) e rs rv
         exact ⟨_, .list ho hc hd (by simpa using ra)⟩
noncomputable def wEq:R2d:=fun x y M Q => ∃ p q,rb 16 M x = some p /\ rb 16 M y = some q /\ Q (.bl (PyData.eqv p q)) M
noncomputable def wNe:R2d:=fun x y M Q => ∃ p q,rb 16 M x = some p /\ rb 16 M y = some q /\ Q (.bl (!PyData.eqv p q)) M
theorem pC:av wEq:=fun _ _ _ _ _ h ⟨p,q,a,b,c⟩=>⟨p,q,a,b,h _ _ c⟩
theorem pD:av wNe:=fun _ _ _ _ _ h ⟨p,q,a,b,c⟩=>⟨p,q,a,b,h _ _ c⟩
theorem pE (hu:X.A.units + 16 < cLine):OpR X (compareOp .Eq) (l2 X.K wEq):=by
 intro pins s σ H x y v u Q I rx ry h
 obtain ⟨d,e,M,rm,rd,re,p,q,hp,hq,k⟩:=h
 obtain ⟨as,ra⟩:=br I rm _ _ _ _ _ hp rd rx
 obtain ⟨bs,rb'⟩:=br I rm _ _ _ _ _ hq re ry
 obtain ⟨p1,p2⟩:=bq _ _ _ hp
 obtain ⟨q1,q2⟩:=bq _ _ _ hq
 exact SeqAt.compareEq_reads ra rb' p2 q2 (by omega) ⟨.bl _,H,I,rfl,k _ H Ext.refl rm (RD.bl_iff.mpr rfl)⟩
theorem pF (hu:X.A.units + 16 < cLine):OpR X (compareOp .NotEq) (l2 X.K wNe):=by
 intro pins s σ H x y v u Q I rx ry h
 obtain ⟨d,e,M,rm,rd,re,p,q,hp,hq,k⟩:=h
 obtain ⟨as,ra⟩:=br I rm _ _ _ _ _ hp rd rx
 obtain ⟨bs,rb'⟩:=br I rm _ _ _ _ _ hq re ry
 obtain ⟨p1,p2⟩:=bq _ _ _ hp
 obtain ⟨q1,q2⟩:=bq _ _ _ hq
 exact SeqAt.compareNe_reads ra rb' p2 q2 (by omega) ⟨.bl _,H,I,rfl,k _ H Ext.refl rm (RD.bl_iff.mpr rfl)⟩
noncomputable def wLt:R2d
 | .int i, .int j,M,Q=>Q (.bl (decide (i < j))) M
 | _,_,_,_=>False
noncomputable def wLe:R2d
 | .int i, .int j,M,Q=>Q (.bl (decide (i <= j))) M
 | _,_,_,_=>False
noncomputable def wGt:R2d
 | .int i, .int j,M,Q=>Q (.bl (decide (j < i))) M
 | _,_,_,_=>False
noncomputable def wGe:R2d
 | .int i, .int j,M,Q=>Q (.bl (decide (j <= i))) M
 | _,_,_,_=>False
theorem pG:av wLt:=by
 intro x y M Q Q' h q
 cases x <;> cases y <;> first | exact q.elim | exact h _ _ q
theorem pH:av wGt:=by
 intro x y M Q Q' h q
 cases x <;> cases y <;> first | exact q.elim | exact h _ _ q
theorem pI:av wGe:=by
 intro x y M Q Q' h q
 cases x <;> cases y <;> first | exact q.elim | exact h _ _ q
theorem pJ:OpR X (compareOp .Lt) (l2 X.K wLt):=by
 refine OpR.of sN fun v u H Q h => ?_
 obtain ⟨x,y,M,rm,rx,ry,q⟩:=h
 cases x <;> cases y <;> first
  | exact q.elim
  | (cases RD.int_iff.mp rx;cases RD.int_iff.mp ry;exact ⟨_,_,rfl,rfl,q _ H Ext.refl rm (RD.bl_iff.mpr rfl)⟩)
theorem pK:OpR X (compareOp .Gt) (l2 X.K wGt):=by
 refine OpR.of sP fun v u H Q h => ?_
 obtain ⟨x,y,M,rm,rx,ry,q⟩:=h
 cases x <;> cases y <;> first
  | exact q.elim
  | (cases RD.int_iff.mp rx;cases RD.int_iff.mp ry;exact ⟨_,_,rfl,rfl,q _ H Ext.refl rm (RD.bl_iff.mpr rfl)⟩)
theorem pL:OpR X (compareOp .GtE) (l2 X.K wGe):=by
 refine OpR.of sQ fun v u H Q h => ?_
 obtain ⟨x,y,M,rm,rx,ry,q⟩:=h
 cases x <;> cases y <;> first
  | exact q.elim
  | (cases RD.int_iff.mp rx;cases RD.int_iff.mp ry;exact ⟨_,_,rfl,rfl,q _ H Ext.refl rm (RD.bl_iff.mpr rfl)⟩)
end
end Mi
end L2
namespace L2
namespace Mi
open PySem PySem.Spec PyProof.Rows
noncomputable def wIx:R2d:=fun x y M Q=>match x with
 | .tup ds => ∃ i d,y = .int i /\ atI ds i = some d /\ Q d M
 | .con ds => ∃ i d,y = .int i /\ atI ds i = some d /\ Q d M
 | .ref a=>(∃ ds i d,M a = some (.lst ds) /\ y = .int i /\ atI ds i = some d /\ Q d M) ∨ (∃ t kvs d,M a = some (.dct t kvs) /\ js t y = true /\ bA kvs y = some d /\ Q d M) ∨ ∃ kvs d,M a = some (.fdc kvs) /\ cz y = true /\ bA kvs y = some d /\ Q d M
 | _=>False
theorem iT:av wIx:=by
 intro x y M Q Q' h q
 cases x with
 | tup ds=>obtain ⟨i,d,e,e2,q⟩:=q;exact ⟨i,d,e,e2,h _ _ q⟩
 | con ds=>obtain ⟨i,d,e,e2,q⟩:=q;exact ⟨i,d,e,e2,h _ _ q⟩
 | ref a =>
   rcases q with ⟨ds,i,d,e1,e2,e3,q⟩ | ⟨t,kvs,d,e1,e2,e3,q⟩ | ⟨kvs,d,e1,e2,e3,q⟩
   ·exact .inl ⟨ds,i,d,e1,e2,e3,h _ _ q⟩
   ·exact .inr (.inl ⟨t,kvs,d,e1,e2,e3,h _ _ q⟩)
   ·exact .inr (.inr ⟨kvs,d,e1,e2,e3,h _ _ q⟩)
 | _=>exact q.elim
theorem gN {K:PySem.W.Frag} {H:Hp} {ds:List D} {vs:List V} {i:Int} {d:D} (r:RDs K H ds vs) (e:atI ds i = some d):∃ v,atI vs i = some v /\ RD K H d v:=by
 unfold atI at e ⊢
 rw [r.length]
 cases q:ixN ds.length i with
 | none=>rw [q] at e;cases e
 | some j =>
   rw [q] at e
   exact r.get e
theorem fv {K:PySem.W.Frag} {H:Hp} {k:D} {q:Key} {v:V} (r:RKey k q) (h:RD K H k v):v = kV q:=by
 cases k <;> first
  | exact r.elim
  | (cases (show q = _ from r);first | exact RD.int_iff.mp h | exact RD.str_iff.mp h)
theorem dU {K:PySem.W.Frag} {H:Hp}:∀ {ds:List D} {ks:List Key} {vs:List V},Paired RKey ds ks -> RDs K H ds vs -> vs = ks.map kV
 | _,_,vs, .nil,h=>by rw [RDs.nil_iff.mp h];rfl
 | _,_,vs, .cons r t,h=>by
   obtain ⟨v,vr,rfl,h1,h2⟩:=RDs.cons_iff.mp h
   rw [fv r h1,dU t h2];rfl
theorem RKey.inj {d e:D} {k:Key} (a:RKey d k) (b:RKey e k):d = e:=by
 cases d <;> first
  | exact a.elim
  | (cases e <;> first | exact b.elim | (cases (show k = _ from a);injection (show _ = _ from b) with z;rw [z]) | (cases (show k = _ from a);cases (show _ = _ from b)))
theorem RKeysP.inj:∀ {d e:List D} {k:List Key},Paired RKey d k -> Paired RKey e k -> d = e
 | _,_,_, .nil, .nil=>rfl
 | _,_,_, .cons r t, .cons r' t'=>by rw [r.inj r',RKeysP.inj t t']
theorem RKeys.inj {d e:D} {k:List Key} (a:RKeys d k) (b:RKeys e k):d = e:=by
 cases d <;> first
  | exact a.elim
  | (cases e <;> first | exact b.elim | exact congrArg D.tup (RKeysP.inj a b))
theorem RKey.fun {d:D} {k k':Key} (a:RKey d k) (b:RKey d k'):k = k':=by
 cases d <;> first
  | exact a.elim
  | (cases (show k = _ from a);cases (show k' = _ from b);rfl)
theorem RKeysP.fun:∀ {d:List D} {k k':List Key},Paired RKey d k -> Paired RKey d k' -> k = k'
 | _,_,_, .nil, .nil=>rfl
 | _,_,_, .cons r t, .cons r' t'=>by rw [r.fun r',RKeysP.fun t t']
theorem RKeys.fun {d:D} {k k':List Key} (a:RKeys d k) (b:RKeys d k'):k = k':=by
 cases d <;> first
  | exact a.elim
  | exact RKeysP.fun a b
section
variable {κ:Type} [DecidableEq κ] {K:PySem.W.Frag} {H:Hp} {RK:D -> κ -> Prop} (inj:∀ {d e:D} {k : κ},RK d k -> RK e k -> d = e) (fn:∀ {d:D} {k k' : κ},RK d k -> RK d k' -> k = k')
include inj fn
theorem dW {k:D} {q : κ} (hk:RK k q):∀ {kvs:List (D × D)} {ps:List (κ × V)},Paired (fun p r=>RK p.1 r.1 /\ RD K H p.2 r.2) kvs ps ->
 (∀ d,bA kvs k = some d -> ∃ v,be ps q = some v /\ RD K H d v) /\ (bA kvs k = none -> be ps q = none)
 | _,_, .nil=>⟨fun d e=>by simp [bA] at e,fun _=>rfl⟩
 | _,_, .cons (a:=p) (b:=r) (l₂ := ps) hr t=>by
   obtain ⟨ih1,ih2⟩:=dW hk t
   by_cases e:p.1 = k
   ·have e':r.1 = q:=by
     have h1:=hr.1
     rw [e] at h1
     exact fn h1 hk
    refine ⟨fun d he => ?_,fun he => ?_⟩
    ·simp [bA,List.find?_cons,e] at he
     subst he
     exact ⟨r.2,cJ e',hr.2⟩
    ·simp [bA,List.find?_cons,e] at he
   ·have e' : ¬ r.1 = q:=fun z=>e (by
     have h1:=hr.1
     rw [z] at h1
     exact inj h1 hk)
    have eq1:∀ l:List (D × D),bA (p :: l) k = bA l k:=fun l=>by simp [bA,List.find?_cons,e]
    have eq2:be (r :: ps) q = be ps q:=cK e'
    refine ⟨fun d he => ?_,fun he => ?_⟩
    ·rw [eq1] at he
     rw [eq2]
     exact ih1 d he
    ·rw [eq1] at he
     rw [eq2]
     exact ih2 he
end
section
variable {X:Cx}
theorem kQ {K:PySem.W.Frag} {H:Hp} {a:Addr} {ps:List (List Key × V)} {kvs:List (D × D)} {k:D} {v:V} (hp:Rd H a (.dT ps)) (pr:Paired (fun (p:D × D) (q:List Key × V)=>RKeys p.1 q.1 /\ RD K H p.2 q.2) kvs ps) (ok:cz k = true) (rk:RD K H k v) :
 ∃ o,DGet H a v o /\ (∀ d,bA kvs k = some d -> ∃ w,o = some w /\ RD K H d w) /\ (bA kvs k = none -> o = none):=by
 obtain ⟨q,hq⟩:=iS ok
 obtain ⟨g1,g2⟩:=dW (RK:=RKeys) RKeys.inj RKeys.fun hq pr
 refine ⟨be ps q, ?_,g1,g2⟩
 cases k <;> first
  | exact hq.elim
  | (obtain ⟨b,us,rfl,hb,ru⟩:=RD.tup_iff.mp rk
     rw [dU hq ru] at hb
     exact .inr ⟨ps,q,b,hp,rfl,hb,rfl⟩)
theorem pM {K:PySem.W.Frag} {M:Mem} {H:Hp} {a:Addr} {t:Bool} {kvs:List (D × D)} {k:D} {v:V} (rm:RM K M H) (e:M a = some (.dct t kvs)) (ok:js t k = true) (rk:RD K H k v) :
 ∃ o,DGet H a v o /\ (∀ d,bA kvs k = some d -> ∃ w,o = some w /\ RD K H d w) /\ (bA kvs k = none -> o = none):=by
 have ro:=rm a _ e
 cases t with
 | false =>
   obtain ⟨ps,hp,pr⟩:=ro
   obtain ⟨q,hq⟩:=gF (show cL k = true from ok)
   obtain ⟨g1,g2⟩:=dW (RK:=RKey) RKey.inj RKey.fun hq pr
   refine ⟨be ps q, ?_,g1,g2⟩
   rw [fv hq rk]
   exact DGet.k hp
 | true =>
   obtain ⟨ps,hp,pr⟩:=ro
   exact kQ (.inl hp) pr ok rk
theorem pN (hu:X.A.units + 1 < cLine):IxR X (fun x y H Q => ∃ a v,x = .ref a /\ DGet H a y (some v) /\ Q v H):=by
 intro value slice pins s σ H x y v u Q I rx ry h hs
 obtain ⟨a,w,rfl,g,q⟩:=h
 cases rx
 have hd:IsD H a:=by
  rcases g with ⟨kvs,k,e,_⟩ | ⟨kvs,k,b,e,_⟩
  ·exact .inl ⟨kvs,e⟩
  ·exact .inr ⟨kvs,e⟩
 obtain ⟨ht,_⟩:=rg I hd
 exact tail_any ht PySem.F.slot_dict_getitem.lookup (kG hu I g ry fun w' s' I' r'=>⟨w,H,I',r',q⟩) hs
theorem ub (hu:X.A.units + 1 < cLine):IxR X (l2 X.K wIx):=by
 refine IxR.of (ix_list.or (ix_tup.or (pN hu))) fun v u H Q h => ?_
 obtain ⟨x,y,M,rm,rx,ry,q⟩:=h
 cases x with
 | tup ds =>
   obtain ⟨i,d,rfl,e,q⟩:=q
   obtain ⟨a,vs,rfl,ha,rs⟩:=RD.tup_iff.mp rx
   cases RD.int_iff.mp ry
   obtain ⟨w,hw,rw'⟩:=gN rs e
   exact .inr (.inl ⟨a,vs,i,w,rfl,rfl,SqT.of ha,hw,q w H Ext.refl rm rw'⟩)
 | con ds =>
   obtain ⟨i,d,rfl,e,q⟩:=q
   obtain ⟨a,vs,rfl,ha,rs⟩:=RD.con_iff.mp rx
   cases RD.int_iff.mp ry
   obtain ⟨w,hw,rw'⟩:=gN rs e
   exact .inl ⟨a,vs,i,w,rfl,rfl,ha.sq,hw,q w H Ext.refl rm rw'⟩
 | ref a =>
   cases RD.ref_iff.mp rx
   rcases q with ⟨ds,i,d,e1,rfl,e3,q⟩ | ⟨t,kvs,d,e1,e2,e3,q⟩ | ⟨kvs,d,e1,e2,e3,q⟩
   ·cases RD.int_iff.mp ry
    obtain ⟨vs,ha,rs⟩:=rm _ _ e1
    obtain ⟨w,hw,rw'⟩:=gN rs e3
    exact .inl ⟨a,vs,i,w,rfl,rfl,SqL.of ha,hw,q w H Ext.refl rm rw'⟩
   ·obtain ⟨o,g,g1,_⟩:=pM rm e1 e2 ry
    obtain ⟨w,rfl,rw'⟩:=g1 d e3
    exact .inr (.inr ⟨a,w,rfl,g,q w H Ext.refl rm rw'⟩)
   ·obtain ⟨ob,ps,hp,pr⟩:=rm _ _ e1
    obtain ⟨o,g,g1,_⟩:=kQ (.inr ⟨ob,hp⟩) pr e2 ry
    obtain ⟨w,rfl,rw'⟩:=g1 d e3
    exact .inr (.inr ⟨a,w,rfl,g,q w H Ext.refl rm rw'⟩)
 | _=>exact q.elim
noncomputable def gO (M:Mem):D -> Option Nat
 | .tup ds=>some ds.length
 | .con ds=>some ds.length
 | .ref a=>match M a with
  | some (.lst ds)=>some ds.length
  | _=>none
 | _=>none
noncomputable def cY:RAd:=fun xs M Q => ∃ x n,xs = [x] /\ gO M x = some n /\ Q (.int n) M
theorem gP:aG cY:=fun _ _ _ _ h ⟨x,n,e,l,q⟩=>⟨x,n,e,l,h _ _ q⟩
theorem RDs.one {K:PySem.W.Frag} {H:Hp} {d:D} {vs:List V} (h:RDs K H [d] vs):∃ v,vs = [v] /\ RD K H d v:=by
 obtain ⟨v,r,rfl,h1,h2⟩:=RDs.cons_iff.mp h
 rw [RDs.nil_iff.mp h2]
 exact ⟨v,rfl,h1⟩
theorem RDs.two {K:PySem.W.Frag} {H:Hp} {d e:D} {vs:List V} (h:RDs K H [d,e] vs):∃ v u,vs = [v,u] /\ RD K H d v /\ RD K H e u:=by
 obtain ⟨v,r,rfl,h1,h2⟩:=RDs.cons_iff.mp h
 obtain ⟨u,rfl,h3⟩:=RDs.one h2
 exact ⟨v,u,rfl,h1,h3⟩
theorem jx:CallR X (.builtin "len") (lR X.K cY):=by
 refine CallR.of mF fun vs H Q h => ?_
 obtain ⟨ds,M,rm,rs,x,n,rfl,l,q⟩:=h
 obtain ⟨v,rfl,r⟩:=rs.one
 refine ⟨v,n,rfl, ?_,q _ H Ext.refl rm (RD.int_iff.mpr rfl)⟩
 cases x with
 | tup ds =>
   cases l
   obtain ⟨a,us,rfl,ha,ru⟩:=RD.tup_iff.mp r
   exact .inr ⟨us,SqT.of ha,ru.length.symm⟩
 | con ds =>
   cases l
   obtain ⟨a,us,rfl,ha,ru⟩:=RD.con_iff.mp r
   exact .inl ⟨us,ha.sq,ru.length.symm⟩
 | ref a =>
   cases RD.ref_iff.mp r
   simp only [gO] at l
   cases e:M a with
   | none=>rw [e] at l;cases l
   | some o =>
     rw [e] at l
     cases o with
     | dct _ _=>cases l
     | fdc _=>cases l
     | lst ds =>
       cases l
       obtain ⟨us,ha,ru⟩:=rm _ _ e
       exact .inl ⟨us,SqL.of ha,ru.length.symm⟩
 | _=>cases l
noncomputable def gQ:RAd:=fun xs M Q => ∃ i,xs = [.int i] /\ Q (.int (if i < 0 then -i else i)) M
noncomputable def gj:RAd:=fun xs M Q => ∃ i j,xs = [.int i, .int j] /\ Q (.int (if j > i then j else i)) M
noncomputable def gk:RAd:=fun xs M Q => ∃ i j,xs = [.int i, .int j] /\ Q (.int (if j < i then j else i)) M
noncomputable def gR:RAd:=fun xs M Q=>(∃ i,xs = [.int i] /\ Q (.int i) M) ∨ ∃ k,xs = [.bl k] /\ Q (.int (if k then 1 else 0)) M
theorem gS:aG gQ:=fun _ _ _ _ h ⟨i,e,q⟩=>⟨i,e,h _ _ q⟩
theorem fO:aG gj:=fun _ _ _ _ h ⟨i,j,e,q⟩=>⟨i,j,e,h _ _ q⟩
theorem fP:aG gk:=fun _ _ _ _ h ⟨i,j,e,q⟩=>⟨i,j,e,h _ _ q⟩
theorem gT:aG gR:=fun _ _ _ _ h q=>q.elim (fun ⟨i,e,q⟩ => .inl ⟨i,e,h _ _ q⟩) fun ⟨i,e,q⟩ => .inr ⟨i,e,h _ _ q⟩
theorem jy:CallR X (.builtin "abs") (lR X.K gQ):=by
 refine CallR.of mD fun vs H Q h => ?_
 obtain ⟨ds,M,rm,rs,i,rfl,q⟩:=h
 obtain ⟨v,rfl,r⟩:=rs.one
 cases RD.int_iff.mp r
 exact ⟨i,rfl,q _ H Ext.refl rm (RD.int_iff.mpr rfl)⟩
theorem iE (hc:X.calm = true):CallR X (.builtin "max") (lR X.K gj):=by
 refine CallR.of (kw hc) fun vs H Q h => ?_
 obtain ⟨ds,M,rm,rs,i,j,rfl,q⟩:=h
 obtain ⟨v,u,rfl,r1,r2⟩:=rs.two
 cases RD.int_iff.mp r1
 cases RD.int_iff.mp r2
 exact ⟨i,j,rfl,q _ H Ext.refl rm (RD.int_iff.mpr rfl)⟩
theorem iF (hc:X.calm = true):CallR X (.builtin "min") (lR X.K gk):=by
 refine CallR.of (kx hc) fun vs H Q h => ?_
 obtain ⟨ds,M,rm,rs,i,j,rfl,q⟩:=h
 obtain ⟨v,u,rfl,r1,r2⟩:=rs.two
 cases RD.int_iff.mp r1
 cases RD.int_iff.mp r2
 exact ⟨i,j,rfl,q _ H Ext.refl rm (RD.int_iff.mpr rfl)⟩
theorem jz:CallR X (.type "int") (lR X.K gR):=by
 refine CallR.of ky fun vs H Q h => ?_
 obtain ⟨ds,M,rm,rs,⟨i,rfl,q⟩ | ⟨i,rfl,q⟩⟩:=h
 ·obtain ⟨v,rfl,r⟩:=rs.one
  cases RD.int_iff.mp r
  exact .inl ⟨i,rfl,q _ H Ext.refl rm (RD.int_iff.mpr rfl)⟩
 ·obtain ⟨v,rfl,r⟩:=rs.one
  cases RD.bl_iff.mp r
  exact .inr ⟨i,rfl,q _ H Ext.refl rm (RD.int_iff.mpr rfl)⟩
noncomputable def aW (M:Mem):D -> Option (List D)
 | .tup ds=>some ds
 | .con ds=>some ds
 | .ref a=>match M a with
  | some (.lst ds)=>some ds
  | _=>none
 | _=>none
theorem kR {K:PySem.W.Frag} {M:Mem} {H:Hp} {x:D} {ds:List D} {v:V} (rm:RM K M H) (r:RD K H x v) (e:aW M x = some ds):∃ p vs,v = .ref p /\ (SqL K H p vs ∨ SqT K H p vs) /\ RDs K H ds vs:=by
 cases x with
 | tup es =>
   cases e
   obtain ⟨a,us,rfl,ha,ru⟩:=RD.tup_iff.mp r
   exact ⟨a,us,rfl, .inr (SqT.of ha),ru⟩
 | con es =>
   cases e
   obtain ⟨a,us,rfl,ha,ru⟩:=RD.con_iff.mp r
   exact ⟨a,us,rfl, .inl ha.sq,ru⟩
 | ref a =>
   cases RD.ref_iff.mp r
   simp only [aW] at e
   cases e0:M a with
   | none=>rw [e0] at e;cases e
   | some o =>
     rw [e0] at e
     cases o with
     | dct _ _=>cases e
     | fdc _=>cases e
     | lst es =>
       cases e
       obtain ⟨us,ha,ru⟩:=rm _ _ e0
       exact ⟨a,us,rfl, .inl (SqL.of ha),ru⟩
 | _=>cases e
noncomputable def jA:RAd:=fun xs M Q => ∃ x ds,xs = [x] /\ aW M x = some ds /\ ∀ p,M p = none -> Q (.ref p) (ag M p (.lst ds))
noncomputable def gU:RAd:=fun xs M Q => ∃ x ds,xs = [x] /\ aW M x = some ds /\ Q (.tup ds) M
theorem fQ:aG jA:=fun _ _ _ _ h ⟨x,ds,e,l,q⟩=>⟨x,ds,e,l,fun p n=>h _ _ (q p n)⟩
theorem eE:aG gU:=fun _ _ _ _ h ⟨x,ds,e,l,q⟩=>⟨x,ds,e,l,h _ _ q⟩
theorem iG:CallR X (.type "list") (lR X.K jA):=by
 refine CallR.of gy fun vs H Q h => ?_
 obtain ⟨ds,M,rm,rs,x,es,rfl,l,q⟩:=h
 obtain ⟨v,rfl,r⟩:=rs.one
 obtain ⟨p,us,rfl,sq,ru⟩:=kR rm r l
 exact ⟨p,us,rfl,sq,fun l' n=>bJ rm ru q n⟩
theorem gW:CallR X (.type "tuple") (lR X.K gU):=by
 refine CallR.of gd fun vs H Q h => ?_
 obtain ⟨ds,M,rm,rs,x,es,rfl,l,q⟩:=h
 obtain ⟨v,rfl,r⟩:=rs.one
 cases x with
 | tup ds' =>
   cases l
   obtain ⟨a,us,rfl,ha,ru⟩:=RD.tup_iff.mp r
   exact ⟨a,us,rfl, .inr ⟨SqT.of ha,q _ H Ext.refl rm r⟩⟩
 | con ds' =>
   cases l
   obtain ⟨a,us,rfl,ha,ru⟩:=RD.con_iff.mp r
   exact ⟨a,us,rfl, .inl ⟨ha.sq,fun l' n=>ca rm ru q n⟩⟩
 | ref a =>
   cases RD.ref_iff.mp r
   simp only [aW] at l
   cases e0:M a with
   | none=>rw [e0] at l;cases l
   | some o =>
     rw [e0] at l
     cases o with
     | dct _ _=>cases l
     | fdc _=>cases l
     | lst es' =>
       cases l
       obtain ⟨us,ha,ru⟩:=rm _ _ e0
       exact ⟨a,us,rfl, .inl ⟨SqL.of ha,fun l' n=>ca rm ru q n⟩⟩
 | _=>cases l
end
end Mi
end L2
namespace L2
namespace Mi
open PySem PySem.Spec PyProof.Rows
section
variable {X:Cx}
noncomputable def nh (M:Mem):D -> Option Bool
 | .non=>some false
 | .bl b=>some b
 | .int i=>some (i != 0)
 | .tup ds=>some (!ds.isEmpty)
 | .con ds=>some (!ds.isEmpty)
 | .ref a=>match M a with
  | some (.lst ds)=>some (!ds.isEmpty)
  | _=>none
 | _=>none
noncomputable def gX (t:TEd):TTd:=fun ρ M Q=>t ρ M fun x M1 => ∃ b,nh M1 x = some b /\ Q b M1
theorem ni {t:TEd} (h:aa t):aq (gX t):=fun ρ M Q Q' i q=>h _ _ _ _ (fun x M1 ⟨k,e,q1⟩=>⟨k,e,i _ _ q1⟩) q
theorem rB {K:PySem.W.Frag} {M:Mem} {H:Hp} {x:D} {b:Bool} {v:V} (rm:RM K M H) (r:RD K H x v) (e:nh M x = some b):mz K v H b:=by
 have emp:∀ {ds:List D} {vs:List V},RDs K H ds vs -> (!ds.isEmpty) = !vs.isEmpty:=fun {ds vs} h=>by
  have l:=h.length
  cases ds <;> cases vs <;> first | rfl | (simp at l)
 cases x with
 | non=>cases e;cases RD.non_iff.mp r;rfl
 | bl k=>cases e;cases RD.bl_iff.mp r;rfl
 | int i=>cases e;cases RD.int_iff.mp r;rfl
 | tup ds =>
   cases e
   obtain ⟨a,vs,rfl,ha,rs⟩:=RD.tup_iff.mp r
   exact .inr (.inl ⟨vs,SqT.of ha,emp rs⟩)
 | con ds =>
   cases e
   obtain ⟨a,vs,rfl,ha,rs⟩:=RD.con_iff.mp r
   exact .inl ⟨vs,ha.sq,emp rs⟩
 | ref a =>
   cases RD.ref_iff.mp r
   simp only [nh] at e
   cases e0:M a with
   | none=>rw [e0] at e;cases e
   | some o =>
     rw [e0] at e
     cases o with
     | dct _ _=>cases e
     | fdc _=>cases e
     | lst ds =>
       cases e
       obtain ⟨vs,ha,rs⟩:=rm _ _ e0
       exact .inl ⟨vs,SqL.of ha,emp rs⟩
 | str _=>cases e
variable {a b:Expr} {ta tb:TEd} {pos:Pos}
theorem rC (m:aa ta) (ha:PE X a (lE X.K ta)) (he:∀ whole,isTrue a X.env whole = (do let v <- whole;standAt a.pos;holding [v] (truthy v))):PT X a (lT X.K (gX ta)):=by
 refine PT.imp (mC ha he) fun σ H Q h => ?_
 obtain ⟨ρ,M,rs,rm,q⟩:=h
 exact ⟨ρ,M,rs,rm,m _ _ _ _ (fun x M1 ⟨k,e,q1⟩ v H1 x1 rm1 rd1=>⟨k,rB rm1 rd1 e,q1 H1 x1 rm1⟩) q⟩
noncomputable def eF (t:TTd):TTd:=fun ρ M Q=>t ρ M fun c M1=>Q (!c) M1
theorem kS {t:TTd} (h:aq t):aq (eF t):=fun ρ M Q Q' i q=>h _ _ _ _ (fun c M1 q1=>i _ _ q1) q
theorem rD {tA:TTd} (m:aq tA) (ha:PT X a (lT X.K tA)):PT X (.UnaryOp .Not a pos) (lT X.K (eF tA)):=by
 refine PT.imp (qH ha) fun σ H Q h => ?_
 obtain ⟨ρ,M,rs,rm,q⟩:=h
 exact ⟨ρ,M,rs,rm,m _ _ _ _ (fun c M1 q1=>q1) q⟩
noncomputable def eG (t u:TTd):TTd:=fun ρ M Q=>t ρ M fun c M1=>if c = true then u ρ M1 Q else Q false M1
noncomputable def gY (t u:TTd):TTd:=fun ρ M Q=>t ρ M fun c M1=>if c = true then Q true M1 else u ρ M1 Q
theorem kT {t u:TTd} (h:aq t) (k:aq u):aq (eG t u):=fun ρ M Q Q' i q=>h _ _ _ _ (fun c M1 q1=>by
 cases c with
 | true=>rw [if_pos rfl] at q1 ⊢;exact k _ _ _ _ i q1
 | false=>rw [if_neg Bool.false_ne_true] at q1 ⊢;exact i _ _ q1) q
theorem nj {t u:TTd} (h:aq t) (k:aq u):aq (gY t u):=fun ρ M Q Q' i q=>h _ _ _ _ (fun c M1 q1=>by
 cases c with
 | true=>rw [if_pos rfl] at q1 ⊢;exact i _ _ q1
 | false=>rw [if_neg Bool.false_ne_true] at q1 ⊢;exact k _ _ _ _ i q1) q
theorem pO {tA:TTd} (ha:PT X a (lT X.K tA)):PW X (.BoolOp .And [a] pos) (lT X.K tA):=oX ha
theorem rE {tA:TTd} (ha:PT X a (lT X.K tA)):PW X (.BoolOp .Or [a] pos) (lT X.K tA):=qF ha
theorem rF {tA tB:TTd} {rest:List Expr} (mA:aq tA) (mB:aq tB) (ha:PT X a (lT X.K tA)) (hb:PW X (.BoolOp .And (b :: rest) pos) (lT X.K tB)):PW X (.BoolOp .And (a :: b :: rest) pos) (lT X.K (eG tA tB)):=by
 refine PW.imp (qG ha hb) fun σ H Q h => ?_
 obtain ⟨ρ,M,rs,rm,q⟩:=h
 refine ⟨ρ,M,rs,rm,mA _ _ _ _ (fun c M1 q1 H1 x1 rm1 => ?_) q⟩
 cases c with
 | true=>rw [if_pos rfl] at q1 ⊢;exact ⟨ρ,M1,rs.mono (x1.stab rm),rm1,mB _ _ _ _ (fun d M2 k=>k.ext x1) q1⟩
 | false=>rw [if_neg Bool.false_ne_true] at q1 ⊢;exact q1 H1 x1 rm1
theorem t8 {tA tB:TTd} {rest:List Expr} (mA:aq tA) (mB:aq tB) (ha:PT X a (lT X.K tA)) (hb:PW X (.BoolOp .Or (b :: rest) pos) (lT X.K tB)):PW X (.BoolOp .Or (a :: b :: rest) pos) (lT X.K (gY tA tB)):=by
 refine PW.imp (sD ha hb) fun σ H Q h => ?_
 obtain ⟨ρ,M,rs,rm,q⟩:=h
 refine ⟨ρ,M,rs,rm,mA _ _ _ _ (fun c M1 q1 H1 x1 rm1 => ?_) q⟩
 cases c with
 | true=>rw [if_pos rfl] at q1 ⊢;exact q1 H1 x1 rm1
 | false=>rw [if_neg Bool.false_ne_true] at q1 ⊢;exact ⟨ρ,M1,rs.mono (x1.stab rm),rm1,mB _ _ _ _ (fun d M2 k=>k.ext x1) q1⟩
noncomputable def oG (ta tb:TEd):TEd:=fun ρ M Q=>ta ρ M fun x M1 => ∃ c,x = .bl c /\ if c = true then tb ρ M1 Q else Q (.bl false) M1
noncomputable def rG (ta tb:TEd):TEd:=fun ρ M Q=>ta ρ M fun x M1 => ∃ c,x = .bl c /\ if c = true then Q (.bl true) M1 else tb ρ M1 Q
noncomputable def eI (ta:TEd):TEd:=fun ρ M Q=>ta ρ M fun x M1 => ∃ c,x = .bl c /\ Q (.bl (!c)) M1
theorem kU (h:aa ta):aa (eI ta):=fun ρ M Q Q' i q=>h _ _ _ _ (fun x M1 ⟨c,e,q1⟩=>⟨c,e,i _ _ q1⟩) q
theorem rH (ma:aa ta) (ha:PE X a (lE X.K ta)):PE X (.UnaryOp .Not a pos) (lE X.K (eI ta)):=by
 refine PE.imp (qI ha) fun σ H Q h => ?_
 obtain ⟨ρ,M,rs,rm,q⟩:=h
 refine ⟨ρ,M,rs,rm,ma _ _ _ _ (fun x M1 ⟨c,e,q1⟩ v H1 x1 rm1 rd1 => ?_) q⟩
 subst e
 exact ⟨c,RD.bl_iff.mp rd1,q1 _ H1 x1 rm1 (RD.bl_iff.mpr rfl)⟩
noncomputable def wIf (t:TTd) (ta tb:TEd):TEd:=fun ρ M Q=>t ρ M fun c M1=>if c = true then ta ρ M1 Q else tb ρ M1 Q
theorem pP {t:TTd} (h:aq t) (ha:aa ta) (hb:aa tb):aa (wIf t ta tb):=fun ρ M Q Q' i q=>h _ _ _ _ (fun c M1 q1=>by
 cases c with
 | true=>rw [if_pos rfl] at q1 ⊢;exact ha _ _ _ _ i q1
 | false=>rw [if_neg Bool.false_ne_true] at q1 ⊢;exact hb _ _ _ _ i q1) q
theorem t9 {c:Expr} {t:TTd} (mt:aq t) (ma:aa ta) (mb:aa tb) (hc:PT X c (lT X.K t)) (ha:PE X a (lE X.K ta)) (hb:PE X b (lE X.K tb)):PE X (.IfExp c a b pos) (lE X.K (wIf t ta tb)):=by
 refine PE.imp (mj hc ha hb) fun σ H Q h => ?_
 obtain ⟨ρ,M,rs,rm,q⟩:=h
 refine ⟨ρ,M,rs,rm,mt _ _ _ _ (fun x M1 q1 H1 x1 rm1 => ?_) q⟩
 cases x with
 | true=>rw [if_pos rfl] at q1 ⊢;exact ⟨ρ,M1,rs.mono (x1.stab rm),rm1,ma _ _ _ _ (fun d M2 k=>k.ext x1) q1⟩
 | false=>rw [if_neg Bool.false_ne_true] at q1 ⊢;exact ⟨ρ,M1,rs.mono (x1.stab rm),rm1,mb _ _ _ _ (fun d M2 k=>k.ext x1) q1⟩
noncomputable def dX (xs:List D) (lo hi:Option Int):List D:=(xs.drop (HT.sIx xs.length 0 lo)).take (HT.sIx xs.length xs.length hi - HT.sIx xs.length 0 lo)
theorem gZ {K:PySem.W.Frag} {H:Hp} {ds:List D} {vs:List V} (r:RDs K H ds vs) (lo hi:Option Int):RDs K H (dX ds lo hi) (cU vs lo hi):=by
 unfold dX cU
 rw [r.length]
 exact (r.drop _).take _
noncomputable abbrev TOd:=ai -> Mem -> (Option Int -> Mem -> Prop) -> Prop
noncomputable def bY (T:TOd):Prop := ∀ ρ M Q Q',(∀ d M',Q d M' -> Q' d M') -> T ρ M Q -> T ρ M Q'
noncomputable def cC:TOd:=fun _ M Q=>Q none M
noncomputable def dw (t:TEd):TOd:=fun ρ M Q=>t ρ M fun x M1 => ∃ i,x = .int i /\ Q (some i) M1
theorem iH:bY cC:=fun _ _ _ _ h q=>h _ _ q
theorem cZ (h:aa ta):bY (dw ta):=fun ρ M Q Q' i q=>h _ _ _ _ (fun x M1 ⟨c,e,q1⟩=>⟨c,e,i _ _ q1⟩) q
noncomputable def lO (K:PySem.W.Frag) (T:TOd):TO:=fun σ H Q => ∃ ρ M,RS K H σ ρ /\ RM K M H /\ T ρ M (fun o M' => ∀ H',Ext M H M' H' -> RM K M' H' -> Q o H')
theorem pQ:PO X none (lO X.K cC):=fun pins s σ H Q I h=>by
 obtain ⟨ρ,M,rs,rm,q⟩:=h
 exact pf pins s σ H Q I (q H Ext.refl rm)
theorem iU {e:Expr} (m:aa ta) (h:PE X e (lE X.K ta)):PO X (some e) (lO X.K (dw ta)):=fun pins s σ H Q I hq=>by
 obtain ⟨ρ,M,rs,rm,q⟩:=hq
 refine ph h pins s σ H Q I ⟨ρ,M,rs,rm,m _ _ _ _ (fun x M1 ⟨i,e,q1⟩ v H1 x1 rm1 rd1 => ?_) q⟩
 subst e
 exact ⟨i,RD.int_iff.mp rd1,q1 H1 x1 rm1⟩
noncomputable def cD:D -> Option Int -> Option Int -> Mem -> QD -> Prop:=fun x lo hi M Q=>match x with
 | .tup ds=>Q (.tup (dX ds lo hi)) M
 | .ref a => ∃ ds,M a = some (.lst ds) /\ ∀ p,M p = none -> Q (.ref p) (ag M p (.lst (dX ds lo hi)))
 | .con ds => ∀ p,M p = none -> Q (.ref p) (ag M p (.lst (dX ds lo hi)))
 | _=>False
noncomputable def wSl (te:TEd) (tl th:TOd):TEd:=fun ρ M Q=>te ρ M fun x M1=>tl ρ M1 fun l M2=>th ρ M2 fun u M3=>cD x l u M3 Q
theorem jB {x:D} {lo hi:Option Int} {M:Mem} {Q Q':QD} (h:∀ d M',Q d M' -> Q' d M') (q:cD x lo hi M Q):cD x lo hi M Q':=by
 cases x with
 | tup ds=>exact h _ _ q
 | ref a=>obtain ⟨ds,e,q⟩:=q;exact ⟨ds,e,fun p n=>h _ _ (q p n)⟩
 | con ds=>exact fun p n=>h _ _ (q p n)
 | _=>exact q.elim
theorem pR {tl th:TOd} (m:aa ta) (ml:bY tl) (mh:bY th):aa (wSl ta tl th):=fun ρ M Q Q' i q =>
 m _ _ _ _ (fun x M1 q1=>ml _ _ _ _ (fun l M2 q2=>mh _ _ _ _ (fun u M3 q3=>jB i q3) q2) q1) q
theorem tf {e:Expr} {lo hi:Option Expr} {tl th:TOd} {p2:Pos} (m:aa ta) (ml:bY tl) (mh:bY th) (he:PE X e (lE X.K ta)) (hl:PO X lo (lO X.K tl)) (hu:PO X hi (lO X.K th)) :
 PE X (.Subscript e (.Slice lo hi none p2) pos) (lE X.K (wSl ta tl th)):=by
 refine PE.imp (mJ (sl_tup.or (sl_list.or mM)) he hl hu) fun σ H Q h => ?_
 obtain ⟨ρ,M,rs,rm,q⟩:=h
 refine ⟨ρ,M,rs,rm,m _ _ _ _ (fun x M1 q1 v H1 x1 rm1 rd1 => ?_) q⟩
 refine ⟨ρ,M1,rs.mono (x1.stab rm),rm1,ml _ _ _ _ (fun l M2 q2 H2 x2 rm2 => ?_) q1⟩
 refine ⟨ρ,M2,(rs.mono (x1.stab rm)).mono (x2.stab rm1),rm2,mh _ _ _ _ (fun u M3 q3 H3 x3 rm3 => ?_) q2⟩
 have x13:=x1.trans (x2.trans x3)
 have rd3:=(rd1.mono (x2.stab rm1)).mono (x3.stab rm2)
 cases x with
 | tup ds =>
   obtain ⟨a,vs,rfl,ha,r⟩:=RD.tup_iff.mp rd3
   by_cases hw:HT.sIx vs.length 0 l = 0 /\ HT.sIx vs.length vs.length u = vs.length
   ·refine .inr (.inr ⟨a,vs,rfl,SqT.of ha,hw, ?_⟩)
    have e:dX ds l u = ds:=by
     unfold dX
     rw [<- r.length,hw.1,hw.2,r.length];simp
    simp only [cD] at q3
    rw [e] at q3
    exact q3.ext x13 _ H3 Ext.refl rm3 rd3
   ·simp only [cD] at q3
    exact .inl ⟨a,vs,rfl,SqT.of ha,hw,fun p n=>ca rm3 (gZ r l u) (q3.ext x13) n⟩
 | ref a =>
   cases RD.ref_iff.mp rd3
   obtain ⟨ds,e,q3⟩:=q3
   obtain ⟨vs,ha,r⟩:=rm3 _ _ e
   exact .inr (.inl ⟨a,vs,rfl,SqL.of ha,fun p n=>bJ rm3 (gZ r l u) (fun p' n'=>(q3 p' n').ext x13) n⟩)
 | con ds =>
   obtain ⟨a,vs,rfl,ha,r⟩:=RD.con_iff.mp rd3
   exact .inr (.inl ⟨a,vs,rfl,ha.sq,fun p n=>bJ rm3 (gZ r l u) (fun p' n'=>(q3 p' n').ext x13) n⟩)
 | _=>exact q3.elim
end
end Mi
end L2
namespace L2
namespace Mi
open PySem PySem.Spec PyProof.Rows
section
variable {X:Cx}
noncomputable def tyN (M:Mem):D -> Option String
 | .non=>some "NoneType"
 | .bl _=>some "bool"
 | .int _=>some "int"
 | .str _=>some "str"
 | .tup _=>some "tuple"
 | .ref a=>match M a with
  | some (.lst _)=>some "list"
  | some (.dct _ _)=>some "dict"
  | _=>none
 | .con _=>none
noncomputable def jC (T t:String):Bool:=t == T || (t == "bool" && T == "int")
theorem tm {K:PySem.W.Frag} {M:Mem} {H:Hp} {x:D} {t:String} {v:V} (rm:RM K M H) (r:RD K H x v) (e:tyN M x = some t):bw K H v (.type t):=by
 cases x with
 | non=>cases e;cases RD.non_iff.mp r;exact .non
 | bl k=>cases e;cases RD.bl_iff.mp r;exact .bl k
 | int i=>cases e;cases RD.int_iff.mp r;exact .int i
 | str i=>cases e;cases RD.str_iff.mp r;exact .str i
 | tup ds =>
   cases e
   obtain ⟨a,vs,rfl,ha,rs⟩:=RD.tup_iff.mp r
   exact .tup ha
 | con ds=>cases e
 | ref a =>
   cases RD.ref_iff.mp r
   simp only [tyN] at e
   cases e0:M a with
   | none=>rw [e0] at e;cases e
   | some o =>
     rw [e0] at e
     cases o with
     | lst ds =>
       cases e
       obtain ⟨vs,ha,rs⟩:=rm _ _ e0
       exact .lst ha
     | dct t kvs =>
       cases e
       have ro:=rm _ _ e0
       cases t with
       | false=>obtain ⟨ps,ha,_⟩:=ro;exact .dK ha
       | true=>obtain ⟨ps,ha,_⟩:=ro;exact .dT ha
     | fdc kvs=>cases e
noncomputable def cb:List String := ["NoneType", "bool", "int", "str", "tuple", "list", "dict"]
theorem pS (K:PySem.W.Frag):∀ T ∈ ["bool", "int", "str", "tuple", "list", "dict"], ∀ t ∈ cb,PySem.W.kitOne K (.type t) (.type T) = some (jC T t):=by
 intro T hT t ht
 simp only [cb,List.mem_cons,List.not_mem_nil,or_false] at hT ht
 rcases hT with rfl | rfl | rfl | rfl | rfl | rfl <;> rcases ht with rfl | rfl | rfl | rfl | rfl | rfl | rfl <;> rfl
noncomputable def eJ (T:String) (ta:TEd):TEd:=fun ρ M Q=>ta ρ M fun x M1 => ∃ t,tyN M1 x = some t /\ Q (.bl (jC T t)) M1
theorem kW {T:String} {ta:TEd} (h:aa ta):aa (eJ T ta):=fun ρ M Q Q' i q=>h _ _ _ _ (fun x M1 ⟨t,e,q1⟩=>⟨t,e,i _ _ q1⟩) q
theorem pT {M:Mem} {x:D} {t:String} (e:tyN M x = some t):t ∈ cb:=by
 cases x with
 | ref a =>
   simp only [tyN] at e
   cases e0:M a with
   | none=>rw [e0] at e;cases e
   | some o=>rw [e0] at e;cases o <;> cases e <;> simp [cb]
 | con _=>cases e
 | _=>cases e;simp [cb]
theorem kX (T:String) (hT:T ∈ ["bool", "int", "str", "tuple", "list", "dict"]):CallR X (.builtin "isinstance") (fun vs H Q => ∃ v t,vs = [v, .ty T] /\ bw X.K H v (.type t) /\ t ∈ cb /\ Q (.bl (jC T t)) H):=by
 intro pins s σ H xs us Q I r h
 obtain ⟨v,t,rfl,ty,ht,q⟩:=h
 obtain ⟨u,c,rfl,ru,rc⟩:=ji r
 cases rc
 exact kA I ru ty (pS X.K T hT t ht) fun tk=>⟨.bl _,H,I.tok tk,rfl,q⟩
theorem pU {e:Expr} {ta:TEd} {T:String} {y:Str} {p p2 pos:Pos} (hT:T ∈ ["bool", "int", "str", "tuple", "list", "dict"]) (m:aa ta) (he:PE X e (lE X.K ta)) (hg:Gl X "isinstance") (hm:X.mg "isinstance" = none)
 (hg2:Gl X y) (hm2:X.mg y = none) (hv:bootBuiltins y = some (.type T)) (hn:y ≠ "__name__") (hdb:(y == ("__debug__":Str)) = false)
 (hs:starEach [e, .Name y p2] X.env = (false,eval e X.env) :: starEach [.Name y p2] X.env) (hpl:(backTo pos (starEach [.Name y p2] X.env)).any (·.1) = false) :
 PE X (.Call (.Name "isinstance" p) [e, .Name y p2] [] pos) (lE X.K (eJ T ta)):=by
 have h2:PE X (.Name y p2) (tC (.ty T)):=oW hg2 hm2 hv rfl hn hdb
 refine PE.imp (bF (kX T hT) hg hm (by decide +kernel) (fh he (fh h2 kB rfl) hs) (by decide) (by decide) hs hpl) fun σ H Q h => ?_
 obtain ⟨ρ,M,rs,rm,q⟩:=h
 exact ⟨ρ,M,rs,rm,m _ _ _ _ (fun x M1 ⟨t,e,q1⟩ v H1 x1 rm1 rd1=>⟨v,t,rfl,tm rm1 rd1 e,pT e,q1 _ H1 x1 rm1 (RD.bl_iff.mpr rfl)⟩) q⟩
noncomputable def wBM (rd:D -> List D -> Mem -> QD -> Prop) (to:TEd) (t:TAd):TEd:=fun ρ M Q=>to ρ M fun x M1=>(∃ a xs,x = .ref a /\ M1 a = some (.lst xs)) /\ t ρ M1 fun ds M2=>rd x ds M2 Q
noncomputable def gm (rd:D -> List D -> Mem -> QD -> Prop):Prop := ∀ x ds M Q Q',(∀ d M',Q d M' -> Q' d M') -> rd x ds M Q -> rd x ds M Q'
theorem pV {rd:D -> List D -> Mem -> QD -> Prop} {to:TEd} {t:TAd} (hr:gm rd) (mo:aa to) (mt:aU t):aa (wBM rd to t):=fun ρ M Q Q' i q =>
 mo _ _ _ _ (fun x M1 ⟨e,q1⟩=>⟨e,mt _ _ _ _ (fun ds M2 q2=>hr _ _ _ _ _ i q2) q1⟩) q
theorem tq {K:PySem.W.Frag} {M:Mem} {H:Hp} {x:D} {v:V} (rm:RM K M H) (r:RD K H x v) (h:∃ a xs,x = .ref a /\ M a = some (.lst xs)):tyV K "list" v H:=by
 obtain ⟨a,xs,rfl,e⟩:=h
 cases RD.ref_iff.mp r
 obtain ⟨vs,ha,_⟩:=rm _ _ e
 exact .inl ⟨rfl,vs,SqL.of ha⟩
theorem pW {K:PySem.W.Frag} {rd:D -> List D -> Mem -> QD -> Prop} {r:V -> List V -> Hp -> VK -> Prop} {to:TEd} {t:TAd} (hr:gm rd) (mo:aa to) (mt:aU t)
 (hh:∀ v vs H Q,lMt K rd v vs H Q -> r v vs H Q) (σ:St) (H:Hp) (Q:VK) (h:lE K (wBM rd to t) σ H Q):tBM K "list" r (lE K to) (lA K t) σ H Q:=by
 obtain ⟨ρ,M,rs,rm,q⟩:=h
 refine ⟨ρ,M,rs,rm,mo _ _ _ _ (fun x M1 ⟨e,q1⟩ v H1 x1 rm1 rd1=>⟨tq rm1 rd1 e, ?_⟩) q⟩
 refine ⟨ρ,M1,rs.mono (x1.stab rm),rm1,mt _ _ _ _ (fun ds M2 q2 vs H2 x2 rm2 rd2 => ?_) q1⟩
 exact hh v vs H2 Q ⟨x,ds,M2,rm2,rd1.mono (x2.stab rm1),rd2,hr _ _ _ _ _ (fun d M' k=>k.ext (x1.trans x2)) q2⟩
noncomputable def fw:D -> List D -> Mem -> QD -> Prop:=fun x ds M Q => ∃ a xs y,x = .ref a /\ ds = [y] /\ M a = some (.lst xs) /\ xs.length < sizeLine /\ Q .non (ag M a (.lst (xs ++ [y])))
noncomputable def rJ:D -> List D -> Mem -> QD -> Prop:=fun x ds M Q => ∃ a xs,x = .ref a /\ ds = [] /\ M a = some (.lst xs) /\ Q .non (ag M a (.lst []))
noncomputable def nk:D -> List D -> Mem -> QD -> Prop:=fun x ds M Q => ∃ a xs,x = .ref a /\ ds = [] /\ M a = some (.lst xs) /\ Q .non (ag M a (.lst xs.reverse))
theorem dL:gm fw:=fun _ _ _ _ _ h ⟨a,xs,y,e1,e2,e3,z,q⟩=>⟨a,xs,y,e1,e2,e3,z,h _ _ q⟩
theorem iV {K:PySem.W.Frag} {M:Mem} {H:Hp} {Q:VK} {d:D} {v:V} {a:Addr} {o0:O} {ds:List D} {vs:List V} (rm:RM K M H) (m:M a = some o0) (rd:RDs K H ds vs) (r:RD K H d v) (q:KE' K M H Q d (ag M a (.lst ds))) (w:fz (some o0) = false:=by rfl) :
 Q v (upd H a (.lst vs)):=by
 have st:Stab H (upd H a (.lst vs)):=rm.stabPut m w
 exact q v _ (Ext.put m w) (rm.put m ⟨vs,aL,rd.mono st⟩ w) (r.mono st)
theorem nl {K:PySem.W.Frag} (v:V) (vs:List V) (H:Hp) (Q:VK) (h:lMt K fw v vs H Q):iO v vs H Q:=by
 obtain ⟨x,ds,M,rm,rx,rs,a,xs,y,rfl,rfl,e,z,q⟩:=h
 cases RD.ref_iff.mp rx
 obtain ⟨w,rfl,rw'⟩:=rs.one
 obtain ⟨us,ha,ru⟩:=rm _ _ e
 exact ⟨a,us,w,rfl,rfl,ha,by rw [ru.length];exact z,iV rm e (ru.append (RDs.cons rw' RDs.nil)) (RD.non_iff.mpr rfl) q⟩
noncomputable abbrev BT:=D -> ai -> Option ai
noncomputable abbrev BTs:=List D -> ai -> Option ai
noncomputable def bM (i:Nat):BT:=fun d ρ => some (ρ.set i (some d))
noncomputable def dY:BTs:=fun ds ρ => match ds with | [] => some ρ | _=>none
noncomputable def bB (b:BT) (bs:BTs):BTs:=fun ds ρ => match ds with | d :: r=>(b d ρ).bind fun ρ'=>bs r ρ' | [] => none
noncomputable def jD (bs:BTs):BT:=fun d ρ => match d with | .tup ds=>bs ds ρ | _=>none
noncomputable def lG (K:PySem.W.Frag) (b:BT):TG:=fun v σ H Q => ∃ d ρ ρ',RD K H d v /\ RS K H σ ρ /\ b d ρ = some ρ' /\ ∀ σ',RS K H σ' ρ' -> Q σ' H
noncomputable def lGs (K:PySem.W.Frag) (b:BTs):TGs:=fun vs σ H Q => ∃ ds ρ ρ',RDs K H ds vs /\ RS K H σ ρ /\ b ds ρ = some ρ' /\ ∀ σ',RS K H σ' ρ' -> Q σ' H
theorem PG.imp {e:Expr} {t t':TG} (h:PG X e t) (i:∀ v σ H Q,t' v σ H Q -> t v σ H Q):PG X e t':=fun pins s σ H v u Q I r q=>h pins s σ H v u Q I r (i _ _ _ _ q)
theorem PGs.imp {e:List Expr} {t t':TGs} (h:PGs X e t) (i:∀ v σ H Q,t' v σ H Q -> t v σ H Q):PGs X e t':=fun pins s σ H v u Q I r q=>h pins s σ H v u Q I r (i _ _ _ _ q)
theorem pX {i:Nat} {x:Str} {pos:Pos} (hN:X.N.Nodup) (hi:X.N[i]? = some x) (hx:Loc X.env.scope x) (hf:X.fn x = true ∨ X.env.scope.names.lookup x = some .local):PG X (.Name x pos) (lG X.K (bM i)) :=
 PG.imp (iK hN hi hx hf) fun v σ H Q ⟨d, ρ, ρ',r,rs,e,q⟩=>by
  cases e
  exact q _ (rs.set i r)
theorem pY:PGs X [] (lGs X.K dY):=PGs.imp p4 fun vs σ H Q ⟨ds, ρ, ρ',r,rs,e,q⟩=>by
 cases ds with
 | nil=>cases e;exact ⟨RDs.nil_iff.mp r,q σ rs⟩
 | cons _ _=>cases e
theorem nn {e:Expr} {es:List Expr} {b:BT} {bs:BTs} (h1:PG X e (lG X.K b)) (h2:PGs X es (lGs X.K bs)) (hs:(assignEach (e :: es) X.env).map (·.2) = assign e X.env :: (assignEach es X.env).map (·.2)) :
 PGs X (e :: es) (lGs X.K (bB b bs)):=PGs.imp (mq h1 h2 hs) fun vs σ H Q ⟨ds, ρ, ρ',r,rs,e,q⟩=>by
 cases ds with
 | nil=>cases e
 | cons d ds =>
   obtain ⟨v,vr,rfl,r1,r2⟩:=RDs.cons_iff.mp r
   simp only [bB] at e
   cases e1:b d ρ with
   | none=>rw [e1] at e;cases e
   | some ρ1 =>
     rw [e1] at e
     exact ⟨v,vr,rfl,d, ρ, ρ1,r1,rs,e1,fun σ' rs'=>⟨ds, ρ1, ρ',r2,rs',e,q⟩⟩
theorem rK {es:List Expr} {k:Nat} {bs:BTs} {n:Nat} {pos:Pos} (hc:X.calm = true) (hlen:∀ ds ρ ρ',bs ds ρ = some ρ' -> ds.length = n) (h:PGs X es (lGs X.K bs)) (hn:(assignEach es X.env).length = n) (hst:(assignEach es X.env).findIdx? (·.1) = none) :
 PG X (.Tuple es k pos) (lG X.K (jD bs)):=PG.imp (qN hc h hn hst) fun v σ H Q ⟨d, ρ, ρ',r,rs,e,q⟩=>by
 cases d with
 | tup ds =>
   obtain ⟨a,vs,rfl,ha,rv⟩:=RD.tup_iff.mp r
   exact ⟨a,vs,rfl,SqT.of ha,by rw [rv.length];exact hlen _ _ _ e,ds, ρ, ρ',rv,rs,e,q⟩
 | _=>cases e
noncomputable abbrev TId:=ai -> Mem -> (List D -> (Mem -> Prop) -> Mem -> Prop) -> Prop
noncomputable def bN (T:TId):Prop := ∀ ρ M Q Q',(∀ xs c M',Q xs c M' -> Q' xs c M') -> T ρ M Q -> T ρ M Q'
noncomputable def Yl (H H':Hp):Prop:=H' = H ∨ ∃ q vs,H q = none /\ H' = upd H q (.tup vs)
noncomputable def fx (K:PySem.W.Frag) (H1:Hp) (xs:List D) (chk:Mem -> Prop) (J:It):Prop := ∀ M H,Stab H1 H -> RM K M H -> chk M -> ∀ i,(xs.length <= i -> J.stop i H) /\ (i < xs.length -> J.go i H /\
 ∀ x H',J.yld i H x H' -> Yl H H' /\ ∃ d,xs[i]? = some d /\ RD K H' d x)
noncomputable def lI (K:PySem.W.Frag) (T:TId):TI:=fun σ H R => ∃ ρ M,RS K H σ ρ /\ RM K M H /\ T ρ M (fun xs chk M1 => ∀ J H1,Ext M H M1 H1 -> RM K M1 H1 -> fx K H1 xs chk J -> R J H1)
theorem PI.imp {tg e:Expr} {t t':TI} (h:PI X tg e t) (i:∀ σ H Q,t' σ H Q -> t σ H Q):PI X tg e t':=fun pins s σ H Q I q=>h pins s σ H Q I (i _ _ _ q)
theorem Yl.ext {K:PySem.W.Frag} {M:Mem} {H H':Hp} (rm:RM K M H) (y:Yl H H'):Ext M H M H' /\ RM K M H':=by
 rcases y with rfl | ⟨q,vs,n,rfl⟩
 ·exact ⟨Ext.refl,rm⟩
 ·exact ⟨Ext.new' n,rm.new n⟩
noncomputable def uc (K:PySem.W.Frag) (tl:TE):TI:=fun σ H R=>tl σ H fun x H1 => ∃ a,x = .ref a /\ (((∃ xs,SqL K H1 a xs) /\ R (Itl K a) H1) ∨ ((∃ xs,SqT K H1 a xs) /\ R (Itt K a) H1))
theorem rL {tg l:Expr} {tl:TE} (hl:PE X l tl):PI X tg l (uc X.K tl):=by
 intro pins s σ H R I h
 refine thn (hl pins s σ H _ I h) fun v s1 ⟨x,H1,I1,r1,q1⟩ => ?_
 obtain ⟨a,e,q⟩:=q1
 subst e
 cases r1
 rcases q with ⟨⟨xs,hq⟩,q⟩ | ⟨⟨xs,hq⟩,q⟩
 ·obtain ⟨its,rv,p,hz⟩:=I1.list hq
  refine wpAny_pyIter_list p.isList ?_
  refine ⟨s1.heap.objs.size,[s1.heap.objs.size],_,_,H1,rfl,I1.kept (t':=s1.toks) fun b o e=>Heap.get?_push_of_some _ e,kn a _,⟨_,Heap.get?_push_size _ rfl,rfl,rfl⟩,fun b hb => ?_,q⟩
  have e:b = s1.heap.objs.size:=by simpa using hb
  subst e
  exact I1.fpOk (Nat.le_refl _) (I1.hok.fresh (Nat.le_refl _))
 ·obtain ⟨its,rv,p,hz⟩:=I1.tuple hq
  refine wpAny_pyIter_tuple (show s1.heap.IsTuple a its.toArray from p) ?_
  refine ⟨s1.heap.objs.size,[s1.heap.objs.size],_,_,H1,rfl,I1.kept (t':=s1.toks) fun b o e=>Heap.get?_push_of_some _ e,jd a _,⟨_,Heap.get?_push_size _ rfl,rfl,rfl⟩,fun b hb => ?_,q⟩
  have e:b = s1.heap.objs.size:=by simpa using hb
  subst e
  exact I1.fpOk (Nat.le_refl _) (I1.hok.fresh (Nat.le_refl _))
noncomputable def h9 (ta:TEd):TId:=fun ρ M R=>ta ρ M fun x M1 => ∃ ds,aW M1 x = some ds /\ R ds (fun M=>aW M x = some ds) M1
theorem no {ta:TEd} (h:aa ta):bN (h9 ta):=fun ρ M Q Q' i q=>h _ _ _ _ (fun x M1 ⟨ds,e,q1⟩=>⟨ds,e,i _ _ _ q1⟩) q
theorem kY {K:PySem.W.Frag} {H1:Hp} {a:Addr} {ds:List D} {chk:Mem -> Prop} (h:∀ M H,Stab H1 H -> RM K M H -> chk M -> ∃ vs,SqL K H a vs /\ RDs K H ds vs):fx K H1 ds chk (Itl K a):=fun M H st rm c i=>by
 obtain ⟨vs,sq,r⟩:=h M H st rm c
 have l:=r.length
 refine ⟨fun hi=>⟨vs,sq,by omega⟩,fun hi=>⟨⟨vs,vs[i]'(by omega),sq,List.getElem?_eq_getElem (by omega)⟩,fun x H' y => ?_⟩⟩
 obtain ⟨e,y⟩:=y
 subst e
 exact ⟨.inl rfl,r.getV (y vs sq)⟩
theorem rM {K:PySem.W.Frag} {H1:Hp} {a:Addr} {ds:List D} {chk:Mem -> Prop} (h:∀ M H,Stab H1 H -> RM K M H -> chk M -> ∃ vs,SqT K H a vs /\ RDs K H ds vs):fx K H1 ds chk (Itt K a):=fun M H st rm c i=>by
 obtain ⟨vs,sq,r⟩:=h M H st rm c
 have l:=r.length
 refine ⟨fun hi=>⟨vs,sq,by omega⟩,fun hi=>⟨⟨vs,vs[i]'(by omega),sq,List.getElem?_eq_getElem (by omega)⟩,fun x H' y => ?_⟩⟩
 obtain ⟨e,y⟩:=y
 subst e
 exact ⟨.inl rfl,r.getV (y vs sq)⟩
theorem rN {tg l:Expr} {ta:TEd} (m:aa ta) (hl:PE X l (lE X.K ta)):PI X tg l (lI X.K (h9 ta)):=by
 refine PI.imp (rL hl) fun σ H R h => ?_
 obtain ⟨ρ,M,rs,rm,q⟩:=h
 refine ⟨ρ,M,rs,rm,m _ _ _ _ (fun x M1 ⟨ds,e,q1⟩ v H1 x1 rm1 rd1 => ?_) q⟩
 cases x with
 | tup es =>
   cases e
   obtain ⟨a,vs,rfl,ha,rv⟩:=RD.tup_iff.mp rd1
   exact ⟨a,rfl, .inr ⟨⟨vs,SqT.of ha⟩,q1 _ H1 x1 rm1 (rM fun M' H' st _ _=>⟨vs,SqT.of (st.tup _ _ ha),rv.mono st⟩)⟩⟩
 | con es =>
   cases e
   obtain ⟨a,vs,rfl,ha,rv⟩:=RD.con_iff.mp rd1
   exact ⟨a,rfl, .inl ⟨⟨vs,ha.sq⟩,q1 _ H1 x1 rm1 (kY fun M' H' st _ _=>⟨vs,(st.sqF ha).sq,rv.mono st⟩)⟩⟩
 | ref a =>
   cases RD.ref_iff.mp rd1
   have get:∀ {M':Mem} {es:List D},aW M' (.ref a) = some es -> M' a = some (.lst es):=fun {M' es} e=>by
    simp only [aW] at e
    cases e0:M' a with
    | none=>rw [e0] at e;cases e
    | some o =>
      rw [e0] at e
      cases o with
      | dct _ _=>cases e
      | fdc _=>cases e
      | lst es'=>cases e;rfl
   obtain ⟨vs,ha,rv⟩:=rm1 _ _ (get e)
   exact ⟨a,rfl, .inl ⟨⟨vs,SqL.of ha⟩,q1 _ H1 x1 rm1 (kY fun M' H' st rm' c=>by
    obtain ⟨us,hb,ru⟩:=rm' _ _ (get c)
    exact ⟨us,SqL.of hb,ru⟩)⟩⟩
 | _=>cases e
noncomputable def bC (lo:Int) (n:Nat):List D:=(List.range n).map fun i => .int (lo + (i:Nat))
theorem rO {K:PySem.W.Frag} {H1:Hp} {lo:Int} {n:Nat}:fx K H1 (bC lo n) (fun _=>True) (Itr lo n):=fun M H st rm c i=>by
 have l:(bC lo n).length = n:=by simp [bC]
 refine ⟨fun hi=>by show n <= i;omega,fun hi=>⟨by show i < n;omega,fun x H' y => ?_⟩⟩
 obtain ⟨e,y⟩:=y
 subst e y
 refine ⟨.inl rfl, .int (lo + i), ?_,RD.int_iff.mpr rfl⟩
 simp only [bC,List.getElem?_map,List.getElem?_range (show i < n by omega),Option.map_some]
noncomputable def eK (ta:TAd):TId:=fun ρ M R=>ta ρ M fun ds M1 => ∃ j:Int,ds = [.int j] /\ -(2 ^ 62) <= j /\ j < 2 ^ 62 /\ R (bC 0 j.toNat) (fun _=>True) M1
theorem kZ {ta:TAd} (h:aU ta):bN (eK ta):=fun ρ M Q Q' i q=>h _ _ _ _ (fun x M1 ⟨j,e,a,b,q1⟩=>⟨j,e,a,b,i _ _ _ q1⟩) q
theorem pZ {tg a:Expr} {ta:TAd} {p pos:Pos} (m:aU ta) (hg:Gl X "range") (hm:X.mg "range" = none) (ha:PA X [a] (lA X.K ta)) (hs:starEach [a] X.env = [(false,eval a X.env)]):PI X tg (.Call (.Name "range" p) [a] [] pos) (lI X.K (eK ta)):=by
 refine PI.imp (ko hg hm ha hs) fun σ H R h => ?_
 obtain ⟨ρ,M,rs,rm,q⟩:=h
 refine ⟨ρ,M,rs,rm,m _ _ _ _ (fun ds M1 ⟨j,e,z1,z2,q1⟩ vs H1 x1 rm1 rd1 => ?_) q⟩
 subst e
 obtain ⟨v,rfl,r⟩:=rd1.one
 cases RD.int_iff.mp r
 exact ⟨j,rfl,z1,z2,q1 _ H1 x1 rm1 rO⟩
end
end Mi
end L2
namespace L2
namespace Mi
open PySem PySem.Spec PyProof.Rows
section
variable {X:Cx}
noncomputable def isT:D -> Bool | .tup _=>true | _=>false
theorem ld {K:PySem.W.Frag} {M:Mem} {H:Hp} {x:D} {ds:List D} {v:V} (rm:RM K M H) (r:RD K H x v) (e:aW M x = some ds):∃ p vs,v = .ref p /\ SqV K (isT x) H p vs /\ RDs K H ds vs:=by
 cases x with
 | tup es =>
   cases e
   obtain ⟨a,vs,rfl,ha,rv⟩:=RD.tup_iff.mp r
   exact ⟨a,vs,rfl,SqT.of ha,rv⟩
 | con es =>
   cases e
   obtain ⟨a,vs,rfl,ha,rv⟩:=RD.con_iff.mp r
   exact ⟨a,vs,rfl,ha.sq,rv⟩
 | ref a =>
   cases RD.ref_iff.mp r
   simp only [aW] at e
   cases e0:M a with
   | none=>rw [e0] at e;cases e
   | some o =>
     rw [e0] at e
     cases o with
     | dct _ _=>cases e
     | fdc _=>cases e
     | lst es =>
       cases e
       obtain ⟨vs,ha,rv⟩:=rm _ _ e0
       exact ⟨a,vs,rfl,SqL.of ha,rv⟩
 | _=>cases e
theorem nr {H:Hp} {p:Addr} {o:HO} (n:H p = none):Stab H (upd H p o):=⟨fun a xs e=>by rw [ah (fun z=>by rw [z,n] at e;cases e)];exact e,fun a o u e=>by rw [ah (fun z=>by rw [z,n] at e;cases e)];exact e⟩
end
end Mi
end L2
namespace L2
namespace Mi
open PySem PySem.Spec PyProof.Rows
section
variable {X:Cx}
noncomputable def cM (xs:List D):List D:=xs.mapIdx fun i x => .tup [.int (i:Nat),x]
noncomputable def eL (ta:TEd):TId:=fun ρ M R=>ta ρ M fun x M1 => ∃ xs,aW M1 x = some xs /\ R (cM xs) (fun M=>aW M x = some xs) M1
theorem lf {ta:TEd} (h:aa ta):bN (eL ta):=fun ρ M Q Q' i q=>h _ _ _ _ (fun x M1 ⟨ds,e,q1⟩=>⟨ds,e,i _ _ _ q1⟩) q
theorem rP {K:PySem.W.Frag} {H1:Hp} {x:D} {xs:List D} {a:Addr} (rx:RD K H1 x (.ref a)):fx K H1 (cM xs) (fun M=>aW M x = some xs) (Ite K (isT x) a):=fun M H st rm c i=>by
 obtain ⟨p1,vs,e1,q1,r1⟩:=ld rm (rx.mono st) c
 cases e1
 have l1:=r1.length
 have lz:(cM xs).length = xs.length:=by simp [cM]
 refine ⟨fun hi=>⟨vs,q1,by omega⟩,fun hi=>⟨⟨vs,vs[i]'(by omega),q1,List.getElem?_eq_getElem (by omega)⟩,fun v H' hy => ?_⟩⟩
 obtain ⟨p,v1,n,rfl,rfl,g⟩:=hy
 obtain ⟨d1,hd1,rd1⟩:=r1.getV (g vs q1)
 have sb:=nr (o := .tup [.int (i:Nat),v1]) n
 refine ⟨.inr ⟨p,[.int (i:Nat),v1],n,rfl⟩, .tup [.int (i:Nat),d1], ?_,RD.tup_iff.mpr ⟨p,[.int (i:Nat),v1],rfl,aL,RDs.cons (RD.int_iff.mpr rfl) (RDs.cons (rd1.mono sb) RDs.nil)⟩⟩
 simp [cM,List.getElem?_mapIdx,hd1]
theorem q0 {elts:List Expr} {cx} {pos p pos':Pos} {a:Expr} {ta:TEd} (ma:aa ta) (hg:Gl X "enumerate") (hm:X.mg "enumerate" = none) (ha:PA X [a] (lA X.K (bf ta bH))) (hs:starEach [a] X.env = [(false,eval a X.env)]) :
 PI X (.Tuple elts cx pos) (.Call (.Name "enumerate" p) [a] [] pos') (lI X.K (eL ta)):=by
 refine PI.imp (pw hg hm ha hs) fun σ H R h => ?_
 obtain ⟨ρ,M,rs,rm,q⟩:=h
 refine ⟨ρ,M,rs,rm,ma _ _ _ _ (fun x M1 ⟨xs,e1,q1⟩ vs H1 x1 rm1 rd1 => ?_) q⟩
 obtain ⟨v,rfl,r1⟩:=rd1.one
 obtain ⟨p1,us,rfl,s1,_⟩:=ld rm1 r1 e1
 exact ⟨p1,isT x,us,rfl,s1,q1 _ H1 x1 rm1 (rP r1)⟩
end
end Mi
end L2
namespace L2
namespace Mi
open PySem PySem.Spec PyProof.Rows
noncomputable abbrev NC:=ai -> Mem -> List D -> Prop
noncomputable abbrev TCd:=ai -> Mem -> List D -> NC -> Prop
noncomputable def bm (T:TCd):Prop := ∀ ρ M acc N N',(∀ ρ' M' acc',N ρ' M' acc' -> N' ρ' M' acc') -> T ρ M acc N -> T ρ M acc N'
structure ExtP (p:Addr) (M:Mem) (H:Hp) (M':Mem) (H':Hp):Prop where
 kp:∀ a o,a ≠ p -> fz (M a) = true -> H a = some o -> H' a = some o
 nw:∀ a o,fz (M a) = true -> H a = some o -> M' a = M a
section
variable {K:PySem.W.Frag} {M M' M'':Mem} {H H' H'':Hp} {p:Addr}
theorem ExtP.new (x:ExtP p M H M' H') (a:Addr) (o:HO) (n:M a = none) (e:H a = some o):M' a = none:=(x.nw a o (by rw [n];rfl) e).trans n
theorem Ext.toP (x:Ext M H M' H'):ExtP p M H M' H':=⟨fun a o _=>x.kp a o,x.nw⟩
theorem ExtP.refl:ExtP p M H M H:=⟨fun _ _ _ _ h=>h,fun _ _ _ _=>rfl⟩
theorem ExtP.trans {vs:List V} (a:ExtP p M H M' H') (hp:H p = some (.lst vs)) (hp':∃ vs',H' p = some (.lst vs')) (b:ExtP p M' H' M'' H''):ExtP p M H M'' H'' :=
 ⟨fun c o ne n h=>b.kp c o ne (by rw [a.nw c o n h];exact n) (a.kp c o ne n h),fun c o n h=>by
   have n':fz (M' c) = true:=by rw [a.nw c o n h];exact n
   refine Eq.trans ?_ (a.nw c o n h)
   by_cases z:c = p
   ·subst z
    obtain ⟨vs',e⟩:=hp'
    exact b.nw c _ n' e
   ·exact b.nw c o n' (a.kp c o z n h)⟩
theorem ExtP.stab {vs:List V} (r:RM K M H) (hp:H p = some (.lst vs)) (x:ExtP p M H M' H'):Stab H H' where
 tup:=fun a xs e=>x.kp a _ (fun z=>by subst z;rw [hp] at e;cases e) (by rw [r.fzT e];rfl) e
 frz:=fun a o u e=>x.kp a _ (fun z=>by subst z;rw [hp] at e;cases e) (r.fzF e) e
theorem hC {vs:List V} {ho:HO} (hp:H p = some (.lst vs)):Stab H (upd H p ho) :=
 ⟨fun a xs e=>by rw [ah (fun z=>by subst z;rw [hp] at e;cases e)];exact e,fun a o u e=>by rw [ah (fun z=>by subst z;rw [hp] at e;cases e)];exact e⟩
theorem RM.side {vs:List V} {ho:HO} (r:RM K M H) (n:M p = none) (hp:H p = some (.lst vs)):RM K M (upd H p ho):=fun a o e=>by
 have ne:a ≠ p:=fun z=>by subst z;rw [n] at e;cases e
 exact (r a o e).mono (hC hp) fun ho' q=>by rw [ah ne];exact q
end
noncomputable def dy (K:PySem.W.Frag) (H:Hp) (p:Addr) (acc:List D):Prop := ∃ vs,H p = some (.lst vs) /\ RDs K H acc vs
noncomputable def KC (K:PySem.W.Frag) (p:Addr) (M:Mem) (H:Hp) (N:St -> Hp -> Prop):NC:=fun ρ' M' acc' => ∀ σ' H',ExtP p M H M' H' -> RS K H' σ' ρ' -> RM K M' H' -> dy K H' p acc' -> N σ' H'
noncomputable def lC (K:PySem.W.Frag) (p:Addr) (T:TCd):TC:=fun σ H N => ∃ ρ M acc,RS K H σ ρ /\ RM K M H /\ M p = none /\ dy K H p acc /\ T ρ M acc (KC K p M H N)
theorem KC.ext {K:PySem.W.Frag} {p:Addr} {M M2 M':Mem} {H H2:Hp} {N:St -> Hp -> Prop} {ρ:ai} {acc:List D} {vs:List V} (hp:H p = some (.lst vs)) (hp':∃ vs',H2 p = some (.lst vs')) (x:ExtP p M H M2 H2) (h:KC K p M H N ρ M' acc):KC K p M2 H2 N ρ M' acc :=
 fun σ' H' y=>h σ' H' (x.trans hp hp' y)
noncomputable def cu (te:TEd):TCd:=fun ρ M acc N=>te ρ M fun x M1=>acc.length < sizeLine /\ N ρ M1 (acc ++ [x])
noncomputable def aV:List TTd -> TCd -> TCd
 | [],tb=>tb
 | t :: r,tb=>fun ρ M acc N=>t ρ M fun b M1=>if b = true then aV r tb ρ M1 acc N else N ρ M1 acc
noncomputable def bn (b:BT) (tb:TCd) (chk:Mem -> Prop) (N:NC):List D -> NC
 | [] => fun ρ M acc=>chk M /\ N ρ M acc
 | x :: xs=>fun ρ M acc=>chk M /\ ∃ ρ',b x ρ = some ρ' /\ tb ρ' M acc (bn b tb chk N xs)
noncomputable def ce (src:TId) (b:BT) (tb:TCd):TCd:=fun ρ M acc N=>src ρ M fun xs chk M1=>bn b tb chk N xs ρ M1 acc
noncomputable def dz (fr:List (Option Nat)) (src:TId) (b:BT) (tb:TCd):TEd:=fun ρ M Q=>src ρ M fun xs chk M1=>bn b tb chk (fun _ M' acc => ∀ p,M' p = none -> Q (.ref p) (ag M' p (.lst acc))) xs (fo fr ρ) M1 []
theorem aY {te:TEd} (h:aa te):bm (cu te):=fun ρ M acc N N' i q=>h _ _ _ _ (fun x M1 ⟨z,q1⟩=>⟨z,i _ _ _ q1⟩) q
theorem ax {tb:TCd} (hb:bm tb):∀ {ts:List TTd},(∀ t ∈ ts,aq t) -> bm (aV ts tb)
 | [],_=>hb
 | t :: r,h=>fun ρ M acc N N' i q=>h t List.mem_cons_self _ _ _ _ (fun b M1 q1=>by
   cases b with
   | true=>rw [if_pos rfl] at q1 ⊢;exact ax hb (fun t' ht=>h t' (List.mem_cons_of_mem _ ht)) _ _ _ _ _ i q1
   | false=>rw [if_neg Bool.false_ne_true] at q1 ⊢;exact i _ _ _ q1) q
theorem da {b:BT} {tb:TCd} (hb:bm tb) {chk:Mem -> Prop} {N N':NC} (i:∀ ρ' M' acc',N ρ' M' acc' -> N' ρ' M' acc'):∀ (xs:List D) (ρ:ai) (M:Mem) (acc:List D),bn b tb chk N xs ρ M acc -> bn b tb chk N' xs ρ M acc
 | [], ρ,M,acc,h=>⟨h.1,i _ _ _ h.2⟩
 | x :: xs, ρ,M,acc,⟨c, ρ',e,q⟩=>⟨c, ρ',e,hb _ _ _ _ _ (fun ρ2 M2 acc2 q2=>da hb i xs ρ2 M2 acc2 q2) q⟩
theorem dM {src:TId} {b:BT} {tb:TCd} (hs:bN src) (hb:bm tb):bm (ce src b tb):=fun ρ M acc N N' i q=>hs _ _ _ _ (fun xs c M1 q1=>da hb i xs _ _ _ q1) q
theorem fR {fr:List (Option Nat)} {src:TId} {b:BT} {tb:TCd} (hs:bN src) (hb:bm tb):aa (dz fr src b tb):=fun ρ M Q Q' i q =>
 hs _ _ _ _ (fun xs c M1 q1=>da hb (fun _ M' acc q2 p n=>i _ _ (q2 p n)) xs _ _ _ q1) q
section
variable {K:PySem.W.Frag} {p:Addr}
theorem db {te:TEd} (m:aa te) (σ:St) (H:Hp) (N:St -> Hp -> Prop) (h:lC K p (cu te) σ H N):oE p (lE K te) σ H N:=by
 obtain ⟨ρ,M,acc,rs,rm,n,⟨vs,hp,ra⟩,q⟩:=h
 refine ⟨ρ,M,rs,rm,m _ _ _ _ (fun x M1 ⟨z,q1⟩ v H1 x1 rm1 rd1 => ?_) q⟩
 have hp1:=x1.keep p _ n hp
 have n1:=x1.new p _ n hp
 have st:=x1.stab rm
 have st2:Stab H1 (upd H1 p (.lst (vs ++ [v]))):=hC hp1
 refine ⟨vs,hp1,by rw [ra.length];exact z,q1 σ _ ⟨fun a o ne m' e => ?_,x1.nw⟩ ((rs.mono st).mono st2) (rm1.side n1 hp1) ⟨vs ++ [v],aL,((ra.mono st).mono st2).append (RDs.cons (rd1.mono st2) RDs.nil)⟩⟩
 rw [ah ne]
 exact x1.kp a o m' e
theorem eM {tb:TCd} (mb:bm tb):∀ {ts:List TTd},(∀ t ∈ ts,aq t) -> ∀ (σ:St) (H:Hp) (N:St -> Hp -> Prop),lC K p (aV ts tb) σ H N -> ez (ts.map (lT K)) (lC K p tb) σ H N
 | [],_, σ,H,N,h=>h
 | t :: r,hm, σ,H,N,h=>by
   obtain ⟨ρ,M,acc,rs,rm,n,⟨vs,hp,ra⟩,q⟩:=h
   refine ⟨ρ,M,rs,rm,hm t List.mem_cons_self _ _ _ _ (fun b M1 q1 H1 x1 rm1 => ?_) q⟩
   have hp1:=x1.keep p _ n hp
   have n1:=x1.new p _ n hp
   have st:=x1.stab rm
   cases b with
   | false =>
     rw [if_neg Bool.false_ne_true] at q1
     dsimp only
     rw [if_neg Bool.false_ne_true]
     exact q1 σ H1 x1.toP (rs.mono st) rm1 ⟨vs,hp1,ra.mono st⟩
   | true =>
     rw [if_pos rfl] at q1
     dsimp only
     rw [if_pos rfl]
     exact eM mb (fun t' ht=>hm t' (List.mem_cons_of_mem _ ht)) σ H1 N ⟨ρ,M1,acc,rs.mono st,rm1,n1,⟨vs,hp1,ra.mono st⟩,
      ax mb (fun t' ht=>hm t' (List.mem_cons_of_mem _ ht)) _ _ _ _ _ (fun ρ' M' acc' k=>k.ext hp ⟨vs,hp1⟩ x1.toP) q1⟩
theorem fS {b:BT} {tb:TCd} (mb:bm tb) {xs:List D} {chk:Mem -> Prop} {J:It} {H1:Hp} {M1:Mem} {Nd:NC} {N:St -> Hp -> Prop} {σ:St} {ρ:ai} {acc:List D} (it:fx K H1 xs chk J) (rs:RS K H1 σ ρ) (rm:RM K M1 H1) (n:M1 p = none)
 (ac:dy K H1 p acc) (q:bn b tb chk Nd xs ρ M1 acc) (hN:∀ ρ' M' acc' σ' H',ExtP p M1 H1 M' H' -> RS K H' σ' ρ' -> RM K M' H' -> dy K H' p acc' -> Nd ρ' M' acc' -> N σ' H') :
 dr J (lG K b) (lC K p tb) N σ H1:=by
 obtain ⟨vs1,hp1,_⟩:=id ac
 refine ⟨fun i m σ H=>m = xs.length - i /\ i <= xs.length /\ ∃ ρ M acc,RS K H σ ρ /\ RM K M H /\ M p = none /\ dy K H p acc /\ ExtP p M1 H1 M H /\ bn b tb chk Nd (xs.drop i) ρ M acc,⟨xs.length,by simp,Nat.zero_le _, ρ,M1,acc,rs,rm,n,ac,ExtP.refl,q⟩, ?_⟩
 rintro i m σ H ⟨rfl,hi, ρ,M,acc,rs,rm2,n,ac,x,q⟩
 have st:=x.stab rm hp1
 obtain ⟨vs,hp,ra⟩:=id ac
 by_cases hlt:i < xs.length
 ·rw [List.drop_eq_getElem_cons hlt] at q
  obtain ⟨c, ρ',hb,q⟩:=q
  obtain ⟨go,yl⟩:=(it M H st rm2 c i).2 hlt
  refine .inr ⟨go,fun σ' H' => ∃ m',m' < xs.length - i /\ (m' = xs.length - (i + 1) /\ i + 1 <= xs.length /\ ∃ ρ M acc,RS K H' σ' ρ /\ RM K M H' /\ M p = none /\ dy K H' p acc /\ ExtP p M1 H1 M H' /\ bn b tb chk Nd (xs.drop (i + 1)) ρ M acc),fun σ' H' h=>h,fun x' H' y => ?_⟩
  obtain ⟨yy,d,hd,rd⟩:=yl x' H' y
  rw [List.getElem?_eq_getElem hlt] at hd
  cases hd
  obtain ⟨xy,rmy⟩:=yy.ext rm2
  have sty:=xy.stab rm2
  have hpy:=xy.keep p _ n hp
  refine ⟨_, ρ, ρ',rd,rs.mono sty,hb,fun σ2 rs2 => ?_⟩
  refine ⟨ρ',M,acc,rs2,rmy,n,⟨vs,hpy,ra.mono sty⟩,mb _ _ _ _ _ (fun ρ3 M3 acc3 q3 σ3 H3 x3 rs3 rm3 ac3 => ?_) q⟩
  have n3:M3 p = none:=x3.new p _ n hpy
  exact ⟨xs.length - (i + 1),by omega,rfl,hlt, ρ3,M3,acc3,rs3,rm3,n3,ac3,(x.trans hp1 ⟨vs,hp⟩ xy.toP).trans hp1 ⟨vs,hpy⟩ x3,q3⟩
 ·have e:i = xs.length:=by omega
  subst e
  rw [List.drop_length] at q
  exact .inl ⟨(it M H st rm2 q.1 _).1 (Nat.le_refl _),hN ρ M acc σ H x rs rm2 ac q.2⟩
theorem dN {src:TId} {b:BT} {tb:TCd} (ms:bN src) (mb:bm tb) (σ:St) (H:Hp) (N:St -> Hp -> Prop) (h:lC K p (ce src b tb) σ H N):(lI K src) σ H fun J H1=>dr J (lG K b) (lC K p tb) N σ H1:=by
 obtain ⟨ρ,M,acc,rs,rm,n,⟨vs,hp,ra⟩,q⟩:=h
 refine ⟨ρ,M,rs,rm,ms _ _ _ _ (fun xs chk M1 q1 J H1 x1 rm1 it => ?_) q⟩
 have hp1:=x1.keep p _ n hp
 have n1:=x1.new p _ n hp
 have st:=x1.stab rm
 exact fS mb it (rs.mono st) rm1 n1 ⟨vs,hp1,ra.mono st⟩ q1 fun ρ' M' acc' σ' H' x2 rs' rm' ac' k=>k σ' H' (x1.toP.trans hp ⟨vs,hp1⟩ x2) rs' rm' ac'
theorem cv {fr:List (Option Nat)} {src:TId} {b:BT} {tb:TCd} (ms:bN src) (mb:bm tb) (σ:St) (H:Hp) (Q:VK) (h:lE K (dz fr src b tb) σ H Q):jr (lI K src) (lG K b) (fun p=>lC K p tb) fr σ H Q:=by
 obtain ⟨ρ,M,rs,rm,q⟩:=h
 refine ⟨ρ,M,rs,rm,ms _ _ _ _ (fun xs chk M1 q1 J H1 x1 rm1 it p n => ?_) q⟩
 have st:=x1.stab rm
 have xn:Ext M1 H1 M1 (upd H1 p (.lst [])):=Ext.new' n
 have stn:=xn.stab rm1
 have n1:M1 p = none:=rm1.out n
 refine fS (p:=p) mb (xs:=xs) (chk:=chk) (fun M' H' st'=>it M' H' ⟨fun a xs e=>st'.tup _ _ (stn.tup _ _ e),fun a o u e=>st'.frz _ _ _ (stn.frz _ _ _ e)⟩) (((rs.mono st).mono stn).inh fr) (rm1.new n) n1 ⟨[],aL,RDs.nil⟩ q1 fun ρ' M' acc' σ' H' x2 rs' rm' ac' k => ?_
 obtain ⟨vs,hp,ra⟩:=ac'
 have n':M' p = none:=x2.new p _ n1 aL
 refine k p n' (.ref p) H' ⟨fun a o m e => ?_,fun a o m e => ?_⟩ (fun a o e => ?_) (RD.ref_iff.mpr rfl)
 ·have e1:=x1.kp a o m e
  have ne:a ≠ p:=fun z=>by subst z;rw [n] at e1;cases e1
  exact x2.kp a o ne (by rw [x1.nw a o m e];exact m) (by rw [ah ne];exact e1)
 ·have e1:=x1.kp a o m e
  have ne:a ≠ p:=fun z=>by subst z;rw [n] at e1;cases e1
  rw [ao ne]
  exact (x2.nw a o (by rw [x1.nw a o m e];exact m) (by rw [ah ne];exact e1)).trans (x1.nw a o m e)
 ·by_cases z:a = p
  ·subst z
   rw [ad] at e;cases e
   exact ⟨vs,hp,ra⟩
  ·rw [ao z] at e
   exact rm' a o e
end
end Mi
end L2
namespace L2
namespace Mi
open PySem PySem.Spec PyProof.Rows
noncomputable def dA:TSd:=fun D ρ M=>D.nx ρ M
noncomputable def hE (t u:TSd):TSd:=fun D ρ M=>t { D with nx:=u D } ρ M
noncomputable def dc:TSd:=fun D ρ M=>D.bk ρ M
noncomputable def eN:TSd:=fun D ρ M=>D.ct ρ M
noncomputable def eO (te:TEd):TSd:=fun D ρ M=>te ρ M fun _ M1=>D.nx ρ M1
noncomputable def hG (te:TEd):TSd:=fun D ρ M=>te ρ M D.rt
noncomputable def sIf (c:TTd) (t u:TSd):TSd:=fun D ρ M=>c ρ M fun b M1=>if b = true then t D ρ M1 else u D ρ M1
noncomputable def dZ (te:TEd) (b:BT):TSd:=fun D ρ M=>te ρ M fun x M1 => ∃ ρ',b x ρ = some ρ' /\ D.nx ρ' M1
noncomputable def hJ (ta:TAd) (bs:BTs):TSd:=fun D ρ M=>ta ρ M fun xs M1 => ∃ ρ',bs xs ρ = some ρ' /\ D.nx ρ' M1
noncomputable def ba (b:BT) (tb:TSd) (chk:Mem -> Prop) (D:bj):List Mi.D -> ai -> Mem -> Prop
 | [] => fun ρ M=>chk M /\ D.nx ρ M
 | x :: xs=>fun ρ M=>chk M /\ ∃ ρ',b x ρ = some ρ' /\ tb { D with nx:=ba b tb chk D xs,ct:=ba b tb chk D xs,bk:=D.nx } ρ' M
noncomputable def hU (src:TId) (b:BT) (tb:TSd):TSd:=fun D ρ M=>src ρ M fun xs chk M1=>ba b tb chk D xs ρ M1
noncomputable def aH (c:TTd) (tb:TSd) (D:bj):Nat -> ai -> Mem -> Prop
 | 0=>fun _ _=>False
 | n + 1=>fun ρ M=>c ρ M fun b M1=>if b = true then tb { D with nx:=aH c tb D n,ct:=aH c tb D n,bk:=D.nx } ρ M1 else D.nx ρ M1
noncomputable def de (c:TTd) (tb:TSd):TSd:=fun D ρ M => ∃ n,aH c tb D n ρ M
theorem fT:au dA:=fun _ _ _ _ h q=>h.nx _ _ q
theorem jE:au dc:=fun _ _ _ _ h q=>h.bk _ _ q
theorem lg:au eN:=fun _ _ _ _ h q=>h.ct _ _ q
theorem lh {t u:TSd} (ht:au t) (hu:au u):au (hE t u):=fun a b ρ M h q=>ht { a with nx:=u a } { b with nx:=u b } _ _ ⟨fun ρ' M' q'=>hu _ _ _ _ h q',h.rt,h.bk,h.ct⟩ q
theorem lj {te:TEd} (h:aa te):au (eO te):=fun a b ρ M i q=>h _ _ _ _ (fun _ M1 q1=>i.nx _ _ q1) q
theorem nt {te:TEd} (h:aa te):au (hG te):=fun a b ρ M i q=>h _ _ _ _ (fun d M1 q1=>i.rt _ _ q1) q
theorem nv {c:TTd} {t u:TSd} (hc:aq c) (ht:au t) (hu:au u):au (sIf c t u):=fun a b ρ M i q=>hc _ _ _ _ (fun k M1 q1=>by
 cases k with
 | true=>rw [if_pos rfl] at q1 ⊢;exact ht _ _ _ _ i q1
 | false=>rw [if_neg Bool.false_ne_true] at q1 ⊢;exact hu _ _ _ _ i q1) q
theorem ny {te:TEd} {bt:BT} (h:aa te):au (dZ te bt):=fun a b ρ M i q=>h _ _ _ _ (fun d M1 ⟨ρ',e,q1⟩=>⟨ρ',e,i.nx _ _ q1⟩) q
theorem nA {ta:TAd} {bs:BTs} (h:aU ta):au (hJ ta bs):=fun a b ρ M i q=>h _ _ _ _ (fun d M1 ⟨ρ',e,q1⟩=>⟨ρ',e,i.nx _ _ q1⟩) q
theorem df {bt:BT} {tb:TSd} (hb:au tb) {chk:Mem -> Prop} {a b:bj} (i:LeD a b):∀ (xs:List D) (ρ:ai) (M:Mem),ba bt tb chk a xs ρ M -> ba bt tb chk b xs ρ M
 | [], ρ,M,h=>⟨h.1,i.nx _ _ h.2⟩
 | x :: xs, ρ,M,⟨c, ρ',e,q⟩=>⟨c, ρ',e,hb { a with nx:=ba bt tb chk a xs,ct:=ba bt tb chk a xs,bk:=a.nx } { b with nx:=ba bt tb chk b xs,ct:=ba bt tb chk b xs,bk:=b.nx } _ _ ⟨fun ρ2 M2 q2=>df hb i xs ρ2 M2 q2,i.rt,i.nx,fun ρ2 M2 q2=>df hb i xs ρ2 M2 q2⟩ q⟩
theorem nB {src:TId} {bt:BT} {tb:TSd} (hs:bN src) (hb:au tb):au (hU src bt tb):=fun a b ρ M i q=>hs _ _ _ _ (fun xs c M1 q1=>df hb i xs _ _ q1) q
theorem cw {c:TTd} {tb:TSd} (hc:aq c) (hb:au tb) {a b:bj} (i:LeD a b):∀ (n:Nat) (ρ:ai) (M:Mem),aH c tb a n ρ M -> aH c tb b n ρ M
 | 0, ρ,M,h=>h
 | n + 1, ρ,M,h=>hc _ _ _ _ (fun k M1 q1=>by
   cases k with
   | true=>rw [if_pos rfl] at q1 ⊢;exact hb { a with nx:=aH c tb a n,ct:=aH c tb a n,bk:=a.nx } { b with nx:=aH c tb b n,ct:=aH c tb b n,bk:=b.nx } _ _ ⟨fun ρ2 M2 q2=>cw hc hb i n ρ2 M2 q2,i.rt,i.nx,fun ρ2 M2 q2=>cw hc hb i n ρ2 M2 q2⟩ q1
   | false=>rw [if_neg Bool.false_ne_true] at q1 ⊢;exact i.nx _ _ q1) h
theorem jF {c:TTd} {tb:TSd} (hc:aq c) (hb:au tb):au (de c tb):=fun a b ρ M i ⟨n,q⟩=>⟨n,cw hc hb i n _ _ q⟩
section
variable {K:PySem.W.Frag}
theorem fU (D:aZ) (σ:St) (H:Hp) (h:lS K dA D σ H):j9 D σ H:=by
 obtain ⟨ρ,M,A,rs,rm,l,q⟩:=h
 exact l.nx ρ M σ H Ext.refl rs rm q
theorem jG (D:aZ) (σ:St) (H:Hp) (h:lS K dc D σ H):kj D σ H:=by
 obtain ⟨ρ,M,A,rs,rm,l,q⟩:=h
 exact l.bk ρ M σ H Ext.refl rs rm q
theorem ll (D:aZ) (σ:St) (H:Hp) (h:lS K eN D σ H):oo D σ H:=by
 obtain ⟨ρ,M,A,rs,rm,l,q⟩:=h
 exact l.ct ρ M σ H Ext.refl rs rm q
theorem nC {t u:TSd} (mt:au t) (mu:au u) (D:aZ) (σ:St) (H:Hp) (h:lS K (hE t u) D σ H):qJ (lS K t) (lS K u) D σ H:=by
 obtain ⟨ρ,M,A,rs,rm,l,q⟩:=h
 exact ⟨ρ,M, { A with nx:=u A },rs,rm,⟨fun ρ' M' σ' H' x rs' rm' q'=>⟨ρ',M',A,rs',rm',l.ext x,q'⟩,l.rt,l.bk,l.ct⟩,q⟩
theorem lm {te:TEd} (m:aa te) (D:aZ) (σ:St) (H:Hp) (h:lS K (eO te) D σ H):ot (lE K te) D σ H:=by
 obtain ⟨ρ,M,A,rs,rm,l,q⟩:=h
 exact ⟨ρ,M,rs,rm,m _ _ _ _ (fun d M1 q1 v H1 x1 rm1 rd1=>l.nx ρ M1 σ H1 x1 (rs.mono (x1.stab rm)) rm1 q1) q⟩
theorem nD {te:TEd} (m:aa te) (D:aZ) (σ:St) (H:Hp) (h:lS K (hG te) D σ H):qK (lE K te) D σ H:=by
 obtain ⟨ρ,M,A,rs,rm,l,q⟩:=h
 exact ⟨ρ,M,rs,rm,m _ _ _ _ (fun d M1 q1 v H1 x1 rm1 rd1=>l.rt d M1 v H1 x1 rm1 rd1 q1) q⟩
theorem q8 {c:TTd} {t u:TSd} (mc:aq c) (D:aZ) (σ:St) (H:Hp) (h:lS K (sIf c t u) D σ H):qM (lT K c) (lS K t) (lS K u) D σ H:=by
 obtain ⟨ρ,M,A,rs,rm,l,q⟩:=h
 refine ⟨ρ,M,rs,rm,mc _ _ _ _ (fun k M1 q1 H1 x1 rm1 => ?_) q⟩
 cases k with
 | true=>rw [if_pos rfl] at q1 ⊢;exact ⟨ρ,M1,A,rs.mono (x1.stab rm),rm1,l.ext x1,q1⟩
 | false=>rw [if_neg Bool.false_ne_true] at q1 ⊢;exact ⟨ρ,M1,A,rs.mono (x1.stab rm),rm1,l.ext x1,q1⟩
theorem nE {te:TEd} {b:BT} (m:aa te) (D:aZ) (σ:St) (H:Hp) (h:lS K (dZ te b) D σ H):jb (lE K te) (lG K b) D σ H:=by
 obtain ⟨ρ,M,A,rs,rm,l,q⟩:=h
 refine ⟨ρ,M,rs,rm,m _ _ _ _ (fun d M1 ⟨ρ',e,q1⟩ v H1 x1 rm1 rd1 => ?_) q⟩
 exact ⟨d, ρ, ρ',rd1,rs.mono (x1.stab rm),e,fun σ' rs'=>l.nx ρ' M1 σ' H1 x1 rs' rm1 q1⟩
theorem fV {te:TEd} {i:Nat} (m:aa te) (D:aZ) (σ:St) (H:Hp) (h:lS K (dZ te (bM i)) D σ H):jb (lE K te) (el i) D σ H:=by
 obtain ⟨ρ,M,A,rs,rm,l,q⟩:=h
 refine ⟨ρ,M,rs,rm,m _ _ _ _ (fun d M1 ⟨ρ',e,q1⟩ v H1 x1 rm1 rd1 => ?_) q⟩
 cases e
 exact l.nx _ M1 _ H1 x1 ((rs.mono (x1.stab rm)).set i rd1) rm1 q1
theorem nF {src:TId} {b:BT} {tb:TSd} (ms:bN src) (mb:au tb) (D:aZ) (σ:St) (H:Hp) (h:lS K (hU src b tb) D σ H):qS (lI K src) (lG K b) (lS K tb) D σ H:=by
 obtain ⟨ρ,M,A,rs,rm,l,q⟩:=h
 refine ⟨ρ,M,rs,rm,ms _ _ _ _ (fun xs chk M1 q1 J H1 x1 rm1 it => ?_) q⟩
 refine ⟨fun i m σ H'=>m = xs.length - i /\ i <= xs.length /\ ∃ ρ M2,RS K H' σ ρ /\ RM K M2 H' /\ Ext M1 H1 M2 H' /\ ba b tb chk A (xs.drop i) ρ M2,⟨xs.length,by simp,Nat.zero_le _, ρ,M1,rs.mono (x1.stab rm),rm1,Ext.refl,q1⟩, ?_⟩
 rintro i m σ2 H2 ⟨rfl,hi, ρ2,M2,rs2,rm2,x2,q2⟩
 have st2:=x2.stab rm1
 by_cases hlt:i < xs.length
 ·rw [List.drop_eq_getElem_cons hlt] at q2
  obtain ⟨c, ρ',hb,q3⟩:=q2
  obtain ⟨go,yl⟩:=(it M2 H2 st2 rm2 c i).2 hlt
  refine .inr ⟨go,fun σ' H' => ∃ m',m' < xs.length - i /\ (m' = xs.length - (i + 1) /\ i + 1 <= xs.length /\ ∃ ρ M,RS K H' σ' ρ /\ RM K M H' /\ Ext M1 H1 M H' /\ ba b tb chk A (xs.drop (i + 1)) ρ M),fun σ' H' h=>h,fun x' H' y => ?_⟩
  obtain ⟨yy,d,hd,rd⟩:=yl x' H' y
  rw [List.getElem?_eq_getElem hlt] at hd
  cases hd
  obtain ⟨xy,rmy⟩:=yy.ext rm2
  have x12:=x1.trans (x2.trans xy)
  refine ⟨_, ρ2, ρ',rd,rs2.mono (xy.stab rm2),hb,fun σ3 rs3 => ?_⟩
  have nx:∀ ρ5 M5 σ5 H5,Ext M2 H' M5 H5 -> RS K H5 σ5 ρ5 -> RM K M5 H5 -> ba b tb chk A (xs.drop (i + 1)) ρ5 M5 -> ∃ m',m' < xs.length - i /\ (m' = xs.length - (i + 1) /\ i + 1 <= xs.length /\ ∃ ρ M,RS K H5 σ5 ρ /\ RM K M H5 /\ Ext M1 H1 M H5 /\ ba b tb chk A (xs.drop (i + 1)) ρ M) :=
   fun ρ5 M5 σ5 H5 x5 rs5 rm5 q5=>⟨xs.length - (i + 1),by omega,rfl,hlt, ρ5,M5,rs5,rm5,(x2.trans xy).trans x5,q5⟩
  refine ⟨ρ',M2, { A with nx:=ba b tb chk A (xs.drop (i + 1)),ct:=ba b tb chk A (xs.drop (i + 1)),bk:=A.nx },rs3,rmy,⟨nx,fun d M5 v H5 x5=>l.rt d M5 v H5 (x12.trans x5),fun ρ5 M5 σ5 H5 x5=>l.nx ρ5 M5 σ5 H5 (x12.trans x5),nx⟩,q3⟩
 ·have e:i = xs.length:=by omega
  subst e
  rw [List.drop_length] at q2
  exact .inl ⟨(it M2 H2 st2 rm2 q2.1 _).1 (Nat.le_refl _),l.nx ρ2 M2 σ2 H2 (x1.trans x2) rs2 rm2 q2.2⟩
theorem jH {c:TTd} {tb:TSd} (mc:aq c) (mb:au tb) (D:aZ) (σ:St) (H:Hp) (h:lS K (de c tb) D σ H):km (lT K c) (lS K tb) D σ H:=by
 obtain ⟨ρ,M,A,rs,rm,l,n,q⟩:=h
 refine ⟨fun m σ' H' => ∃ ρ' M',RS K H' σ' ρ' /\ RM K M' H' /\ Ext M H M' H' /\ aH c tb A m ρ' M',⟨n, ρ,M,rs,rm,Ext.refl,q⟩, ?_⟩
 rintro m σ1 H1 ⟨ρ1,M1,rs1,rm1,x1,q1⟩
 cases m with
 | zero=>exact q1.elim
 | succ m =>
   refine ⟨ρ1,M1,rs1,rm1,mc _ _ _ _ (fun k M2 q2 H2 x2 rm2 => ?_) q1⟩
   have x12:=x1.trans x2
   have rs2:=rs1.mono (x2.stab rm1)
   cases k with
   | false=>rw [if_neg Bool.false_ne_true] at q2;dsimp only;rw [if_neg Bool.false_ne_true];exact l.nx ρ1 M2 σ1 H2 x12 rs2 rm2 q2
   | true =>
     rw [if_pos rfl] at q2
     dsimp only
     rw [if_pos rfl]
     refine ⟨fun σ' H' => ∃ ρ' M',RS K H' σ' ρ' /\ RM K M' H' /\ Ext M H M' H' /\ aH c tb A m ρ' M',fun σ' H' h=>⟨m,Nat.lt_succ_self m,h⟩, ρ1,M2, { A with nx:=aH c tb A m,ct:=aH c tb A m,bk:=A.nx },rs2,rm2,⟨?_,fun d M5 v H5 x5=>l.rt d M5 v H5 (x12.trans x5),fun ρ5 M5 σ5 H5 x5=>l.nx ρ5 M5 σ5 H5 (x12.trans x5), ?_⟩,q2⟩
     ·exact fun ρ5 M5 σ5 H5 x5 rs5 rm5 q5=>⟨ρ5,M5,rs5,rm5,x12.trans x5,q5⟩
     ·exact fun ρ5 M5 σ5 H5 x5 rs5 rm5 q5=>⟨ρ5,M5,rs5,rm5,x12.trans x5,q5⟩
end
noncomputable def eP:D -> D -> D -> Mem -> (Mem -> Prop) -> Prop:=fun o i v M Q => ∃ a,o = .ref a /\
 ((∃ xs k j,i = .int k /\ M a = some (.lst xs) /\ ixN xs.length k = some j /\ Q (ag M a (.lst (xs.set j v)))) ∨
  ∃ t kvs,M a = some (.dct t kvs) /\ js t i = true /\ kvs.length < sizeLine /\ Q (ag M a (.dct t (gE kvs i v))))
noncomputable def hV (te to ti:TEd):TSd:=fun D ρ M=>te ρ M fun v M1=>to ρ M1 fun o M2=>ti ρ M2 fun i M3=>eP o i v M3 fun M4=>D.nx ρ M4
theorem ln {o i v:D} {M:Mem} {Q Q':Mem -> Prop} (h:∀ M',Q M' -> Q' M') (q:eP o i v M Q):eP o i v M Q':=by
 obtain ⟨a,e,⟨xs,k,j,e1,e2,e3,q⟩ | ⟨t,kvs,e1,e2,e3,q⟩⟩:=q
 ·exact ⟨a,e, .inl ⟨xs,k,j,e1,e2,e3,h _ q⟩⟩
 ·exact ⟨a,e, .inr ⟨t,kvs,e1,e2,e3,h _ q⟩⟩
theorem nG {te to ti:TEd} (he:aa te) (ho:aa to) (hi:aa ti):au (hV te to ti):=fun a b ρ M i q =>
 he _ _ _ _ (fun v M1 q1=>ho _ _ _ _ (fun o M2 q2=>hi _ _ _ _ (fun k M3 q3=>ln (fun M' q'=>i.nx _ _ q') q3) q2) q1) q
section
variable {X:Cx} {K:PySem.W.Frag}
theorem nH (hu:X.A.units + 1 < cLine):PSet X (fun o i v H Q => ∃ a H',o = .ref a /\ DPut H a i v H' /\ Q H'):=by
 intro pins s σ H o i v ov iv u Q I ro ri rv h
 obtain ⟨a,H',rfl,g,q⟩:=h
 cases ro
 exact kH hu I g ri rv fun s' I'=>⟨H',I',q⟩
theorem PSet.or {t t':ja} (h:PSet X t) (h':PSet X t'):PSet X (fun o i v H Q=>t o i v H Q ∨ t' o i v H Q):=by
 intro pins s σ H o i v ov iv u Q I ro ri rv q
 rcases q with q | q
 ·exact h pins s σ H o i v ov iv u Q I ro ri rv q
 ·exact h' pins s σ H o i v ov iv u Q I ro ri rv q
section
variable {κ:Type} [DecidableEq κ] {H:Hp} {RK:D -> κ -> Prop} (inj:∀ {d e:D} {k : κ},RK d k -> RK e k -> d = e) (fn:∀ {d:D} {k k' : κ},RK d k -> RK d k' -> k = k')
include inj fn
theorem iW {k:D} {q : κ} (hk:RK k q):∀ {kvs:List (D × D)} {ps:List (κ × V)},Paired (fun p r=>RK p.1 r.1 /\ RD K H p.2 r.2) kvs ps ->
 (kvs.any fun p=>decide (p.1 = k)) = (ps.any fun p=>decide (p.1 = q))
 | _,_, .nil=>rfl
 | _,_, .cons (a:=p) (b:=r) hr t=>by
   rw [List.any_cons,List.any_cons,iW hk t]
   congr 1
   by_cases e:p.1 = k
   ·have e':r.1 = q:=by have h1:=hr.1;rw [e] at h1;exact fn h1 hk
    rw [decide_eq_true e,decide_eq_true e']
   ·have e' : ¬ r.1 = q:=fun z=>e (by have h1:=hr.1;rw [z] at h1;exact inj h1 hk)
    rw [decide_eq_false e,decide_eq_false e']
theorem iX {k:D} {q : κ} (hk:RK k q) {d:D} {v:V} (hv:RD K H d v):∀ {kvs:List (D × D)} {ps:List (κ × V)},Paired (fun p r=>RK p.1 r.1 /\ RD K H p.2 r.2) kvs ps ->
 Paired (fun p r=>RK p.1 r.1 /\ RD K H p.2 r.2) (kvs.map fun p=>if p.1 = k then (p.1,d) else p) (ps.map fun p=>if p.1 = q then (p.1,v) else p)
 | _,_, .nil => .nil
 | _,_, .cons (a:=p) (b:=r) hr t=>by
   refine .cons ?_ (iX hk hv t)
   by_cases e:p.1 = k
   ·have e':r.1 = q:=by have h1:=hr.1;rw [e] at h1;exact fn h1 hk
    dsimp only
    rw [if_pos e,if_pos e']
    exact ⟨hr.1,hv⟩
   ·have e' : ¬ r.1 = q:=fun z=>e (by have h1:=hr.1;rw [z] at h1;exact inj h1 hk)
    dsimp only
    rw [if_neg e,if_neg e']
    exact hr
theorem hW {k:D} {q : κ} (hk:RK k q) {d:D} {v:V} (hv:RD K H d v) {kvs:List (D × D)} {ps:List (κ × V)} (r:Paired (fun p r=>RK p.1 r.1 /\ RD K H p.2 r.2) kvs ps) :
 Paired (fun p r=>RK p.1 r.1 /\ RD K H p.2 r.2) (gE kvs k d) (bo ps q v):=by
 unfold gE bo
 rw [iW (K:=K) (H:=H) (RK:=RK) inj fn hk r]
 by_cases e:(ps.any fun p=>decide (p.1 = q)) = true
 ·rw [if_pos e,if_pos e]
  exact iX (RK:=RK) inj fn hk hv r
 ·rw [if_neg e,if_neg e]
  exact r.snoc ⟨hk,hv⟩
end
theorem nI {M:Mem} {H:Hp} {o i v:D} {ov iv vv:V} {Qd:Mem -> Prop} {Q:Hp -> Prop} (rm:RM K M H) (ro:RD K H o ov) (ri:RD K H i iv) (rv:RD K H v vv) (h:eP o i v M Qd) (hQ:∀ M' H',Ext M H M' H' -> RM K M' H' -> Qd M' -> Q H') :
 oz ov iv vv H Q ∨ ∃ a H',ov = .ref a /\ DPut H a iv vv H' /\ Q H':=by
 obtain ⟨a,rfl,⟨xs,k,j,rfl,e2,e3,q⟩ | ⟨t,kvs,e1,e2,e3,q⟩⟩:=h
 ·cases RD.ref_iff.mp ro
  cases RD.int_iff.mp ri
  obtain ⟨vs,ha,rs⟩:=rm _ _ e2
  have st:Stab H (upd H a (.lst (vs.set j vv))):=rm.stabPut e2
  exact .inl ⟨a,vs,k,j,rfl,rfl,ha,by rw [rs.length];exact e3,hQ _ _ (Ext.put e2) (rm.put (o := .lst (xs.set j v)) e2 ⟨_,aL,(rs.set j rv).mono st⟩) q⟩
 ·cases RD.ref_iff.mp ro
  have ro':=rm _ _ e1
  cases t with
  | false =>
    obtain ⟨ps,hp,pr⟩:=ro'
    obtain ⟨kq,hk⟩:=gF (show cL i = true from e2)
    have st:Stab H (upd H a (.dK (bo ps kq vv))):=rm.stabPut e1
    have pr2:=hW (RK:=RKey) RKey.inj RKey.fun hk rv pr
    rw [fv hk ri]
    refine .inr ⟨a,_,rfl,DPut.k hp (by rw [<- Paired.length pr];exact e3),hQ _ _ (Ext.put e1) (rm.put (o := .dct false (gE kvs i v)) e1 ⟨_,aL,Paired.mapP pr2 fun _ _ z=>⟨z.1,z.2.mono st⟩⟩) q⟩
  | true =>
    obtain ⟨ps,hp,pr⟩:=ro'
    obtain ⟨kq,hk⟩:=iS (show cz i = true from e2)
    have st:Stab H (upd H a (.dT (bo ps kq vv))):=rm.stabPut e1
    have pr2:=hW (RK:=RKeys) RKeys.inj RKeys.fun hk rv pr
    cases i <;> first
     | exact hk.elim
     | (obtain ⟨b,us,rfl,hb,ru⟩:=RD.tup_iff.mp ri
        rw [dU hk ru] at hb
        exact .inr ⟨a,_,rfl,DPut.t hp hb (by rw [<- Paired.length pr];exact e3),hQ _ _ (Ext.put e1) (rm.put (o := .dct true (gE kvs _ v)) e1 ⟨_,aL,Paired.mapP pr2 fun _ _ z=>⟨z.1,z.2.mono st⟩⟩) q⟩)
theorem rQ {o i e:Expr} {te to ti:TEd} {pos tpos:Pos} (hu:X.A.units + 1 < cLine) (me:aa te) (mo:aa to) (mi:aa ti) (he:PE X e (lE X.K te)) (ho:PE X o (lE X.K to)) (hi:PE X i (lE X.K ti))
 (hs:swapsWithSole [.Subscript o i tpos] e pos.line X.env = pure false) (hw:swappedStores [.Subscript o i tpos] e X.env = pure none)
 (ha:∀ v,assign (.Subscript o i tpos) X.env v = (do
   let ov <- holding [v] (eval o X.env)
   let iv <- holding [v,ov] (eval i X.env)
   standAt tpos
   holding [v,ov,iv] (setItem ov iv v)
   release [v,ov,iv] [])):PS X (.Assign [.Subscript o i tpos] e pos) (lS X.K (hV te to ti)):=by
 refine PS.imp (kl he (qO ho hi (PSet.or mK (nH hu)) ha) hs hw rfl) fun D σ H h => ?_
 obtain ⟨ρ,M,A,rs,rm,l,q⟩:=h
 refine ⟨ρ,M,rs,rm,me _ _ _ _ (fun v M1 q1 vv H1 x1 rm1 rd1 => ?_) q⟩
 refine ⟨ρ,M1,rs.mono (x1.stab rm),rm1,mo _ _ _ _ (fun ov M2 q2 vo H2 x2 rm2 rd2 => ?_) q1⟩
 refine ⟨ρ,M2,(rs.mono (x1.stab rm)).mono (x2.stab rm1),rm2,mi _ _ _ _ (fun iv M3 q3 vi H3 x3 rm3 rd3 => ?_) q2⟩
 have x13:=x1.trans (x2.trans x3)
 exact nI rm3 (rd2.mono (x3.stab rm2)) rd3 ((rd1.mono (x2.stab rm1)).mono (x3.stab rm2)) q3 fun M' H' x4 rm4 q4=>l.nx ρ M' σ H' (x13.trans x4) (rs.mono ((x13.trans x4).stab rm)) rm4 q4
noncomputable def gn:R2d
 | .int i, .int j,M,Q=>Q (.int (i + j)) M
 | _,_,_,_=>False
noncomputable def jI:R2d
 | .int i, .int j,M,Q=>Q (.int (i - j)) M
 | _,_,_,_=>False
noncomputable def jJ:R2d
 | .int i, .int j,M,Q=>MulOk i j /\ Q (.int (i * j)) M
 | _,_,_,_=>False
theorem fW:av gn:=by
 intro x y M Q Q' h q
 cases x <;> cases y <;> first | exact q.elim | exact h _ _ q
theorem fX:av jI:=by
 intro x y M Q Q' h q
 cases x <;> cases y <;> first | exact q.elim | exact h _ _ q
theorem fY:av jJ:=by
 intro x y M Q Q' h q
 cases x <;> cases y <;> first | exact q.elim | exact ⟨q.1,h _ _ q.2⟩
theorem lp:OpR X (inplaceOp .Add) (l2 X.K gn):=by
 refine OpR.of p5 fun v u H Q h => ?_
 obtain ⟨x,y,M,rm,rx,ry,q⟩:=h
 cases x <;> cases y <;> first
  | exact q.elim
  | (cases RD.int_iff.mp rx;cases RD.int_iff.mp ry;exact ⟨_,_,rfl,rfl,q _ H Ext.refl rm (RD.int_iff.mpr rfl)⟩)
theorem lq:OpR X (inplaceOp .Sub) (l2 X.K jI):=by
 refine OpR.of p6 fun v u H Q h => ?_
 obtain ⟨x,y,M,rm,rx,ry,q⟩:=h
 cases x <;> cases y <;> first
  | exact q.elim
  | (cases RD.int_iff.mp rx;cases RD.int_iff.mp ry;exact ⟨_,_,rfl,rfl,q _ H Ext.refl rm (RD.int_iff.mpr rfl)⟩)
theorem lr:OpR X (inplaceOp .Mult) (rI MulOk fun i j => .int (i * j)):=opI fun _ _ _ _ _ _ _ hc q=>imul_int q hc.ok
theorem lu:OpR X (inplaceOp .Mult) (l2 X.K jJ):=by
 refine OpR.of lr fun v u H Q h => ?_
 obtain ⟨x,y,M,rm,rx,ry,q⟩:=h
 cases x <;> cases y <;> first
  | exact q.elim
  | (cases RD.int_iff.mp rx;cases RD.int_iff.mp ry;exact ⟨_,_,rfl,rfl,q.1,q.2 _ H Ext.refl rm (RD.int_iff.mpr rfl)⟩)
noncomputable def hX (i:Nat) (rd:R2d) (te:TEd):TSd:=fun D ρ M => ∃ x, ρ[i]? = some (some x) /\ te ρ M fun y M1=>rd x y M1 fun z M2=>D.nx (ρ.set i (some z)) M2
theorem nJ {i:Nat} {rd:R2d} {te:TEd} (hr:av rd) (he:aa te):au (hX i rd te):=fun a b ρ M l ⟨x,e,q⟩=>⟨x,e,he _ _ _ _ (fun y M1 q1=>hr _ _ _ _ _ (fun z M2 q2=>l.nx _ _ q2) q1) q⟩
theorem eQ {i:Nat} {x:Str} {e:Expr} {te:TEd} {op:Operator} {rd:R2d} {pos pos':Pos} (hN:X.N.Nodup) (hi:X.N[i]? = some x) (hx:Loc X.env.scope x) (he:PE X e (lE X.K te)) (ho:OpR X (inplaceOp op) (l2 X.K rd)) (hr:av rd) (me:aa te)
 (hf:X.fn x = true ∨ X.env.scope.names.lookup x = some .local):PS X (.AugAssign (.Name x pos') op e pos) (lS X.K (hX i rd te)):=by
 refine PS.imp (qR hN hi hx he (ti:=l2 X.K rd) ho hf) fun D σ H h => ?_
 obtain ⟨ρ,M,A,rs,rm,l,d,e,q⟩:=h
 obtain ⟨v,hv,rd0⟩:=rs.2 i d e
 refine ⟨v,hv, ρ,M,rs,rm,me _ _ _ _ (fun y M1 q1 u H1 x1 rm1 rd1 => ?_) q⟩
 refine ⟨d,y,M1,rm1,rd0.mono (x1.stab rm),rd1,hr _ _ _ _ _ (fun z M2 q2 w H2 x2 rm2 rd2 => ?_) q1⟩
 exact l.nx _ M2 _ H2 (x1.trans x2) ((rs.mono ((x1.trans x2).stab rm)).set i rd2) rm2 q2
end
end Mi
end L2
namespace L2
open PySem PySem.Spec PyProof.Rows
section
variable {X:Cx} {pos:Pos}
end
namespace Mi
variable {K:PySem.W.Frag}
theorem lw {ta:TAd} {i j:Nat} (m:aU ta) (D:aZ) (σ:St) (H:Hp) (h:lS K (hJ ta (bB (bM i) (bB (bM j) dY))) D σ H):qP i j (lA K ta) D σ H:=by
 obtain ⟨ρ,M,A,rs,rm,l,q⟩:=h
 refine ⟨ρ,M,rs,rm,m _ _ _ _ (fun ds M1 ⟨ρ',e,q1⟩ vs H1 x1 rm1 rd1 => ?_) q⟩
 match ds,e,rd1 with
 | [d1,d2],e,rd1 =>
  obtain ⟨v,u,rfl,r1,r2⟩:=rd1.two
  simp only [bB,bM,dY,Option.bind_some,Option.some.injEq] at e
  subst e
  exact ⟨v,u,rfl,l.nx _ M1 _ H1 x1 (((rs.mono (x1.stab rm)).set i r1).set j r2) rm1 q1⟩
end Mi
end L2
namespace L2
open PySem PySem.Spec PyProof.Rows
section
variable {X:Cx}
end
namespace Mi
section
variable {X:Cx}
end
end Mi
end L2
namespace L2
namespace Mi
open PySem PySem.Spec PyProof.Rows
section
variable {X:Cx}
noncomputable def jK:D -> Option Bool
 | .bl b=>some b
 | .int i=>some (i != 0)
 | _=>none
noncomputable def nK:RAd:=fun xs M Q => ∃ x ds ts,xs = [x] /\ aW M x = some ds /\ aw jK ds = some ts /\ Q (.bl (ts.any id)) M
theorem hZ:aG nK:=fun _ _ _ _ h ⟨x,ds,ts,e,e1,e2,q⟩=>⟨x,ds,ts,e,e1,e2,h _ _ q⟩
theorem i0 {α β:Type} {f : α -> Option β}:∀ {xs:List α} {ys:List β},aw f xs = some ys -> ys.length = xs.length /\ ∀ (i:Nat) x,xs[i]? = some x -> ∃ y,ys[i]? = some y /\ f x = some y
 | [],ys,h=>by cases h;exact ⟨rfl,fun i x e=>by simp at e⟩
 | x :: xs,ys,h=>by
   simp only [aw] at h
   cases e1:f x with
   | none=>rw [e1] at h;cases h
   | some y =>
     rw [e1] at h
     simp only [Option.bind_some] at h
     cases e2:aw f xs with
     | none=>rw [e2] at h;cases h
     | some r =>
       rw [e2] at h;cases h
       obtain ⟨l,g⟩:=i0 e2
       refine ⟨by simp [l],fun i z e => ?_⟩
       cases i with
       | zero=>simp at e;subst e;exact ⟨y,rfl,e1⟩
       | succ i=>simp at e;simpa using g i z e
theorem q9 {P:Program} {w:World} {A:Around} {E:Value -> Shared -> Prop} {s:Shared} {K:PySem.W.Frag} {H:Hp} {d:D} {v:V} {u:Value} {b:Bool} {Q:Bool -> Shared -> Prop} (e:jK d = some b) (rd:RD K H d v) (ru:RelV v u) (q:Q b s):wpAny (model P w) A (truthy u) Q E s:=by
 cases d with
 | bl c=>cases RD.bl_iff.mp rd;cases ru;cases e;exact wpAny_truthy_bool q
 | int i=>cases RD.int_iff.mp rd;obtain ⟨t,rfl⟩:=ru;cases e;exact PyProof.Rows.truthy_int q
 | _=>cases e
theorem range_all {ts:List Bool}:(List.range ts.length).all (fun i=>ts.getD i false) = ts.all id /\ (List.range ts.length).any (fun i=>ts.getD i false) = ts.any id:=by
 have e:(List.range ts.length).map (fun i=>ts.getD i false) = ts:=by
  apply List.ext_getElem
  ·simp
  ·intro i h1 h2;simp [List.getD_eq_getElem?_getD,List.getElem?_eq_getElem h2]
 constructor
 ·conv=>rhs;rw [<- e]
  rw [List.all_map];rfl
 ·conv=>rhs;rw [<- e]
  rw [List.any_map];rfl
theorem nL (hc:X.calm = true) {pins:List (Addr × Obj)} {s:Shared} {σ:St} {H:Hp} {M:Mem} {x:D} {ds:List D} {ts:List Bool} {v:V} {u:Value} {Q:Value -> Shared -> Prop} {g:List Bool -> Bool} (I:Inv X pins σ H s) (rm:RM X.K M H) (rd:RD X.K H x v) (ru:RelV v u) (e1:aW M x = some ds) (e2:aw jK ds = some ts)
 (fin:∀ h' tk,Inv X pins σ H { s with heap:=h',toks:=tk } -> Q (.bool (g ts)) { s with heap:=h',toks:=tk })
 (gg:Nat -> (Nat -> Bool) -> Bool) (hg:gg ts.length (fun i=>ts.getD i false) = g ts) :
 wpAny (model X.prog X.w) X.A.in1 (pyIter u) (fun it s₂ => ∃ I fp wr n P St tr,it = .ref I /\ Walks X.prog X.w X.A.in1 I fp wr n P St /\ St 0 s₂.heap /\ TruthOf X.prog X.w X.A.in1 P tr /\
  ∀ h' tk,(∀ b o,b ∉ wr -> s₂.heap.get? b = some o -> h'.get? b = some o) -> Q (.bool (gg n tr)) { s₂ with heap:=h',toks:=tk }) X.xe s:=by
 obtain ⟨p,vs,rfl,sq,r2⟩:=kR rm rd e1
 cases ru
 obtain ⟨lt,get⟩:=i0 e2
 have lv:=r2.length
 have tr:∀ (its:List Value),Vals vs its -> TruthOf X.prog X.w X.A.in1 (fun i w=>its.toArray[i]? = some w) (fun i=>ts.getD i false):=by
  intro its rv i w s' Q' E' hP hQ
  have hP':its[i]? = some w:=by simpa using hP
  have li:=rv.length
  have hi:i < its.length:=(List.getElem?_eq_some_iff.mp hP').1
  obtain ⟨d,hd⟩:∃ d,ds[i]? = some d:=⟨ds[i]'(by omega),List.getElem?_eq_getElem (by omega)⟩
  obtain ⟨v',hv',rd'⟩:=r2.get hd
  obtain ⟨u',hu',ru'⟩:=rv.get hv'
  rw [hP'] at hu';cases hu'
  obtain ⟨b,hb,eb⟩:=get i d hd
  have:ts.getD i false = b:=by rw [List.getD_eq_getElem?_getD,hb];rfl
  have hQ:Q' (ts.getD i false) s':=hQ
  rw [this] at hQ
  exact q9 eb rd' ru' hQ
 rcases sq with sq | sq
 ·obtain ⟨its,rv,pl,hz⟩:=I.list sq
  have li:=rv.length
  have hlt:p < s.heap.objs.size:=by obtain ⟨o,n,e,_⟩:=pl;exact Heap.lt_size e
  refine wpAny_pyIter_list pl.isList ⟨s.heap.objs.size,_,_,_,_,_,_,rfl,Walks.list (by rw [Around.in1_handled];exact I.ok.hd hc) s.heap.objs.size p (Nat.ne_of_lt hlt) its.toArray,⟨⟨_,Heap.get?_push_size _ rfl,rfl,rfl⟩,pl.isList.at fun o e=>Heap.get?_push_of_some _ e⟩,tr its rv,fun h' tk k => ?_⟩
  have hn:its.toArray.size = ts.length:=by rw [List.size_toArray];omega
  rw [hn,hg]
  exact fin h' tk (I.kept (t':=tk) fun b o e=>k b o (by simp;exact Nat.ne_of_lt (Heap.lt_size e)) (Heap.get?_push_of_some _ e))
 ·obtain ⟨its,rv,pl,hz⟩:=I.tuple sq
  have li:=rv.length
  have hlt:p < s.heap.objs.size:=by obtain ⟨o,e,_⟩:=pl;exact Heap.lt_size e
  have pt:s.heap.IsTuple p its.toArray:=pl
  refine wpAny_pyIter_tuple pt ⟨s.heap.objs.size,_,_,_,_,_,_,rfl,Walks.tuple (by rw [Around.in1_handled];exact I.ok.hd hc) s.heap.objs.size p (Nat.ne_of_lt hlt) its.toArray,⟨⟨_,Heap.get?_push_size _ rfl,rfl,rfl⟩,pt.push _⟩,tr its rv,fun h' tk k => ?_⟩
  have hn:its.toArray.size = ts.length:=by rw [List.size_toArray];omega
  rw [hn,hg]
  exact fin h' tk (I.kept (t':=tk) fun b o e=>k b o (by simp;exact Nat.ne_of_lt (Heap.lt_size e)) (Heap.get?_push_of_some _ e))
theorem jL (hc:X.calm = true):CallR X (.builtin "any") (lR X.K nK):=by
 intro pins s σ H xs us Q I rv h
 obtain ⟨ds,M,rm,rs,x,es,ts,rfl,e1,e2,q⟩:=h
 obtain ⟨v,rfl,r⟩:=rs.one
 obtain ⟨u,rfl,ru⟩:=cq rv
 exact call_any_walk (nL hc I rm r ru e1 e2 (g:=fun ts=>ts.any id) (fun h' tk I'=>⟨.bl _,H,I',rfl,q _ H Ext.refl rm (RD.bl_iff.mpr rfl)⟩) (fun n tr=>(List.range n).any tr) range_all.2)
end
end Mi
end L2
namespace L2
namespace Srt
open PySem PySem.Spec PyProof.Rows
section
variable {prog:Program} {w:World} {A:Around} {E:Value -> Shared -> Prop} {s:Shared} {kd:SortKind} {P:Keyed -> Prop} {lt:Keyed -> Keyed -> Bool}
end
noncomputable def bey (lt:Keyed -> Keyed -> Bool) (left:Bool) (key x:Keyed):Bool:=if left = true then lt x key else !(lt key x)
structure Same (st st':SortSt):Prop where
 arr:arrOf st' = arrOf st
 kind:kindOf st' = kindOf st
 pend:pendingOf st' = pendingOf st
 fail:failedOf st' = failedOf st
section
variable {prog:Program} {w:World} {A:Around} {E:Value -> Shared -> Prop} {s:Shared} {kd:SortKind} {P:Keyed -> Prop} {lt:Keyed -> Keyed -> Bool}
structure Gal (lt:Keyed -> Keyed -> Bool) (left:Bool) (key:Keyed) (xs:List Keyed) (lo hi:Nat):Prop where
 le:lo <= hi
 len:hi <= xs.length
 up:∀ i x,i < lo -> xs[i]? = some x -> bey lt left key x = true
 dn:∀ i x,hi <= i -> xs[i]? = some x -> bey lt left key x = false
theorem Gal.out {left:Bool} {key:Keyed} {xs:List Keyed} {k:Nat} (g:Gal lt left key xs k k):∃ X Y,xs = X ++ Y /\ X.length = k /\ (∀ x ∈ X,bey lt left key x = true) /\ (∀ x ∈ Y,bey lt left key x = false):=by
 refine ⟨xs.take k,xs.drop k,(List.take_append_drop k xs).symm,by rw [List.length_take];exact Nat.min_eq_left g.len,fun x hx => ?_,fun x hx => ?_⟩
 ·obtain ⟨i,hi,e⟩:=List.mem_iff_getElem.mp hx
  rw [List.length_take] at hi
  exact g.up i x (by omega) (by rw [List.getElem_take] at e;rw [<- e];exact List.getElem?_eq_getElem _)
 ·obtain ⟨i,hi,e⟩:=List.mem_iff_getElem.mp hx
  rw [List.length_drop] at hi
  refine g.dn (k + i) x (by omega) ?_
  rw [List.getElem_drop] at e
  rw [<- e];exact List.getElem?_eq_getElem _
noncomputable abbrev Ord (lt:Keyed -> Keyed -> Bool) (l:List Keyed):Prop:=l.Pairwise fun x y=>lt y x = false
structure ML (lt:Keyed -> Keyed -> Bool) (la lb out:List Keyed) (ia ib:Nat):Prop where
 pa:Ord lt (out ++ la.drop ia)
 pb:Ord lt (out ++ lb.drop ib)
 pm:(out ++ (la.drop ia ++ lb.drop ib)).Perm (la ++ lb)
theorem ML.size {la lb out:List Keyed} {ia ib:Nat} (m:ML lt la lb out ia ib) (ha:ia <= la.length) (hb:ib <= lb.length):out.length = ia + ib:=by
 have:=m.pm.length_eq
 simp only [List.length_append,List.length_drop] at this
 omega
theorem Same.trans {a b c:SortSt} (h:Same a b) (g:Same b c):Same a c:=⟨g.arr.trans h.arr,g.kind.trans h.kind,g.pend.trans h.pend,g.fail.trans h.fail⟩
structure MH (lt:Keyed -> Keyed -> Bool) (la lb out:List Keyed) (na nb:Nat):Prop where
 pa:Ord lt (la.take na ++ out.reverse)
 pb:Ord lt (lb.take nb ++ out.reverse)
 pm:(la.take na ++ lb.take nb ++ out.reverse).Perm (la ++ lb)
theorem MH.size {la lb out:List Keyed} {na nb:Nat} (m:MH lt la lb out na nb) (ha:na <= la.length) (hb:nb <= lb.length):out.length + na + nb = la.length + lb.length:=by
 have:=m.pm.length_eq
 simp only [List.length_append,List.length_take,List.length_reverse] at this
 omega
end
end Srt
end L2
namespace L2
namespace Srt
open PySem PySem.Spec PyProof.Rows
section
variable {prog:Program} {w:World} {A:Around} {E:Value -> Shared -> Prop} {s:Shared} {kd:SortKind} {P:Keyed -> Prop} {lt:Keyed -> Keyed -> Bool}
structure Kp (st st':SortSt):Prop where
 kind:kindOf st' = kindOf st
 pend:pendingOf st' = pendingOf st
 fail:failedOf st' = failedOf st
theorem Kp.trans {a b c:SortSt} (h:Kp a b) (g:Kp b c):Kp a c:=⟨g.kind.trans h.kind,g.pend.trans h.pend,g.fail.trans h.fail⟩
end
end Srt
end L2
namespace L2
namespace Srt
open PySem PySem.Spec PyProof.Rows
section
variable {prog:Program} {w:World} {A:Around} {E:Value -> Shared -> Prop} {s:Shared} {kd:SortKind} {P:Keyed -> Prop} {lt:Keyed -> Keyed -> Bool}
noncomputable def Pd:Nat -> List (List Keyed) -> List (Nat × Nat × Nat) -> Prop
 | _,[],ps=>ps = []
 | s,r :: rs,ps => ∃ p t,ps = (s,r.length,p) :: t /\ Pd (s + r.length) rs t
theorem Pd.length:∀ {l:List (List Keyed)} {s:Nat} {ps:List (Nat × Nat × Nat)},Pd s l ps -> ps.length = l.length
 | [],_,_,h=>by rw [show _ = [] from h];rfl
 | r :: l,s,ps,h=>by
   obtain ⟨p,q,e,h⟩:=h
   rw [e];simp [h.length]
structure Rn (lt:Keyed -> Keyed -> Bool) (kd:SortKind) (a₀:List Keyed) (st:SortSt) (rs:List (List Keyed)) (R:List Keyed):Prop where
 arr:(arrOf st).toList = rs.flatten ++ R
 perm:(rs.flatten ++ R).Perm a₀
 ord:∀ r ∈ rs,r ≠ [] /\ Ord lt r
 pend:Pd 0 rs (pendingOf st).toList
 kind:kindOf st = kd
 fail:failedOf st = none
theorem Rn.size {a₀:List Keyed} {st:SortSt} {rs:List (List Keyed)} {R:List Keyed} (h:Rn lt kd a₀ st rs R):rs.flatten.length + R.length = a₀.length:=by
 have:=h.perm.length_eq
 rw [List.length_append] at this;exact this
end
end Srt
end L2
namespace L2
namespace Srt
open PySem PySem.Spec PyProof.Rows
section
variable {prog:Program} {w:World} {A:Around} {E:Value -> Shared -> Prop} {s:Shared}
end
end Srt
end L2
namespace L2
namespace Srt
open PySem PySem.Spec PyProof.Rows
section
variable {prog:Program} {w:World} {A:Around} {E:Value -> Shared -> Prop} {s:Shared}
end
end Srt
end L2
namespace L2
namespace Srt
open PySem PySem.Spec PyProof.Rows
section
variable {prog:Program} {w:World} {A:Around} {E:Value -> Shared -> Prop} {s:Shared}
end
end Srt
end L2
namespace L2
namespace Srt
open PySem PySem.Spec PyProof.Rows
section
variable {prog:Program} {w:World} {A:Around} {E:Value -> Shared -> Prop} {s:Shared}
end
end Srt
end L2
namespace L2
namespace It
open PySem PySem.Spec PyProof.Rows
section
variable {prog:Program} {w:World} {A:Around} {E:Value -> Shared -> Prop} {s:Shared}
end
end It
end L2
namespace L2
namespace It
open PySem PySem.Spec PyProof.Rows
section
variable {prog:Program} {w:World} {A:Around} {E:Value -> Shared -> Prop} {s:Shared}
end
end It
end L2
namespace L2
namespace It
open PySem PySem.Spec PyProof.Rows
section
variable {prog:Program} {w:World} {A:Around} {E:Value -> Shared -> Prop} {s:Shared}
end
end It
end L2
namespace L2
open PySem PySem.Spec PyProof.Rows
section
variable {P:Program} {w:World} {H:Hp} {h:Heap} {a:Addr} {o:HO}
theorem ObjOk.there (x:ObjOk P w H h a o):∃ ob,h.get? a = some ob:=by
 cases o with
 | lst xs=>obtain ⟨_,_,_,_,e⟩:=x;exact ⟨_,e⟩
 | tup xs=>obtain ⟨_,_,_,_,e,_⟩:=x;exact ⟨_,e⟩
 | dK kvs=>obtain ⟨_,_,_,_,o,_,_,e,_⟩:=x;exact ⟨_,e⟩
 | dT kvs=>obtain ⟨_,_,_,_,o,_,_,e,_⟩:=x;exact ⟨_,e⟩
 | set S n=>obtain ⟨o,_,_,_,e,_⟩:=x;exact ⟨_,e⟩
 | ins C dx fs=>obtain ⟨_,_,_,e,_⟩:=x;exact ⟨_,e⟩
 | own y=>obtain ⟨_,e⟩:=x;exact ⟨_,e⟩
 | xd fs=>obtain ⟨_,⟨_,_,_,e,_⟩,_⟩:=x;exact ⟨_,e⟩
 | rng lo hi=>obtain ⟨_,_,_,e⟩:=x;exact ⟨_,e⟩
 | frz ob u=>obtain ⟨e,_⟩:=x;exact ⟨_,e⟩
 | tbl ps=>exact ⟨_,show h.get? a = some _ from x⟩
 | met f y=>exact ⟨_,show h.get? a = some _ from x⟩
 | ext φ => obtain ⟨_,⟨_,e⟩,_⟩:=x;exact ⟨_,e⟩
end
section
variable {X:Cx} {pins:List (Addr × Obj)} {σ:List (Option V)} {H:Hp} {s:Shared} {h':Heap} {N:Addr -> Option HO}
end
namespace Mi
open L2.Srt
inductive Sh where
 | int
 | tup (l:List Sh)
mutual
noncomputable def hs:Sh -> D -> Bool
 | .int, .int _=>true
 | .tup l, .tup ds=>hss l ds
 | _,_=>false
noncomputable def hss:List Sh -> List D -> Bool
 | [],[] => true
 | s :: l,d :: ds=>hs s d && hss l ds
 | _,_=>false
end
section
variable {X:Cx}
end
end Mi
end L2
namespace L2
namespace Mi
open PySem PySem.Spec PyProof.Rows L2.Srt
section
variable {X:Cx}
end
end Mi
end L2
namespace L2
namespace Mi
open PySem PySem.Spec PyProof.Rows
section
variable {X:Cx}
end
end Mi
end L2
namespace L2
open PySem PySem.Spec PyProof.Rows
section
variable {X:Cx}
end
namespace Mi
section
variable {X:Cx}
end
end Mi
end L2
namespace L2
open PySem PySem.Spec PyProof.Rows
section
variable {X:Cx}
end
namespace Mi
section
variable {X:Cx}
end
end Mi
end L2
namespace L2
open PySem PySem.Spec PyProof.Rows
section
variable {prog:Program} {w:World} {A:Around} {E:Value -> Shared -> Prop}
end
section
variable {X:Cx}
end
namespace Mi
section
variable {X:Cx} {K:PySem.W.Frag}
end
end Mi
end L2
namespace L2
open PySem PySem.Spec PyProof.Rows
section
variable {prog:Program} {w:World} {A:Around} {E:Value -> Shared -> Prop} {s:Shared}
end
end L2
namespace L2
open PySem PySem.Spec PyProof.Rows
section
variable {X:Cx} {pins:List (Addr × Obj)} {σ:St} {H:Hp}
end
section
variable {X:Cx}
end
end L2
namespace L2
namespace Mi
open PySem PySem.Spec PyProof.Rows
section
variable {X:Cx}
end
end Mi
end L2
namespace L2
namespace Mi
open PySem PySem.Spec PyProof.Rows
section
variable {K:PySem.W.Frag} {M M' M'':Mem} {H H' H'':Hp} {p:Addr}
end
section
variable {K:PySem.W.Frag} {p:Addr}
theorem Paired.len {α β:Type} {R : α -> β -> Prop}:∀ {a:List α} {b:List β},Paired R a b -> a.length = b.length
 | _,_, .nil=>rfl
 | _,_, .cons _ t=>by rw [List.length_cons,List.length_cons,Paired.len t]
end
end Mi
end L2
namespace L2
namespace Dk
open PySem PySem.Spec PyProof.Rows
section
variable {prog:Program} {w:World} {A:Around} {E:Value -> Shared -> Prop} {s:Shared}
end
end Dk
end L2
namespace L2
namespace Mi
open PySem PySem.Spec PyProof.Rows L2.Srt
section
variable {X:Cx}
end
end Mi
end L2
namespace L2
open PySem PySem.Spec PyProof.Rows
section
variable {X:Cx} {pins:List (Addr × Obj)} {σ:St} {H:Hp} {s:Shared}
end
namespace Mi
section
variable {X:Cx}
end
end Mi
end L2
namespace L2
namespace Mi
open PySem PySem.Spec PyProof.Rows
section
variable {X:Cx}
end
end Mi
end L2
namespace L2
open PySem PySem.Spec PyProof.Rows
section
variable {X:Cx} {pins:List (Addr × Obj)} {σ:St} {H:Hp} {s:Shared}
end
namespace Mi
section
variable {X:Cx}
end
end Mi
end L2
namespace L2
open PySem PySem.Spec PyProof.Rows
section
variable {prog:Program} {w:World} {K:Type} [DecidableEq K] {knd:HeapKind prog w K} {A:Around} {E:Value -> Shared -> Prop} {s:Shared}
end
namespace Mi
section
variable {X:Cx}
noncomputable def dI (M:Mem) (a:Addr) (kvs:List (D × D)):Prop:=(M a = some (.dct true kvs) ∨ M a = some (.fdc kvs)) /\ ∀ kv ∈ kvs, ∃ i,kv.2 = .int i
theorem dI.at {K:PySem.W.Frag} {M:Mem} {H:Hp} {a:Addr} {kvs:List (D × D)} (rm:RM K M H) (h:dI M a kvs):∃ ps,Rd H a (.dT ps) /\ Paired (fun (p:D × D) (q:List Key × V)=>RKeys p.1 q.1 /\ RD K H p.2 q.2) kvs ps:=by
 rcases h.1 with e | e
 ·obtain ⟨ps,hp,pr⟩:=rm a _ e;exact ⟨ps, .inl hp,pr⟩
 ·obtain ⟨o,ps,hp,pr⟩:=rm a _ e;exact ⟨ps, .inr ⟨o,hp⟩,pr⟩
end
end Mi
end L2
namespace L2
namespace Mi
open PySem PySem.Spec PyProof.Rows
section
variable {X:Cx}
end
end Mi
end L2
namespace L2
open PySem PySem.Spec PyProof.Rows
section
variable {X:Cx}
end
namespace Mi
end Mi
end L2
namespace L2
namespace Mi
open PySem PySem.Spec PyProof.Rows
section
variable {X:Cx}
end
end Mi
end L2
namespace L2
namespace Mi
open PySem PySem.Spec PyProof.Rows
section
variable {X:Cx}
end
end Mi
end L2
namespace L2
namespace It
open PySem PySem.Spec PyProof.Rows
section
variable {prog:Program} {w:World} {A:Around} {E:Value -> Shared -> Prop} {s:Shared}
end
end It
open PySem PySem.Spec PyProof.Rows
namespace Mi
section
variable {X:Cx}
end
end Mi
end L2
namespace L2
open PySem PySem.Spec PyProof.Rows
section
variable {X:Cx}
noncomputable def PF (X:Cx) (es:List Expr) (t:Str -> TE):Prop :=
 ∀ (acc:Str) (pins:List (Addr × Obj)) (s:Shared) (σ:St) (H:Hp) (Q:VK),Inv X pins σ H s -> t acc σ H Q ->
  Joins (model X.prog X.w) X.A X.xe (evalEach es X.env) acc (fun out s1=>out.length <= sizeLine /\ EP X pins σ Q (.str out s1.toks) { s1 with toks:=s1.toks + 1 }) s
noncomputable def tt (acc:Str):TE:=fun _ H Q=>acc.length <= sizeLine /\ Q (.str acc) H
noncomputable def tu (te:TE) (tr:Str -> TE) (acc:Str):TE:=fun σ H Q=>te σ H fun x H1 => ∃ y,x = .str y /\ (acc ++ y).length <= sizeLine /\ tr (acc ++ y) σ H1 Q
theorem rR:PF X [] tt:=fun acc pins s σ H Q I ⟨hz,q⟩=>⟨hz, .str acc,H,I.tok _,⟨_,rfl⟩,q⟩
theorem qa {e:Expr} {es:List Expr} {te:TE} {tr:Str -> TE} (he:PE X e te) (hr:PF X es tr):PF X (e :: es) (tu te tr):=by
 intro acc pins s σ H Q I h
 refine thn (he pins s σ H _ I h) fun v s1 ⟨x,H1,I1,r1,y,hx,hz,q⟩ => ?_
 subst hx
 obtain ⟨t,rfl⟩:=r1
 exact ⟨y,t,rfl,hz,hr _ pins s1 σ H1 Q I1 q⟩
theorem qb {e1 e2:Expr} {es:List Expr} {t:Str -> TE} {pos:Pos} (h:PF X (e1 :: e2 :: es) t):PE X (.JoinedStr (e1 :: e2 :: es) pos) (t Str.empty) :=
 fun pins s σ H Q I q=>wpAny_JoinedStr (h _ pins s σ H Q I q)
noncomputable def ud (te:TE):TE:=fun σ H Q=>te σ H fun x H1=>(∃ y:Str,x = .str y /\ y.length <= sizeLine /\ Q (.str y) H1) ∨ ∃ i:Int,x = .int i /\ i.natAbs.log2 < 1920 /\ Q (.str (toString i)) H1
theorem rS {e:Expr} {te:TE} {pos:Pos} (h:PE X e te):PE X (.FormattedValue e (-1) none pos) (ud te):=by
 intro pins s σ H Q I q
 refine wpAny_FormattedValue_plain (thn (h pins s σ H _ I q) fun v s1 ⟨x,H1,I1,r1,q1⟩ => ?_)
 rcases q1 with ⟨y,rfl,hz,q1⟩ | ⟨i,rfl,hz,q1⟩
 ·obtain ⟨t,rfl⟩:=r1
  exact wpAny_formatField_str ⟨.str y,H1,I1,⟨_,rfl⟩,q1⟩ ⟨.str y,H1,I1.tok _,⟨_,rfl⟩,q1⟩ hz
 ·obtain ⟨t,rfl⟩:=r1
  exact wpAny_formatField_int hz ⟨.str _,H1,I1.tok _,⟨_,rfl⟩,q1⟩
noncomputable def oH:V -> List V -> Hp -> VK -> Prop:=fun x vs H Q => ∃ (x0:Str) (b:Addr) (ys:List Str),x = .str x0 /\ vs = [.ref b] /\ H b = some (.lst (ys.map .str)) /\ (ys.map (·.length)).sum + ys.length * x0.length <= 16777216 /\ Q (.str (Txt.join x0 ys)) H
theorem fZ:∀ {ys:List Str} {us:List Value},Vals (ys.map V.str) us -> StrsAre us ys
 | [],_, .nil => .nil
 | y :: ys,_, .cons ⟨t,e⟩ r=>by subst e;exact .cons y t (fZ r)
theorem qc:MtM X "str.join" oH:=by
 intro pins s σ H x vs v us Q I rx rv h
 obtain ⟨x0,b,ys,rfl,rfl,hB,hz,q⟩:=h
 obtain ⟨t,rfl⟩:=rx
 obtain ⟨u,rfl,ru⟩:=rv.one
 cases ru
 obtain ⟨its,r,ht,hz2⟩:=I.list (SqL.of hB)
 exact join_list ht.isList (fZ r) hz fun t' k=>⟨.str _,H,I.tok _,⟨_,rfl⟩,q⟩
noncomputable def tw (K:PySem.W.Frag) (te:TE) (ts:TO):TE:=fun σ H Q=>te σ H fun x H1=>ts σ H1 fun st H3 => ∃ a xs,x = .ref a /\ SqL K H3 a xs /\ st = some (-1) /\ ∀ q,H3 q = none -> Q (.ref q) (upd H3 q (.lst xs.reverse))
theorem qd {e st:Expr} {te:TE} {ts:TO} {p2 pos:Pos} (he:PE X e te) (hs:PO X (some st) ts):PE X (.Subscript e (.Slice none none (some st) p2) pos) (tw X.K te ts):=by
 intro pins s σ H Q I h
 refine Subscript_ (thn (he pins s σ H _ I h) fun v s1 ⟨x,H1,I1,r1,q1⟩ => ?_)
 refine wpAny_Slice ?_
 rw [evalPart_none]
 refine wpAny_pure ?_
 refine wpAny_pure (thn (hs pins s1 σ H1 _ I1 q1) fun vs s3 ⟨u,H3,I3,ps,q3⟩ => ?_)
 have I4:Inv X pins σ H3 { s3 with heap:=s3.heap.push { cls := .type "slice",data := .fields #[.none, .none,vs] } }:=I3.kept (t':=s3.toks) fun b ob q=>Heap.get?_push_of_some _ q
 obtain ⟨a,xs,rfl,sq,rfl,q⟩:=q3
 cases r1
 obtain ⟨its,r,ht,hz⟩:=I4.list sq
 have hlen:=r.length
 show wpAny (model X.prog X.w) X.A (subscriptTail e (.Slice none none (some st) p2) (.ref a) (.ref s3.heap.objs.size)) (EP X pins σ Q) X.xe { s3 with heap:=s3.heap.push { cls := .type "slice",data := .fields #[.none, .none,vs] } }
 refine tail_any (ops := [.ref a, .ref s3.heap.objs.size]) ht.isList.typeIs slot_list_getitem.lookup ?_ (by with_unfolding_all rfl)
 refine wpAny_getItem_list_slice ht.isList (Heap.IsSliceOf.new ..) .none .none ps (by intro z;have:=Option.some.inj z;omega) ?_ (by rw [List.size_toArray] <;> omega)
 rw [PySem.W.krv_pick]
 refine ⟨.ref _,_,I4.laid (t':=s3.toks) (o := .lst xs.reverse) (fun b ob q=>Heap.get?_push_of_some _ q) (Nat.le_refl _) ?_,rfl,q _ (I4.hok.fresh (Nat.le_refl _))⟩
 refine ⟨by rw [List.length_reverse];exact hz,_,0, ?_,Heap.get?_push_size _ rfl⟩
 exact r.reverse
noncomputable def tz:R2:=fun x y H Q => ∃ l b xs zs,x = .ref l /\ y = .ref b /\ H l = some (.lst xs) /\ H b = some (.lst zs) /\ xs.length + zs.length <= sizeLine /\ Q (.ref l) (upd H l (.lst (xs ++ zs)))
theorem tD {M:Model} {A:Around} {E:Value -> Shared -> Prop} {s:Shared} {a b:Value} {Q:Value -> Shared -> Prop} (ha:s.TypeIs a "list") (hb:s.TypeIs b "list")
 (hc:wpAny M A (call (.builtin "list.__iadd__") [a,b]) Q E s):wpAny M A (inplaceOp .Add a b) Q E s:=by
 unfold inplaceOp
 refine wpAny_holding ?_
 have hl:typeLookup (.type "list") (dunderI "add") = pure (some (.builtin "list.__iadd__")):=PySem.F.slot_list_iadd.lookup
 have hq:isSeqSlot (some (.builtin "list.__iadd__")) = true:=by decide +kernel
 have hfi:fillsInplaceSlot (.type "list") "add" (Operator.Add == .Add) = pure false:=by
  unfold fillsInplaceSlot
  show (typeLookup (.type "list") (dunderI "add") >>= fun fi=>pure (fi.isSome && !isSeqSlot fi)) = pure false
  rw [hl,pure_bind,hq];rfl
 have hsi:seqSlot? (.type "list") (dunderI "add") = pure (some (.builtin "list.__iadd__")):=PySem.seqSlot_of hl hq
 refine wpAny_bind (wpAny_typeOf ha (wpAny_bind (wpAny_of_eq hfi ?_)))
 show wpAny M A (if false = true then _ else _) Q E s
 rw [if_neg Bool.false_ne_true]
 refine wpAny_bind (PySem.wpAny_binaryOp1_none (nm := "add") ha hb PySem.noFill_list_add ?_)
 refine wpAny_bind (wpAny_of_eq hsi ?_)
 exact wpAny_bind (wpAny_rule hc)
theorem qe:OpR X (inplaceOp .Add) tz:=by
 intro pins s σ H x y v u Q I rx ry h
 obtain ⟨l,b,xs,zs,rfl,rfl,hH,hB,hz,q⟩:=h
 cases rx
 cases ry
 obtain ⟨z,its,n,r,hl,e⟩:=I.lstM hH
 obtain ⟨z2,its2,n2,r2,hl2,e2⟩:=I.lstM hB
 have hsz:its.toArray.size + its2.toArray.size <= sizeLine:=by rw [List.size_toArray,List.size_toArray];omega
 have hlong : ¬ (!its.toArray.isEmpty && Builtin.List.listTooLong (its.toArray.size + its2.toArray.size)) = true:=by
  rw [dP hsz,Bool.and_false]
  exact Bool.false_ne_true
 refine tD ⟨_,e,rfl⟩ ⟨_,e2,rfl⟩ (call_meets PySem.F.slot_list_iadd ⟨_,e,rfl⟩ PySem.F.entry_list_iadd (PySem.F.args_list_iadd_2 _ _)
  (AutoSeq1.list___iadd___list_list_0 l its.toArray n b its2.toArray n2 hlong (by rw [List.size_toArray];omega) (by omega)) ⟨e,e2, ?_⟩)
 refine ⟨.ref l,_,I.lset (its':=its ++ its2) hH e (by simp) (r.append r2) ?_,rfl,q⟩
 rw [List.length_append];omega
noncomputable def ue (ta tb:TE) (K:PySem.W.Frag):TE:=fun σ H Q=>ta σ H fun x H1 => ∃ a xs,x = .ref a /\ SqL K H1 a xs /\ if xs.isEmpty = true then tb σ H1 Q else Q (.ref a) H1
theorem rT {a b:Expr} {ta tb:TE} {pos:Pos} (ha:PE X a ta) (hb:PE X b tb):PE X (.BoolOp .Or [a,b] pos) (ue ta tb X.K):=by
 intro pins s σ H Q I h
 refine BoolOp_or (thn (ha pins s σ H _ I h) fun v s1 ⟨x,H1,I1,r1,q1⟩ => ?_)
 obtain ⟨c,xs,rfl,sq,q1⟩:=q1
 refine thn (ku pins s1 σ H1 (.ref c) v (fun k H'=>H' = H1 /\ k = !xs.isEmpty) I1 r1 ⟨_, .inl ⟨xs,sq,rfl⟩,rfl,rfl⟩) fun k s2 ⟨H2,I2,e,ek⟩ => ?_
 subst e ek
 cases hx:xs.isEmpty with
 | true =>
   rw [hx,if_pos rfl] at q1
   exact BoolOp_one (hb pins s2 σ H2 Q I2 q1)
 | false =>
   rw [hx,if_neg Bool.false_ne_true] at q1
   exact ⟨.ref c,H2,I2,r1,q1⟩
end
namespace Mi
section
variable {X:Cx}
noncomputable def eR (acc:Str):TEd:=fun _ M Q=>acc.length <= sizeLine /\ Q (.str acc) M
noncomputable def eS (te:TEd) (tr:Str -> TEd) (acc:Str):TEd:=fun ρ M Q=>te ρ M fun x M1 => ∃ y,x = .str y /\ (acc ++ y).length <= sizeLine /\ tr (acc ++ y) ρ M1 Q
theorem ly {acc:Str}:aa (eR acc):=fun _ _ _ _ h ⟨z,q⟩=>⟨z,h _ _ q⟩
theorem lB {te:TEd} {tr:Str -> TEd} {acc:Str} (m:aa te) (mr:∀ a,aa (tr a)):aa (eS te tr acc):=fun ρ M Q Q' i q =>
 m _ _ _ _ (fun x M1 ⟨y,e,z,q1⟩=>⟨y,e,z,mr _ _ _ _ _ i q1⟩) q
noncomputable def PFd (X:Cx) (es:List Expr) (t:Str -> TEd):Prop:=PF X es fun acc=>lE X.K (t acc)
theorem rV:PFd X [] eR:=fun acc pins s σ H Q I ⟨ρ,M,rs,rm,z,q⟩=>rR acc pins s σ H Q I ⟨z,q _ H Ext.refl rm (RD.str_iff.mpr rfl)⟩
theorem qf {e:Expr} {es:List Expr} {te:TEd} {tr:Str -> TEd} (m:aa te) (mr:∀ a,aa (tr a)) (he:PE X e (lE X.K te)) (hr:PFd X es tr):PFd X (e :: es) (eS te tr):=by
 intro acc pins s σ H Q I ⟨ρ,M,rs,rm,q⟩
 refine qa he hr acc pins s σ H Q I ⟨ρ,M,rs,rm,m _ _ _ _ (fun x M1 ⟨y,e,z,q1⟩ v H1 x1 rm1 rd1 => ?_) q⟩
 subst e
 refine ⟨y,RD.str_iff.mp rd1,z, ρ,M1,rs.mono (x1.stab rm),rm1,mr _ _ _ _ _ (fun d M2 k=>k.ext x1) q1⟩
theorem qg {e1 e2:Expr} {es:List Expr} {t:Str -> TEd} {pos:Pos} (h:PFd X (e1 :: e2 :: es) t):PE X (.JoinedStr (e1 :: e2 :: es) pos) (lE X.K (t Str.empty)):=qb h
noncomputable def fmD:R1d
 | .str y,M,Q=>y.length <= sizeLine /\ Q (.str y) M
 | .int i,M,Q=>i.natAbs.log2 < 1920 /\ Q (.str (toString i)) M
 | _,_,_=>False
theorem nM:gh fmD:=by
 intro x M Q Q' h q
 cases x with
 | str y=>exact ⟨q.1,h _ _ q.2⟩
 | int i=>exact ⟨q.1,h _ _ q.2⟩
 | _=>exact q.elim
noncomputable def i3 (te:TEd):TEd:=fun ρ M Q=>te ρ M fun x M1=>fmD x M1 Q
theorem nN {te:TEd} (m:aa te):aa (i3 te):=fun ρ M Q Q' i q =>
 m _ _ _ _ (fun x M1 q1=>nM _ _ _ _ i q1) q
theorem rW {e:Expr} {te:TEd} {pos:Pos} (m:aa te) (he:PE X e (lE X.K te)):PE X (.FormattedValue e (-1) none pos) (lE X.K (i3 te)):=by
 refine PE.imp (rS he) fun σ H Q h => ?_
 obtain ⟨ρ,M,rs,rm,q⟩:=h
 refine ⟨ρ,M,rs,rm,m _ _ _ _ (fun x M1 q1 v H1 x1 rm1 rd1 => ?_) q⟩
 cases x with
 | str y=>exact .inl ⟨y,RD.str_iff.mp rd1,q1.1,q1.2 _ H1 x1 rm1 (RD.str_iff.mpr rfl)⟩
 | int i=>exact .inr ⟨i,RD.int_iff.mp rd1,q1.1,q1.2 _ H1 x1 rm1 (RD.str_iff.mpr rfl)⟩
 | _=>exact q1.elim
noncomputable def jM:RAd:=fun xs M Q => ∃ i:Int,xs = [.int i] /\ i.natAbs.log2 < 1920 /\ Q (.str (toString i)) M
theorem g8:aG jM:=fun _ _ _ _ h ⟨i,e,z,q⟩=>⟨i,e,z,h _ _ q⟩
theorem jN:CallR X (.type "str") (lR X.K jM):=by
 refine CallR.of gv fun vs H Q h => ?_
 obtain ⟨ds,M,rm,rs,i,rfl,z,q⟩:=h
 obtain ⟨v,rfl,r⟩:=rs.one
 cases RD.int_iff.mp r
 exact ⟨i,rfl,z,q _ H Ext.refl rm (RD.str_iff.mpr rfl)⟩
noncomputable def eT (to te:TEd):TEd:=fun ρ M Q=>to ρ M fun x M1=>(∃ x0,x = .str x0) /\ te ρ M1 fun y M2 => ∃ (x0:Str) (b:Addr) (ys:List Str),x = .str x0 /\ y = .ref b /\ M2 b = some (.lst (ys.map .str)) /\ (ys.map (·.length)).sum + ys.length * x0.length <= 16777216 /\ Q (.str (Txt.join x0 ys)) M2
theorem lD {to te:TEd} (mo:aa to) (me:aa te):aa (eT to te):=fun ρ M Q Q' i q =>
 mo _ _ _ _ (fun x M1 ⟨e,q1⟩=>⟨e,me _ _ _ _ (fun y M2 ⟨x0,b,ys,e1,e2,e3,z,q2⟩=>⟨x0,b,ys,e1,e2,e3,z,i _ _ q2⟩) q1⟩) q
theorem RDs.strs {K:PySem.W.Frag} {H:Hp}:∀ {ys:List Str} {vs:List V},RDs K H (ys.map .str) vs -> vs = ys.map .str
 | [],_,h=>h
 | y :: ys,_,⟨v,r,e,h1,h2⟩=>by subst e;rw [RDs.strs h2,RD.str_iff.mp h1];rfl
theorem lF {K:PySem.W.Frag} {to te:TEd} (mo:aa to) (me:aa te) (σ:St) (H:Hp) (Q:VK) (h:lE K (eT to te) σ H Q):tBM K "str" oH (lE K to) (lA K (bf te bH)) σ H Q:=by
 obtain ⟨ρ,M,rs,rm,q⟩:=h
 refine ⟨ρ,M,rs,rm,mo _ _ _ _ (fun x M1 ⟨⟨x0,e⟩,q1⟩ v H1 x1 rm1 rd1 => ?_) q⟩
 subst e
 cases RD.str_iff.mp rd1
 refine ⟨rfl, ρ,M1,rs.mono (x1.stab rm),rm1,me _ _ _ _ (fun y M2 q2 vs H2 x2 rm2 rd2 => ?_) q1⟩
 obtain ⟨x0',b,ys,e1,e2,e3,z,q2⟩:=q2
 cases e1
 subst e2
 obtain ⟨v,rfl,r⟩:=rd2.one
 cases RD.ref_iff.mp r
 obtain ⟨us,ha,ru⟩:=rm2 _ _ e3
 rw [RDs.strs ru] at ha
 exact ⟨x0,b,ys,rfl,rfl,ha,z,q2 _ H2 (x1.trans x2) rm2 (RD.str_iff.mpr rfl)⟩
noncomputable def eU (te:TEd) (ts:TOd):TEd:=fun ρ M Q=>te ρ M fun x M1=>ts ρ M1 fun u M3 => ∃ a ds,x = .ref a /\ M3 a = some (.lst ds) /\ u = some (-1) /\ ∀ q,M3 q = none -> Q (.ref q) (ag M3 q (.lst ds.reverse))
theorem lH {te:TEd} {ts:TOd} (m:aa te) (mh:bY ts):aa (eU te ts):=fun ρ M Q Q' i q =>
 m _ _ _ _ (fun x M1 q1=>mh _ _ _ _ (fun u M3 ⟨a,ds,e1,e2,e4,q3⟩=>⟨a,ds,e1,e2,e4,fun p n=>i _ _ (q3 p n)⟩) q1) q
theorem qh {e:Expr} {ta:TEd} {hi:Expr} {th:TOd} {p2 pos:Pos} (m:aa ta) (mh:bY th) (he:PE X e (lE X.K ta)) (hu:PO X (some hi) (lO X.K th)) :
 PE X (.Subscript e (.Slice none none (some hi) p2) pos) (lE X.K (eU ta th)):=by
 refine PE.imp (qd he hu) fun σ H Q h => ?_
 obtain ⟨ρ,M,rs,rm,q⟩:=h
 refine ⟨ρ,M,rs,rm,m _ _ _ _ (fun x M1 q1 v H1 x1 rm1 rd1 => ?_) q⟩
 refine ⟨ρ,M1,rs.mono (x1.stab rm),rm1,mh _ _ _ _ (fun u M3 q3 H3 x3 rm3 => ?_) q1⟩
 have rd3:=rd1.mono (x3.stab rm1)
 obtain ⟨a,ds,rfl,e,rfl,q3⟩:=q3
 cases RD.ref_iff.mp rd3
 obtain ⟨vs,ha,r⟩:=rm3 _ _ e
 exact ⟨a,vs,rfl,SqL.of ha,rfl,fun p' n=>bJ rm3 r.reverse (fun p' n'=>(q3 p' n').ext (x1.trans x3)) n⟩
noncomputable def jO:R2d:=fun x y M Q => ∃ a b xs ys,x = .ref a /\ y = .ref b /\ M a = some (.lst xs) /\ M b = some (.lst ys) /\ xs.length + ys.length <= sizeLine /\ Q (.ref a) (ag M a (.lst (xs ++ ys)))
theorem g9:av jO:=fun _ _ _ _ _ h ⟨a,b,xs,y,e1,e2,e3,e4,z,q⟩=>⟨a,b,xs,y,e1,e2,e3,e4,z,h _ _ q⟩
theorem lJ:OpR X (inplaceOp .Add) (l2 X.K jO):=by
 refine OpR.of qe fun v u H Q h => ?_
 obtain ⟨x,y,M,rm,rx,ry,a,b,xs,ys,rfl,rfl,e1,e2,z,q⟩:=h
 cases RD.ref_iff.mp rx
 cases RD.ref_iff.mp ry
 obtain ⟨us,ha,ru⟩:=rm _ _ e1
 obtain ⟨ws,hb,rw'⟩:=rm _ _ e2
 exact ⟨a,b,us,ws,rfl,rfl,ha,hb,by rw [ru.length,rw'.length];exact z,iV rm e1 (ru.append rw') (RD.ref_iff.mpr rfl) q⟩
noncomputable def i4 (ta tb:TEd):TEd:=fun ρ M Q=>ta ρ M fun x M1 => ∃ a xs,x = .ref a /\ M1 a = some (.lst xs) /\ if xs.isEmpty = true then tb ρ M1 Q else Q (.ref a) M1
theorem nO {ta tb:TEd} (h:aa ta) (k:aa tb):aa (i4 ta tb):=fun ρ M Q Q' i q=>h _ _ _ _ (fun x M1 ⟨a,xs,e,e1,q1⟩=>⟨a,xs,e,e1,by
 cases hx:xs.isEmpty with
 | true=>rw [hx,if_pos rfl] at q1;rw [if_pos rfl];exact k _ _ _ _ i q1
 | false=>rw [hx,if_neg Bool.false_ne_true] at q1;rw [if_neg Bool.false_ne_true];exact i _ _ q1⟩) q
theorem rX {a b:Expr} {ta tb:TEd} {pos:Pos} (ma:aa ta) (mb:aa tb) (ha:PE X a (lE X.K ta)) (hb:PE X b (lE X.K tb)):PE X (.BoolOp .Or [a,b] pos) (lE X.K (i4 ta tb)):=by
 refine PE.imp (rT ha hb) fun σ H Q h => ?_
 obtain ⟨ρ,M,rs,rm,q⟩:=h
 refine ⟨ρ,M,rs,rm,ma _ _ _ _ (fun x M1 ⟨c,xs,e,e1,q1⟩ v H1 x1 rm1 rd1 => ?_) q⟩
 subst e
 cases RD.ref_iff.mp rd1
 obtain ⟨us,hu,ru⟩:=rm1 _ _ e1
 refine ⟨c,us,rfl,SqL.of hu, ?_⟩
 have hl:=ru.length
 cases hx:xs.isEmpty with
 | true =>
   have:us.isEmpty = true:=by rw [List.isEmpty_iff] at hx ⊢;subst hx;exact List.eq_nil_of_length_eq_zero hl
   rw [hx,if_pos rfl] at q1
   rw [this,if_pos rfl]
   exact ⟨ρ,M1,rs.mono (x1.stab rm),rm1,mb _ _ _ _ (fun d M2 k=>k.ext x1) q1⟩
 | false =>
   have:us.isEmpty = false:=by
    cases us with
    | nil=>cases xs with
      | nil=>cases hx
      | cons _ _=>cases hl
    | cons _ _=>rfl
   rw [hx,if_neg Bool.false_ne_true] at q1
   rw [this,if_neg Bool.false_ne_true]
   exact q1 _ H1 x1 rm1 (RD.ref_iff.mpr rfl)
end
end Mi
end L2
namespace L2
namespace Mi
open PySem PySem.Spec PyProof.Rows
inductive BOp where | add | sub | mul | fdiv | mod | pow | ext
inductive COp where | eq | ne | lt | gt | ge
inductive BF where | len | abs | max2 | min2 | int | list | tuple | any | str
inductive MF where | append
inductive MF0 where | clear | reverse
mutual
inductive MG where
 | name (i:Nat)
 | tup (gs:MGs)
inductive MGs where
 | nil
 | cons (g:MG) (r:MGs)
end
mutual
inductive ME where
 | var (i:Nat)
 | int (i:Int)
 | bl (b:Bool)
 | str (x:Str)
 | bin (op:BOp) (a b:ME)
 | neg (a:ME)
 | cmp (op:COp) (a b:ME)
 | not (a:ME)
 | ite (c:MT) (a b:ME)
 | tup (es:MEs)
 | lst (es:MEs)
 | ix (a b:ME)
 | sl (a:ME) (lo hi:MO)
 | call (f:Nat) (es:MEs)
 | blt (f:BF) (es:MEs)
 | isin (a:ME) (T:String)
 | meth (m:MF) (o a:ME)
 | comp (fr:List (Option Nat)) (N:List Str) (c:MC)
 | fstr (es:MEs)
 | fmt (a:ME)
 | join (o a:ME)
 | revS (a st:ME)
 | orL (a b:ME)
inductive MEs where
 | nil
 | cons (e:ME) (r:MEs)
inductive MO where
 | none
 | some (e:ME)
inductive MT where
 | tru (e:ME)
 | cmp (op:COp) (a b:ME)
 | and (ts:MTs)
 | or (ts:MTs)
 | not (t:MT)
inductive MTs where
 | nil
 | cons (t:MT) (r:MTs)
inductive MI where
 | seq (e:ME)
 | rng1 (a:ME)
 | enum (a:ME)
inductive MC where
 | last (src:MI) (g:MG) (ifs:MTs) (elt:ME)
 | more (src:MI) (g:MG) (ifs:MTs) (rest:MC)
end
mutual
inductive MS where
 | asg (g:MG) (e:ME)
 | par (i j:Nat) (a b:ME)
 | put (o i e:ME)
 | aug (i:Nat) (op:BOp) (e:ME)
 | drop (e:ME)
 | ret (e:ME)
 | ite (c:MT) (a b:MSs)
 | for (g:MG) (src:MI) (b:MSs)
 | while (c:MT) (b:MSs)
 | bot
 | pass | brk | cnt
inductive MSs where
 | nil
 | cons (s:MS) (r:MSs)
end
noncomputable def opB:BOp -> R2d
 | .add=>cX | .sub=>jt | .mul=>fu | .fdiv=>gi | .mod=>ju | .pow=>jv | .ext=>cX
noncomputable def opC:COp -> R2d
 | .eq=>wEq | .ne=>wNe | .lt=>wLt| .gt=>wGt | .ge=>wGe
noncomputable def opF:BF -> RAd
 | .len=>cY | .abs=>gQ | .max2=>gj | .min2=>gk | .int=>gR | .list=>jA | .tuple=>gU| .any=>nK| .str=>jM
noncomputable def opM:MF -> D -> List D -> Mem -> QD -> Prop
 | .append=>fw
noncomputable def rY:MF0 -> D -> List D -> Mem -> QD -> Prop
 | .clear=>rJ | .reverse=>nk
noncomputable def opI:BOp -> R2d
 | .add=>gn | .sub=>jI | .mul=>jJ | .ext=>jO | _=>fun _ _ _ _=>False
theorem i5:∀ o,av (opB o)
 | .add=>gK | .sub=>mV | .mul=>mW | .fdiv=>kO | .mod=>mX | .pow=>mY | .ext=>gK
theorem cN:∀ o,av (opC o)
 | .eq=>pC | .ne=>pD | .lt=>pG| .gt=>pH | .ge=>pI
theorem nP:∀ o,aG (opF o)
 | .len=>gP | .abs=>gS | .max2=>fO | .min2=>fP | .int=>gT | .list=>fQ | .tuple=>eE| .any=>hZ| .str=>g8
theorem nQ:∀ o,gm (opM o)
 | .append=>dL
theorem nR:∀ o,av (opI o)
 | .add=>fW | .sub=>fX | .mul=>fY | .ext=>g9
 | .fdiv=>fun _ _ _ _ _ _ q=>q.elim | .mod=>fun _ _ _ _ _ _ q=>q.elim | .pow=>fun _ _ _ _ _ _ q=>q.elim
noncomputable abbrev Phi:=Nat -> RAd
mutual
noncomputable def bG:MG -> BT
 | .name i=>bM i
 | .tup gs=>jD (bGs gs)
noncomputable def bGs:MGs -> BTs
 | .nil=>dY
 | .cons g r=>bB (bG g) (bGs r)
end
mutual
noncomputable def wE (Φ:Phi):ME -> TEd
 | .var i=>dQ i
 | .int i=>wC (.int i)
 | .bl b=>wC (.bl b)
 | .str x=>wC (.str x)
 | .bin op a b=>wOp (opB op) (wE Φ a) (wE Φ b)
 | .neg a=>wUn jw (wE Φ a)
 | .cmp op a b=>wOp (opC op) (wE Φ a) (wE Φ b)
 | .not a=>eI (wE Φ a)
 | .ite c a b=>wIf (wT Φ c) (wE Φ a) (wE Φ b)
 | .tup es=>wAr gH (wA Φ es)
 | .lst es=>wAr gI (wA Φ es)
 | .ix a b=>wOp wIx (wE Φ a) (wE Φ b)
 | .sl a lo hi=>wSl (wE Φ a) (wO Φ lo) (wO Φ hi)
 | .call f es=>wAr (Φ f) (wA Φ es)
 | .blt f es=>wAr (opF f) (wA Φ es)
 | .isin a T=>eJ T (wE Φ a)
 | .meth m o a=>wBM (opM m) (wE Φ o) (bf (wE Φ a) bH)
 | .comp fr _ c=>wCmp Φ fr c
 | .fstr es=>wFs Φ es Str.empty
 | .fmt a=>i3 (wE Φ a)
 | .join o a=>eT (wE Φ o) (wE Φ a)
 | .revS a st=>eU (wE Φ a) (dw (wE Φ st))
 | .orL a b=>i4 (wE Φ a) (wE Φ b)
noncomputable def wA (Φ:Phi):MEs -> TAd
 | .nil=>bH
 | .cons e r=>bf (wE Φ e) (wA Φ r)
noncomputable def wFs (Φ:Phi):MEs -> Str -> TEd
 | .nil=>eR
 | .cons e r=>eS (wE Φ e) (wFs Φ r)
noncomputable def wO (Φ:Phi):MO -> TOd
 | .none=>cC
 | .some e=>dw (wE Φ e)
noncomputable def wT (Φ:Phi):MT -> TTd
 | .tru e=>gX (wE Φ e)
 | .cmp op a b=>dR (wOp (opC op) (wE Φ a) (wE Φ b))
 | .and ts=>wAndTs Φ ts
 | .or ts=>wOrTs Φ ts
 | .not t=>eF (wT Φ t)
noncomputable def wAndTs (Φ:Phi):MTs -> TTd
 | .nil=>fun _ _ _=>False
 | .cons e .nil=>wT Φ e
 | .cons e (.cons f r)=>eG (wT Φ e) (wAndTs Φ (.cons f r))
noncomputable def wOrTs (Φ:Phi):MTs -> TTd
 | .nil=>fun _ _ _=>False
 | .cons e .nil=>wT Φ e
 | .cons e (.cons f r)=>gY (wT Φ e) (wOrTs Φ (.cons f r))
noncomputable def wTl (Φ:Phi):MTs -> List TTd
 | .nil => []
 | .cons t r=>wT Φ t :: wTl Φ r
noncomputable def wI (Φ:Phi):MI -> TId
 | .seq e=>h9 (wE Φ e)
 | .rng1 a=>eK (bf (wE Φ a) bH)
 | .enum a=>eL (wE Φ a)
noncomputable def wCl (Φ:Phi):MC -> TCd
 | .last src g ifs elt=>ce (wI Φ src) (bG g) (aV (wTl Φ ifs) (cu (wE Φ elt)))
 | .more src g ifs rest=>ce (wI Φ src) (bG g) (aV (wTl Φ ifs) (wCl Φ rest))
noncomputable def wCmp (Φ:Phi) (fr:List (Option Nat)):MC -> TEd
 | .last src g ifs elt=>dz fr (wI Φ src) (bG g) (aV (wTl Φ ifs) (cu (wE Φ elt)))
 | .more src g ifs rest=>dz fr (wI Φ src) (bG g) (aV (wTl Φ ifs) (wCl Φ rest))
end
mutual
noncomputable def wS (Φ:Phi):MS -> TSd
 | .asg g e=>dZ (wE Φ e) (bG g)
 | .par i j a b=>hJ (bf (wE Φ a) (bf (wE Φ b) bH)) (bB (bM i) (bB (bM j) dY))
 | .put o i e=>hV (wE Φ e) (wE Φ o) (wE Φ i)
 | .aug i op e=>hX i (opI op) (wE Φ e)
 | .drop e=>eO (wE Φ e)
 | .ret e=>hG (wE Φ e)
 | .ite c a b=>sIf (wT Φ c) (wSs Φ a) (wSs Φ b)
 | .for g src b=>hU (wI Φ src) (bG g) (wSs Φ b)
 | .while c b=>de (wT Φ c) (wSs Φ b)
 | .bot=>fun _ _ _=>False
 | .pass=>dA
 | .brk=>dc
 | .cnt=>eN
noncomputable def wSs (Φ:Phi):MSs -> TSd
 | .nil=>dA
 | .cons s r=>hE (wS Φ s) (wSs Φ r)
end
section
variable {Φ:Phi} (hΦ:∀ f,aG (Φ f))
include hΦ
mutual
theorem mE:∀ m,aa (wE Φ m)
 | .var _=>mQ
 | .int _=>gG
 | .bl _=>gG
 | .str _=>gG
 | .bin op a b=>cA (i5 op) (mE a) (mE b)
 | .neg a=>pz gM (mE a)
 | .cmp op a b=>cA (cN op) (mE a) (mE b)
 | .not a=>kU (mE a)
 | .ite c a b=>pP (mT c) (mE a) (mE b)
 | .tup es=>du kL (mA es)
 | .lst es=>du kM (mA es)
 | .ix a b=>cA iT (mE a) (mE b)
 | .sl a lo hi=>pR (mE a) (mO lo) (mO hi)
 | .call f es=>du (hΦ f) (mA es)
 | .blt f es=>du (nP f) (mA es)
 | .isin a T=>kW (mE a)
 | .meth m o a=>pV (nQ m) (mE o) (aR (mE a) aD)
 | .comp fr _ c=>mCmp fr c
 | .fstr es=>mFs es _
 | .fmt a=>nN (mE a)
 | .join o a=>lD (mE o) (mE a)
 | .revS a st=>lH (mE a) (cZ (mE st))
 | .orL a b=>nO (mE a) (mE b)
theorem mA:∀ m,aU (wA Φ m)
 | .nil=>aD
 | .cons e r=>aR (mE e) (mA r)
theorem mFs:∀ m acc,aa (wFs Φ m acc)
 | .nil,_=>ly
 | .cons e r,_=>lB (mE e) (mFs r)
theorem mO:∀ m,bY (wO Φ m)
 | .none=>iH
 | .some e=>cZ (mE e)
theorem mT:∀ m,aq (wT Φ m)
 | .tru e=>ni (mE e)
 | .cmp op a b=>mR (cA (cN op) (mE a) (mE b))
 | .and ts=>mAndTs ts
 | .or ts=>mOrTs ts
 | .not t=>kS (mT t)
theorem mAndTs:∀ m,aq (wAndTs Φ m)
 | .nil=>fun _ _ _ _ _ q=>q.elim
 | .cons e .nil=>mT e
 | .cons e (.cons f r)=>kT (mT e) (mAndTs (.cons f r))
theorem mOrTs:∀ m,aq (wOrTs Φ m)
 | .nil=>fun _ _ _ _ _ q=>q.elim
 | .cons e .nil=>mT e
 | .cons e (.cons f r)=>nj (mT e) (mOrTs (.cons f r))
theorem mTl:∀ m, ∀ t ∈ wTl Φ m,aq t
 | .nil=>by rw [wTl];intro t ht;simp at ht
 | .cons t r=>by
  rw [wTl];intro t' ht
  rcases List.mem_cons.mp ht with e | e
  ·rw [e];exact mT t
  ·exact mTl r t' e
theorem mI:∀ m,bN (wI Φ m)
 | .seq e=>no (mE e)
 | .rng1 a=>kZ (aR (mE a) aD)
 | .enum a=>lf (mE a)
theorem mCl:∀ m,bm (wCl Φ m)
 | .last src g ifs elt=>dM (mI src) (ax (aY (mE elt)) (mTl ifs))
 | .more src g ifs rest=>dM (mI src) (ax (mCl rest) (mTl ifs))
theorem mCmp (fr:List (Option Nat)):∀ m,aa (wCmp Φ fr m)
 | .last src g ifs elt=>fR (mI src) (ax (aY (mE elt)) (mTl ifs))
 | .more src g ifs rest=>fR (mI src) (ax (mCl rest) (mTl ifs))
end
mutual
theorem mS:∀ m,au (wS Φ m)
 | .asg g e=>ny (mE hΦ e)
 | .par i j a b=>nA (aR (mE hΦ a) (aR (mE hΦ b) aD))
 | .put o i e=>nG (mE hΦ e) (mE hΦ o) (mE hΦ i)
 | .aug i op e=>nJ (nR op) (mE hΦ e)
 | .drop e=>lj (mE hΦ e)
 | .ret e=>nt (mE hΦ e)
 | .ite c a b=>nv (mT hΦ c) (mSs a) (mSs b)
 | .for g src b=>nB (mI hΦ src) (mSs b)
 | .while c b=>jF (mT hΦ c) (mSs b)
 | .bot=>fun _ _ _ _ _ q=>q
 | .pass=>fT
 | .brk=>jE
 | .cnt=>lg
theorem mSs:∀ m,au (wSs Φ m)
 | .nil=>fT
 | .cons s r=>lh (mS s) (mSs r)
end
end
end Mi
end L2
namespace L2
namespace Mi
open PySem PySem.Spec PyProof.Rows
structure Ctx where
 Γ:List Str
 N:List Str
 sc:Scope
 fn:List Str
 cs:List (Str × Int)
noncomputable def glB (sc:Scope) (x:Str):Bool:=sc.names.lookup x == some .globalImplicit
noncomputable def nS (sc:Scope) (x:Str):Bool:=sc.names.lookup x == some .local || sc.names.lookup x == some .cell || sc.names.lookup x == some .free
noncomputable def jP (sc:Scope) (x:Str):Bool:=sc.names.lookup x == some .local || sc.names.lookup x == some .cell
noncomputable def aT:Expr -> Bool
 | .Starred .. => false
 | _=>true
noncomputable def i6:Expr -> Bool
 | .Name .. | .Call .. | .Subscript .. | .Constant .. | .BinOp .. | .Attribute .. => true
 | _=>false
noncomputable def cE:Expr -> Bool
 | .Slice .. => false
 | _=>true
noncomputable def dg:Expr -> Bool
 | .ListComp .. | .SetComp .. | .DictComp .. => false
 | _=>true
noncomputable def gp:Expr -> Bool
 | .Set .. => false
 | _=>true
noncomputable def dB:Expr -> Bool
 | .Call .. => false
 | _=>true
noncomputable def opO:BOp -> Operator
 | .add => .Add | .sub => .Sub | .mul => .Mult | .fdiv => .FloorDiv | .mod => .Mod | .pow => .Pow | .ext => .Add
noncomputable def nT:COp -> CmpOp
 | .eq => .Eq | .ne => .NotEq | .lt => .Lt| .gt => .Gt | .ge => .GtE
noncomputable def i7:BF -> Str
 | .len => "len" | .abs => "abs" | .max2 => "max" | .min2 => "min" | .int => "int" | .list => "list" | .tuple => "tuple"| .any => "any"| .str => "str"
noncomputable def rZ:MF -> Str
 | .append => "append"
noncomputable def e7:List Str := ["len", "abs", "max", "min", "int", "list", "tuple", "sum", "isinstance", "range", "bool", "str", "dict", "zip", "enumerate", "reversed", "sorted", "all", "any", "set"]
noncomputable def e8 (sc osc:Scope):Scope :=
 { sc with names:=sc.names.map fun (n,k)=>if (k == .free && osc.kind == .function && osc.names.lookup n == some .cell) then (n, .cell) else (n,k) }
theorem iI (sc:Scope) (env:Env):relabel sc env = e8 sc env.scope:=rfl
noncomputable def nU (sc osc:Scope) (oN N':List Str) (fr:List (Option Nat)):Bool :=
 decide (sc.kind = .function) && decide ((sc.names.map (·.1)).Nodup) && decide (N'.Nodup)
  && sc.names.all (fun x => !(x.2 == .free) || osc.names.lookup x.1 == some .cell || osc.names.lookup x.1 == some .free)
  && decide (fr.length = N'.length)
  && (List.range N'.length).all fun i=>match fr[i]?,N'[i]? with
   | some (some j),some x=>decide (oN[j]? = some x) && sc.names.any (fun y=>decide (y = (x,NameKind.free)))
   | _,_=>true
mutual
noncomputable def okG:MG -> Ctx -> Expr -> Bool
 | .name i,C,e=>match e with
  | .Name x _=>decide (C.N[i]? = some x) && jP C.sc x && (C.sc.names.lookup x == some .local || C.fn.contains x)
  | _=>false
 | .tup gs,C,e=>match e with
  | .Tuple es _ _=>okGs gs C es
  | _=>false
noncomputable def okGs:MGs -> Ctx -> List Expr -> Bool
 | .nil,_,es=>es.isEmpty
 | .cons g r,C,es=>match es with
  | e :: es=>aT e && okG g C e && okGs r C es
  | [] => false
end
noncomputable def e9:Expr -> Option Str
 | .Name x _=>some x
 | _=>none
noncomputable def dC:Expr -> Option (List Expr)
 | .Tuple ts _ _=>some ts
 | _=>none
noncomputable def oI:Stmt -> Option (List Expr × Expr)
 | .Assign ts e _=>some (ts,e)
 | _=>none
theorem dD {e:Expr} {x:Str} (h:e9 e = some x):∃ p,e = .Name x p:=by
 cases e <;> first
  | (cases h;exact ⟨_,rfl⟩)
  | cases h
theorem ed {e:Expr} {ts:List Expr} (h:dC e = some ts):∃ k p,e = .Tuple ts k p:=by
 cases e <;> first
  | (cases h;exact ⟨_,_,rfl⟩)
  | cases h
theorem nV {s:Stmt} {ts:List Expr} {e:Expr} (h:oI s = some (ts,e)):∃ p,s = .Assign ts e p:=by
 cases s <;> first
  | (cases h;exact ⟨_,rfl⟩)
  | cases h
noncomputable def cOf:Expr -> Option (Expr × List Expr × List Keyword × Pos)
 | .Call f xs ks p=>some (f,xs,ks,p)
 | _=>none
noncomputable def gq:Expr -> Option (Expr × Str × Pos)
 | .Attribute o n p=>some (o,n,p)
 | _=>none
noncomputable def gr:Expr -> Option (Expr × Expr)
 | .Subscript x y _=>some (x,y)
 | _=>none
noncomputable def jQ:Expr -> Option (Option Expr × Option Expr × Option Expr)
 | .Slice l u s _=>some (l,u,s)
 | _=>none
noncomputable def eV:Expr -> Option (Expr × List CmpOp × List Expr)
 | .Compare l os rs _=>some (l,os,rs)
 | _=>none
noncomputable def s8:Expr -> Option (Expr × Expr × Comprehension × Scope)
 | .DictComp k v [g] sc _=>some (k,v,g,sc)
 | _=>none
theorem lK {e f:Expr} {xs:List Expr} {ks:List Keyword} {p:Pos} (h:cOf e = some (f,xs,ks,p)):e = .Call f xs ks p:=by
 cases e <;> first
  | (cases h;rfl)
  | cases h
theorem nW {e o:Expr} {n:Str} {p:Pos} (h:gq e = some (o,n,p)):e = .Attribute o n p:=by
 cases e <;> first
  | (cases h;rfl)
  | cases h
theorem nX {e x y:Expr} (h:gr e = some (x,y)):∃ p,e = .Subscript x y p:=by
 cases e <;> first
  | (cases h;exact ⟨_,rfl⟩)
  | cases h
theorem qi {e:Expr} {l u s:Option Expr} (h:jQ e = some (l,u,s)):∃ p,e = .Slice l u s p:=by
 cases e <;> first
  | (cases h;exact ⟨_,rfl⟩)
  | cases h
theorem i8 {e l:Expr} {os:List CmpOp} {rs:List Expr} (h:eV e = some (l,os,rs)):∃ p,e = .Compare l os rs p:=by
 cases e <;> first
  | (cases h;exact ⟨_,rfl⟩)
  | cases h
noncomputable def bD (e:Expr):Option (Str × List Expr):=match cOf e with
 | some (f,xs,[],_)=>match e9 f with
   | some x=>some (x,xs)
   | none=>none
 | _=>none
noncomputable def cF (e:Expr):Option (Expr × Str × List Expr × Pos × Pos):=match cOf e with
 | some (f,xs,[],p)=>match gq f with
   | some (o,n,q)=>some (o,n,xs,q,p)
   | none=>none
 | _=>none
noncomputable def cf (e:Expr):Option (Expr × Option Expr × Option Expr × Option Expr):=match gr e with
 | some (x,y)=>match jQ y with
   | some (l,u,s)=>some (x,l,u,s)
   | none=>none
 | none=>none
theorem bP {e:Expr} {x:Str} {xs:List Expr} (h:bD e = some (x,xs)):∃ p pos,e = .Call (.Name x p) xs [] pos:=by
 unfold bD at h
 split at h
 ·next f ys q h1 =>
  split at h
  ·next y h2 =>
   cases h
   obtain ⟨p,rfl⟩:=dD h2
   exact ⟨p,q,lK h1⟩
  ·cases h
 ·cases h
theorem ga {e o:Expr} {n:Str} {xs:List Expr} {q p:Pos} (h:cF e = some (o,n,xs,q,p)):e = .Call (.Attribute o n q) xs [] p:=by
 unfold cF at h
 split at h
 ·next f ys p' h1 =>
  split at h
  ·next o' n' q' h2 =>
   cases h
   rw [lK h1,nW h2]
  ·cases h
 ·cases h
theorem eW {e x:Expr} {l u s:Option Expr} (h:cf e = some (x,l,u,s)):∃ p pos,e = .Subscript x (.Slice l u s p) pos:=by
 unfold cf at h
 split at h
 ·next x' y h1 =>
  split at h
  ·next l' u' s' h2 =>
   cases h
   obtain ⟨pos,rfl⟩:=nX h1
   obtain ⟨p,rfl⟩:=qi h2
   exact ⟨p,pos,rfl⟩
  ·cases h
 ·cases h
mutual
noncomputable def okE:ME -> Ctx -> Expr -> Bool
 | .var i,C,e=>match e with
  | .Name x _=>decide (C.N[i]? = some x) && nS C.sc x && !(x == ("__debug__":Str)) && !(x == ("__classdict__":Str))
  | _=>false
 | .int i,_,e=>match e with
  | .Constant (.int j) _ _=>decide (i = j)
  | _=>false
 | .bl i,_,e=>match e with
  | .Constant (.bool j) _ _=>i == j
  | _=>false
 | .str i,_,e=>match e with
  | .Constant (.str j) _ _=>decide (i = j)
  | _=>false
 | .bin op a b,C,e=>match e with
  | .BinOp l o r _=>decide (o = opO op) && okE a C l && okE b C r
  | _=>false
 | .neg a,C,e=>match e with
  | .UnaryOp .USub x _=>okE a C x
  | _=>false
 | .cmp op a b,C,e=>match eV e with
  | some (l,[o],[r])=>decide (o = nT op) && okE a C l && okE b C r && !(behindInMarks o r)
  | _=>false
 | .not a,C,e=>match e with
  | .UnaryOp .Not x _=>okE a C x
  | _=>false
 | .ite c a b,C,e=>match e with
  | .IfExp t x y _=>okT c C t && okE a C x && okE b C y
  | _=>false
 | .tup es,C,e=>match e with
  | .Tuple xs _ _=>okEs es C xs
  | _=>false
 | .lst es,C,e=>match e with
  | .List xs _=>okEs es C xs
  | _=>false
 | .ix a b,C,e=>match e with
  | .Subscript x y _=>cE y && okE a C x && okE b C y
  | _=>false
 | .sl a lo hi,C,e=>match cf e with
  | some (x,l,u,none)=>okE a C x && okO lo C l && okO hi C u
  | _=>false
 | .call f es,C,e=>match bD e with
  | some (x,xs)=>decide (C.Γ[f]? = some x) && glB C.sc x && !(x == ("__debug__":Str)) && okEs es C xs
  | _=>false
 | .blt f es,C,e=>match bD e with
  | some (x,xs)=>decide (x = i7 f) && glB C.sc x && !xs.isEmpty && okEs es C xs
  | _=>false
 | .isin a T,C,e=>match bD e with
  | some (x,[y,z'])=>match e9 z' with
    | some z=>decide (x = "isinstance") && glB C.sc x && glB C.sc z && decide (z = Str.ofString T) && decide (T ∈ ["bool", "int", "str", "tuple", "list", "dict"]) && aT y && okE a C y
    | none=>false
  | _=>false
 | .meth m o a,C,e=>match cF e with
  | some (x,n,[y],ap,cp)=>decide (n = rZ m) && dB x && (ap.endLine == cp.line) && aT y && okE o C x && okE a C y
  | _=>false
 | .comp fr N' c,C,e=>match e with
  | .ListComp elt gens sc _=>nU sc C.sc C.N N' fr && okC c C ⟨C.Γ,N',e8 sc C.sc,(sc.names.filter (·.2 == .cell)).map (·.1),C.cs⟩ gens elt
  | _=>false
 | .fstr es,C,e=>match e with
  | .JoinedStr xs _=>decide (2 <= xs.length) && okEs es C xs
  | _=>false
 | .fmt a,C,e=>match e with
  | .FormattedValue x c none _=>decide (c = -1) && okE a C x
  | _=>false
 | .join o a,C,e=>match cF e with
  | some (x,n,[y],ap,cp)=>decide (n = "join") && dB x && (ap.endLine == cp.line) && aT y && okE o C x && okE a C y
  | _=>false
 | .revS a st,C,e=>match cf e with
  | some (x,none,none,some s)=>okE a C x && okE st C s
  | _=>false
 | .orL a b,C,e=>match e with
  | .BoolOp .Or [x,y] _=>okE a C x && okE b C y
  | _=>false
noncomputable def okEs:MEs -> Ctx -> List Expr -> Bool
 | .nil,_,es=>es.isEmpty
 | .cons m r,C,es=>match es with
  | e :: es=>aT e && okE m C e && okEs r C es
  | [] => false
noncomputable def okO:MO -> Ctx -> Option Expr -> Bool
 | .none,_,e=>e.isNone
 | .some m,C,e=>match e with
  | some e=>okE m C e
  | none=>false
noncomputable def okT:MT -> Ctx -> Expr -> Bool
 | .tru m,C,e=>i6 e && okE m C e
 | .cmp op a b,C,e=>match eV e with
  | some (l,[o],[r])=>decide (o = nT op) && okE a C l && okE b C r && !(behindInMarks o r)
  | _=>false
 | .and ts,C,e=>match e with
  | .BoolOp .And xs _ => !xs.isEmpty && okTs ts C xs
  | _=>false
 | .or ts,C,e=>match e with
  | .BoolOp .Or xs _ => !xs.isEmpty && okTs ts C xs
  | _=>false
 | .not t,C,e=>match e with
  | .UnaryOp .Not x _=>okT t C x
  | _=>false
noncomputable def okTs:MTs -> Ctx -> List Expr -> Bool
 | .nil,_,es=>es.isEmpty
 | .cons m r,C,es=>match es with
  | e :: es=>okT m C e && okTs r C es
  | [] => false
noncomputable def okI:MI -> Ctx -> Expr -> Expr -> Bool
 | .seq m,C,_,e=>gp e && okE m C e
 | .rng1 a,C,_,e=>match bD e with
  | some (x,[y])=>decide (x = "range") && glB C.sc x && aT y && okE a C y
  | _=>false
 | .enum a,C,t,e=>match bD e with
  | some (x,[y])=>(dC t).isSome && decide (x = "enumerate") && glB C.sc x && aT y && okE a C y
  | _=>false
noncomputable def okC:MC -> Ctx -> Ctx -> List Comprehension -> Expr -> Bool
 | .last src g ifs m,Cs,C,gens,elt=>match gens with
  | [⟨t,it,fs,a⟩] => decide (a = 0) && okI src Cs t it && okG g C t && okTs ifs C fs && okE m C elt
  | _=>false
 | .more src g ifs rest,Cs,C,gens,elt=>match gens with
  | ⟨t,it,fs,a⟩ :: g2 :: gs=>decide (a = 0) && okI src Cs t it && okG g C t && okTs ifs C fs && okC rest C C (g2 :: gs) elt
  | _=>false
end
noncomputable def aJ (sc:Scope) (ts:List Expr):List Str:=ts.filterMap fun
 | .Name id pos=>if sc.names.lookup id == some .local && pos.line == (ts.head?.map (·.pos.line)).getD 0 then some id else none
 | _=>none
noncomputable def jR (sc:Scope) (ts vs:List Expr):Bool := !(ts.length == 2 || ts.length == 3) || vs.length != ts.length || (aJ sc ts).length != ts.length || (aJ sc ts).eraseDups.length != (aJ sc ts).length || vs.all (foldedForSure 8)
noncomputable def jS (C:Ctx) (i:Nat) (x:Str):Bool:=decide (C.N[i]? = some x) && decide (C.sc.names.lookup x = some .local)
noncomputable def jT (sc:Scope) (ts vs:List Expr) (ns:List Str):Bool := !(!(ts.length == 2 || ts.length == 3) || vs.length != ts.length) && !(vs.any fun | .Starred .. => true | _=>false) && decide (aJ sc ts = ns) && !((aJ sc ts).length != ts.length || (aJ sc ts).eraseDups.length != (aJ sc ts).length) && !(vs.all (foldedForSure 8)) && !(vs.all (constantsAlone 8))
noncomputable def eX (sc:Scope) (tg e:Expr):Bool:=match tg,e with
 | .Tuple ts _ _, .Tuple vs _ _=>jR sc ts vs
 | .Tuple ..,_=>true
 | .Name ..,_=>true
 | _,_=>false
noncomputable def s9 (sc:Scope) (x:Str) (px:Pos) (e:Expr):Bool:=match e with
 | .DictComp _ _ _ s _ => !(sc.names.lookup x == some .local && px.line == e.pos.line && !(s.names.any fun (n,k)=>n == x && (k == .local || k == .cell)))
 | _=>true
noncomputable def jU (sc:Scope) (x:Str) (px:Pos) (e:Expr):Bool:=match e with
 | .ListComp _ _ s _=>sc.names.lookup x == some .local && px.line == e.pos.line && !(s.names.any fun (n,k)=>n == x && (k == .local || k == .cell))
 | _=>false
noncomputable def jV (s:Stmt):Option (List Expr × List Expr):=match oI s with
 | some ([t],e)=>match dC t with
   | some ts=>match dC e with
     | some es=>some (ts,es)
     | none=>none
   | none=>none
 | _=>none
theorem nY {s:Stmt} {ts es:List Expr} (h:jV s = some (ts,es)):∃ k p k' p' pos,s = .Assign [.Tuple ts k p] (.Tuple es k' p') pos:=by
 unfold jV at h
 split at h
 ·next t e h1 =>
  split at h
  ·next ts' h2 =>
   split at h
   ·next es' h3 =>
    cases h
    obtain ⟨k,p,rfl⟩:=ed h2
    obtain ⟨k',p',rfl⟩:=ed h3
    obtain ⟨pos,rfl⟩:=nV h1
    exact ⟨k,p,k',p',pos,rfl⟩
   ·cases h
  ·cases h
 ·cases h
mutual
noncomputable def okS:MS -> Ctx -> Stmt -> Bool
 | .asg g m,C,s=>match s with
  | .Assign [tg] e _=>okG g C tg && okE m C e && eX C.sc tg e && (match tg with | .Name x px=>s9 C.sc x px e | _=>dg e)
  | _=>false
 | .par i j a b,C,s=>match jV s with
  | some ([t,u],[e,f])=>match e9 t with
    | some x=>match e9 u with
      | some y=>jS C i x && jS C j y && decide (i ≠ j) && aT e && aT f && okE a C e && okE b C f && jT C.sc [t,u] [e,f] [x,y]
      | none=>false
    | none=>false
  | _=>false
 | .put o i m,C,s=>match s with
  | .Assign [.Subscript x y _] e _=>cE y && dg e && okE o C x && okE i C y && okE m C e
  | _=>false
 | .aug i op m,C,s=>match s with
  | .AugAssign (.Name x _) o e _=>decide (o = opO op) && (match op with | .add | .sub | .mul | .ext=>true | _=>false) && decide (C.N[i]? = some x) && jP C.sc x && (C.sc.names.lookup x == some .local || C.fn.contains x) && okE m C e
  | _=>false
 | .drop m,C,s=>match s with
  | .Expr e _=>dg e && okE m C e
  | _=>false
 | .ret m,C,s=>match s with
  | .Return (some e) _=>okE m C e
  | _=>false
 | .ite c a b,C,s=>match s with
  | .If t x y _=>okT c C t && okSs a C x && okSs b C y
  | _=>false
 | .for g src b,C,s=>match s with
  | .For tg it body [] _=>gp it && okG g C tg && okI src C tg it && okSs b C body
  | _=>false
 | .while c b,C,s=>match s with
  | .While t body [] _=>okT c C t && okSs b C body
  | _=>false
 | .bot,_,_=>true
 | .pass,_,s=>match s with
  | .Pass _=>true
  | _=>false
 | .brk,_,s=>match s with
  | .Break _=>true
  | _=>false
 | .cnt,_,s=>match s with
  | .Continue _=>true
  | _=>false
noncomputable def okSs:MSs -> Ctx -> List Stmt -> Bool
 | .nil,_,ss=>ss.isEmpty
 | .cons m r,C,ss=>match ss with
  | s :: ss=>okS m C s && okSs r C ss
  | [] => false
end
theorem al {e:Expr} {es:List Expr} {env:Env} (h:aT e = true):starEach (e :: es) env = (false,eval e env) :: starEach es env:=by
 cases e <;> first | rfl | (simp [aT] at h;done)
theorem gb {e:Expr} {es:List Expr} {env:Env} (h:aT e = true):assignEach (e :: es) env = (false,assign e env) :: assignEach es env:=by
 cases e <;> first | rfl | (simp [aT] at h;done)
theorem jW {e:Expr} {env:Env} (h:i6 e = true):∀ whole,isTrue e env whole = (do let v <- whole;standAt e.pos;holding [v] (truthy v)):=by
 intro w
 cases e <;> first | rfl | (simp [i6] at h;done)
theorem nZ {e:Expr} (h:cE e = true):fj e:=by
 intro o i
 cases e <;> first | rfl | (simp [cE] at h;done)
theorem lL {e:Expr} {env:Env} (h:gp e = true):∀ x,foldedSetIterable e env x = pure x:=by
 intro x
 cases e <;> first | rfl | (simp [gp] at h;done)
theorem i9 {e:Expr} {n:Str} {env:Env} (h:dB e = true):attributeBase e n env (eval e env) = eval e env:=by
 cases e <;> first | rfl | (simp [dB] at h;done)
theorem fy {e:Expr} {t:Option Expr} {l:Nat} {env:Env} (h:dg e = true):swapsWith e t l env = pure false:=by
 cases e <;> first | rfl | (simp [dg] at h;done)
end Mi
end L2
namespace L2
namespace Mi
open PySem PySem.Spec PyProof.Rows
noncomputable def lSp (K:PySem.W.Frag) (r:RAd):Sp:=fun vs H Q _=>lR K r vs H Q
structure Good (C:Ctx) (Φ:Phi) (k:Nat) (X:Cx):Prop where
 hx:∀ e s,X.xe e s -> False
 calm:X.calm = true
 N:X.N = C.N
 sc:X.env.scope = C.sc
 nd:X.N.Nodup
 fn:∀ x ∈ C.fn,X.fn x = true
 room:Room k X.A
 mgB:∀ x ∈ e7,X.mg x = none
 fns:∀ (i:Nat) (x:Str),C.Γ[i]? = some x -> ∃ f fd ps,X.mg x = some (.ref f) /\ PySem.W.keepIn X.K (.ref f) = true /\ Binds X.K fd ps [] /\ cj X.prog X.w X.K X.mg X.base CX0 k f fd ps (lSp X.K (Φ i))
 mono:∀ f,aG (Φ f)
 cs:∀ x i,(x,i) ∈ C.cs -> ∃ t,X.mg x = some (.int i t)
section
variable {C:Ctx} {Φ:Phi} {k:Nat} {X:Cx}
theorem Good.units (G:Good C Φ k X):X.A.units + 64 < cLine:=G.room.units
theorem Good.gl (G:Good C Φ k X) {x:Str} (h:glB C.sc x = true):Gl X x:=by
 show X.env.scope.names.lookup x = _
 rw [G.sc]
 simpa [glB] using h
theorem Good.vis (G:Good C Φ k X) {x:Str} (h:nS C.sc x = true):Vis X.env.scope x:=by
 unfold Vis
 rw [G.sc]
 simp [nS] at h
 rcases h with (h | h) | h
 ·exact .inl h
 ·exact .inr (.inl h)
 ·exact .inr (.inr h)
theorem Good.loc (G:Good C Φ k X) {x:Str} (h:jP C.sc x = true):Loc X.env.scope x:=by
 unfold Loc
 rw [G.sc]
 simpa [jP] using h
theorem Good.own (G:Good C Φ k X) {x:Str} (h:(C.sc.names.lookup x == some .local || C.fn.contains x) = true):X.fn x = true ∨ X.env.scope.names.lookup x = some .local:=by
 rw [G.sc]
 simp at h
 rcases h with h | h
 ·exact .inr h
 ·exact .inl (G.fn x h)
theorem sd (G:Good C Φ k X):∀ o:BOp,OpR X (binaryOp (opO o)) (l2 X.K (opB o))
 | .add=>gL | .sub=>mZ | .mul=>n6 | .fdiv=>kP | .mod=>n9 | .pow=>nc | .ext=>gL
theorem iY (G:Good C Φ k X):∀ o:COp,OpR X (compareOp (nT o)) (l2 X.K (opC o))
 | .eq=>pE (by have:=G.units;omega) | .ne=>pF (by have:=G.units;omega) | .lt=>pJ| .gt=>pK | .ge=>pL
theorem se (G:Good C Φ k X) {f:BF} {e:Expr} {es:List Expr} {t:TAd} {p pos:Pos} (mt:aU t) (hg:Gl X (i7 f)) (ha:PA X (e :: es) (lA X.K t))
 (he:starEach (e :: es) X.env = (false,eval e X.env) :: starEach es X.env) (hpl:(backTo pos (starEach es X.env)).any (·.1) = false):PE X (.Call (.Name (i7 f) p) (e :: es) [] pos) (lE X.K (wAr (opF f) t)):=by
 cases f with
 | len=>exact PE.imp (bF jx hg (G.mgB _ (by decide)) PySem.boot_len ha (by decide) (by decide) he hpl) (bd gP mt)
 | abs=>exact PE.imp (bF jy hg (G.mgB _ (by decide)) (by decide +kernel) ha (by decide) (by decide) he hpl) (bd gS mt)
 | max2=>exact PE.imp (bF (iE G.calm) hg (G.mgB _ (by decide)) (by decide +kernel) ha (by decide) (by decide) he hpl) (bd fO mt)
 | min2=>exact PE.imp (bF (iF G.calm) hg (G.mgB _ (by decide)) (by decide +kernel) ha (by decide) (by decide) he hpl) (bd fP mt)
 | int=>exact PE.imp (cr jz hg (G.mgB _ (by decide)) (by decide +kernel) ha (by decide) (by decide) he hpl) (bd gT mt)
 | str=>exact PE.imp (cr jN hg (G.mgB _ (by decide)) (by decide +kernel) ha (by decide) (by decide) he hpl) (bd g8 mt)
 | list=>exact PE.imp (cr iG hg (G.mgB _ (by decide)) (by decide +kernel) ha (by decide) (by decide) he hpl) (bd fQ mt)
 | tuple=>exact PE.imp (cr gW hg (G.mgB _ (by decide)) (by decide +kernel) ha (by decide) (by decide) he hpl) (bd eE mt)
 | any=>exact PE.imp (bF (jL G.calm) hg (G.mgB _ (by decide)) (by decide +kernel) ha (by decide) (by decide) he hpl) (bd hZ mt)
theorem qj (G:Good C Φ k X) {f:Nat} {x:Str} {e:Expr} {es:List Expr} {t:TAd} {p pos:Pos} (mt:aU t) (hf:C.Γ[f]? = some x) (hg:Gl X x) (hdb:(x == ("__debug__":Str)) = false) (ha:PA X (e :: es) (lA X.K t))
 (he:starEach (e :: es) X.env = (false,eval e X.env) :: starEach es X.env) (hpl:(backTo pos (starEach es X.env)).any (·.1) = false):PE X (.Call (.Name x p) (e :: es) [] pos) (lE X.K (wAr (Φ f) t)):=by
 obtain ⟨a,fd,ps,hm,hk,hb,F⟩:=G.fns f x hf
 refine PE.imp (pc F G.room hg hm hk hb .nil oB ha hdb he hpl) fun σ H Q h => ?_
 have h2:=bd (G.mono f) mt σ H Q h
 have:(fun vs H1=>lSp X.K (Φ f) (vs ++ []) H1 Q E0) = fun vs H1=>lR X.K (Φ f) vs H1 Q:=by
  funext vs H1;rw [List.append_nil];rfl
 show (lA X.K t) σ H _
 rw [this]
 exact h2
theorem o8 (G:Good C Φ k X) {f:Nat} {x:Str} {p pos:Pos} (hf:C.Γ[f]? = some x) (hg:Gl X x) (hdb:(x == ("__debug__":Str)) = false):PE X (.Call (.Name x p) [] [] pos) (lE X.K (wAr (Φ f) bH)):=by
 obtain ⟨a,fd,ps,hm,hk,hb,F⟩:=G.fns f x hf
 refine PE.imp (mG F G.room hg hm hk hb .nil oB hdb) fun σ H Q h => ?_
 obtain ⟨ρ,M,rs,rm,q⟩:=h
 exact ⟨[],M,rm,RDs.nil,q⟩
theorem ef {env:Env} {pos:Pos}:∀ {es:List Expr},es.all aT = true -> (backTo pos (starEach es env)).any (·.1) = false
 | [],_=>rfl
 | e :: es,h=>by
   simp only [List.all_cons,Bool.and_eq_true] at h
   rw [al h.1]
   show (false || (backTo pos (starEach es env)).any (·.1)) = false
   rw [ef h.2];rfl
theorem dh:∀ {ms:MEs} {es:List Expr},okEs ms C es = true -> es.all aT = true
 | .nil,[],_=>rfl
 | .nil,_ :: _,h=>by simp [okEs] at h
 | .cons m r,[],h=>by simp [okEs] at h
 | .cons m r,e :: es,h=>by
  simp only [okEs,Bool.and_eq_true] at h
  simp only [List.all_cons,Bool.and_eq_true]
  exact ⟨h.1.1,dh h.2⟩
theorem iZ:∀ {gs:MGs} {es:List Expr},okGs gs C es = true -> ∀ ds ρ ρ',bGs gs ds ρ = some ρ' -> ds.length = es.length
 | .nil,es,h,ds, ρ, ρ',e=>by
  simp [okGs] at h;subst h
  rw [bGs] at e
  cases ds with
  | nil=>rfl
  | cons _ _=>cases e
 | .cons g r,[],h,_,_,_,_=>by simp [okGs] at h
 | .cons g r,x :: es,h,ds, ρ, ρ',e=>by
  simp only [okGs,Bool.and_eq_true] at h
  rw [bGs] at e
  cases ds with
  | nil=>cases e
  | cons d ds =>
    simp only [bB] at e
    cases e1:bG g d ρ with
    | none=>rw [e1] at e;cases e
    | some ρ1 =>
      rw [e1] at e
      simp [iZ h.2 ds ρ1 ρ' e]
theorem ic {env:Env}:∀ {gs:MGs} {es:List Expr},okGs gs C es = true -> (assignEach es env).length = es.length /\ (assignEach es env).findIdx? (·.1) = none
 | .nil,es,h=>by simp [okGs] at h;subst h;exact ⟨rfl,rfl⟩
 | .cons g r,[],h=>by simp [okGs] at h
 | .cons g r,x :: es,h=>by
  simp only [okGs,Bool.and_eq_true] at h
  obtain ⟨a,b⟩:=ic (env:=env) h.2
  rw [gb h.1.1]
  refine ⟨by simp [a], ?_⟩
  rw [List.findIdx?_cons]
  simp [b]
mutual
theorem sG (G:Good C Φ k X):∀ (m:MG) (e:Expr),okG m C e = true -> PG X e (lG X.K (bG m))
 | .name i,e,h=>by
  simp only [okG] at h
  split at h
  ·simp only [Bool.and_eq_true] at h
   exact pX G.nd (by rw [G.N];exact of_decide_eq_true h.1.1) (G.loc h.1.2) (G.own h.2)
  ·cases h
 | .tup gs,e,h=>by
  simp only [okG] at h
  split at h
  ·rw [bG]
   obtain ⟨a,b⟩:=ic (env:=X.env) h
   exact rK G.calm (iZ h) (sGs G gs _ h) a b
  ·cases h
theorem sGs (G:Good C Φ k X):∀ (m:MGs) (es:List Expr),okGs m C es = true -> PGs X es (lGs X.K (bGs m))
 | .nil,es,h=>by
  simp [okGs] at h;subst h
  exact pY
 | .cons g r,[],h=>by simp [okGs] at h
 | .cons g r,e :: es,h=>by
  simp only [okGs,Bool.and_eq_true] at h
  exact nn (sG G g e h.1.2) (sGs G r es h.2) (by rw [gb h.1.1];rfl)
end
theorem PB.imp {F:Sem Fin -> Sem Fin} {t t':TC} (h:PB X F t) (i:∀ σ H N,t' σ H N -> t σ H N):PB X F t':=fun pins s σ H N k Q E I q hk=>h pins s σ H N k Q E I (i _ _ _ q) hk
theorem eY {sc osc:Scope} {oN N':List Str} {fr:List (Option Nat)} (h:nU sc osc oN N' fr = true):aN sc osc oN N' fr:=by
 simp only [nU,Bool.and_eq_true,decide_eq_true_eq] at h
 obtain ⟨⟨⟨⟨⟨h1,h2⟩,h3⟩,h4⟩,h5⟩,h6⟩:=h
 refine ⟨h1,h2,h3,fun x hx e => ?_,h5,fun i j x hi hf => ?_⟩
 ·have h4':=List.all_eq_true.mp h4 x hx
  rw [e] at h4'
  simpa using h4'
 ·have hlt:i < N'.length:=(List.getElem?_eq_some_iff.mp hi).1
  have h6':=List.all_eq_true.mp h6 i (List.mem_range.mpr hlt)
  rw [hf,hi] at h6'
  simp only [Bool.and_eq_true,decide_eq_true_eq,List.any_eq_true] at h6'
  obtain ⟨a,y,hy,e⟩:=h6'
  exact ⟨a,by rw [<- e];exact hy⟩
theorem Good.blk (G:Good C Φ k X) {sc:Scope} {N':List Str} {fr:List (Option Nat)} (B:aN sc C.sc C.N N' fr) (s:Shared) (H:Hp) (fp:List Addr) :
 Good ⟨C.Γ,N',e8 sc C.sc,(sc.names.filter (·.2 == .cell)).map (·.1),C.cs⟩ Φ k (ar X sc N' s H fp):=by
 refine ⟨fun _ _ h=>h,G.calm,rfl, ?_,B.ndN,fun x hx => ?_,G.room,G.mgB,G.fns,G.mono,G.cs⟩
 ·show relabel sc X.env = _
  rw [iI,G.sc]
 ·obtain ⟨y,hy,e⟩:=List.mem_map.mp hx
  obtain ⟨h1,h2⟩:=List.mem_filter.mp hy
  obtain ⟨n,kd⟩:=y
  have h2':kd = .cell:=by simpa using h2
  subst h2'
  have e':n = x:=e
  subst e'
  show (sc.names.lookup n == some .cell) = true
  rw [aB B.nd h1]
  rfl
end
end Mi
end L2
namespace L2
namespace Mi
open PySem PySem.Spec PyProof.Rows
section
variable {Φ:Phi} {k:Nat}
theorem cg {C:Ctx} {X:Cx} (G:Good C Φ k X) {F:Sem Fin -> Sem Fin} {p:Addr} {tb:TCd} {ifs:List Expr} {ts:List TTd} (mb:bm tb) (mt:∀ t ∈ ts,aq t) (hb:PB X F (lC X.K p tb)) (hp:Paired (fun c t=>PT X c t) ifs (ts.map (lT X.K))) :
 PB X (fun k=>aS ifs X.env >>= fun ok=>if ok = true then F k else k) (lC X.K p (aV ts tb)) :=
 PB.imp (mN G.hx hb hp) (eM mb mt)
theorem di {m:MC} {Cs C:Ctx} {g2:Comprehension} {gs:List Comprehension} {elt:Expr} (h:okC m Cs C (g2 :: gs) elt = true):g2.is_async = 0:=by
 obtain ⟨t,i,f,a⟩:=g2
 cases m with
 | last src g ifs m =>
   cases gs with
   | nil=>simp only [okC,Bool.and_eq_true,decide_eq_true_eq] at h;exact h.1.1.1.1
   | cons _ _=>simp [okC] at h
 | more src g ifs rest =>
   cases gs with
   | nil=>simp [okC] at h
   | cons _ _=>simp only [okC,Bool.and_eq_true,decide_eq_true_eq] at h;exact h.1.1.1.1
theorem o9 {C:Ctx} {X:Cx} (G:Good C Φ k X):∀ T ∈ ["bool", "int", "str", "tuple", "list", "dict"],X.mg (Str.ofString T) = none /\ bootBuiltins (Str.ofString T) = some (.type T) /\ Str.ofString T ≠ "__name__" /\ (Str.ofString T == ("__debug__":Str)) = false:=by
 intro T hT
 simp only [List.mem_cons,List.not_mem_nil,or_false] at hT
 rcases hT with rfl | rfl | rfl | rfl | rfl | rfl
 all_goals exact ⟨G.mgB _ (by decide),by decide +kernel,by decide,by decide⟩
mutual
theorem sE:∀ (m:ME) {C:Ctx} {X:Cx} (G:Good C Φ k X) (e:Expr),okE m C e = true -> PE X e (lE X.K (wE Φ m))
 | .var i,C,X,G,e,h=>by
  simp only [okE] at h
  split at h
  ·simp only [Bool.and_eq_true,Bool.not_eq_true',decide_eq_true_eq] at h
   exact rj (by rw [G.N];exact h.1.1.1) (G.vis h.1.1.2) h.1.2 h.2
  ·cases h
 | .int i,C,X,G,e,h=>by
  simp only [okE] at h
  split at h
  ·rw [of_decide_eq_true h];exact rl
  ·cases h
 | .bl i,C,X,G,e,h=>by
  simp only [okE] at h
  split at h
  ·rw [eq_of_beq h];exact sZ
  ·cases h
 | .str i,C,X,G,e,h=>by
  simp only [okE] at h
  split at h
  ·rw [of_decide_eq_true h];exact rn
  ·cases h
 | .bin op a b,C,X,G,e,h=>by
  simp only [okE] at h
  split at h
  ·simp only [Bool.and_eq_true,decide_eq_true_eq] at h
   rw [h.1.1]
   exact t3 (sd G op) (i5 op) (mE G.mono a) (mE G.mono b) (sE a G _ h.1.2) (sE b G _ h.2)
  ·cases h
 | .neg a,C,X,G,e,h=>by
  simp only [okE] at h
  split at h
  ·exact t4 ng gM (mE G.mono a) (sE a G _ h)
  ·cases h
 | .cmp op a b,C,X,G,e,h=>by
  simp only [okE] at h
  split at h
  ·next l o r hc =>
   obtain ⟨pos,rfl⟩:=i8 hc
   simp only [Bool.and_eq_true,decide_eq_true_eq] at h
   obtain ⟨⟨⟨ho,ha⟩,hb⟩,hm⟩:=h
   rw [Bool.not_eq_true'] at hm
   subst ho
   exact rp (iY G op) (cN op) (mE G.mono a) (mE G.mono b) (sE a G _ ha) (sE b G _ hb) hm
  ·cases h
 | .not a,C,X,G,e,h=>by
  simp only [okE] at h
  split at h
  ·exact rH (mE G.mono a) (sE a G _ h)
  ·cases h
 | .ite c a b,C,X,G,e,h=>by
  simp only [okE] at h
  split at h
  ·simp only [Bool.and_eq_true] at h
   exact t9 (mT G.mono c) (mE G.mono a) (mE G.mono b) (sT c G _ h.1.1) (sE a G _ h.1.2) (sE b G _ h.2)
  ·cases h
 | .tup es,C,X,G,e,h=>by
  simp only [okE] at h
  split at h
  ·exact rz (mA G.mono es) (sA es G _ h)
  ·cases h
 | .lst es,C,X,G,e,h=>by
  simp only [okE] at h
  split at h
  ·exact rA (mA G.mono es) (sA es G _ h)
  ·cases h
 | .ix a b,C,X,G,e,h=>by
  simp only [okE] at h
  split at h
  ·simp only [Bool.and_eq_true] at h
   exact t5 (ub (by have:=G.units;omega)) iT (mE G.mono a) (mE G.mono b) (sE a G _ h.1.2) (sE b G _ h.2) (nZ h.1.1)
  ·cases h
 | .sl a lo hi,C,X,G,e,h=>by
  simp only [okE] at h
  split at h
  ·next x l u hc =>
   obtain ⟨p,pos,rfl⟩:=eW hc
   simp only [Bool.and_eq_true] at h
   exact tf (mE G.mono a) (mO G.mono lo) (mO G.mono hi) (sE a G _ h.1.1) (sO lo G _ h.1.2) (sO hi G _ h.2)
  ·cases h
 | .call f es,C,X,G,e,h=>by
  simp only [okE] at h
  split at h
  ·next x xs hc =>
   obtain ⟨p,pos,rfl⟩:=bP hc
   simp only [Bool.and_eq_true,decide_eq_true_eq,Bool.not_eq_true'] at h
   have hA:=sA es G _ h.2
   have hst:=dh h.2
   cases xs with
   | nil =>
     cases es with
     | nil=>exact o8 G h.1.1.1 (G.gl h.1.1.2) h.1.2
     | cons _ _=>simp [okEs] at h
   | cons y ys =>
     simp only [List.all_cons,Bool.and_eq_true] at hst
     exact qj G (mA G.mono es) h.1.1.1 (G.gl h.1.1.2) h.1.2 hA (al hst.1) (ef hst.2)
  ·cases h
 | .blt f es,C,X,G,e,h=>by
  simp only [okE] at h
  split at h
  ·next x xs hc =>
   obtain ⟨p,pos,rfl⟩:=bP hc
   simp only [Bool.and_eq_true,decide_eq_true_eq,Bool.not_eq_true'] at h
   have hA:=sA es G _ h.2
   have hst:=dh h.2
   obtain ⟨⟨⟨rfl,hg⟩,hne⟩,_⟩:=h
   cases xs with
   | nil=>simp at hne
   | cons y ys =>
     simp only [List.all_cons,Bool.and_eq_true] at hst
     exact se G (mA G.mono es) (G.gl hg) hA (al hst.1) (ef hst.2)
  ·cases h
 | .isin a T,C,X,G,e,h=>by
  simp only [okE] at h
  split at h
  ·next x y z' hc =>
   obtain ⟨p,pos,rfl⟩:=bP hc
   split at h
   ·next z hz0 =>
    obtain ⟨p2,rfl⟩:=dD hz0
    simp only [Bool.and_eq_true,decide_eq_true_eq] at h
    obtain ⟨⟨⟨⟨⟨⟨rfl,hg⟩,hg2⟩,hz⟩,hT⟩,hs⟩,ha⟩:=h
    obtain ⟨n1,n2,n3,n4⟩:=o9 G T hT
    subst hz
    exact pU hT (mE G.mono a) (sE a G _ ha) (G.gl hg) (G.mgB _ (by decide)) (G.gl hg2) n1 n2 n3 n4 (al hs) rfl
   ·cases h
  ·cases h
 | .meth m o a,C,X,G,e,h=>by
  simp only [okE] at h
  split at h
  ·next x n y ap cp hc =>
   cases ga hc
   simp only [Bool.and_eq_true,decide_eq_true_eq] at h
   obtain ⟨⟨⟨⟨⟨hn,hsu⟩,hl⟩,hs⟩,ho⟩,ha⟩:=h
   subst hn
   have pa:PA X [y] (lA X.K (bf (wE Φ a) bH)):=bI (mE G.mono a) aD (sE a G _ ha) cB (al hs)
   have few:((backTo cp (starEach [y] X.env)).all (fun x => !x.1) && (backToKw cp (keywordEach [] X.env)).all (fun x=>x.1.isSome) && decide (([y]:List Expr).length + ([]:List Keyword).length + (if ([]:List Keyword).isEmpty then 0 else 1) < 30)) = true:=by
    rw [al hs];rfl
   cases m with
   | append=>exact PE.imp (oA PySem.F.plainAttrs_list PySem.F.slot_list_append PySem.F.type_list_append fH (sE o G _ ho) pa (i9 hsu) few hl (al hs) rfl) (pW dL (mE G.mono o) (aR (mE G.mono a) aD) nl)
  ·cases h
 | .fstr es,C,X,G,e,h=>by
  simp only [okE] at h
  split at h
  ·next xs pos =>
   simp only [Bool.and_eq_true,decide_eq_true_eq] at h
   have hf:=sFs es G xs h.2
   match xs,h.1,hf with
   | _ :: _ :: _,_,hf=>exact qg hf
  ·cases h
 | .fmt a,C,X,G,e,h=>by
  simp only [okE] at h
  split at h
  ·simp only [Bool.and_eq_true,decide_eq_true_eq] at h
   obtain ⟨rfl,ha⟩:=h
   exact rW (mE G.mono a) (sE a G _ ha)
  ·cases h
 | .join o a,C,X,G,e,h=>by
  simp only [okE] at h
  split at h
  ·next x n y ap cp hc =>
   cases ga hc
   simp only [Bool.and_eq_true,decide_eq_true_eq] at h
   obtain ⟨⟨⟨⟨⟨hn,hsu⟩,hl⟩,hs⟩,ho⟩,ha⟩:=h
   subst hn
   have pa:PA X [y] (lA X.K (bf (wE Φ a) bH)):=bI (mE G.mono a) aD (sE a G _ ha) cB (al hs)
   have few:((backTo cp (starEach [y] X.env)).all (fun x => !x.1) && (backToKw cp (keywordEach [] X.env)).all (fun x=>x.1.isSome) && decide (([y]:List Expr).length + ([]:List Keyword).length + (if ([]:List Keyword).isEmpty then 0 else 1) < 30)) = true:=by
    rw [al hs];rfl
   exact PE.imp (oA PySem.F.plainAttrs_str PySem.F.slot_str_join PySem.F.type_str_join qc (sE o G _ ho) pa (i9 hsu) few hl (al hs) rfl) (lF (mE G.mono o) (mE G.mono a))
  ·cases h
 | .revS a st,C,X,G,e,h=>by
  simp only [okE] at h
  split at h
  ·next x s hc =>
   obtain ⟨p,pos,rfl⟩:=eW hc
   simp only [Bool.and_eq_true] at h
   exact qh (mE G.mono a) (cZ (mE G.mono st)) (sE a G _ h.1) (iU (mE G.mono st) (sE st G _ h.2))
  ·cases h
 | .orL a b,C,X,G,e,h=>by
  simp only [okE] at h
  split at h
  ·simp only [Bool.and_eq_true] at h
   exact rX (mE G.mono a) (mE G.mono b) (sE a G _ h.1) (sE b G _ h.2)
  ·cases h
 | .comp fr N' c,C,X,G,e,h=>by
  simp only [okE] at h
  split at h
  ·rename_i elt gens sc pos
   simp only [Bool.and_eq_true] at h
   have B:aN sc X.env.scope X.N N' fr:=by rw [G.sc,G.N];exact eY h.1
   have B':aN sc C.sc C.N N' fr:=eY h.1
   cases c with
   | last src g ifs m =>
     have h2:=h.2
     simp only [okC] at h2
     split at h2
     ·rename_i t it fs a
      simp only [Bool.and_eq_true,decide_eq_true_eq] at h2
      obtain ⟨⟨⟨⟨rfl,hi⟩,hg⟩,ht⟩,he⟩:=h2
      refine PE.imp (dJ G.calm G.hx B (fun g' z=>by simp at z) (sI src G _ t hi).1 (fun s H fp=>sG (G.blk B' s H fp) g t hg) (tb:=fun p=>lC X.K p (aV (wTl Φ ifs) (cu (wE Φ m)))) (fun s H fp p => ?_) (sI src G _ t hi).2) (cv (mI G.mono src) (ax (aY (mE G.mono m)) (mTl G.mono ifs)))
      have G':=G.blk B' s H fp
      exact cg (p:=p) G' (aY (mE G.mono m)) (mTl G.mono ifs) (PB.imp (fk G'.hx (sE m G' elt he) rfl) (db (mE G.mono m))) (sTl ifs G' fs ht)
     ·cases h2
   | more src g ifs rest =>
     have h2:=h.2
     simp only [okC] at h2
     split at h2
     ·rename_i t it fs a g2 gs
      simp only [Bool.and_eq_true,decide_eq_true_eq] at h2
      obtain ⟨⟨⟨⟨rfl,hi⟩,hg⟩,ht⟩,he⟩:=h2
      have as0:∀ g',(g2 :: gs)[0]? = some g' -> g'.is_async = 0:=fun g' z=>by
       have z':g2 = g':=by simpa using z
       subst z'
       exact di he
      refine PE.imp (dJ G.calm G.hx B as0 (sI src G _ t hi).1 (fun s H fp=>sG (G.blk B' s H fp) g t hg) (tb:=fun p=>lC X.K p (aV (wTl Φ ifs) (wCl Φ rest))) (fun s H fp p => ?_) (sI src G _ t hi).2) (cv (mI G.mono src) (ax (mCl G.mono rest) (mTl G.mono ifs)))
      have G':=G.blk B' s H fp
      exact cg (p:=p) G' (mCl G.mono rest) (mTl G.mono ifs) (sCl rest G' elt (⟨t,it,fs,0⟩ :: g2 :: gs) sc pos 0 (.inl rfl) p he) (sTl ifs G' fs ht)
     ·cases h2
  ·cases h
theorem sA:∀ (m:MEs) {C:Ctx} {X:Cx} (G:Good C Φ k X) (es:List Expr),okEs m C es = true -> PA X es (lA X.K (wA Φ m))
 | .nil,C,X,G,es,h=>by
  simp [okEs] at h;subst h
  exact cB
 | .cons m r,C,X,G,[],h=>by simp [okEs] at h
 | .cons m r,C,X,G,e :: es,h=>by
  simp only [okEs,Bool.and_eq_true] at h
  exact bI (mE G.mono m) (mA G.mono r) (sE m G e h.1.2) (sA r G es h.2) (al h.1.1)
theorem sFs:∀ (m:MEs) {C:Ctx} {X:Cx} (G:Good C Φ k X) (es:List Expr),okEs m C es = true -> PFd X es (wFs Φ m)
 | .nil,C,X,G,es,h=>by
  simp [okEs] at h;subst h
  exact rV
 | .cons m r,C,X,G,[],h=>by simp [okEs] at h
 | .cons m r,C,X,G,e :: es,h=>by
  simp only [okEs,Bool.and_eq_true] at h
  exact qf (mE G.mono m) (mFs G.mono r) (sE m G e h.1.2) (sFs r G es h.2)
theorem sO:∀ (m:MO) {C:Ctx} {X:Cx} (G:Good C Φ k X) (e:Option Expr),okO m C e = true -> PO X e (lO X.K (wO Φ m))
 | .none,C,X,G,e,h=>by
  simp [okO] at h;subst h
  exact pQ
 | .some m,C,X,G,none,h=>by simp [okO] at h
 | .some m,C,X,G,some e,h=>by
  simp only [okO] at h
  exact iU (mE G.mono m) (sE m G e h)
theorem sT:∀ (m:MT) {C:Ctx} {X:Cx} (G:Good C Φ k X) (e:Expr),okT m C e = true -> PT X e (lT X.K (wT Φ m))
 | .tru m,C,X,G,e,h=>by
  simp only [okT,Bool.and_eq_true] at h
  exact rC (mE G.mono m) (sE m G e h.2) (jW h.1)
 | .cmp op a b,C,X,G,e,h=>by
  simp only [okT] at h
  split at h
  ·next l o r hc =>
   obtain ⟨pos,rfl⟩:=i8 hc
   simp only [Bool.and_eq_true,decide_eq_true_eq] at h
   obtain ⟨⟨⟨ho,ha⟩,hb⟩,hm⟩:=h
   rw [Bool.not_eq_true'] at hm
   subst ho
   exact rq (iY G op) (cN op) (mE G.mono a) (mE G.mono b) (sE a G _ ha) (sE b G _ hb) hm
  ·cases h
 | .and ts,C,X,G,e,h=>by
  simp only [okT] at h
  split at h
  ·simp only [Bool.and_eq_true] at h
   exact (sAndTs ts G _ _ h.2 (by intro z;rw [z] at h;simp at h)).pt
  ·cases h
 | .or ts,C,X,G,e,h=>by
  simp only [okT] at h
  split at h
  ·simp only [Bool.and_eq_true] at h
   exact (sOrTs ts G _ _ h.2 (by intro z;rw [z] at h;simp at h)).pt
  ·cases h
 | .not t,C,X,G,e,h=>by
  simp only [okT] at h
  split at h
  ·exact rD (mT G.mono t) (sT t G _ h)
  ·cases h
theorem sAndTs:∀ (m:MTs) {C:Ctx} {X:Cx} (G:Good C Φ k X) (es:List Expr) (pos:Pos),okTs m C es = true -> es ≠ [] -> PW X (.BoolOp .And es pos) (lT X.K (wAndTs Φ m))
 | .nil,C,X,G,es,pos,h,hne=>by simp [okTs] at h;exact absurd h hne
 | .cons m r,C,X,G,[],pos,h,hne=>absurd rfl hne
 | .cons m .nil,C,X,G,e :: es,pos,h,_=>by
  simp only [okTs,Bool.and_eq_true] at h
  obtain ⟨h1,h2⟩:=h
  simp at h2;subst h2
  exact pO (sT m G e h1)
 | .cons m (.cons m2 r),C,X,G,e :: es,pos,h,_=>by
  simp only [okTs,Bool.and_eq_true] at h
  obtain ⟨h1,h2⟩:=h
  cases es with
  | nil=>simp at h2
  | cons f fs =>
    exact rF (mT G.mono m) (mAndTs G.mono _) (sT m G e h1) (sAndTs (.cons m2 r) G (f :: fs) pos (by simpa only [okTs,Bool.and_eq_true] using h2) (by simp))
theorem sOrTs:∀ (m:MTs) {C:Ctx} {X:Cx} (G:Good C Φ k X) (es:List Expr) (pos:Pos),okTs m C es = true -> es ≠ [] -> PW X (.BoolOp .Or es pos) (lT X.K (wOrTs Φ m))
 | .nil,C,X,G,es,pos,h,hne=>by simp [okTs] at h;exact absurd h hne
 | .cons m r,C,X,G,[],pos,h,hne=>absurd rfl hne
 | .cons m .nil,C,X,G,e :: es,pos,h,_=>by
  simp only [okTs,Bool.and_eq_true] at h
  obtain ⟨h1,h2⟩:=h
  simp at h2;subst h2
  exact rE (sT m G e h1)
 | .cons m (.cons m2 r),C,X,G,e :: es,pos,h,_=>by
  simp only [okTs,Bool.and_eq_true] at h
  obtain ⟨h1,h2⟩:=h
  cases es with
  | nil=>simp at h2
  | cons f fs =>
    exact t8 (mT G.mono m) (mOrTs G.mono _) (sT m G e h1) (sOrTs (.cons m2 r) G (f :: fs) pos (by simpa only [okTs,Bool.and_eq_true] using h2) (by simp))
theorem sTl:∀ (m:MTs) {C:Ctx} {X:Cx} (G:Good C Φ k X) (es:List Expr),okTs m C es = true -> Paired (fun c t=>PT X c t) es ((wTl Φ m).map (lT X.K))
 | .nil,C,X,G,es,h=>by
  simp [okTs] at h;subst h
  exact .nil
 | .cons m r,C,X,G,[],h=>by simp [okTs] at h
 | .cons m r,C,X,G,e :: es,h=>by
  simp only [okTs,Bool.and_eq_true] at h
  exact .cons (sT m G e h.1) (sTl r G es h.2)
theorem sI:∀ (m:MI) {C:Ctx} {X:Cx} (G:Good C Φ k X) (e tg:Expr),okI m C tg e = true -> PI X tg e (lI X.K (wI Φ m)) /\ ∀ x,foldedSetIterable e X.env x = pure x
 | .seq m,C,X,G,e,tg,h=>by
  simp only [okI,Bool.and_eq_true] at h
  exact ⟨rN (mE G.mono m) (sE m G e h.2),lL h.1⟩
 | .rng1 a,C,X,G,e,tg,h=>by
  simp only [okI] at h
  split at h
  ·next x y hc =>
   obtain ⟨p,pos,rfl⟩:=bP hc
   simp only [Bool.and_eq_true,decide_eq_true_eq] at h
   obtain ⟨⟨⟨rfl,hg⟩,hs⟩,ha⟩:=h
   exact ⟨pZ (aR (mE G.mono a) aD) (G.gl hg) (G.mgB _ (by decide)) (bI (mE G.mono a) aD (sE a G _ ha) cB (al hs)) (al hs),fun x=>rfl⟩
  ·cases h
 | .enum a,C,X,G,e,tg,h=>by
  simp only [okI] at h
  split at h
  ·next x y hc =>
   obtain ⟨p,pos,rfl⟩:=bP hc
   simp only [Bool.and_eq_true,decide_eq_true_eq] at h
   obtain ⟨⟨⟨⟨ht,rfl⟩,hg⟩,hs⟩,ha⟩:=h
   obtain ⟨ts,ht⟩:=Option.isSome_iff_exists.mp ht
   obtain ⟨kt,pt,rfl⟩:=ed ht
   exact ⟨q0 (mE G.mono a) (G.gl hg) (G.mgB _ (by decide)) (bI (mE G.mono a) aD (sE a G _ ha) cB (al hs)) (al hs),fun x=>rfl⟩
  ·cases h
theorem sCl:∀ (m:MC) {C:Ctx} {X:Cx} (G:Good C Φ k X) (elt:Expr) (gens:List Comprehension) (sc:Scope) (pos:Pos) (d:Nat) (_:d = 0 ∨ d = d) (p:Addr),okC m C C (gens.drop (d + 1)) elt = true ->
 PB X (aM elt gens sc pos d (.ref p) X.env) (lC X.K p (wCl Φ m))
 | .last src g ifs m,C,X,G,elt,gens,sc,pos,d,_,p,h=>by
  simp only [okC] at h
  split at h
  ·rename_i t it fs a hd
   simp only [Bool.and_eq_true,decide_eq_true_eq] at h
   obtain ⟨⟨⟨⟨rfl,hi⟩,hg⟩,ht⟩,he⟩:=h
   have e1:gens[d + 1]? = some ⟨t,it,fs,0⟩:=by
    have z:(gens.drop (d + 1))[0]? = some ⟨t,it,fs,0⟩:=by rw [hd];rfl
    rw [List.getElem?_drop] at z;simpa using z
   have e2:gens[d + 1 + 1]? = none:=by
    have z:(gens.drop (d + 1))[1]? = none:=by rw [hd];rfl
    rw [List.getElem?_drop] at z;simpa using z
   refine PB.imp (fL G.hx G.calm e1 (fun g' z=>by rw [e2] at z;cases z) (sI src G _ t hi).1 (sG G g t hg) (cg (p:=p) G (aY (mE G.mono m)) (mTl G.mono ifs) (PB.imp (fk G.hx (sE m G elt he) e2) (db (mE G.mono m))) (sTl ifs G fs ht)) (sI src G _ t hi).2) (dN (mI G.mono src) (ax (aY (mE G.mono m)) (mTl G.mono ifs)))
  ·cases h
 | .more src g ifs rest,C,X,G,elt,gens,sc,pos,d,_,p,h=>by
  simp only [okC] at h
  split at h
  ·rename_i t it fs a g2 gs hd
   simp only [Bool.and_eq_true,decide_eq_true_eq] at h
   obtain ⟨⟨⟨⟨rfl,hi⟩,hg⟩,ht⟩,he⟩:=h
   have e1:gens[d + 1]? = some ⟨t,it,fs,0⟩:=by
    have z:(gens.drop (d + 1))[0]? = some ⟨t,it,fs,0⟩:=by rw [hd];rfl
    rw [List.getElem?_drop] at z;simpa using z
   have e2:gens[d + 1 + 1]? = some g2:=by
    have z:(gens.drop (d + 1))[1]? = some g2:=by rw [hd];rfl
    rw [List.getElem?_drop] at z;simpa using z
   have e3:gens.drop (d + 1 + 1) = g2 :: gs:=by
    have z:(gens.drop (d + 1)).drop 1 = g2 :: gs:=by rw [hd];rfl
    rw [List.drop_drop] at z;simpa using z
   have as0:∀ g',gens[d + 1 + 1]? = some g' -> g'.is_async = 0:=fun g' z=>by
    rw [e2] at z;cases z
    exact di he
   refine PB.imp (fL G.hx G.calm e1 as0 (sI src G _ t hi).1 (sG G g t hg) (cg (p:=p) G (mCl G.mono rest) (mTl G.mono ifs) (sCl rest G elt gens sc pos (d + 1) (.inr rfl) p (by rw [e3];exact he)) (sTl ifs G fs ht)) (sI src G _ t hi).2) (dN (mI G.mono src) (ax (mCl G.mono rest) (mTl G.mono ifs)))
  ·cases h
end
end
end Mi
end L2
namespace L2
namespace Mi
open PySem PySem.Spec PyProof.Rows
section
variable {Φ:Phi} {k:Nat} {C:Ctx} {X:Cx}
theorem oa {sc:Scope} {ts vs:List Expr} {kk k2:Nat} {pp p2:Pos} {env:Env} (hs:env.scope = sc) (hk:sc.kind = .function) (h:jR sc ts vs = true):swappedStores [.Tuple ts kk pp] (.Tuple vs k2 p2) env = pure none:=by
 have hb:env.blockKind = .function:=by unfold Env.blockKind;rw [hs,hk];rfl
 have h':jR sc ts vs = true:=h
 unfold swappedStores
 dsimp only
 rw [hb]
 by_cases c1:(!(ts.length == 2 || ts.length == 3) || vs.length != ts.length) = true
 ·simp only [c1,Bool.true_or,if_true]
 ·simp only [Bool.not_eq_true] at c1
  rw [c1]
  simp only [Bool.false_or,bne_self_eq_false,Bool.false_eq_true,if_false]
  split
  ·rfl
  ·
    generalize hL:List.filterMap _ ts = L
    obtain rfl:L = aJ sc ts:=by
     rw [<- hL]
     unfold aJ
     congr 1
     funext x
     cases x <;> first | rfl | (unfold Env.kindOf;rw [hs])
    unfold jR at h'
    rw [c1] at h'
    simp only [Bool.false_or,Bool.or_eq_true] at h'
    by_cases c3:((aJ sc ts).length != ts.length || (aJ sc ts).eraseDups.length != (aJ sc ts).length) = true
    ·rw [if_pos c3]
    ·rw [if_neg c3]
     have c4:vs.all (foldedForSure 8) = true:=by
      rcases h' with h' | h'
      ·exact absurd (Bool.or_eq_true _ _ |>.mpr h') c3
      ·exact h'
     rw [if_pos c4]
theorem qk {sc:Scope} {ts vs:List Expr} {ns:List Str} {kk k2:Nat} {pp p2:Pos} {env:Env} (hs:env.scope = sc) (hk:sc.kind = .function) (h:jT sc ts vs ns = true):swappedStores [.Tuple ts kk pp] (.Tuple vs k2 p2) env = pure (some ns):=by
 have hb:env.blockKind = .function:=by unfold Env.blockKind;rw [hs,hk];rfl
 simp only [jT,Bool.and_eq_true,Bool.not_eq_true',decide_eq_true_eq] at h
 obtain ⟨⟨⟨⟨⟨c1,c2⟩,c3⟩,c4⟩,c5⟩,c6⟩:=h
 unfold swappedStores
 dsimp only
 rw [hb,c1]
 simp only [Bool.false_or,bne_self_eq_false,Bool.false_eq_true,if_false]
 split
 ·next z=>exact absurd z (by rw [Bool.not_eq_true];exact c2)
 ·generalize hL:List.filterMap _ ts = L
  obtain rfl:L = aJ sc ts:=by
   rw [<- hL]
   unfold aJ
   congr 1
   funext x
   cases x <;> first | rfl | (unfold Env.kindOf;rw [hs])
  rw [c4,c5,c6,c3]
  rfl
theorem j0 {C:Ctx} {i:Nat} {x:Str} (h:jS C i x = true):C.N[i]? = some x /\ C.sc.names.lookup x = some .local:=by
 simpa [jS] using h
theorem ci {tg e:Expr} {l:Nat} {env:Env} {b:Bool} (h:swapsWith e (some tg) l env = pure b):swapsWithSole [tg] e l env = pure b:=by
 unfold swapsWithSole
 exact h
theorem ql {sc:Scope} {tg e:Expr} {env:Env} (hs:env.scope = sc) (hk:sc.kind = .function) (h:eX sc tg e = true):swappedStores [tg] e env = pure none:=by
 cases tg with
 | Tuple ts kk pp =>
   cases e with
   | Tuple vs k2 p2=>exact oa hs hk h
   | _=>rfl
 | _=>first | rfl | (simp [eX] at h;done)
theorem ie {elt:Expr} {gens:List Comprehension} {s sc:Scope} {pos px:Pos} {x:Str} {l:Nat} {env:Env} (hs:env.scope = sc) (hk:sc.kind = .function) :
 swapsWith (.ListComp elt gens s pos) (some (.Name x px)) l env = pure (jU sc x px (.ListComp elt gens s pos)):=by
 have hb:env.blockKind = .function:=by unfold Env.blockKind;rw [hs,hk];rfl
 unfold swapsWith
 dsimp only
 rw [hb]
 unfold jU Env.kindOf
 rw [hs]
 rfl
theorem lM {ek ev:Expr} {gens:List Comprehension} {s sc:Scope} {pos px:Pos} {x:Str} {l:Nat} {env:Env} (hs:env.scope = sc) (hk:sc.kind = .function) :
 swapsWith (.DictComp ek ev gens s pos) (some (.Name x px)) l env = pure (sc.names.lookup x == some .local && px.line == (Expr.DictComp ek ev gens s pos).pos.line && !(s.names.any fun (n,k)=>n == x && (k == .local || k == .cell))):=by
 have hb:env.blockKind = .function:=by unfold Env.blockKind;rw [hs,hk];rfl
 unfold swapsWith
 dsimp only
 rw [hb]
 unfold Env.kindOf
 rw [hs]
 rfl
mutual
theorem sS:∀ (m:MS) (G:Good C Φ k X) (hk:C.sc.kind = .function) (s:Stmt),okS m C s = true -> PS X s (lS X.K (wS Φ m))
 | .asg g m,G,hk,s,h=>by
  simp only [okS] at h
  split at h
  ·rename_i tg e pos
   simp only [Bool.and_eq_true] at h
   obtain ⟨⟨⟨hg,he⟩,ha⟩,hc⟩:=h
   have hw:=ql G.sc hk ha
   have pg:=sG G g tg hg
   have plain:swapsWithSole [tg] e pos.line X.env = pure false -> PS X (.Assign [tg] e pos) (lS X.K (dZ (wE Φ m) (bG g))):=fun hs =>
    PS.imp (kl (sE m G e he) pg hs hw (by cases tg <;> first | rfl | (simp [eX] at ha;done))) (nE (mE G.mono m))
   cases tg with
   | Tuple ts a b=>exact plain (ci (fy hc))
   | Name x px =>
     cases e with
     | ListComp elt gens sc cpos =>
       by_cases sw:jU C.sc x px (.ListComp elt gens sc cpos) = true
       ·cases g with
        | tup gs=>simp [okG] at hg
        | name i =>
          cases m with
          | comp fr N' c =>
            simp only [okE,Bool.and_eq_true] at he
            have B:aN sc X.env.scope X.N N' fr:=by rw [G.sc,G.N];exact eY he.1
            have B':aN sc C.sc C.N N' fr:=eY he.1
            have hgx:PG X (.Name x px) (el i):=by
             simp only [okG,Bool.and_eq_true] at hg
             exact iK G.nd (by rw [G.N];exact of_decide_eq_true hg.1.1) (G.loc hg.1.2) (G.own hg.2)
            have hsw:∀ l,swapsWith (.ListComp elt gens sc cpos) (some (.Name x px)) l X.env = pure true:=fun l=>by rw [ie G.sc hk,sw]
            have mc:=mCmp G.mono fr c
            cases c with
            | last src g ifs m =>
              have h2:=he.2
              simp only [okC] at h2
              split at h2
              ·rename_i t it fs a
               simp only [Bool.and_eq_true,decide_eq_true_eq] at h2
               obtain ⟨⟨⟨⟨rfl,hi⟩,hg'⟩,ht⟩,hel⟩:=h2
               refine PS.imp (eD (i:=i) (g:=lG X.K (bG g)) (wi:=lI X.K (wI Φ src)) G.calm G.hx B (fun g' z=>by simp at z) (sI src G _ t hi).1 (fun s H fp=>sG (G.blk B' s H fp) g t hg') (tb:=fun p=>lC X.K p (aV (wTl Φ ifs) (cu (wE Φ m)))) (fun s H fp p => ?_) (sI src G _ t hi).2 hgx (hsw _)) fun D σ H h => ?_
               ·have G':=G.blk B' s H fp
                exact cg (p:=p) G' (aY (mE G.mono m)) (mTl G.mono ifs) (PB.imp (fk G'.hx (sE m G' elt hel) rfl) (db (mE G.mono m))) (sTl ifs G' fs ht)
               ·exact cv (mI G.mono src) (ax (aY (mE G.mono m)) (mTl G.mono ifs)) σ H _ (fV mc D σ H h)
              ·cases h2
            | more src g ifs rest =>
              have h2:=he.2
              simp only [okC] at h2
              split at h2
              ·rename_i t it fs a g2 gs
               simp only [Bool.and_eq_true,decide_eq_true_eq] at h2
               obtain ⟨⟨⟨⟨rfl,hi⟩,hg'⟩,ht⟩,hel⟩:=h2
               have as0:∀ g',(g2 :: gs)[0]? = some g' -> g'.is_async = 0:=fun g' z=>by
                have z':g2 = g':=by simpa using z
                subst z'
                exact di hel
               refine PS.imp (eD (i:=i) (g:=lG X.K (bG g)) (wi:=lI X.K (wI Φ src)) G.calm G.hx B as0 (sI src G _ t hi).1 (fun s H fp=>sG (G.blk B' s H fp) g t hg') (tb:=fun p=>lC X.K p (aV (wTl Φ ifs) (wCl Φ rest))) (fun s H fp p => ?_) (sI src G _ t hi).2 hgx (hsw _)) fun D σ H h => ?_
               ·have G':=G.blk B' s H fp
                exact cg (p:=p) G' (mCl G.mono rest) (mTl G.mono ifs) (sCl rest G' elt (⟨t,it,fs,0⟩ :: g2 :: gs) sc cpos 0 (.inl rfl) p hel) (sTl ifs G' fs ht)
               ·exact cv (mI G.mono src) (ax (mCl G.mono rest) (mTl G.mono ifs)) σ H _ (fV mc D σ H h)
              ·cases h2
          | _=>simp [okE,e9,dC,cOf,gq,gr,jQ,eV,bD,cF,cf,s8] at he
       ·refine plain ?_
        simp only [Bool.not_eq_true] at sw
        refine ci ?_
        rw [ie G.sc hk,sw]
     | SetComp _ _ _ _=>cases m <;> simp [okE,e9,dC,cOf,gq,gr,jQ,eV,bD,cF,cf,s8] at he
     | DictComp _ _ _ _ _ =>
       refine plain (ci ?_)
       rw [lM G.sc hk]
       unfold s9 at hc
       simp only [Bool.not_eq_true'] at hc
       rw [hc]
     | _=>exact plain (ci rfl)
   | _=>simp [eX] at ha
  ·cases h
 | .par i j a b,G,hk,s,h=>by
  simp only [okS] at h
  split at h
  ·next t u e f hp =>
   split at h
   ·next x hx =>
    split at h
    ·next y hy =>
     obtain ⟨k,p,k',p',pos,rfl⟩:=nY hp
     obtain ⟨px,rfl⟩:=dD hx
     obtain ⟨py,rfl⟩:=dD hy
     simp only [Bool.and_eq_true,decide_eq_true_eq] at h
     obtain ⟨⟨⟨⟨⟨⟨⟨hi,hj⟩,hij⟩,n1⟩,n2⟩,ha⟩,hb⟩,hw⟩:=h
     obtain ⟨i1,i2⟩:=j0 hi
     obtain ⟨j1,j2⟩:=j0 hj
     exact PS.imp (qQ G.calm G.nd (by rw [G.N];exact i1) (by rw [G.N];exact j1) hij (by rw [G.sc];exact i2) (by rw [G.sc];exact j2) (bI (mE G.mono a) (aR (mE G.mono b) aD) (sE a G _ ha) (bI (mE G.mono b) aD (sE b G _ hb) cB (al n2)) (al n1)) (qk G.sc hk hw) (ci rfl)) (lw (aR (mE G.mono a) (aR (mE G.mono b) aD)))
    ·cases h
   ·cases h
  ·cases h
 | .put o i m,G,hk,s,h=>by
  simp only [okS] at h
  split at h
  ·rename_i x y tp e pos
   simp only [Bool.and_eq_true] at h
   obtain ⟨⟨⟨⟨hsl,hc⟩,ho⟩,hi⟩,he⟩:=h
   exact rQ (by have:=G.units;omega) (mE G.mono m) (mE G.mono o) (mE G.mono i) (sE m G e he) (sE o G x ho) (sE i G y hi) (ci (fy hc)) rfl (fun v=>by cases y <;> first | rfl | (simp [cE] at hsl;done))
  ·cases h
 | .aug i op m,G,hk,s,h=>by
  simp only [okS] at h
  split at h
  ·simp only [Bool.and_eq_true,decide_eq_true_eq] at h
   obtain ⟨⟨⟨⟨⟨rfl,hop⟩,hi⟩,hl⟩,hf⟩,he⟩:=h
   cases op with
   | add=>exact eQ G.nd (by rw [G.N];exact hi) (G.loc hl) (sE m G _ he) lp fW (mE G.mono m) (G.own hf)
   | sub=>exact eQ G.nd (by rw [G.N];exact hi) (G.loc hl) (sE m G _ he) lq fX (mE G.mono m) (G.own hf)
   | ext=>exact eQ G.nd (by rw [G.N];exact hi) (G.loc hl) (sE m G _ he) lJ g9 (mE G.mono m) (G.own hf)
   | mul=>exact eQ G.nd (by rw [G.N];exact hi) (G.loc hl) (sE m G _ he) lu fY (mE G.mono m) (G.own hf)
   | _=>simp at hop
  ·cases h
 | .drop m,G,hk,s,h=>by
  simp only [okS] at h
  split at h
  ·simp only [Bool.and_eq_true] at h
   exact PS.imp (p3 (sE m G _ h.2) (fy h.1)) (lm (mE G.mono m))
  ·cases h
 | .ret m,G,hk,s,h=>by
  simp only [okS] at h
  split at h
  ·rw [wS]
   exact PS.imp (qL (sE m G _ h)) (nD (mE G.mono m))
  ·cases h
 | .ite c a b,G,hk,s,h=>by
  simp only [okS] at h
  split at h
  ·simp only [Bool.and_eq_true] at h
   exact PS.imp (sH (sT c G _ h.1.1) (sSs a G hk _ h.1.2) (sSs b G hk _ h.2)) (q8 (mT G.mono c))
  ·cases h
 | .for g src b,G,hk,s,h=>by
  simp only [okS] at h
  split at h
  ·simp only [Bool.and_eq_true] at h
   obtain ⟨⟨⟨hs,hg⟩,hi⟩,hb⟩:=h
   exact PS.imp (qT (fun e s z=>(G.hx e s z).elim) G.calm (sI src G _ _ hi).1 (sG G g _ hg) (sSs b G hk _ hb) (lL hs)) (nF (mI G.mono src) (mSs G.mono b))
  ·cases h
 | .while c b,G,hk,s,h=>by
  simp only [okS] at h
  split at h
  ·simp only [Bool.and_eq_true] at h
   exact PS.imp (mv (fun e s z=>(G.hx e s z).elim) (sT c G _ h.1) (sSs b G hk _ h.2)) (jH (mT G.mono c) (mSs G.mono b))
  ·cases h
 | .bot,G,hk,s,h=>fun pins s0 σ H D I ⟨ρ,M,A,rs,rm,l,q⟩=>q.elim
 | .pass,G,hk,s,h=>by
  simp only [okS] at h
  split at h
  ·exact PS.imp oZ fU
  ·cases h
 | .brk,G,hk,s,h=>by
  simp only [okS] at h
  split at h
  ·exact PS.imp mn jG
  ·cases h
 | .cnt,G,hk,s,h=>by
  simp only [okS] at h
  split at h
  ·exact PS.imp iD ll
  ·cases h
theorem sSs:∀ (m:MSs) (G:Good C Φ k X) (hk:C.sc.kind = .function) (s:List Stmt),okSs m C s = true -> PSs X s (lS X.K (wSs Φ m))
 | .nil,G,hk,s,h=>by
  simp [okSs] at h;subst h
  exact PSs.imp oY fU
 | .cons m r,G,hk,[],h=>by simp [okSs] at h
 | .cons m r,G,hk,s :: ss,h=>by
  simp only [okSs,Bool.and_eq_true] at h
  exact PSs.imp (mm (sS m G hk s h.1) (sSs r G hk ss h.2)) (nC (mS G.mono m) (mSs G.mono r))
end
end
end Mi
end L2
namespace L2
namespace Mi
open PySem PySem.Spec PyProof.Rows
structure FD where
 name:Str
 st:Stmt
 N:List Str
 np:Nat
 body:MSs
noncomputable def cG (N:List Str) (ds:List D):ai:=ds.map some ++ List.replicate (N.length - ds.length) none
noncomputable def phi (T:List FD):Nat -> Phi
 | 0=>fun _ _ _ _=>False
 | k + 1=>fun f ds M Q => ∃ d,T[f]? = some d /\ ds.length = d.np /\ wSs (phi T k) d.body { nx:=fun _ M'=>Q .non M',rt:=Q } (cG d.N ds) M
theorem eg (T:List FD):∀ k f,aG (phi T k f)
 | 0,f=>fun _ _ _ _ _ q=>q.elim
 | k + 1,f=>fun ds M Q Q' h ⟨d,e,l,q⟩=>⟨d,e,l,mSs (eg T k) d.body { nx:=fun _ M'=>Q .non M',rt:=Q } { nx:=fun _ M'=>Q' .non M',rt:=Q' } _ _ ⟨fun _ M' q'=>h _ _ q',h,fun _ _ z=>z,fun _ _ z=>z⟩ q⟩
noncomputable def jX (Γ:List Str) (cs:List (Str × Int)) (d:FD):Bool :=
 decide ((af d.st).kind = .function) && !(af d.st).isCoroutine && !(af d.st).isGenerator && decide (d.N.Nodup) && decide (d.np <= d.N.length)
  && (d.N.take d.np).all (fun x=>(af d.st).names.lookup x == some .local || (af d.st).names.lookup x == some .cell)
  && (af d.st).names.all (fun y => !(y.2 == .free)) && okSs d.body ⟨Γ,d.N,af d.st,d.N,cs⟩ (aj d.st)
theorem oe {Γ:List Str} {cs:List (Str × Int)} {d:FD} (h:jX Γ cs d = true):dq d.N (d.N.take d.np) (af d.st) /\ (d.N.take d.np).length = d.np /\ okSs d.body ⟨Γ,d.N,af d.st,d.N,cs⟩ (aj d.st) = true:=by
 simp only [jX,Bool.and_eq_true,decide_eq_true_eq,Bool.not_eq_true'] at h
 obtain ⟨⟨⟨⟨⟨⟨⟨h1,h2⟩,h3⟩,h4⟩,h5⟩,h6⟩,h7⟩,h8⟩:=h
 have hl:(d.N.take d.np).length = d.np:=by rw [List.length_take];omega
 refine ⟨⟨h1,h2,h3,h4,by rw [hl],fun x hx => ?_,fun y hy e => ?_⟩,hl,h8⟩
 ·have z:=List.all_eq_true.mp h6 x hx
  simpa using z
 ·have z:=List.all_eq_true.mp h7 y hy
  rw [e] at z
  simp at z
section
variable {P:Program} {w:World} {K:PySem.W.Frag} {mg:Str -> Option Value} {base:Heap}
structure oJ (K:PySem.W.Frag) (mg:Str -> Option Value) (T:List FD) (cs:List (Str × Int)):Prop where
 blt:∀ x ∈ e7,mg x = none
 fns:∀ (i:Nat) (d:FD),T[i]? = some d -> ∃ f fd,Fun K d.name d.name d.st f fd /\ mg d.name = some (.ref f) /\ Binds K fd (d.N.take d.np) []
 ok:∀ d ∈ T,jX (T.map (·.name)) cs d = true
 cst:∀ x i,(x,i) ∈ cs -> ∃ t,mg x = some (.int i t)
theorem lN {T:List FD} {cs:List (Str × Int)} (O:oJ K mg T cs):∀ (k i:Nat) (d:FD) (f:Addr) (fd:FuncData),T[i]? = some d -> Fun K d.name d.name d.st f fd -> cj P w K mg base CX0 k f fd (d.N.take d.np) (lSp K (phi T k i))
 | 0,i,d,f,fd,e,F=>⟨fun vs H Q E h=>by obtain ⟨ds,M,_,_,q⟩:=h;exact q.elim,fun A outer s H args us vs Q E _ _ _ _ h=>by obtain ⟨ds,M,_,_,q⟩:=h;exact q.elim⟩
 | k + 1,i,d,f,fd,e,F=>by
   obtain ⟨S,hl,hb⟩:=oe (O.ok d (List.mem_of_getElem? e))
   refine F.ok S (fun vs H Q E h => ?_) fun cdv A outer s H vs Q E hr h => ?_
   ·obtain ⟨ds,M,rm,rs,d',e',l,q⟩:=h
    rw [e] at e';cases e'
    rw [rs.length,l,hl]
   ·obtain ⟨ds,M,rm,rs,d',e',l,q⟩:=h
    rw [e] at e';cases e'
    have G:Good ⟨T.map (·.name),d.N,af d.st,d.N,cs⟩ (phi T k) k ((dO CX0 P w K mg base d.N d.name (af d.st) f cdv A outer s H E).nox):=by
     refine ⟨fun _ _ z=>z,rfl,rfl,rfl,S.nd,fun _ _=>rfl,hr,O.blt,fun j x hx => ?_,eg T k,O.cst⟩
     have hx':(T.map (·.name))[j]? = some x:=hx
     rw [List.getElem?_map] at hx'
     cases e2:T[j]? with
     | none=>rw [e2] at hx';cases hx'
     | some d2 =>
       rw [e2] at hx';cases hx'
       obtain ⟨f2,fd2,F2,m2,b2⟩:=O.fns j d2 e2
       exact ⟨f2,fd2,_,m2,F2.kp,b2,lN O k j d2 f2 fd2 e2 F2⟩
    refine ⟨_,sSs d.body G S.kind _ hb,cG d.N ds,M, { nx:=fun _ M'=>KE' K M H Q .non M',rt:=KE' K M H Q }, ?_,rm,⟨fun ρ M' σ H' x rs' rm' q' => ?_,fun d M' v H' x rm' rd' q'=>q' v H' x rm' rd',fun _ _ _ _ _ _ _ z=>z,fun _ _ _ _ _ _ _ z=>z⟩,q⟩
    ·refine ⟨by simp [bL,cG,rs.length],fun j dd hj => ?_⟩
     unfold cG at hj
     unfold bL
     by_cases hlt:j < ds.length
     ·rw [List.getElem?_append_left (by simpa using hlt),List.getElem?_map] at hj
      cases e3:ds[j]? with
      | none=>rw [e3] at hj;cases hj
      | some z =>
        rw [e3] at hj;cases hj
        obtain ⟨v,hv,rv⟩:=rs.get e3
        refine ⟨v, ?_,rv⟩
        rw [List.getElem?_append_left (by rw [List.length_map,rs.length];exact hlt),List.getElem?_map,hv];rfl
     ·rw [List.getElem?_append_right (by simpa using hlt),List.getElem?_replicate] at hj
      split at hj <;> cases hj
    ·exact q' .non H' x rm' (RD.non_iff.mpr rfl)
theorem sf {T:List FD} {k i:Nat} {H:Hp} {a:Addr} {ns:List Int} (hO:jn H) (hS:SqL K H a (ns.map V.int)) (h:phi T k i [.con (ns.map D.int)] (fun _=>none) fun d _=>d = .bl true) :
 lSp K (phi T k i) [.ref a] H (fun v _=>v = .bl true) fun _ _ _=>False:=by
 have rm0:RM K (fun _=>none) H:=fun _ _ z=>by cases z
 refine ⟨[.con (ns.map D.int)],fun _=>none,rm0,RDs.cons (RD.con_iff.mpr ⟨a,ns.map V.int,rfl, ?_,RDs.ints ns⟩) RDs.nil,eg T k i [.con (ns.map D.int)] (fun _=>none) (fun d _=>d = .bl true) (KE' K (fun _=>none) H fun v _=>v = .bl true) (fun d M' e=>fun v H' x rm rd => ?_) h⟩
 ·rcases hS with (z | ⟨o,z⟩) | z
  ·rcases hO a with q | ⟨o,xs,q⟩
   ·rw [z] at q;cases q
   ·rw [z] at q;cases q
  ·exact .inl ⟨o,z⟩
  ·exact .inr z
 ·subst e
  exact RD.bl_iff.mp rd
end
theorem bO (us:List Value) (h:us.length = 1):∃ a,us = [a]:=List.length_eq_one_iff.mp h
theorem cO (us:List Value) (h:us.length = 2):∃ a b,us = [a,b]:=by
 cases us with
 | nil=>cases h
 | cons a us=>obtain ⟨b,rfl⟩:=bO us (Nat.succ.inj h);exact ⟨a,b,rfl⟩
theorem tE (us:List Value) (h:us.length = 3):∃ a b c,us = [a,b,c]:=by
 cases us with
 | nil=>cases h
 | cons a us=>obtain ⟨b,c,rfl⟩:=cO us (Nat.succ.inj h);exact ⟨a,b,c,rfl⟩
end Mi
end L2
namespace L2
namespace Mi
open PySem PySem.Spec PyProof.Rows
theorem sg {T:List FD} {k f:Nat} {d:FD} {ds:List D} {M:Mem} {Q:QD} (e:T[f]? = some d) (l:ds.length = d.np) {ρ:ai} (r:cG d.N ds = ρ)
 (h:wSs (phi T k) d.body { nx:=fun _ M'=>Q .non M',rt:=Q } ρ M):phi T (k + 1) f ds M Q:=⟨d,e,l,by rw [r];exact h⟩
theorem aA {T:List FD} {n f:Nat} {d:FD} {ds:List D} {M:Mem} {Q:QD} (hn : 1 <= n) (e:T[f]? = some d) (l:ds.length = d.np) {ρ:ai} (r:cG d.N ds = ρ)
 (h:wSs (phi T (n - 1)) d.body { nx:=fun _ M'=>Q .non M',rt:=Q } ρ M):phi T n f ds M Q:=by
 obtain ⟨k,rfl⟩:∃ k,n = k + 1:=⟨n - 1,by omega⟩
 exact sg e l r h
theorem qm {Φ:Phi} {D:bj} {ρ:ai} {M:Mem}:wSs Φ .nil D ρ M = D.nx ρ M:=by rw [wSs];rfl
theorem cP {Φ:Phi} {s:MS} {r:MSs} {D:bj} {ρ:ai} {M:Mem}:wSs Φ (.cons s r) D ρ M = wS Φ s { D with nx:=wSs Φ r D } ρ M:=by rw [wSs];rfl
theorem j3 {ds:List D} {y:D} {M:Mem} {Q:QD}:wIx (.tup ds) y M Q = ∃ i d,y = .int i /\ atI ds i = some d /\ Q d M:=rfl
theorem j4 {ds:List D} {y:D} {M:Mem} {Q:QD}:wIx (.con ds) y M Q = ∃ i d,y = .int i /\ atI ds i = some d /\ Q d M:=rfl
theorem aX {a:Addr} {i:Int} {ds:List D} {d:D} {M:Mem} {Q:QD} (h:M a = some (.lst ds)) (e:atI ds i = some d) (q:Q d M):wIx (.ref a) (.int i) M Q := .inl ⟨ds,i,d,h,rfl,e,q⟩
theorem bg {a:Addr} {i:Int} {ds:List D} {v:D} {j:Nat} {M:Mem} {Q:Mem -> Prop} (h:M a = some (.lst ds)) (e:ixN ds.length i = some j) (q:Q (ag M a (.lst (ds.set j v)))):eP (.ref a) (.int i) v M Q:=⟨a,rfl, .inl ⟨ds,i,j,rfl,h,e,q⟩⟩
theorem qo {a:Addr} {ds:List D} {M:Mem} {Q:QD} (h:M a = some (.lst ds)) (q:Q (.int ds.length) M):cY [.ref a] M Q:=⟨_,_,rfl,by simp only [gO,h],q⟩
theorem ay {a:Addr} {ds:List D} {M:Mem} (h:M a = some (.lst ds)):aW M (.ref a) = some ds:=by simp only [aW,h]
theorem sh {i:Int} {M:Mem} {Q:QD}:gR [.int i] M Q = Q (.int i) M:=by
 apply propext;constructor
 ·rintro (⟨j,e,q⟩ | ⟨k,e,q⟩)
  ·cases e;exact q
  ·cases e
 ·exact fun q => .inl ⟨i,rfl,q⟩
theorem si {b:Bool} {M:Mem} {Q:QD}:gR [.bl b] M Q = Q (.int (if b then 1 else 0)) M:=by
 apply propext;constructor
 ·rintro (⟨j,e,q⟩ | ⟨k,e,q⟩)
  ·cases e
  ·cases e;exact q
 ·exact fun q => .inr ⟨b,rfl,q⟩
theorem tF {i j:Int} {M:Mem} {Q:QD}:wEq (.int i) (.int j) M Q = Q (.bl (i == j)) M:=by
 simp [wEq,rb,PyData.eqv]
theorem tG {i j:Int} {M:Mem} {Q:QD}:wNe (.int i) (.int j) M Q = Q (.bl (!(i == j))) M:=by
 simp [wNe,rb,PyData.eqv]
theorem lP {i j:Int} {M:Mem} {Q:QD}:cX (.int i) (.int j) M Q = Q (.int (i + j)) M:=rfl
theorem lQ {a b:List D} {M:Mem} {Q:QD}:cX (.tup a) (.tup b) M Q = ((a ≠ [] ∨ True) /\ a.length + b.length <= sizeLine /\ Q (.tup (a ++ b)) M):=rfl
theorem lU {i j:Int} {M:Mem} {Q:QD}:jt (.int i) (.int j) M Q = Q (.int (i - j)) M:=rfl
theorem lV {i j:Int} {M:Mem} {Q:QD}:fu (.int i) (.int j) M Q = (MulOk i j /\ Q (.int (i * j)) M):=rfl
theorem lW {ds:List D} {k:Int} {M:Mem} {Q:QD}:fu (.tup ds) (.int k) M Q = (-(2 ^ 63) <= k /\ k < 2 ^ 63 /\ ds.length * k.toNat <= sizeLine /\ Q (.tup (List.replicate k.toNat ds).flatten) M):=rfl
theorem j5 {i j:Int} {M:Mem} {Q:QD}:gi (.int i) (.int j) M Q = (0 < j /\ j < 2 ^ 256 /\ Q (.int (i / j)) M):=rfl
theorem lX {i j:Int} {M:Mem} {Q:QD}:ju (.int i) (.int j) M Q = (0 < j /\ Q (.int (i % j)) M):=rfl
theorem lY {i j:Int} {M:Mem} {Q:QD}:jv (.int i) (.int j) M Q = (0 <= j /\ j <= 1000000 /\ i.natAbs < 2 ^ 64 /\ Q (.int (i ^ j.toNat)) M):=rfl
theorem oK {i j:Int} {M:Mem} {Q:QD}:wLt (.int i) (.int j) M Q = Q (.bl (decide (i < j))) M:=rfl
theorem oM {i j:Int} {M:Mem} {Q:QD}:wLe (.int i) (.int j) M Q = Q (.bl (decide (i <= j))) M:=rfl
theorem jY {i j:Int} {M:Mem} {Q:QD}:wGt (.int i) (.int j) M Q = Q (.bl (decide (j < i))) M:=rfl
theorem oO {i j:Int} {M:Mem} {Q:QD}:wGe (.int i) (.int j) M Q = Q (.bl (decide (j <= i))) M:=rfl
theorem j6 {i j:Int} {M:Mem} {Q:QD}:gn (.int i) (.int j) M Q = Q (.int (i + j)) M:=rfl
theorem lZ {i:Int} {M:Mem} {Q:QD}:jw (.int i) M Q = Q (.int (-i)) M:=rfl
theorem sj {i:Int} {M:Mem} {Q:QD}:gQ [.int i] M Q = Q (.int (if i < 0 then -i else i)) M:=by simp [gQ]
theorem qp {i j:Int} {M:Mem} {Q:QD}:gj [.int i, .int j] M Q = Q (.int (if j > i then j else i)) M:=by
 apply propext;constructor
 ·rintro ⟨a,b,e,q⟩;cases e;exact q
 ·exact fun q=>⟨i,j,rfl,q⟩
theorem qq {i j:Int} {M:Mem} {Q:QD}:gk [.int i, .int j] M Q = Q (.int (if j < i then j else i)) M:=by
 apply propext;constructor
 ·rintro ⟨a,b,e,q⟩;cases e;exact q
 ·exact fun q=>⟨i,j,rfl,q⟩
theorem sk {ds:List D} {M:Mem} {Q:QD}:cY [.con ds] M Q = Q (.int ds.length) M:=by simp [cY,gO]
theorem sm {ds:List D} {M:Mem} {Q:QD}:cY [.tup ds] M Q = Q (.int ds.length) M:=by simp [cY,gO]
theorem dj {ds:List D} {M:Mem}:aW M (.tup ds) = some ds:=rfl
theorem m3 {ds:List D} {M:Mem}:aW M (.con ds) = some ds:=rfl
theorem oP {α:Sort _} {a b : α}:(if true = true then a else b) = a:=rfl
theorem oQ {α:Sort _} {a b : α}:(if false = true then a else b) = b:=rfl
theorem oR {y:Str} {M:Mem} {Q:QD}:fmD (.str y) M Q = (y.length <= sizeLine /\ Q (.str y) M):=rfl
theorem oS {i:Int} {M:Mem} {Q:QD}:fmD (.int i) M Q = (i.natAbs.log2 < 1920 /\ Q (.str (toString i)) M):=rfl
theorem m4 {x y:Str} {M:Mem} {Q:QD}:cX (.str x) (.str y) M Q = (x.length + y.length <= sizeLine /\ Q (.str (x ++ y)) M):=rfl
local macro_rules | `(tactic| walk_at "wp") => `(tactic| ((try dsimp only [wS,wE,wA,wO,wT,wAndTs,wOrTs,wTl,wI,wCl,wCmp,bG,bGs,opB,opC,opF,opM,rY,opI,dQ,wC,wOp,wUn,bH,bf,wAr,dR,gH,gI,gX,eF,eG,gY,oG,rG,eI,wIf,cC,dw,wSl,eJ,wBM,bM,dY,bB,jD,h9,eL,wFs,eR,eS,i3,eT,eU,i4,eK,cu,aV,ce,dz,fo,dA,hE,dc,eN,eO,hG,sIf,dZ,hJ,hU,de,hV,hX,lP,lQ,m4,oR,oS,lU,lV,lW,j5,lX,lY,oK,oM,jY,oO,j6,lZ,dj,m3,j3,j4,oP,oQ,List.getElem?_cons_zero,List.getElem?_cons_succ,List.set_cons_zero,List.set_cons_succ,Option.bind_some,Option.map_some,Option.join_some,Option.bind_none,Option.join_none,List.map_cons,List.map_nil,List.length_cons,List.length_nil]);(try simp only [wS,wE,wA,wO,wT,wAndTs,wOrTs,wTl,wI,wCl,wCmp,bG,bGs,opB,opC,opF,opM,rY,opI,dQ,wC,wOp,wUn,bH,bf,wAr,dR,gH,gI,gX,eF,eG,gY,oG,rG,eI,wIf,cC,dw,wSl,eJ,wBM,bM,dY,bB,jD,h9,eL,wFs,eR,eS,i3,eT,eU,i4,eK,cu,aV,ce,dz,fo,dA,hE,dc,eN,eO,hG,sIf,dZ,hJ,hU,de,hV,hX,qm,
 lP,lQ,m4,oR,oS,lU,lV,lW,j5,lX,lY,oK,oM,jY,oO,j6,lZ,sh,si,tF,tG,sj,qp,qq,sk,sm,dj,m3,j3,j4,oP,oQ,Bool.false_eq_true,if_false,if_true,
 List.getElem?_cons_zero,List.getElem?_cons_succ,List.set_cons_zero,List.set_cons_succ,Option.some.injEq,exists_eq_left',exists_eq_left,exists_eq_right,exists_and_left,exists_and_right,D.bl.injEq,D.int.injEq,D.ref.injEq,D.tup.injEq,Option.bind_some,Option.map_some,Option.join_some,Option.bind_none,Option.join_none,List.map_cons,List.map_nil,decide_eq_true_eq,List.cons.injEq,and_true,true_and,List.length_cons,List.length_nil])))
local macro_rules | `(tactic| walk_at "st") => `(tactic| ((first | rw [cP] | (dsimp only;rw [cP]));walk_at "wp"))
noncomputable def Ge (M M':Mem):Prop := ∀ a o,M a = some o -> M' a = some o
theorem Ge.refl {M:Mem}:Ge M M:=fun _ _ h=>h
theorem Ge.trans {M M' M'':Mem} (h:Ge M M') (g:Ge M' M''):Ge M M'':=fun _ _ e=>g _ _ (h _ _ e)
theorem Ge.new {M:Mem} {p:Addr} {o:O} (h:M p = none):Ge M (ag M p o):=fun a o' e=>by
 rw [ao (fun z=>by rw [z,h] at e;cases e)];exact e
noncomputable def Box (b:Addr) (M:Mem):Prop := ∃ x y z:Int,M b = some (.lst [.int x, .int y, .int z])
structure Bx (b:Addr) (M M':Mem):Prop where
 box:Box b M'
 keep:∀ a o,a ≠ b -> M a = some o -> M' a = some o
theorem Bx.refl {b:Addr} {M:Mem} (h:Box b M):Bx b M M:=⟨h,fun _ _ _ e=>e⟩
theorem Bx.trans {b:Addr} {M M' M'':Mem} (h:Bx b M M') (g:Bx b M' M''):Bx b M M'':=⟨g.box,fun a o n e=>g.keep a o n (h.keep a o n e)⟩
theorem Bx.ge {b:Addr} {M M' M'':Mem} (h:Bx b M M') (g:Ge M' M''):Bx b M M'':=⟨by obtain ⟨x,y,z,e⟩:=h.box;exact ⟨x,y,z,g _ _ e⟩,fun a o n e=>g _ _ (h.keep a o n e)⟩
theorem Bx.put {b:Addr} {M:Mem} {x y z:Int}:Bx b M (ag M b (.lst [.int x, .int y, .int z])):=⟨⟨x,y,z,ad⟩,fun a o n e=>by rw [ao n];exact e⟩
theorem Bx.of {b:Addr} {M M':Mem} (h:Box b M) (g:Ge M M'):Bx b M M':=(Bx.refl h).ge g
theorem m5 {b:BT} {tb:TCd} {chk:Mem -> Prop} {N:NC} (I:List D -> ai -> Mem -> List D -> Prop) {xs:List D} {ρ:ai} {M:Mem} {acc:List D}
 (h0:I [] ρ M acc)
 (hc:∀ l ρ M acc,I l ρ M acc -> chk M)
 (hs:∀ l x r ρ M acc,xs = l ++ x :: r -> I l ρ M acc -> ∃ ρ',b x ρ = some ρ' /\ ∀ N':NC,(∀ ρ2 M2 acc2,I (l ++ [x]) ρ2 M2 acc2 -> N' ρ2 M2 acc2) -> tb ρ' M acc N')
 (hN:∀ ρ M acc,I xs ρ M acc -> N ρ M acc):bn b tb chk N xs ρ M acc:=by
 have g:∀ (r l:List D) (ρ:ai) (M:Mem) (acc:List D),xs = l ++ r -> I l ρ M acc -> bn b tb chk N r ρ M acc:=by
  intro r
  induction r with
  | nil=>intro l ρ M acc e i;rw [List.append_nil] at e;subst e;exact ⟨hc _ _ _ _ i,hN _ _ _ i⟩
  | cons x r ih =>
    intro l ρ M acc e i
    obtain ⟨ρ',e1,h⟩:=hs l x r ρ M acc e i
    exact ⟨hc _ _ _ _ i, ρ',e1,h _ fun ρ2 M2 acc2 i2=>ih (l ++ [x]) ρ2 M2 acc2 (by rw [e];simp) i2⟩
 exact g xs [] ρ M acc rfl h0
theorem og {b:BT} {tb:TSd} {chk:Mem -> Prop} {E:bj} (I:List D -> ai -> Mem -> Prop) {xs:List D} {ρ:ai} {M:Mem}
 (h0:I [] ρ M)
 (hc:∀ l ρ M,I l ρ M -> chk M)
 (hs:∀ l x r ρ M,xs = l ++ x :: r -> I l ρ M -> ∃ ρ',b x ρ = some ρ' /\ ∀ F:ai -> Mem -> Prop,(∀ ρ2 M2,I (l ++ [x]) ρ2 M2 -> F ρ2 M2) -> tb { E with nx:=F,ct:=F,bk:=E.nx } ρ' M)
 (hN:∀ ρ M,I xs ρ M -> E.nx ρ M):ba b tb chk E xs ρ M:=by
 have g:∀ (r l:List D) (ρ:ai) (M:Mem),xs = l ++ r -> I l ρ M -> ba b tb chk E r ρ M:=by
  intro r
  induction r with
  | nil=>intro l ρ M e i;rw [List.append_nil] at e;subst e;exact ⟨hc _ _ _ i,hN _ _ i⟩
  | cons x r ih =>
    intro l ρ M e i
    obtain ⟨ρ',e1,h⟩:=hs l x r ρ M e i
    exact ⟨hc _ _ _ i, ρ',e1,h _ fun ρ2 M2 i2=>ih (l ++ [x]) ρ2 M2 (by rw [e];simp) i2⟩
 exact g xs [] ρ M rfl h0
section
variable {T:List FD}
noncomputable def eZ (s:Stmt):FD:=⟨"_law_cell_at",s,["_law_script", "_law_k"],2,
 (.cons (.ite (.cmp .lt (.var 1) (.blt .len (.cons (.var 0) .nil))) (.cons (.ret (.ix (.var 0) (.var 1)))
 .nil) .nil)
 (.cons (.ret (.int 0))
 .nil))⟩
theorem eh {α:Type} {xs:List α} {i:Int} (h0 : 0 <= i) (h1:i < xs.length):∃ x,atI xs i = some x /\ xs[i.toNat]? = some x:=by
 have:i.toNat < xs.length:=by omega
 refine ⟨xs[i.toNat], ?_,List.getElem?_eq_getElem this⟩
 unfold atI ixN
 simp [h0,h1,List.getElem?_eq_getElem this]
theorem qr {f:Nat} {s:Stmt} (hf:T[f]? = some (eZ s)) {n:Nat} (hn : 1 <= n) {ns:List Int} {k:Int} {M:Mem} {Q:QD} (h0 : 0 <= k) (q:∀ i,Q (.int i) M):phi T n f [.con (ns.map D.int), .int k] M Q:=by
 refine aA hn hf rfl (ρ := [some _,some _]) rfl ?_
 unfold eZ
 walk_at "st"
 split
 ·next h =>
  walk_at "st"
  obtain ⟨x,e,e2⟩:=eh (xs:=ns.map D.int) h0 h
  rw [List.getElem?_map] at e2
  cases e3:ns[k.toNat]? with
  | none=>rw [e3] at e2;cases e2
  | some y=>rw [e3] at e2;cases e2;exact ⟨_,e,q y⟩
 ·walk_at "st"
  exact q 0
theorem sn {i j:Int} (h : -(2 ^ 64) < i /\ i < 2 ^ 64):MulOk i j := .inl h
theorem ig {i j:Int} (h : -(2 ^ 64) < j /\ j < 2 ^ 64):MulOk i j := .inr (.inl h)
noncomputable def fA (s:Stmt):FD:=⟨"_law_mixed",s,["_law_number_here", "_law_k", "_law_once", "_law_twice"],2,
 (.cons (.asg (.name 2) (.bin .mod (.bin .mul (.bin .add (.bin .add (.bin .mod (.var 0) (.int 1000000007)) (.bin .mul (.int 7) (.var 1))) (.int 1)) (.int 48271)) (.int 2147483647)))
 (.cons (.asg (.name 3) (.bin .mod (.bin .mul (.var 2) (.bin .add (.bin .add (.bin .mod (.var 2) (.int 1009)) (.var 1)) (.int 3))) (.int 998244353)))
 (.cons (.ret (.bin .fdiv (.bin .mod (.bin .add (.bin .mul (.var 3) (.int 39373)) (.var 2)) (.int 2147483629)) (.int 64)))
 .nil)))⟩
theorem ii {f:Nat} {s:Stmt} (hf:T[f]? = some (fA s)) {n:Nat} (hn : 1 <= n) {x k:Int} {M:Mem} {Q:QD} (q:∀ i,Q (.int i) M):phi T n f [.int x, .int k] M Q:=by
 refine aA hn hf rfl (ρ := [some _,some _,none,none]) rfl ?_
 unfold fA
 walk_at "st"
 refine ⟨by decide,sn (by decide),ig (by decide),by decide, ?_⟩
 walk_at "st"
 refine ⟨by decide,sn ?_,by decide, ?_⟩
 ·have h1:=Int.emod_nonneg ((x % 1000000007 + 7 * k + 1) * 48271) (b := 2147483647) (by decide)
  have h2:=Int.emod_lt_of_pos ((x % 1000000007 + 7 * k + 1) * 48271) (b := 2147483647) (by decide)
  omega
 walk_at "st"
 refine ⟨ig (by decide),by decide,by decide,by decide, ?_⟩
 exact q _
noncomputable def jZ (s:Stmt) (fc fm:Nat):FD:=⟨"_law_box",s,["_law_script", "_law_k", "_law_cell"],2,
 (.cons (.asg (.name 2) (.call fc (.cons (.var 0) (.cons (.var 1) .nil))))
 (.cons (.ret (.lst (.cons (.bin .mul (.blt .abs (.cons (.var 2) .nil)) (.blt .int (.cons (.cmp .ge (.blt .abs (.cons (.var 2) .nil)) (.bin .pow (.int 10) (.int 18))) .nil))) (.cons (.call fm (.cons (.var 2) (.cons (.bin .add (.int 900) (.var 1)) .nil))) (.cons (.int 0) .nil)))))
 .nil))⟩
theorem so {f fc fm:Nat} {s sc:Stmt} (hf:T[f]? = some (jZ s fc fm)) (hfc:T[fc]? = some (eZ sc)) {n:Nat} (hfm:∀ {x k:Int} {M:Mem} {Q:QD},(∀ i,Q (.int i) M) -> phi T (n - 1) fm [.int x, .int k] M Q) (hn : 2 <= n) {ns:List Int} {k:Int} {M:Mem} {Q:QD} (h0 : 0 <= k)
 (q:∀ p x y,M p = none -> Q (.ref p) (ag M p (.lst [.int x, .int y, .int 0]))):phi T n f [.con (ns.map D.int), .int k] M Q:=by
 refine aA (by omega) hf rfl (ρ := [some _,some _,none]) rfl ?_
 unfold jZ
 walk_at "st"
 refine qr hfc (by omega) h0 fun i => ?_
 walk_at "st"
 refine ⟨by decide,by decide,by decide,ig ?_, ?_⟩
 ·split <;> omega
 refine hfm fun j => ?_
 exact ⟨by rw [sizeLine_eq];first | decide | omega,fun p hp=>q p _ _ hp⟩
noncomputable def ij (s:Stmt) (fm:Nat):FD:=⟨"_law_take",s,["_law_box_here", "_law_many", "_law_found", "_law_reach"],2,
 (.cons (.ite (.cmp .gt (.ix (.var 0) (.int 0)) (.int 0)) (.cons (.asg (.name 2) (.bin .mod (.ix (.var 0) (.int 0)) (.var 1)))
 (.cons (.put (.var 0) (.int 0) (.bin .fdiv (.ix (.var 0) (.int 0)) (.var 1)))
 (.cons (.ret (.var 2))
 .nil))) .nil)
 (.cons (.asg (.tup (.cons (.name 2) (.cons (.name 3) .nil))) (.tup (.cons (.int 0) (.cons (.int 1) .nil))))
 (.cons (.while (.cmp .lt (.var 3) (.var 1)) (.cons (.put (.var 0) (.int 2) (.bin .add (.ix (.var 0) (.int 2)) (.int 1)))
 (.cons (.asg (.name 2) (.bin .add (.bin .mul (.var 2) (.int 33554432)) (.call fm (.cons (.ix (.var 0) (.int 1)) (.cons (.ix (.var 0) (.int 2)) .nil)))))
 (.cons (.asg (.name 3) (.bin .mul (.var 3) (.int 33554432)))
 .nil))))
 (.cons (.ret (.bin .mod (.var 2) (.var 1)))
 .nil))))⟩
noncomputable def tH (T:List FD) (n fm:Nat):Prop := ∀ {x k:Int} {M:Mem} {Q:QD},(∀ i,Q (.int i) M) -> phi T n fm [.int x, .int k] M Q
theorem qt {f fm:Nat} {s:Stmt} (hf:T[f]? = some (ij s fm)) {n:Nat} (hfm:tH T (n - 1) fm) (hn : 2 <= n) {b:Addr} {m:Int} {M:Mem} {Q:QD} (hb:Box b M) (h1 : 0 < m) (h2:m <= 2 ^ 100)
 (q:∀ r M',0 <= r -> r < m -> Bx b M M' -> Q (.int r) M'):phi T n f [.ref b, .int m] M Q:=by
 refine aA (by omega) hf rfl (ρ := [some _,some _,none,none]) rfl ?_
 unfold ij
 obtain ⟨x,y,z,hM⟩:=hb
 walk_at "st"
 refine aX hM (d := .int x) rfl ?_
 simp only [jY]
 walk_at "wp"
 split
 ·next hx =>
  walk_at "st"
  refine aX hM (d := .int x) rfl ?_
  walk_at "wp"
  refine ⟨h1, ?_⟩
  walk_at "st"
  refine aX hM (d := .int x) rfl ?_
  walk_at "wp"
  refine ⟨h1,by omega, ?_⟩
  refine bg hM (j := 0) rfl ?_
  walk_at "st"
  exact q _ _ (Int.emod_nonneg _ (by omega)) (Int.emod_lt_of_pos _ h1) Bx.put
 ·next hx =>
  walk_at "st"
  refine ⟨by rw [sizeLine_eq];first | decide | omega, ?_⟩
  walk_at "st"
  refine ⟨5, ?_⟩
  have go:∀ (f:Nat) (found reach z:Int) (M':Mem),m <= reach * 33554432 ^ f -> M' b = some (.lst [.int x, .int y, .int z]) -> Bx b M M' ->
   aH (dR (wOp wLt (dQ 3) (dQ 1))) (wSs (phi T (n - 1)) (MSs.cons (MS.put (ME.var 0) (ME.int 2) (ME.bin BOp.add ((ME.var 0).ix (ME.int 2)) (ME.int 1)))
    (MSs.cons (MS.asg (MG.name 2) (ME.bin BOp.add (ME.bin BOp.mul (ME.var 2) (ME.int 33554432)) (ME.call fm (MEs.cons ((ME.var 0).ix (ME.int 1)) (MEs.cons ((ME.var 0).ix (ME.int 2)) MEs.nil)))))
      (MSs.cons (MS.asg (MG.name 3) (ME.bin BOp.mul (ME.var 3) (ME.int 33554432))) MSs.nil))))
    { nx:=wSs (phi T (n - 1)) (MSs.cons (MS.ret (ME.bin BOp.mod (ME.var 2) (ME.var 1))) MSs.nil) { nx:=fun x M'=>Q D.non M',rt:=Q },rt:=Q } (f + 1) [some (.ref b),some (.int m),some (.int found),some (.int reach)] M':=by
   intro f
   induction f with
   | zero =>
     intro found reach z M' hm hM' hx'
     simp only [aH]
     walk_at "wp"
     rw [if_neg (by omega)]
     walk_at "st"
     exact ⟨h1,q _ _ (Int.emod_nonneg _ (by omega)) (Int.emod_lt_of_pos _ h1) hx'⟩
   | succ f ih =>
     intro found reach z M' hm hM' hx'
     rw [aH]
     walk_at "wp"
     split
     ·next hr =>
      walk_at "st"
      refine aX hM' (d := .int z) rfl ?_
      walk_at "wp"
      refine bg hM' (j := 2) rfl ?_
      walk_at "st"
      refine ⟨ig (by decide), ?_⟩
      refine aX ad (d := .int y) rfl ?_
      refine aX ad (d := .int (z + 1)) rfl ?_
      refine hfm fun i => ?_
      walk_at "wp"
      walk_at "st"
      refine ⟨ig (by decide), ?_⟩
      exact ih _ _ (z + 1) _ (by rw [Int.mul_assoc, <- Int.pow_succ'];exact hm) ad (hx'.trans Bx.put)
     ·walk_at "st"
      exact ⟨h1,q _ _ (Int.emod_nonneg _ (by omega)) (Int.emod_lt_of_pos _ h1) hx'⟩
  exact go 4 0 1 z M (by omega) hM (Bx.refl ⟨x,y,z,hM⟩)
noncomputable def ik (T:List FD) (n f:Nat):Prop := ∀ {b:Addr} {m:Int} {M:Mem} {Q:QD},Box b M -> 0 < m -> m <= 2 ^ 100 -> (∀ r M',0 <= r -> r < m -> Bx b M M' -> Q (.int r) M') -> phi T n f [.ref b, .int m] M Q
noncomputable def ei (s:Stmt) (ft:Nat):FD:=⟨"_law_number",s,["_law_box_here", "_law_way"],1,
 (.cons (.asg (.name 1) (.call ft (.cons (.var 0) (.cons (.int 9) .nil))))
 (.cons (.ite (.cmp .eq (.var 1) (.int 0)) (.cons (.ret (.bin .sub (.call ft (.cons (.var 0) (.cons (.int 2001) .nil))) (.int 1000)))
 .nil) .nil)
 (.cons (.ret (.ix (.lst (.cons (.int 0) (.cons (.int 0) (.cons (.int 0) (.cons (.int 1) (.cons (.int 1) (.cons (.int 1) (.cons (.neg (.int 1)) (.cons (.neg (.int 1)) (.cons (.int 2) .nil)))))))))) (.var 1)))
 .nil)))⟩
theorem m6 {f ft:Nat} {s:Stmt} (hf:T[f]? = some (ei s ft)) {n:Nat} (hft:ik T (n - 1) ft) (hn : 1 <= n) {b:Addr} {M:Mem} {Q:QD} (hb:Box b M)
 (q:∀ r M', -1000 <= r -> r <= 1000 -> Bx b M M' -> Q (.int r) M'):phi T n f [.ref b] M Q:=by
 refine aA (by omega) hf rfl (ρ := [some _,none]) rfl ?_
 unfold ei
 walk_at "st"
 refine hft hb (by decide) (by decide) fun r M1 h0 h1 x1 => ?_
 walk_at "st"
 split
 ·walk_at "st"
  refine hft x1.box (by decide) (by decide) fun r2 M2 h0 h1 x2 => ?_
  walk_at "wp"
  exact q _ _ (by omega) (by omega) (x1.trans x2)
 ·next hr =>
  walk_at "st"
  refine ⟨by rw [sizeLine_eq];first | decide | omega,fun p hp => ?_⟩
  have hr:r = 1 ∨ r = 2 ∨ r = 3 ∨ r = 4 ∨ r = 5 ∨ r = 6 ∨ r = 7 ∨ r = 8:=by
   have:r ≠ 0:=fun z=>hr (by rw [z];rfl)
   omega
  have x3:=x1.ge (Ge.new (o := .lst [.int 0, .int 0, .int 0, .int 1, .int 1, .int 1, .int (-1), .int (-1), .int 2]) hp)
  rcases hr with rfl | rfl | rfl | rfl | rfl | rfl | rfl | rfl <;> exact aX ad rfl (q _ _ (by decide) (by decide) x3)
end
section
variable {T:List FD}
noncomputable def il (T:List FD) (n f:Nat):Prop := ∀ {b:Addr} {M:Mem} {Q:QD},Box b M -> (∀ r M', -1000 <= r -> r <= 1000 -> Bx b M M' -> Q (.int r) M') -> phi T n f [.ref b] M Q
noncomputable def bE (ns:List Int):Prop := ∀ x ∈ ns, -1000 <= x /\ x <= 1000
theorem bZ {lo:Int} {n:Nat}:(bC lo n).length = n:=by simp [bC]
theorem bb {α:Type} {xs l r:List α} {x : α} (e:xs = l ++ x :: r):l.length < xs.length:=by rw [e];simp
noncomputable def im (s:Stmt) (fn:Nat):FD:=⟨"_law_part",s,["_law_box_here", "_law_length"],2,
 (.cons (.ret (.blt .tuple (.cons (.comp [none,(some 0)] ["_law_k", "_law_box_here"] (.last (.rng1 (.var 1)) (.name 0) .nil (.call fn (.cons (.var 1) .nil)))) .nil)))
 .nil)⟩
theorem qu {f fn:Nat} {s:Stmt} (hf:T[f]? = some (im s fn)) {n:Nat} (hfn:il T (n - 1) fn) (hn : 1 <= n) {b:Addr} {L:Nat} (hL:L <= 1000) {M:Mem} {Q:QD} (hb:Box b M)
 (q:∀ (ns:List Int) M',ns.length = L -> bE ns -> Bx b M M' -> Q (.tup (ns.map .int)) M'):phi T n f [.ref b, .int L] M Q:=by
 refine aA (by omega) hf rfl (ρ := [some _,some _]) rfl ?_
 unfold im
 walk_at "st"
 refine ⟨by omega,by omega, ?_⟩
 refine m5 (I:=fun l ρ M' acc => ∃ (ns:List Int) (x:Option D),acc = ns.map .int /\ ns.length = l.length /\ bE ns /\ Bx b M M' /\ ρ = [x,some (.ref b)]) ⟨[],none,rfl,rfl,fun _ h=>by simp at h,Bx.refl hb,rfl⟩ (fun _ _ _ _ _=>trivial) ?_ ?_
 ·rintro l x r ρ M1 acc e ⟨ns,o,rfl,hl,hs,x1,rfl⟩
  refine ⟨_,rfl,fun N' hN => ?_⟩
  walk_at "wp"
  refine hfn x1.box fun v M2 h1 h2 x2 => ?_
  have:=bb e
  rw [bZ] at this
  refine ⟨by rw [List.length_map,hl,sizeLine_eq];omega,hN _ _ _ ⟨ns ++ [v],_,by simp,by simp [hl], ?_,x1.trans x2,rfl⟩⟩
  intro y hy
  rcases List.mem_append.mp hy with h | h
  ·exact hs y h
  ·simp at h;subst h;exact ⟨h1,h2⟩
 ·rintro ρ M1 acc ⟨ns,o,rfl,hl,hs,x1,rfl⟩ p hp
  rw [bZ] at hl
  refine ⟨_,ns.map .int,rfl,ay ad,q ns _ (by omega) hs (x1.ge (Ge.new hp))⟩
noncomputable abbrev Pr:=List Int × List Int × List Int
noncomputable def prD (p:Pr):D := .tup [.tup (p.1.map .int), .tup (p.2.1.map .int), .tup (p.2.2.map .int)]
noncomputable def cm (p:Pr):PyData := .tuple [.tuple (p.1.map .int), .tuple (p.2.1.map .int), .tuple (p.2.2.map .int)]
structure cy (L0 L1 L2:Nat) (p:Pr):Prop where
 l0:p.1.length = L0
 l1:p.2.1.length = L1
 l2:p.2.2.length = L2
 s0:bE p.1
 s1:bE p.2.1
 s2:bE p.2.2
theorem j7 {k:Nat} {M:Mem}:∀ ns:List Int,aw (rb k M) (ns.map D.int) = some (ns.map PyData.int)
 | [] => rfl
 | x :: r=>by
   have e:rb k M (.int x) = some (.int x):=by cases k <;> rfl
   simp [aw,e,j7 r]
theorem tI {k:Nat} {M:Mem} (p:Pr):rb (k + 2) M (prD p) = some (cm p):=by
 simp [rb,prD,cm,aw,j7]
theorem io {k:Nat} {M:Mem}:∀ ps:List Pr,aw (rb (k + 2) M) (ps.map prD) = some (ps.map cm)
 | [] => rfl
 | p :: r=>by simp [aw,tI,io r]
theorem ip {k:Nat} {M:Mem} {a:Addr} {ds:List D} (h:M a = some (.lst ds)):rb (k + 1) M (.ref a) = (aw (rb k M) ds).map PyData.list:=by
 simp only [rb,h]
theorem iq {Φ:Phi} {s:MS} {r:MSs} {E:bj} {ρ:ai} {M:Mem} (I:ai -> Mem -> Prop) (h1:∀ R:ai -> Mem -> Prop,(∀ ρ M,I ρ M -> R ρ M) -> wS Φ s { E with nx:=R } ρ M) (h2:∀ ρ M,I ρ M -> wSs Φ r E ρ M):wSs Φ (.cons s r) E ρ M:=by
 rw [cP];exact h1 _ h2
theorem Bx.upd {b q:Addr} {M M':Mem} {o:O} (h:Bx b M M') (hq:M q = none) (hqb:q ≠ b):Bx b M (ag M' q o) :=
 ⟨by obtain ⟨x,y,z,e⟩:=h.box;exact ⟨x,y,z,by rw [ao hqb.symm];exact e⟩,fun u o' nu eu=>by
   rw [ao (fun z=>by rw [z,hq] at eu;cases eu)];exact h.keep u o' nu eu⟩
theorem Bx.none {b q:Addr} {M M':Mem} (h:Bx b M M') (hq:M' q = none) (hqb:q ≠ b):M q = none:=by
 cases e:M q with
 | none=>rfl
 | some o=>rw [h.keep q o hqb e] at hq;cases hq
noncomputable def prL (p:Pr):List D := [.tup (p.1.map .int), .tup (p.2.1.map .int), .tup (p.2.2.map .int)]
theorem dk {k:Nat}:bE (List.replicate k 0):=fun x h=>by
 rw [(List.mem_replicate.mp h).2];decide
theorem oh {k:Nat}:(List.replicate k [D.int 0]).flatten = (List.replicate k (0:Int)).map D.int:=by
 induction k with
 | zero=>rfl
 | succ k ih=>rw [List.replicate_succ,List.flatten_cons,ih];rfl
noncomputable def m7 (T:List FD) (n f:Nat):Prop := ∀ {b:Addr} {L:Nat} {M:Mem} {Q:QD},L <= 1000 -> Box b M -> (∀ (ns:List Int) M',ns.length = L -> bE ns -> Bx b M M' -> Q (.tup (ns.map .int)) M') -> phi T n f [.ref b, .int L] M Q
end
section
theorem bQ {α:Type} {f : α -> D} {b:BT} {tb:TCd} {chk:Mem -> Prop} {N:NC} (I:List α -> ai -> Mem -> List D -> Prop) {ys:List α} {xs:List D} (hx:xs = ys.map f) {ρ:ai} {M:Mem} {acc:List D}
 (h0:I [] ρ M acc)
 (hc:∀ l ρ M acc,I l ρ M acc -> chk M)
 (hs:∀ l x r ρ M acc,ys = l ++ x :: r -> I l ρ M acc -> ∃ ρ',b (f x) ρ = some ρ' /\ ∀ N':NC,(∀ ρ2 M2 acc2,I (l ++ [x]) ρ2 M2 acc2 -> N' ρ2 M2 acc2) -> tb ρ' M acc N')
 (hN:∀ ρ M acc,I ys ρ M acc -> N ρ M acc):bn b tb chk N xs ρ M acc:=by
 subst hx
 have g:∀ (r l:List α) (ρ:ai) (M:Mem) (acc:List D),ys = l ++ r -> I l ρ M acc -> bn b tb chk N (r.map f) ρ M acc:=by
  intro r
  induction r with
  | nil=>intro l ρ M acc e i;rw [List.append_nil] at e;subst e;exact ⟨hc _ _ _ _ i,hN _ _ _ i⟩
  | cons x r ih =>
    intro l ρ M acc e i
    obtain ⟨ρ',e1,h⟩:=hs l x r ρ M acc e i
    exact ⟨hc _ _ _ _ i, ρ',e1,h _ fun ρ2 M2 acc2 i2=>ih (l ++ [x]) ρ2 M2 acc2 (by rw [e];simp) i2⟩
 exact g ys [] ρ M acc rfl h0
theorem ej {α:Type} {f : α -> D} {b:BT} {tb:TSd} {chk:Mem -> Prop} {E:bj} (I:List α -> ai -> Mem -> Prop) {ys:List α} {xs:List D} (hx:xs = ys.map f) {ρ:ai} {M:Mem}
 (h0:I [] ρ M)
 (hc:∀ l ρ M,I l ρ M -> chk M)
 (hs:∀ l x r ρ M,ys = l ++ x :: r -> I l ρ M -> ∃ ρ',b (f x) ρ = some ρ' /\ ∀ F:ai -> Mem -> Prop,(∀ ρ2 M2,I (l ++ [x]) ρ2 M2 -> F ρ2 M2) -> tb { E with nx:=F,ct:=F,bk:=E.nx } ρ' M)
 (hN:∀ ρ M,I ys ρ M -> E.nx ρ M):ba b tb chk E xs ρ M:=by
 subst hx
 have g:∀ (r l:List α) (ρ:ai) (M:Mem),ys = l ++ r -> I l ρ M -> ba b tb chk E (r.map f) ρ M:=by
  intro r
  induction r with
  | nil=>intro l ρ M e i;rw [List.append_nil] at e;subst e;exact ⟨hc _ _ _ i,hN _ _ i⟩
  | cons x r ih =>
    intro l ρ M e i
    obtain ⟨ρ',e1,h⟩:=hs l x r ρ M e i
    exact ⟨hc _ _ _ i, ρ',e1,h _ fun ρ2 M2 i2=>ih (l ++ [x]) ρ2 M2 (by rw [e];simp) i2⟩
 exact g ys [] ρ M rfl h0
theorem fb {n:Nat}:bC 0 n = (List.range n).map fun i=>D.int (i:Nat):=by simp [bC]
end
section
variable {T:List FD}
end
section
variable {T:List FD}
end
section
variable {T:List FD}
noncomputable def dl (x:Str) (s:Stmt) (ft fp:Nat):FD:=⟨"_law_scheme",s,["_law_box_here",x, "_law_count", "_law_products", "_law_k", "_law_product", "_law_way", "_law_side"],3,
 (.cons (.asg (.name 3) (.lst .nil))
 (.cons (.for (.name 4) (.rng1 (.var 2)) (.cons (.asg (.name 5) (.comp [none,(some 0)] ["_law_length", "_law_box_here"] (.last (.seq (.var 1)) (.name 0) .nil (.call fp (.cons (.var 1) (.cons (.var 0) .nil))))))
 (.cons (.asg (.name 6) (.call ft (.cons (.var 0) (.cons (.int 8) .nil))))
 (.cons (.ite (.and (.cons (.cmp .lt (.var 6) (.int 3)) (.cons (.cmp .ne (.var 3) (.lst .nil)) .nil))) (.cons (.put (.var 5) (.var 6) (.ix (.ix (.var 3) (.call ft (.cons (.var 0) (.cons (.blt .len (.cons (.var 3) .nil)) .nil)))) (.var 6)))
 .nil) .nil)
 (.cons (.ite (.cmp .eq (.var 6) (.int 3)) (.cons (.asg (.name 7) (.call ft (.cons (.var 0) (.cons (.int 3) .nil))))
 (.cons (.put (.var 5) (.var 7) (.bin .mul (.tup (.cons (.int 0) .nil)) (.ix (.var 1) (.var 7))))
 .nil)) .nil)
 (.cons (.drop (.meth .append (.var 3) (.blt .tuple (.cons (.var 5) .nil))))
 .nil))))))
 (.cons (.ret (.bin .add (.blt .tuple (.cons (.var 1) .nil)) (.tup (.cons (.var 3) .nil))))
 .nil)))⟩
theorem ka {x:Str} {f ft fp:Nat} {s:Stmt} (hf:T[f]? = some (dl x s ft fp)) {n:Nat} (hft:ik T (n - 1) ft) (hfp:m7 T (n - 1) fp) (hn : 1 <= n) {b a:Addr} {L0 L1 L2 c:Nat} (h0:L0 <= 1000) (h1:L1 <= 1000) (h2:L2 <= 1000) (hc:c <= 1000) {M:Mem} {Q:QD} (hb:Box b M) (hab:a ≠ b) (ha:M a = some (.lst [.int L0, .int L1, .int L2]))
 (q:∀ (ps:List Pr) pr M',ps.length = c -> (∀ p ∈ ps,cy L0 L1 L2 p) -> Bx b M M' -> M pr = none -> M' pr = some (.lst (ps.map prD)) -> Q (.tup [.int L0, .int L1, .int L2, .ref pr]) M'):phi T n f [.ref b, .ref a, .int c] M Q:=by
 refine aA (by omega) hf rfl (ρ := [some _,some _,some _,none,none,none,none,none]) rfl ?_
 unfold dl
 walk_at "st"
 refine ⟨by omega,fun pr hpr => ?_⟩
 have hpb:pr ≠ b:=fun z=>by obtain ⟨x,y,w,e⟩:=hb;rw [<- z,hpr] at e;cases e
 have hpa:pr ≠ a:=fun z=>by rw [<- z,hpr] at ha;cases ha
 walk_at "st"
 refine ⟨by omega,by omega, ?_⟩
 refine og (I:=fun l ρ M' => ∃ (ps:List Pr) (o4 o5 o6 o7:Option D), ρ = [some (.ref b),some (.ref a),some (.int c),some (.ref pr),o4,o5,o6,o7] /\ ps.length = l.length /\ (∀ p ∈ ps,cy L0 L1 L2 p) /\ Bx b M M' /\ M' pr = some (.lst (ps.map prD)))
  ⟨[],none,none,none,none,rfl,rfl,fun _ h=>by simp at h,Bx.of hb (Ge.new hpr),ad⟩ (fun _ _ _ _=>trivial) ?_ ?_
 ·rintro l x r ρ M1 e ⟨ps,o4,o5,o6,o7,rfl,hl,hp,x1,hps⟩
  have hlc:=bb e
  rw [bZ] at hlc
  refine ⟨_,rfl,fun F hF => ?_⟩
  walk_at "wp"
  have ha1:=x1.keep a _ hab ha
  rw [cP];walk_at "wp"
  refine ⟨_,ay ha1, ?_⟩
  simp only [bn]
  refine ⟨ay ha1,_,rfl, ?_⟩
  walk_at "wp"
  refine hfp h0 x1.box fun n0 M2 l0 s0 x2 => ?_
  have ha2:=x2.keep a _ hab ha1
  refine ⟨by simp [sizeLine_eq],ay ha2, ?_⟩
  refine hfp h1 x2.box fun n1 M3 l1 s1 x3 => ?_
  have ha3:=x3.keep a _ hab ha2
  refine ⟨by simp [sizeLine_eq],ay ha3, ?_⟩
  refine hfp h2 x3.box fun n2 M4 l2 s2 x4 => ?_
  have ha4:=x4.keep a _ hab ha3
  refine ⟨by simp [sizeLine_eq],ay ha4,fun pq hpq => ?_⟩
  have hps4:=x4.keep pr _ hpb (x3.keep pr _ hpb (x2.keep pr _ hpb hps))
  have x5:=((x1.trans x2).trans (x3.trans x4)).ge (Ge.new (o := .lst ([] ++ [D.tup (List.map D.int n0)] ++ [D.tup (List.map D.int n1)] ++ [D.tup (List.map D.int n2)])) hpq)
  have hqb:pq ≠ b:=fun z=>by obtain ⟨x,y,w,e⟩:=x4.box;rw [<- z,hpq] at e;cases e
  have hpqM:M pq = none:=((x1.trans x2).trans (x3.trans x4)).none hpq hqb
  have hqp:pr ≠ pq:=fun z=>by rw [z,hpq] at hps4;cases hps4
  have hqa:a ≠ pq:=fun z=>by rw [z,hpq] at ha4;cases ha4
  have hps5:ag M4 pq (.lst ([] ++ [D.tup (List.map D.int n0)] ++ [D.tup (List.map D.int n1)] ++ [D.tup (List.map D.int n2)])) pr = some (.lst (ps.map prD)):=by rw [ao hqp];exact hps4
  have hq5:ag M4 pq (.lst ([] ++ [D.tup (List.map D.int n0)] ++ [D.tup (List.map D.int n1)] ++ [D.tup (List.map D.int n2)])) pq = some (.lst (prL (n0,n1,n2))):=ad
  have hok:cy L0 L1 L2 (n0,n1,n2):=⟨l0,l1,l2,s0,s1,s2⟩
  generalize ag M4 pq (.lst ([] ++ [D.tup (List.map D.int n0)] ++ [D.tup (List.map D.int n1)] ++ [D.tup (List.map D.int n2)])) = M5 at x5 hps5 hq5
  generalize hP:(n0,n1,n2) = p0 at hok hq5
  clear hpq hps4 x4 ha4 x3 ha3 x2 ha2 hP
  walk_at "st"
  refine hft x5.box (by decide) (by decide) fun way M6 w0 w1 x6 => ?_
  have hps6:=x6.keep pr _ hpb hps5
  have hq6:=x6.keep pq _ hqb hq5
  have x16:=x5.trans x6
  refine iq (I:=fun ρ' M' => ρ' = [some (.ref b),some (.ref a),some (.int c),some (.ref pr),some x,some (.ref pq),some (.int way),o7] /\ ∃ p:Pr,cy L0 L1 L2 p /\ Bx b M M' /\ M' pr = some (.lst (ps.map prD)) /\ M' pq = some (.lst (prL p))) (fun R hR => ?_) ?_
  ·walk_at "wp"
   split
   ·next hw =>
    refine ⟨by omega,fun pe hpe => ?_⟩
    have g:=Ge.new (o := .lst []) hpe
    refine ⟨_,_,ip (g _ _ hps6) |>.trans (by rw [io];rfl),ip ad, ?_⟩
    walk_at "wp"
    have x7:=x16.ge g
    have hps7:=g _ _ hps6
    have hq7:=g _ _ hq6
    split
    ·next hne =>
     have hpos : 0 < ps.length:=by
      cases ps with
      | nil=>simp [PyData.eqv,PyData.eqvAll] at hne
      | cons p r=>simp
     walk_at "st"
     refine qo hps7 ?_
     refine hft x7.box (by rw [List.length_map];omega) (by rw [List.length_map];omega) fun r M8 r0 r1 x8 => ?_
     have hps8:=x8.keep pr _ hpb hps7
     have hq8:=x8.keep pq _ hqb hq7
     obtain ⟨d,e1,e2⟩:=eh r0 r1
     refine aX hps8 e1 ?_
     rw [List.getElem?_map] at e2
     cases e3:ps[r.toNat]? with
     | none=>rw [e3] at e2;cases e2
     | some pp =>
       rw [e3] at e2;cases e2
       have ho:=hp pp (List.mem_of_getElem? e3)
       have hw3:way = 0 ∨ way = 1 ∨ way = 2:=by omega
       have x9:=x7.trans x8
       rcases hw3 with rfl | rfl | rfl
       ·refine ⟨_,_,rfl,rfl,bg hq8 (j := 0) rfl ?_⟩
        exact hR _ _ ⟨rfl,(pp.1,p0.2.1,p0.2.2),⟨ho.l0,hok.l1,hok.l2,ho.s0,hok.s1,hok.s2⟩,x9.upd hpqM hqb,by rw [ao hqp];exact hps8,ad⟩
       ·refine ⟨_,_,rfl,rfl,bg hq8 (j := 1) rfl ?_⟩
        exact hR _ _ ⟨rfl,(p0.1,pp.2.1,p0.2.2),⟨hok.l0,ho.l1,hok.l2,hok.s0,ho.s1,hok.s2⟩,x9.upd hpqM hqb,by rw [ao hqp];exact hps8,ad⟩
       ·refine ⟨_,_,rfl,rfl,bg hq8 (j := 2) rfl ?_⟩
        exact hR _ _ ⟨rfl,(p0.1,p0.2.1,pp.2.2),⟨hok.l0,hok.l1,ho.l2,hok.s0,hok.s1,ho.s2⟩,x9.upd hpqM hqb,by rw [ao hqp];exact hps8,ad⟩
    ·exact hR _ _ ⟨rfl,p0,hok,x7,hps7,hq7⟩
   ·exact hR _ _ ⟨rfl,p0,hok,x16,hps6,hq6⟩
  ·rintro ρ M7 ⟨rfl,p,hpo,x7,hps7,hq7⟩
   refine iq (I:=fun ρ' M' => ∃ (o7:Option D), ρ' = [some (.ref b),some (.ref a),some (.int c),some (.ref pr),some x,some (.ref pq),some (.int way),o7] /\ ∃ p:Pr,cy L0 L1 L2 p /\ Bx b M M' /\ M' pr = some (.lst (ps.map prD)) /\ M' pq = some (.lst (prL p))) (fun R hR => ?_) ?_
   ·walk_at "wp"
    split
    ·walk_at "st"
     refine hft x7.box (by decide) (by decide) fun side M8 d0 d1 x8 => ?_
     have hps8:=x8.keep pr _ hpb hps7
     have hq8:=x8.keep pq _ hqb hq7
     have x9:=x7.trans x8
     have ha8:=x9.keep a _ hab ha
     walk_at "st"
     refine ⟨by rw [sizeLine_eq];first | decide | omega, ?_⟩
     have hs3:side = 0 ∨ side = 1 ∨ side = 2:=by omega
     rcases hs3 with rfl | rfl | rfl
     ·refine aX ha8 (d := .int L0) rfl ?_
      walk_at "wp"
      refine ⟨by omega,by omega,by rw [sizeLine_eq];first | decide | omega,bg hq8 (j := 0) rfl ?_⟩
      rw [oh]
      exact hR _ _ ⟨_,rfl,(List.replicate (L0:Int).toNat 0,p.2.1,p.2.2),⟨by simp,hpo.l1,hpo.l2,dk,hpo.s1,hpo.s2⟩,x9.upd hpqM hqb,by rw [ao hqp];exact hps8,ad⟩
     ·refine aX ha8 (d := .int L1) rfl ?_
      walk_at "wp"
      refine ⟨by omega,by omega,by rw [sizeLine_eq];first | decide | omega,bg hq8 (j := 1) rfl ?_⟩
      rw [oh]
      exact hR _ _ ⟨_,rfl,(p.1,List.replicate (L1:Int).toNat 0,p.2.2),⟨hpo.l0,by simp,hpo.l2,hpo.s0,dk,hpo.s2⟩,x9.upd hpqM hqb,by rw [ao hqp];exact hps8,ad⟩
     ·refine aX ha8 (d := .int L2) rfl ?_
      walk_at "wp"
      refine ⟨by omega,by omega,by rw [sizeLine_eq];first | decide | omega,bg hq8 (j := 2) rfl ?_⟩
      rw [oh]
      exact hR _ _ ⟨_,rfl,(p.1,p.2.1,List.replicate (L2:Int).toNat 0),⟨hpo.l0,hpo.l1,by simp,hpo.s0,hpo.s1,dk⟩,x9.upd hpqM hqb,by rw [ao hqp];exact hps8,ad⟩
    ·exact hR _ _ ⟨_,rfl,p,hpo,x7,hps7,hq7⟩
   ·rintro ρ M9 ⟨o7',rfl,p,hpo,x9,hps9,hq9⟩
    walk_at "st"
    refine ⟨⟨_,hps9⟩,_,_,rfl,ay hq9,_,_,_,rfl,rfl,hps9,by rw [List.length_map,sizeLine_eq];omega, ?_⟩
    walk_at "wp"
    exact hF _ _ ⟨ps ++ [p],_,_,_,_,rfl,by simp [hl],fun p' hp'=>(List.mem_append.mp hp').elim (hp p') fun z=>by simp at z;subst z;exact hpo,x9.upd hpr hpb,by rw [ad];simp [prD,prL]⟩
 ·rintro ρ M1 ⟨ps,o4,o5,o6,o7,rfl,hl,hp,x1,hps⟩
  have ha1:=x1.keep a _ hab ha
  dsimp only
  walk_at "st"
  refine ⟨_,_,rfl,ay ha1,by rw [sizeLine_eq];first | decide | omega, ?_⟩
  walk_at "wp"
  rw [bZ] at hl
  exact ⟨by simp,by rw [sizeLine_eq];first | decide | omega,q ps pr M1 (by omega) hp x1 hpr hps⟩
end
section
noncomputable def tx (i:Int):Str:=Str.ofString (toString i)
theorem aQ {i:Int} (h:i.natAbs < 10 ^ 4):(tx i).length <= 5:=by
 have e:=int_text_length_le10 (k := 4) (by decide) h
 unfold tx
 rw [PySem.ofString_length];omega
theorem bu {i:Int} (h:i.natAbs < 10 ^ 4):i.natAbs.log2 < 1920:=by
 by_cases z:i.natAbs = 0
 ·rw [z];decide
 ·exact (Nat.log2_lt z).mpr (Nat.lt_of_lt_of_le (Nat.lt_of_lt_of_le h (show 10 ^ 4 <= 2 ^ 14 by decide)) (Nat.pow_le_pow_right (by decide) (by decide)))
theorem fe (a b:String):Str.ofString (a ++ b) = Str.ofString a ++ Str.ofString b:=by
 apply Str.ext'
 show (cpsOfBytes 0 0 (a ++ b).toByteArray.data.toList).toArray = (cpsOfBytes 0 0 a.toByteArray.data.toList).toArray ++ (cpsOfBytes 0 0 b.toByteArray.data.toList).toArray
 rw [cpsOfBytes_string,cpsOfBytes_string,cpsOfBytes_string,String.toList_append,List.map_append]
 simp
theorem sr {i:Int} (h:i < 0):Str.ofString "-" ++ tx (-i) = tx i:=by
 cases i with
 | ofNat m=>exact absurd h (by simp)
 | negSucc m=>exact (fe "-" (Nat.repr (m + 1))).symm
theorem ak (a:String):PyData.strOk (Str.ofString a) = true:=by
 unfold PyData.strOk
 show (cpsOfBytes 0 0 a.toByteArray.data.toList).toArray.all _ = true
 rw [cpsOfBytes_string]
 simp only [List.all_toArray,List.all_map,List.all_eq_true]
 intro c _
 have h:=c.valid
 simp only [UInt32.isValidChar,Nat.isValidChar] at h
 simp only [Function.comp,decide_eq_true_eq,Char.toNat]
 omega
theorem az {a b:Str} (ha:PyData.strOk a = true) (hb:PyData.strOk b = true):PyData.strOk (a ++ b) = true:=by
 unfold PyData.strOk at *
 rw [Str.cps_append,Array.all_append,ha,hb];rfl
theorem fB {s:Str} (hs:PyData.strOk s = true):∀ {ts:List Str},(∀ t ∈ ts,PyData.strOk t = true) -> PyData.strOk (Str.join s ts) = true
 | [],_=>by simp [Str.join,PyData.strOk,Str.empty]
 | [x],h=>h x (by simp)
 | x :: y :: r,h=>az (az (h x (by simp)) hs) (fB hs fun t ht=>h t (List.mem_cons_of_mem _ ht))
theorem ir {s:Str} {B:Nat}:∀ {ts:List Str},(∀ t ∈ ts,t.length <= B) -> (Str.join s ts).length <= ts.length * (B + s.length)
 | [],_=>by simp [Str.join,Str.empty,Str.length]
 | [x],h=>by have:=h x (by simp);simp only [Str.join,List.length_cons,List.length_nil];omega
 | x :: y :: r,h=>by
   have h1:=h x (by simp)
   have h2:=ir (s:=s) (ts:=y :: r) fun t ht=>h t (List.mem_cons_of_mem _ ht)
   show (x ++ s ++ Str.join s (y :: r)).length <= _
   rw [Str.length_append,Str.length_append,List.length_cons,Nat.succ_mul]
   omega
theorem dE {B:Nat}:∀ {ts:List Str},(∀ t ∈ ts,t.length <= B) -> (ts.map (·.length)).sum <= ts.length * B
 | [],_=>by simp
 | x :: r,h=>by
   have h1:=h x (by simp)
   have h2:=dE (ts:=r) fun t ht=>h t (List.mem_cons_of_mem _ ht)
   rw [List.map_cons,List.sum_cons,List.length_cons,Nat.succ_mul]
   omega
noncomputable def fl (ns:List Int):List (Int × Nat):=ns.zipIdx.filter fun p=>p.1 != 0
noncomputable def bp (p:Int × Nat):Str:=tx p.1 ++ Str.ofString ":" ++ tx (p.2:Nat)
noncomputable def bh (ns:List Int):Str:=if (fl ns).isEmpty = true then Str.ofString "-" else Str.join (Str.ofString " ") ((fl ns).map bp)
noncomputable def bK (p:Pr):Str:=bh p.1 ++ Str.ofString " * " ++ bh p.2.1 ++ Str.ofString " > " ++ bh p.2.2
noncomputable def aK (a b c:Nat):Str:=Str.ofString "scheme " ++ tx a ++ Str.ofString " " ++ tx b ++ Str.ofString " " ++ tx c
theorem oi (a b c:Nat):Str.ofString "scheme " ++ Str.join (Str.ofString " ") [tx a,tx b,tx c] = aK a b c:=by
 unfold aK
 simp only [Str.join,Str.append_assoc]
theorem ff (ns:List Int):(fl ns).length <= ns.length:=Nat.le_trans (List.length_filter_le _ _) (by simp)
theorem m8 {ns:List Int} {p:Int × Nat} (h:p ∈ fl ns):p.1 ∈ ns /\ p.2 < ns.length:=by
 have h1:=List.mem_zipIdx_iff_getElem?.mp (List.mem_filter.mp h).1
 exact ⟨List.mem_of_getElem? h1,(List.getElem?_eq_some_iff.mp h1).1⟩
theorem cQ {ns:List Int} (hs:bE ns) (hl:ns.length <= 1000) {p:Int × Nat} (h:p ∈ fl ns):(bp p).length <= 11:=by
 obtain ⟨h1,h2⟩:=m8 h
 have:=hs _ h1
 have a:=aQ (i:=p.1) (by omega)
 have b:=aQ (i:=(p.2:Int)) (by omega)
 have c:(Str.ofString ":").length = 1:=by rw [PySem.ofString_length];rfl
 unfold bp
 rw [Str.length_append,Str.length_append];omega
theorem bc {ns:List Int} (hs:bE ns) (hl:ns.length <= 1000):(bh ns).length <= 12000:=by
 unfold bh
 split
 ·rw [PySem.ofString_length];decide
 ·have h:=ir (s:=Str.ofString " ") (B := 11) (ts:=(fl ns).map bp) (by
   intro t ht
   obtain ⟨p,hp,rfl⟩:=List.mem_map.mp ht
   exact cQ hs hl hp)
  have c:(Str.ofString " ").length = 1:=by rw [PySem.ofString_length];rfl
  have:=ff ns
  rw [c,List.length_map] at h
  omega
theorem fC {ns:List Int}:PyData.strOk (bh ns) = true:=by
 unfold bh
 split
 ·exact ak _
 ·refine fB (ak _) fun t ht => ?_
  obtain ⟨p,hp,rfl⟩:=List.mem_map.mp ht
  exact az (az (ak _) (ak _)) (ak _)
theorem oj {L0 L1 L2:Nat} {p:Pr} (h:cy L0 L1 L2 p) (h0:L0 <= 1000) (h1:L1 <= 1000) (h2:L2 <= 1000):(bK p).length <= 36006:=by
 have a:=bc h.s0 (by rw [h.l0];exact h0)
 have b:=bc h.s1 (by rw [h.l1];exact h1)
 have c:=bc h.s2 (by rw [h.l2];exact h2)
 have d:(Str.ofString " * ").length = 3:=by rw [PySem.ofString_length];rfl
 have e:(Str.ofString " > ").length = 3:=by rw [PySem.ofString_length];rfl
 unfold bK
 simp only [Str.length_append];omega
theorem qv {p:Pr}:PyData.strOk (bK p) = true:=az (az (az (az fC (ak _)) fC) (ak _)) fC
theorem ol {a b c:Nat}:PyData.strOk (aK a b c) = true:=az (az (az (az (az (ak _) (ak _)) (ak _)) (ak _)) (ak _)) (ak _)
theorem iu (ns:List Int):cM (ns.map .int) = ns.zipIdx.map fun p => .tup [.int (p.2:Nat), .int p.1]:=by
 unfold cM
 apply List.ext_getElem?
 intro i
 rw [List.getElem?_mapIdx,List.getElem?_map,List.getElem?_map,List.getElem?_zipIdx]
 cases ns[i]? <;> simp
end
section
namespace K52
noncomputable def ae (i:Nat):Stmt:=PySem.Challenge.pw_fewtimes_k52_schemes_written.main.body.getD i (.Pass ⟨0,0,0,0⟩)
noncomputable def b0:MSs :=
 (.cons (.ret (.comp [none,none] ["at", "x"] (.last (.enum (.var 0)) (.tup (.cons (.name 0) (.cons (.name 1) .nil))) (.cons (.cmp .ne (.var 1) (.int 0)) .nil) (.tup (.cons (.var 0) (.cons (.var 1) .nil))))))
 .nil)
noncomputable def d0:FD:=⟨"filled",ae 1,["part"],1,b0⟩
noncomputable def b1:MSs :=
 (.cons (.par 1 2 (.blt .abs (.cons (.var 0) .nil)) (.lst .nil))
 (.cons (.while (.cmp .ge (.var 1) (.bin .pow (.int 10) (.int 50))) (.cons .bot (.cons .bot .nil)))
 (.cons (.drop (.meth .append (.var 2) (.blt .str (.cons (.var 1) .nil))))
 (.cons (.ret (.bin .add (.ite (.cmp .lt (.var 0) (.int 0)) (.str (PySem.Str.ofString "-")) (.str (PySem.Str.ofString ""))) (.join (.str (PySem.Str.ofString "")) (.revS (.var 2) (.neg (.int 1))))))
 .nil))))
noncomputable def d1:FD:=⟨"number_text",ae 3,["number", "rest", "words", "last"],1,b1⟩
noncomputable def b2:MSs :=
 (.cons (.ret (.ite (.tru (.blt .any (.cons (.var 0) .nil))) (.join (.str (PySem.Str.ofString " ")) (.comp [none,none] ["at", "c"] (.last (.seq (.call 0 (.cons (.var 0) .nil))) (.tup (.cons (.name 0) (.cons (.name 1) .nil))) .nil (.fstr (.cons (.fmt (.call 1 (.cons (.var 1) .nil))) (.cons (.str (PySem.Str.ofString ":")) (.cons (.fmt (.var 0)) .nil))))))) (.str (PySem.Str.ofString "-"))))
 .nil)
noncomputable def d2:FD:=⟨"sum_text",ae 4,["part"],1,b2⟩
noncomputable def b3:MSs :=
 (.cons (.asg (.tup (.cons (.name 1) (.cons (.name 2) (.cons (.name 3) (.cons (.name 4) .nil))))) (.var 0))
 (.cons (.asg (.name 5) (.lst (.cons (.fstr (.cons (.str (PySem.Str.ofString "scheme ")) (.cons (.fmt (.var 1)) (.cons (.str (PySem.Str.ofString " ")) (.cons (.fmt (.var 2)) (.cons (.str (PySem.Str.ofString " ")) (.cons (.fmt (.var 3)) .nil))))))) .nil)))
 (.cons (.aug 5 .ext (.comp [none,none,none] ["l", "r", "o"] (.last (.seq (.var 4)) (.tup (.cons (.name 0) (.cons (.name 1) (.cons (.name 2) .nil)))) .nil (.fstr (.cons (.fmt (.call 2 (.cons (.var 0) .nil))) (.cons (.str (PySem.Str.ofString " * ")) (.cons (.fmt (.call 2 (.cons (.var 1) .nil))) (.cons (.str (PySem.Str.ofString " > ")) (.cons (.fmt (.call 2 (.cons (.var 2) .nil))) .nil)))))))))
 (.cons (.ret (.join (.str (PySem.Str.ofString "\n")) (.var 5)))
 .nil))))
noncomputable def d3:FD:=⟨"scheme_text",ae 5,["scheme", "left", "right", "many", "products", "rows"],1,b3⟩
noncomputable def d4:FD:=eZ (ae 7)
noncomputable def d5:FD:=fA (ae 8)
noncomputable def d6:FD:=jZ (ae 9) 4 5
noncomputable def d7:FD:=ij (ae 10) 5
noncomputable def d8:FD:=ei (ae 11) 7
noncomputable def d9:FD:=im (ae 12) 8
noncomputable def d10:FD:=dl "_law_lengths_here" (ae 13) 7 9
noncomputable def b11:MSs :=
 (.cons (.ret (.comp [none,(some 0),(some 1)] ["_law_side", "_law_box_here", "_law_most"] (.last (.rng1 (.int 3)) (.name 0) .nil (.bin .add (.int 1) (.call 7 (.cons (.var 1) (.cons (.var 2) .nil)))))))
 .nil)
noncomputable def d11:FD:=⟨"_law_lengths",ae 14,["_law_box_here", "_law_most"],2,b11⟩
noncomputable def b12:MSs :=
 (.cons (.asg (.name 1) (.ix (.lst (.cons (.int 4) (.cons (.int 4) (.cons (.int 4) (.cons (.int 12) (.cons (.int 12) (.cons (.int 4) (.cons (.int 4) (.cons (.int 81) .nil))))))))) (.call 7 (.cons (.var 0) (.cons (.int 8) .nil)))))
 (.cons (.asg (.name 2) (.ix (.lst (.cons (.int 3) (.cons (.int 5) (.cons (.int 1) (.cons (.int 12) (.cons (.int 4) (.cons (.int 2) (.cons (.int 0) (.cons (.int 60) .nil))))))))) (.call 7 (.cons (.var 0) (.cons (.int 8) .nil)))))
 (.cons (.ite (.cmp .eq (.var 1) (.int 81)) (.cons (.asg (.name 2) (.blt .min2 (.cons (.var 2) (.cons (.int 5) .nil))))
 .nil) .nil)
 (.cons (.ret (.call 10 (.cons (.var 0) (.cons (.call 11 (.cons (.var 0) (.cons (.var 1) .nil))) (.cons (.var 2) .nil)))))
 .nil))))
noncomputable def d12:FD:=⟨"_law_wide",ae 15,["_law_box_here", "_law_most", "_law_count"],1,b12⟩
noncomputable def b13:MSs :=
 (.cons (.asg (.name 1) (.lst .nil))
 (.cons (.for (.tup (.cons (.name 2) (.cons (.name 3) .nil))) (.enum (.var 0)) (.cons (.ite (.cmp .ne (.var 3) (.int 0)) (.cons (.drop (.meth .append (.var 1) (.bin .add (.bin .add (.blt .str (.cons (.var 3) .nil)) (.str (PySem.Str.ofString ":"))) (.blt .str (.cons (.var 2) .nil)))))
 .nil) .nil)
 .nil))
 (.cons (.ret (.join (.str (PySem.Str.ofString " ")) (.orL (.var 1) (.lst (.cons (.str (PySem.Str.ofString "-")) .nil)))))
 .nil)))
noncomputable def d13:FD:=⟨"_law_sum",ae 16,["_law_part_here", "_law_words", "_law_place", "_law_number_here"],1,b13⟩
noncomputable def b14:MSs :=
 (.cons (.asg (.name 1) (.lst (.cons (.bin .add (.str (PySem.Str.ofString "scheme ")) (.join (.str (PySem.Str.ofString " ")) (.comp [none] ["_law_length"] (.last (.seq (.sl (.var 0) .none (.some (.int 3)))) (.name 0) .nil (.blt .str (.cons (.var 0) .nil)))))) .nil)))
 (.cons (.for (.tup (.cons (.name 2) (.cons (.name 3) (.cons (.name 4) .nil)))) (.seq (.ix (.var 0) (.int 3))) (.cons (.drop (.meth .append (.var 1) (.bin .add (.bin .add (.bin .add (.bin .add (.call 13 (.cons (.var 2) .nil)) (.str (PySem.Str.ofString " * "))) (.call 13 (.cons (.var 3) .nil))) (.str (PySem.Str.ofString " > "))) (.call 13 (.cons (.var 4) .nil)))))
 .nil))
 (.cons (.ret (.join (.str (PySem.Str.ofString "\n")) (.var 1)))
 .nil)))
noncomputable def d14:FD:=⟨"_law_text",ae 17,["_law_scheme_here", "_law_rows", "_law_l", "_law_r", "_law_o"],1,b14⟩
noncomputable def b15:MSs :=
 (.cons (.for (.name 1) (.rng1 (.blt .max2 (.cons (.int 4) (.cons (.blt .min2 (.cons (.blt .len (.cons (.var 0) .nil)) (.cons (.int 10) .nil))) .nil)))) (.cons (.asg (.name 2) (.call 12 (.cons (.call 6 (.cons (.var 0) (.cons (.var 1) .nil))) .nil)))
 (.cons (.asg (.name 3) (.bin .add (.sl (.var 2) .none (.some (.int 3))) (.tup (.cons (.blt .list (.cons (.ix (.var 2) (.int 3)) .nil)) .nil))))
 (.cons (.asg (.name 4) (.call 3 (.cons (.var 3) .nil)))
 (.cons (.ite (.or (.cons (.not (.tru (.isin (.var 4) "str"))) (.cons (.cmp .ne (.var 4) (.call 14 (.cons (.var 2) .nil))) (.cons (.cmp .ne (.var 3) (.var 2)) .nil)))) (.cons (.ret (.bl false))
 .nil) .nil)
 .nil)))))
 (.cons (.ret (.bl true))
 .nil))
noncomputable def d15:FD:=⟨"law",ae 18,["_law_script", "_law_k", "_law_scheme_here", "_law_handed", "_law_found"],1,b15⟩
noncomputable def tab:List FD := [d0,d1,d2,d3,d4,d5,d6,d7,d8,d9,d10,d11,d12,d13,d14,d15]
noncomputable def iw:List (Str × Int) := []
end K52
end
section
namespace K52
theorem su:∀ d ∈ tab,jX (tab.map (·.name)) iw d = true:=by decide +kernel
theorem all_mk {l:PySem.W.OpenLaw} {w:World} {K:PySem.W.Frag} {h:Heap} {mg:Str -> Option Value} {fa f0 f1 f2 f3 f4 f5 f6 f7 f8 f9 f10 f11 f12 f13 f14 f15:Addr} (X:K.In h) (G:h.Ns mainGlobals mg) (hfa:mg "law" = some (.ref fa))
 {od0 an0 od1 an1 od2 an2 od3 an3 od4 an4 od5 an5 od6 an6 od7 an7 od8 an8 od9 an9 od10 an10 od11 an11 od12 an12 od13 an13 od14 an14 od15 an15:Option Addr} {sl0 sl1 sl2 sl3 sl4 sl5 sl6 sl7 sl8 sl9 sl10 sl11 sl12 sl13 sl14 sl15:Array (Option Value)} {oc0 kV0 dc0 pm0 cd0 ct0 oc1 kV1 dc1 pm1 cd1 ct1 oc2 kV2 dc2 pm2 cd2 ct2 oc3 kV3 dc3 pm3 cd3 ct3 oc4 kV4 dc4 pm4 cd4 ct4 oc5 kV5 dc5 pm5 cd5 ct5 oc6 kV6 dc6 pm6 cd6 ct6 oc7 kV7 dc7 pm7 cd7 ct7 oc8 kV8 dc8 pm8 cd8 ct8 oc9 kV9 dc9 pm9 cd9 ct9 oc10 kV10 dc10 pm10 cd10 ct10 oc11 kV11 dc11 pm11 cd11 ct11 oc12 kV12 dc12 pm12 cd12 ct12 oc13 kV13 dc13 pm13 cd13 ct13 oc14 kV14 dc14 pm14 cd14 ct14 oc15 kV15 dc15 pm15 cd15 ct15:Value}
 (a0:PySem.W.nsIn K mainGlobals "filled" = some (some (.ref f0))) (l0:K.lookup f0 = some ⟨oc0,od0, .func (PySem.W.fnOf "filled" "filled" (am (ae 1)) (aj (ae 1)) (af (ae 1)) .none kV0 dc0 pm0 an0 cd0 ct0),sl0⟩) (c0:PySem.W.codeIn K cd0 "filled" = true) (k0:PySem.W.keepIn K (.ref f0) = true)
 (a1:PySem.W.nsIn K mainGlobals "number_text" = some (some (.ref f1))) (l1:K.lookup f1 = some ⟨oc1,od1, .func (PySem.W.fnOf "number_text" "number_text" (am (ae 3)) (aj (ae 3)) (af (ae 3)) .none kV1 dc1 pm1 an1 cd1 ct1),sl1⟩) (c1:PySem.W.codeIn K cd1 "number_text" = true) (k1:PySem.W.keepIn K (.ref f1) = true)
 (a2:PySem.W.nsIn K mainGlobals "sum_text" = some (some (.ref f2))) (l2:K.lookup f2 = some ⟨oc2,od2, .func (PySem.W.fnOf "sum_text" "sum_text" (am (ae 4)) (aj (ae 4)) (af (ae 4)) .none kV2 dc2 pm2 an2 cd2 ct2),sl2⟩) (c2:PySem.W.codeIn K cd2 "sum_text" = true) (k2:PySem.W.keepIn K (.ref f2) = true)
 (a3:PySem.W.nsIn K mainGlobals "scheme_text" = some (some (.ref f3))) (l3:K.lookup f3 = some ⟨oc3,od3, .func (PySem.W.fnOf "scheme_text" "scheme_text" (am (ae 5)) (aj (ae 5)) (af (ae 5)) .none kV3 dc3 pm3 an3 cd3 ct3),sl3⟩) (c3:PySem.W.codeIn K cd3 "scheme_text" = true) (k3:PySem.W.keepIn K (.ref f3) = true)
 (a4:PySem.W.nsIn K mainGlobals "_law_cell_at" = some (some (.ref f4))) (l4:K.lookup f4 = some ⟨oc4,od4, .func (PySem.W.fnOf "_law_cell_at" "_law_cell_at" (am (ae 7)) (aj (ae 7)) (af (ae 7)) .none kV4 dc4 pm4 an4 cd4 ct4),sl4⟩) (c4:PySem.W.codeIn K cd4 "_law_cell_at" = true) (k4:PySem.W.keepIn K (.ref f4) = true)
 (a5:PySem.W.nsIn K mainGlobals "_law_mixed" = some (some (.ref f5))) (l5:K.lookup f5 = some ⟨oc5,od5, .func (PySem.W.fnOf "_law_mixed" "_law_mixed" (am (ae 8)) (aj (ae 8)) (af (ae 8)) .none kV5 dc5 pm5 an5 cd5 ct5),sl5⟩) (c5:PySem.W.codeIn K cd5 "_law_mixed" = true) (k5:PySem.W.keepIn K (.ref f5) = true)
 (a6:PySem.W.nsIn K mainGlobals "_law_box" = some (some (.ref f6))) (l6:K.lookup f6 = some ⟨oc6,od6, .func (PySem.W.fnOf "_law_box" "_law_box" (am (ae 9)) (aj (ae 9)) (af (ae 9)) .none kV6 dc6 pm6 an6 cd6 ct6),sl6⟩) (c6:PySem.W.codeIn K cd6 "_law_box" = true) (k6:PySem.W.keepIn K (.ref f6) = true)
 (a7:PySem.W.nsIn K mainGlobals "_law_take" = some (some (.ref f7))) (l7:K.lookup f7 = some ⟨oc7,od7, .func (PySem.W.fnOf "_law_take" "_law_take" (am (ae 10)) (aj (ae 10)) (af (ae 10)) .none kV7 dc7 pm7 an7 cd7 ct7),sl7⟩) (c7:PySem.W.codeIn K cd7 "_law_take" = true) (k7:PySem.W.keepIn K (.ref f7) = true)
 (a8:PySem.W.nsIn K mainGlobals "_law_number" = some (some (.ref f8))) (l8:K.lookup f8 = some ⟨oc8,od8, .func (PySem.W.fnOf "_law_number" "_law_number" (am (ae 11)) (aj (ae 11)) (af (ae 11)) .none kV8 dc8 pm8 an8 cd8 ct8),sl8⟩) (c8:PySem.W.codeIn K cd8 "_law_number" = true) (k8:PySem.W.keepIn K (.ref f8) = true)
 (a9:PySem.W.nsIn K mainGlobals "_law_part" = some (some (.ref f9))) (l9:K.lookup f9 = some ⟨oc9,od9, .func (PySem.W.fnOf "_law_part" "_law_part" (am (ae 12)) (aj (ae 12)) (af (ae 12)) .none kV9 dc9 pm9 an9 cd9 ct9),sl9⟩) (c9:PySem.W.codeIn K cd9 "_law_part" = true) (k9:PySem.W.keepIn K (.ref f9) = true)
 (a10:PySem.W.nsIn K mainGlobals "_law_scheme" = some (some (.ref f10))) (l10:K.lookup f10 = some ⟨oc10,od10, .func (PySem.W.fnOf "_law_scheme" "_law_scheme" (am (ae 13)) (aj (ae 13)) (af (ae 13)) .none kV10 dc10 pm10 an10 cd10 ct10),sl10⟩) (c10:PySem.W.codeIn K cd10 "_law_scheme" = true) (k10:PySem.W.keepIn K (.ref f10) = true)
 (a11:PySem.W.nsIn K mainGlobals "_law_lengths" = some (some (.ref f11))) (l11:K.lookup f11 = some ⟨oc11,od11, .func (PySem.W.fnOf "_law_lengths" "_law_lengths" (am (ae 14)) (aj (ae 14)) (af (ae 14)) .none kV11 dc11 pm11 an11 cd11 ct11),sl11⟩) (c11:PySem.W.codeIn K cd11 "_law_lengths" = true) (k11:PySem.W.keepIn K (.ref f11) = true)
 (a12:PySem.W.nsIn K mainGlobals "_law_wide" = some (some (.ref f12))) (l12:K.lookup f12 = some ⟨oc12,od12, .func (PySem.W.fnOf "_law_wide" "_law_wide" (am (ae 15)) (aj (ae 15)) (af (ae 15)) .none kV12 dc12 pm12 an12 cd12 ct12),sl12⟩) (c12:PySem.W.codeIn K cd12 "_law_wide" = true) (k12:PySem.W.keepIn K (.ref f12) = true)
 (a13:PySem.W.nsIn K mainGlobals "_law_sum" = some (some (.ref f13))) (l13:K.lookup f13 = some ⟨oc13,od13, .func (PySem.W.fnOf "_law_sum" "_law_sum" (am (ae 16)) (aj (ae 16)) (af (ae 16)) .none kV13 dc13 pm13 an13 cd13 ct13),sl13⟩) (c13:PySem.W.codeIn K cd13 "_law_sum" = true) (k13:PySem.W.keepIn K (.ref f13) = true)
 (a14:PySem.W.nsIn K mainGlobals "_law_text" = some (some (.ref f14))) (l14:K.lookup f14 = some ⟨oc14,od14, .func (PySem.W.fnOf "_law_text" "_law_text" (am (ae 17)) (aj (ae 17)) (af (ae 17)) .none kV14 dc14 pm14 an14 cd14 ct14),sl14⟩) (c14:PySem.W.codeIn K cd14 "_law_text" = true) (k14:PySem.W.keepIn K (.ref f14) = true)
 (a15:PySem.W.nsIn K mainGlobals "law" = some (some (.ref f15))) (l15:K.lookup f15 = some ⟨oc15,od15, .func (PySem.W.fnOf "law" "law" (am (ae 18)) (aj (ae 18)) (af (ae 18)) .none kV15 dc15 pm15 an15 cd15 ct15),sl15⟩) (c15:PySem.W.codeIn K cd15 "law" = true) (k15:PySem.W.keepIn K (.ref f15) = true)
 (z0:PySem.W.nsIn K mainGlobals "len" = some none) (z1:PySem.W.nsIn K mainGlobals "abs" = some none) (z2:PySem.W.nsIn K mainGlobals "max" = some none) (z3:PySem.W.nsIn K mainGlobals "min" = some none) (z4:PySem.W.nsIn K mainGlobals "int" = some none) (z5:PySem.W.nsIn K mainGlobals "list" = some none) (z6:PySem.W.nsIn K mainGlobals "tuple" = some none) (z7:PySem.W.nsIn K mainGlobals "sum" = some none) (z8:PySem.W.nsIn K mainGlobals "isinstance" = some none) (z9:PySem.W.nsIn K mainGlobals "range" = some none) (z10:PySem.W.nsIn K mainGlobals "bool" = some none) (z11:PySem.W.nsIn K mainGlobals "str" = some none) (z12:PySem.W.nsIn K mainGlobals "dict" = some none) (z13:PySem.W.nsIn K mainGlobals "zip" = some none) (z14:PySem.W.nsIn K mainGlobals "enumerate" = some none) (z15:PySem.W.nsIn K mainGlobals "reversed" = some none) (z16:PySem.W.nsIn K mainGlobals "sorted" = some none) (z17:PySem.W.nsIn K mainGlobals "all" = some none) (z18:PySem.W.nsIn K mainGlobals "any" = some none) (z19:PySem.W.nsIn K mainGlobals "set" = some none) :
 ∃ fd:FuncData,(∀ (s:Shared) (v:Value),BindsTo s fd ⟨[v],[]⟩ [("_law_script",v)]) /\ ∀ base:Heap,K.In base -> base.Ns mainGlobals mg -> cj l.prog w K mg base CX0 40 fa fd ["_law_script"] (lSp K (phi tab 40 15)):=by
 have e:=hfa.symm.trans (PySem.W.mg_of X G a15)
 cases e
 have F0:=aP (st:=ae 1) l0 c0 k0
 have b0:=F0.binds (ps := ["part"]) fun _ _ _ _ _ _ us hl=>by obtain ⟨u0,rfl⟩:=bO us hl;rfl
 have F1:=aP (st:=ae 3) l1 c1 k1
 have b1:=F1.binds (ps := ["number"]) fun _ _ _ _ _ _ us hl=>by obtain ⟨u0,rfl⟩:=bO us hl;rfl
 have F2:=aP (st:=ae 4) l2 c2 k2
 have b2:=F2.binds (ps := ["part"]) fun _ _ _ _ _ _ us hl=>by obtain ⟨u0,rfl⟩:=bO us hl;rfl
 have F3:=aP (st:=ae 5) l3 c3 k3
 have b3:=F3.binds (ps := ["scheme"]) fun _ _ _ _ _ _ us hl=>by obtain ⟨u0,rfl⟩:=bO us hl;rfl
 have F4:=aP (st:=ae 7) l4 c4 k4
 have b4:=F4.binds (ps := ["_law_script", "_law_k"]) fun _ _ _ _ _ _ us hl=>by obtain ⟨u0,u1,rfl⟩:=cO us hl;rfl
 have F5:=aP (st:=ae 8) l5 c5 k5
 have b5:=F5.binds (ps := ["_law_number_here", "_law_k"]) fun _ _ _ _ _ _ us hl=>by obtain ⟨u0,u1,rfl⟩:=cO us hl;rfl
 have F6:=aP (st:=ae 9) l6 c6 k6
 have b6:=F6.binds (ps := ["_law_script", "_law_k"]) fun _ _ _ _ _ _ us hl=>by obtain ⟨u0,u1,rfl⟩:=cO us hl;rfl
 have F7:=aP (st:=ae 10) l7 c7 k7
 have b7:=F7.binds (ps := ["_law_box_here", "_law_many"]) fun _ _ _ _ _ _ us hl=>by obtain ⟨u0,u1,rfl⟩:=cO us hl;rfl
 have F8:=aP (st:=ae 11) l8 c8 k8
 have b8:=F8.binds (ps := ["_law_box_here"]) fun _ _ _ _ _ _ us hl=>by obtain ⟨u0,rfl⟩:=bO us hl;rfl
 have F9:=aP (st:=ae 12) l9 c9 k9
 have b9:=F9.binds (ps := ["_law_box_here", "_law_length"]) fun _ _ _ _ _ _ us hl=>by obtain ⟨u0,u1,rfl⟩:=cO us hl;rfl
 have F10:=aP (st:=ae 13) l10 c10 k10
 have b10:=F10.binds (ps := ["_law_box_here", "_law_lengths_here", "_law_count"]) fun _ _ _ _ _ _ us hl=>by obtain ⟨u0,u1,u2,rfl⟩:=tE us hl;rfl
 have F11:=aP (st:=ae 14) l11 c11 k11
 have b11:=F11.binds (ps := ["_law_box_here", "_law_most"]) fun _ _ _ _ _ _ us hl=>by obtain ⟨u0,u1,rfl⟩:=cO us hl;rfl
 have F12:=aP (st:=ae 15) l12 c12 k12
 have b12:=F12.binds (ps := ["_law_box_here"]) fun _ _ _ _ _ _ us hl=>by obtain ⟨u0,rfl⟩:=bO us hl;rfl
 have F13:=aP (st:=ae 16) l13 c13 k13
 have b13:=F13.binds (ps := ["_law_part_here"]) fun _ _ _ _ _ _ us hl=>by obtain ⟨u0,rfl⟩:=bO us hl;rfl
 have F14:=aP (st:=ae 17) l14 c14 k14
 have b14:=F14.binds (ps := ["_law_scheme_here"]) fun _ _ _ _ _ _ us hl=>by obtain ⟨u0,rfl⟩:=bO us hl;rfl
 have F15:=aP (st:=ae 18) l15 c15 k15
 have b15:=F15.binds (ps := ["_law_script"]) fun _ _ _ _ _ _ us hl=>by obtain ⟨u0,rfl⟩:=bO us hl;rfl
 have O:oJ K mg tab iw:=by
  refine ⟨?_, ?_,su, ?_⟩
  ·intro x hx
   simp only [e7,List.mem_cons,List.not_mem_nil,or_false] at hx
   rcases hx with rfl | rfl | rfl | rfl | rfl | rfl | rfl | rfl | rfl | rfl | rfl | rfl | rfl | rfl | rfl | rfl | rfl | rfl | rfl | rfl
   ·exact PySem.W.mg_none_of X G z0
   ·exact PySem.W.mg_none_of X G z1
   ·exact PySem.W.mg_none_of X G z2
   ·exact PySem.W.mg_none_of X G z3
   ·exact PySem.W.mg_none_of X G z4
   ·exact PySem.W.mg_none_of X G z5
   ·exact PySem.W.mg_none_of X G z6
   ·exact PySem.W.mg_none_of X G z7
   ·exact PySem.W.mg_none_of X G z8
   ·exact PySem.W.mg_none_of X G z9
   ·exact PySem.W.mg_none_of X G z10
   ·exact PySem.W.mg_none_of X G z11
   ·exact PySem.W.mg_none_of X G z12
   ·exact PySem.W.mg_none_of X G z13
   ·exact PySem.W.mg_none_of X G z14
   ·exact PySem.W.mg_none_of X G z15
   ·exact PySem.W.mg_none_of X G z16
   ·exact PySem.W.mg_none_of X G z17
   ·exact PySem.W.mg_none_of X G z18
   ·exact PySem.W.mg_none_of X G z19
  ·intro i d hd
   match i,hd with
   | 0,hd=>cases hd;exact ⟨_,_,F0,PySem.W.mg_of X G a0,b0⟩
   | 1,hd=>cases hd;exact ⟨_,_,F1,PySem.W.mg_of X G a1,b1⟩
   | 2,hd=>cases hd;exact ⟨_,_,F2,PySem.W.mg_of X G a2,b2⟩
   | 3,hd=>cases hd;exact ⟨_,_,F3,PySem.W.mg_of X G a3,b3⟩
   | 4,hd=>cases hd;exact ⟨_,_,F4,PySem.W.mg_of X G a4,b4⟩
   | 5,hd=>cases hd;exact ⟨_,_,F5,PySem.W.mg_of X G a5,b5⟩
   | 6,hd=>cases hd;exact ⟨_,_,F6,PySem.W.mg_of X G a6,b6⟩
   | 7,hd=>cases hd;exact ⟨_,_,F7,PySem.W.mg_of X G a7,b7⟩
   | 8,hd=>cases hd;exact ⟨_,_,F8,PySem.W.mg_of X G a8,b8⟩
   | 9,hd=>cases hd;exact ⟨_,_,F9,PySem.W.mg_of X G a9,b9⟩
   | 10,hd=>cases hd;exact ⟨_,_,F10,PySem.W.mg_of X G a10,b10⟩
   | 11,hd=>cases hd;exact ⟨_,_,F11,PySem.W.mg_of X G a11,b11⟩
   | 12,hd=>cases hd;exact ⟨_,_,F12,PySem.W.mg_of X G a12,b12⟩
   | 13,hd=>cases hd;exact ⟨_,_,F13,PySem.W.mg_of X G a13,b13⟩
   | 14,hd=>cases hd;exact ⟨_,_,F14,PySem.W.mg_of X G a14,b14⟩
   | 15,hd=>cases hd;exact ⟨_,_,F15,PySem.W.mg_of X G a15,b15⟩
   | i + 16,hd=>simp [tab] at hd
  ·intro x i hx
   simp only [iw,List.mem_cons,List.not_mem_nil,or_false,Prod.mk.injEq] at hx
 refine ⟨PySem.W.fnOf "law" "law" (am (ae 18)) (aj (ae 18)) (af (ae 18)) .none kV15 dc15 pm15 an15 cd15 ct15,fun s v => .of_eq rfl,fun base _ _ => ?_⟩
 exact lN O 40 15 d15 _ _ rfl F15
theorem walk {l:PySem.W.OpenLaw} {q:Program} {loose:List Str} {XP:(Str -> Option Value) -> Heap -> Prop} {YP:World -> Heap -> Prop} {d:DefRec} {K:Params -> PySem.W.Frag} (hn:l.most = some 63) (hdf:d.params.defaults = [])
 (hlaw:∀ ns:List Int,ns.length <= 63 -> phi tab 40 15 [.con (ns.map D.int)] (fun _=>none) fun d _=>d = .bl true)
 (hY:∀ (w:World) (h:Heap),YP w h -> (K w.params).In h)
 (F:∀ (w:World) (mg:Str -> Option Value) (fa:Addr) (h:Heap),(K w.params).In h -> h.Ns mainGlobals mg -> mg d.name = some (.ref fa) ->
   ∃ fd:FuncData,(∀ (s:Shared) (u:Value),BindsTo s fd ⟨[u],[]⟩ [("_law_script",u)]) /\ ∀ base:Heap,(K w.params).In base -> base.Ns mainGlobals mg -> cj l.prog w (K w.params) mg base CX0 40 fa fd ["_law_script"] (lSp (K w.params) (phi tab 40 15))) :
 PySem.W.WalkO q loose XP YP l.row.toRowW d [] (fun f vs=>PySem.call f vs) :=
 L2.walk_of (n := 63) (k := 40) (x := "_law_script") (CX:=fun _=>CX0) (sp:=fun w=>lSp (K w.params) (phi tab 40 15)) hn (by decide) hdf ⟨rfl,by decide,by decide⟩ hY F (fun w H a ns hl hO hS=>sf hO hS (hlaw ns hl)) fun _ _ _ _ _ z=>z
end K52
end
section
namespace K52
theorem cn {n:Nat} (hn : 2 <= n):ik tab n 7:=fun hb h1 h2 q=>qt (s:=ae 10) (fm := 5) rfl (fun q=>ii (s:=ae 8) rfl (by omega) q) hn hb h1 h2 q
theorem kb {n:Nat} (hn : 3 <= n):il tab n 8:=fun hb q=>m6 (s:=ae 11) (ft := 7) rfl (cn (by omega)) (by omega) hb q
theorem om {n:Nat} (hn : 4 <= n):m7 tab n 9:=fun hL hb q=>qu (s:=ae 12) (fn := 8) rfl (kb (by omega)) (by omega) hL hb q
theorem tj (s:Str) (ts:List Str):Txt.join s ts = Str.join s ts:=StrLaws.glued_eq_join s ts
theorem m9 {a b c d:D} {M:Mem} {Q:QD} (q:Q (.tup [a,b,c]) M):cD (.tup [a,b,c,d]) none (some 3) M Q:=q
theorem sv {n:Nat} (hn : 1 <= n) {ns:List Int} {M:Mem} {Q:QD} (hl:ns.length <= 1000)
 (q:∀ p,M p = none -> Q (.ref p) (ag M p (.lst ((fl ns).map fun x => .tup [.int (x.2:Nat), .int x.1])))):phi tab n 0 [.tup (ns.map .int)] M Q:=by
 refine aA hn rfl rfl (ρ := [some _]) rfl ?_
 unfold d0 b0
 walk_at "st"
 rw [iu]
 refine bQ (I:=fun l ρ M' acc=>(∃ o1 o2, ρ = [o1,o2]) /\ M' = M /\ acc = (l.filter fun p=>p.1 != 0).map fun x => .tup [.int (x.2:Nat), .int x.1]) (ys:=ns.zipIdx) (f:=fun p => .tup [.int (p.2:Nat), .int p.1]) rfl ⟨⟨_,_,rfl⟩,rfl,rfl⟩ (fun _ _ _ _ _=>trivial) ?_ ?_
 ·rintro l x r ρ M1 acc e ⟨⟨o1,o2,rfl⟩,rfl,rfl⟩
  have hlt:=bb e
  rw [List.length_zipIdx] at hlt
  refine ⟨_,rfl,fun N hN => ?_⟩
  walk_at "wp"
  have hfl:=List.length_filter_le (fun p:Int × Nat=>p.1 != 0) l
  split
  ·next hx =>
   exact ⟨by rw [sizeLine_eq];first | decide | omega,by rw [List.length_map,sizeLine_eq];omega,hN _ _ _ ⟨⟨_,_,rfl⟩,rfl,by rw [List.filter_append,List.map_append,List.filter_cons_of_pos (p:=fun p:Int × Nat=>p.1 != 0) (a:=x) hx];rfl⟩⟩
  ·next hx=>exact hN _ _ _ ⟨⟨_,_,rfl⟩,rfl,by rw [List.filter_append,List.filter_cons_of_neg (p:=fun p:Int × Nat=>p.1 != 0) (a:=x) hx];simp⟩
 ·rintro ρ M1 acc ⟨_,rfl,rfl⟩ p hp
  exact q p hp
theorem tJ {n:Nat} (hn : 1 <= n) {c:Int} {M:Mem} {Q:QD} (hc : -1000 <= c /\ c <= 1000) (q:∀ M',Ge M M' -> Q (.str (tx c)) M'):phi tab n 1 [.int c] M Q:=by
 refine aA hn rfl rfl (ρ := [some _,none,none,none]) rfl ?_
 unfold d1 b1
 walk_at "st"
 refine ⟨Nat.zero_le _,fun p hp => ?_⟩
 have hab:(if c < 0 then -c else c).natAbs < 10 ^ 4:=by split <;> omega
 have hge : ¬ ((if c < 0 then -c else c) ≥ (10:Int) ^ 50):=by
  have:(10:Int) ^ 50 > 1000:=by decide
  split <;> omega
 generalize ha:(if c < 0 then -c else c) = a at hab hge
 walk_at "st"
 refine ⟨1, ?_⟩
 unfold aH
 walk_at "wp"
 refine ⟨by decide,by decide,by decide, ?_⟩
 rw [if_neg (by exact hge)]
 have e1:ag M p (.lst []) p = some (.lst []):=ad
 have g1:=Ge.new (o := .lst []) hp
 generalize ag M p (.lst []) = M1 at e1 g1
 have ab:∀ o,Ge M (ag M1 p o):=fun o a o' ea=>by rw [ao (fun z=>by rw [z,hp] at ea;cases ea)];exact g1 _ _ ea
 walk_at "st"
 refine ⟨⟨_,e1⟩,_,rfl,bu hab,_,_,_,rfl,rfl,e1,by rw [sizeLine_eq];decide, ?_⟩
 walk_at "st"
 have hl:=aQ hab
 have l0:(Str.ofString "").length = 0:=by rw [PySem.ofString_length];rfl
 have l1:(Str.ofString "-").length = 1:=by rw [PySem.ofString_length];rfl
 have fin:∀ p2,ag M1 p (.lst ([] ++ [.str (tx a)])) p2 = none -> Ge M (ag (ag M1 p (.lst ([] ++ [.str (tx a)]))) p2 (.lst [.str (tx a)])):=fun p2 h2=>(ab _).trans (Ge.new h2)
 have hj:Txt.join (Str.ofString "") [tx a] = tx a:=tj _ _
 have hs:(List.map (fun x=>x.length) [tx a]).sum + [tx a].length * (Str.ofString "").length <= 16777216:=by
  simp only [List.map_cons,List.map_nil,List.sum_cons,List.sum_nil,l0];omega
 split
 ·next h =>
  refine ⟨⟨_,rfl⟩,_,ad,fun p2 hp2=>⟨_,rfl,[tx a],ad,hs, ?_⟩⟩
  refine ⟨by rw [hj,l1,sizeLine_eq];omega, ?_⟩
  rw [hj]
  have e:=q _ (fin p2 hp2)
  have ec:Str.ofString "-" ++ tx a = tx c:=by rw [if_pos h] at ha;rw [<- ha];exact sr h
  rw [ec]
  exact e
 ·next h =>
  refine ⟨⟨_,rfl⟩,_,ad,fun p2 hp2=>⟨_,rfl,[tx a],ad,hs, ?_⟩⟩
  refine ⟨by rw [hj,l0,sizeLine_eq];omega, ?_⟩
  rw [hj]
  have e:=q _ (fin p2 hp2)
  have ec:Str.ofString "" ++ tx a = tx c:=by rw [if_neg h] at ha;rw [<- ha];exact Str.empty_append _
  rw [ec]
  exact e
theorem iy:∀ ns:List Int,aw jK (ns.map .int) = some (ns.map fun x=>x != 0)
 | [] => rfl
 | x :: r=>by rw [List.map_cons,aw,iy r];rfl
theorem sx {ns:List Int}:(ns.map fun x=>x != 0).any id = !(fl ns).isEmpty:=by
 have:∀ (l:List Int) (k:Nat),(l.map fun x=>x != 0).any id = !((l.zipIdx k).filter fun p=>p.1 != 0).isEmpty:=by
  intro l
  induction l with
  | nil=>intro k;rfl
  | cons x r ih =>
    intro k
    rw [List.zipIdx_cons,List.map_cons,List.any_cons,ih (k + 1)]
    cases hx:(x != 0) with
    | true=>rw [List.filter_cons_of_pos (by exact hx)];rfl
    | false=>rw [List.filter_cons_of_neg (by rw [hx];decide)];rfl
 exact this ns 0
theorem kc {n:Nat} (hn : 2 <= n) {ns:List Int} {M:Mem} {Q:QD} (hs:bE ns) (hl:ns.length <= 1000) (q:∀ M',Ge M M' -> Q (.str (bh ns)) M'):phi tab n 2 [.tup (ns.map .int)] M Q:=by
 refine aA (by omega) rfl rfl (ρ := [some _]) rfl ?_
 unfold d2 b2
 walk_at "st"
 refine ⟨_,_,_,rfl,dj,iy ns, ?_⟩
 refine ⟨_,rfl, ?_⟩
 rw [sx]
 cases hx:(fl ns).isEmpty with
 | true =>
   have:bh ns = Str.ofString "-" := by unfold bh;rw [if_pos hx]
   rw [<- this]
   exact q _ Ge.refl
 | false =>
   have hsum:bh ns = Str.join (Str.ofString " ") ((fl ns).map bp):=by unfold bh;rw [if_neg (by rw [hx];decide)]
   refine (if_pos (by decide)).mpr ⟨⟨_,rfl⟩, ?_⟩
   refine sv (by omega) hl fun p hp => ?_
   have g1:=Ge.new (o := .lst ((fl ns).map fun x => .tup [.int (x.2:Nat), .int x.1])) hp
   have e1:ag M p (.lst ((fl ns).map fun x => .tup [.int (x.2:Nat), .int x.1])) p = some (.lst ((fl ns).map fun x => .tup [.int (x.2:Nat), .int x.1])):=ad
   generalize ag M p (.lst ((fl ns).map fun x => .tup [.int (x.2:Nat), .int x.1])) = M1 at g1 e1
   refine ⟨_,ay e1, ?_⟩
   refine bQ (I:=fun l ρ M' acc=>(∃ o1 o2, ρ = [o1,o2]) /\ Ge M1 M' /\ acc = (l.map bp).map .str) (ys:=fl ns) (f:=fun x => .tup [.int (x.2:Nat), .int x.1]) rfl ⟨⟨_,_,rfl⟩,Ge.refl,rfl⟩ (fun _ _ _ _ h=>ay (h.2.1 _ _ e1)) ?_ ?_
   ·rintro l x r ρ M2 acc e ⟨⟨o1,o2,rfl⟩,g2,rfl⟩
    have hlt:=bb e
    have hm:x ∈ fl ns:=by rw [e];simp
    have hfl:=ff ns
    obtain ⟨h1,h2⟩:=m8 hm
    have hsm:=hs _ h1
    have la:=aQ (i:=x.1) (by omega)
    have lb:=aQ (i:=(x.2:Int)) (by omega)
    have lc:(Str.ofString ":").length = 1:=by rw [PySem.ofString_length];rfl
    refine ⟨_,rfl,fun N hN => ?_⟩
    walk_at "wp"
    refine tJ (by omega) hsm fun M3 g3 => ?_
    have le:(Str.empty:Str).length = 0:=rfl
    have hw:Str.empty ++ tx x.1 ++ Str.ofString ":" ++ tx (x.2:Nat) = bp x:=by unfold bp;rw [Str.empty_append]
    have hwl:=cQ hs hl hm
    refine ⟨by rw [sizeLine_eq];first | decide | omega,_,rfl,by rw [Str.length_append,le,sizeLine_eq];omega,_,rfl,by rw [Str.length_append,Str.length_append,le,lc,sizeLine_eq];omega,bu (by omega),_,rfl, ?_⟩
    have hz:(Str.empty ++ tx x.1 ++ Str.ofString ":" ++ tx (x.2:Nat)).length <= sizeLine:=by rw [hw,sizeLine_eq];omega
    refine ⟨hz,hz,by rw [List.length_map,List.length_map,sizeLine_eq];omega,hN _ _ _ ⟨⟨_,_,rfl⟩,g2.trans g3, ?_⟩⟩
    rw [List.map_append,List.map_append,List.map_cons,List.map_cons, <- hw];rfl
   ·rintro ρ M2 acc ⟨_,g2,rfl⟩ p2 hp2
    have hB:∀ t ∈ (fl ns).map bp,t.length <= 11:=by
     intro t ht
     obtain ⟨y,hy,rfl⟩:=List.mem_map.mp ht
     exact cQ hs hl hy
    have ls:=dE hB
    have hfl:=ff ns
    have lsep:(Str.ofString " ").length = 1:=by rw [PySem.ofString_length];rfl
    refine ⟨_,rfl,(fl ns).map bp,ad,by rw [lsep];rw [List.length_map] at ls ⊢;omega, ?_⟩
    rw [tj, <- hsum]
    exact q _ ((g1.trans g2).trans (Ge.new hp2))
noncomputable def cR (a b c:Nat) (ps:List Pr):Str:=Str.join (Str.ofString "\n") (aK a b c :: ps.map bK)
theorem iz {L0 L1 L2:Nat} {ps:List Pr} (hp:∀ p ∈ ps,cy L0 L1 L2 p) (h0:L0 <= 100) (h1:L1 <= 100) (h2:L2 <= 100) (hc:ps.length <= 100) :
 ((aK L0 L1 L2 :: ps.map bK).map (·.length)).sum + (aK L0 L1 L2 :: ps.map bK).length * (Str.ofString "\n").length <= 16777216:=by
 have hB:∀ t ∈ aK L0 L1 L2 :: ps.map bK,t.length <= 36006:=by
  intro t ht
  rcases List.mem_cons.mp ht with rfl | ht
  ·have a:=aQ (i:=(L0:Int)) (by omega)
   have b:=aQ (i:=(L1:Int)) (by omega)
   have c:=aQ (i:=(L2:Int)) (by omega)
   have d:(Str.ofString "scheme ").length = 7:=by rw [PySem.ofString_length];rfl
   have e:(Str.ofString " ").length = 1:=by rw [PySem.ofString_length];rfl
   unfold aK
   simp only [Str.length_append];omega
  ·obtain ⟨p,hpm,rfl⟩:=List.mem_map.mp ht
   exact oj (hp p hpm) (by omega) (by omega) (by omega)
 have ls:=dE hB
 have e:(Str.ofString "\n").length = 1:=by rw [PySem.ofString_length];rfl
 rw [e]
 rw [List.length_cons,List.length_map] at ls ⊢
 omega
theorem sy {n:Nat} (hn : 3 <= n) {L0 L1 L2:Nat} {pr:Addr} {ps:List Pr} {M:Mem} {Q:QD} (hp:∀ p ∈ ps,cy L0 L1 L2 p) (h0:L0 <= 100) (h1:L1 <= 100) (h2:L2 <= 100) (hc:ps.length <= 100)
 (h:M pr = some (.lst (ps.map prD))) (q:∀ M',Ge M M' -> Q (.str (cR L0 L1 L2 ps)) M'):phi tab n 3 [.tup [.int L0, .int L1, .int L2, .ref pr]] M Q:=by
 refine aA (by omega) rfl rfl (ρ := [some _,none,none,none,none,none]) rfl ?_
 unfold d3 b3
 have a:(Str.ofString (toString (L0:Int))).length <= 5:=aQ (i:=(L0:Int)) (by omega)
 have b:(Str.ofString (toString (L1:Int))).length <= 5:=aQ (i:=(L1:Int)) (by omega)
 have c:(Str.ofString (toString (L2:Int))).length <= 5:=aQ (i:=(L2:Int)) (by omega)
 have d:(Str.ofString "scheme ").length = 7:=by rw [PySem.ofString_length];rfl
 have e:(Str.ofString " ").length = 1:=by rw [PySem.ofString_length];rfl
 have le:(Str.empty:Str).length = 0:=rfl
 walk_at "st"
 walk_at "st"
 refine ⟨_,rfl,by simp only [Str.length_append,le,d,sizeLine_eq];omega,bu (by omega),_,rfl,by simp only [Str.length_append,le,d,sizeLine_eq];omega,
  _,rfl,by simp only [Str.length_append,le,d,e,sizeLine_eq];omega,bu (by omega),_,rfl,by simp only [Str.length_append,le,d,e,sizeLine_eq];omega,
  _,rfl,by simp only [Str.length_append,le,d,e,sizeLine_eq];omega,bu (by omega),_,rfl,by simp only [Str.length_append,le,d,e,sizeLine_eq];omega,by simp only [Str.length_append,le,d,e,sizeLine_eq];omega,by rw [sizeLine_eq];first | decide | omega,fun p hp1 => ?_⟩
 have hh:Str.empty ++ Str.ofString "scheme " ++ Str.ofString (toString (L0:Int)) ++ Str.ofString " " ++ Str.ofString (toString (L1:Int)) ++ Str.ofString " " ++ Str.ofString (toString (L2:Int)) = aK L0 L1 L2:=by rw [Str.empty_append];rfl
 rw [hh]
 have g1:=Ge.new (o := .lst [.str (aK L0 L1 L2)]) hp1
 have e1:ag M p (.lst [.str (aK L0 L1 L2)]) p = some (.lst [.str (aK L0 L1 L2)]):=ad
 generalize ag M p (.lst [.str (aK L0 L1 L2)]) = M1 at g1 e1
 have hpp:M p = none:=hp1
 have ab:∀ M2 o,Ge M1 M2 -> Ge M (ag M2 p o):=fun M2 o g2 x o' ea=>by rw [ao (fun z=>by rw [z,hpp] at ea;cases ea)];exact g2 _ _ (g1 _ _ ea)
 walk_at "st"
 refine ⟨_,ay (g1 _ _ h), ?_⟩
 refine bQ (I:=fun l ρ M' acc=>(∃ o1 o2 o3, ρ = [o1,o2,o3]) /\ Ge M1 M' /\ acc = (l.map bK).map .str) (ys:=ps) (f:=prD) rfl ⟨⟨_,_,_,rfl⟩,Ge.refl,rfl⟩ (fun _ _ _ _ hI=>ay (hI.2.1 _ _ (g1 _ _ h))) ?_ ?_
 ·rintro l x r ρ M2 acc ee ⟨⟨o1,o2,o3,rfl⟩,g2,rfl⟩
  have hlt:=bb ee
  have hpo:=hp x (by rw [ee];simp)
  have s0:=bc hpo.s0 (by rw [hpo.l0];omega)
  have s1:=bc hpo.s1 (by rw [hpo.l1];omega)
  have s2:=bc hpo.s2 (by rw [hpo.l2];omega)
  have t1:(Str.ofString " * ").length = 3:=by rw [PySem.ofString_length];rfl
  have t2:(Str.ofString " > ").length = 3:=by rw [PySem.ofString_length];rfl
  refine ⟨_,rfl,fun N hN => ?_⟩
  walk_at "wp"
  refine kc (by omega) hpo.s0 (by rw [hpo.l0];omega) fun M3 g3 => ?_
  walk_at "wp"
  refine ⟨by rw [sizeLine_eq];first | decide | omega,_,rfl,by simp only [Str.length_append,le,sizeLine_eq];omega,_,rfl,by simp only [Str.length_append,le,t1,sizeLine_eq];omega, ?_⟩
  refine kc (by omega) hpo.s1 (by rw [hpo.l1];omega) fun M4 g4 => ?_
  walk_at "wp"
  refine ⟨by rw [sizeLine_eq];first | decide | omega,_,rfl,by simp only [Str.length_append,le,t1,sizeLine_eq];omega,_,rfl,by simp only [Str.length_append,le,t1,t2,sizeLine_eq];omega, ?_⟩
  refine kc (by omega) hpo.s2 (by rw [hpo.l2];omega) fun M5 g5 => ?_
  walk_at "wp"
  refine ⟨by rw [sizeLine_eq];first | decide | omega,_,rfl,by simp only [Str.length_append,le,t1,t2,sizeLine_eq];omega,by simp only [Str.length_append,le,t1,t2,sizeLine_eq];omega,by rw [List.length_map,List.length_map,sizeLine_eq];omega,hN _ _ _ ⟨⟨_,_,_,rfl⟩,((g2.trans g3).trans g4).trans g5, ?_⟩⟩
  rw [List.map_append,List.map_append,List.map_cons,List.map_cons,Str.empty_append];rfl
 ·rintro ρ M2 acc ⟨_,g2,rfl⟩ p2 hp2
  walk_at "wp"
  have g3:=Ge.new (o := .lst ((ps.map bK).map .str)) hp2
  refine ⟨p,p2,_,_,rfl,rfl,g3 _ _ (g2 _ _ e1),ad,by simp [sizeLine_eq];omega, ?_⟩
  walk_at "st"
  refine ⟨⟨_,rfl⟩,_,rfl,aK L0 L1 L2 :: ps.map bK,ad,iz hp h0 h1 h2 hc, ?_⟩
  rw [tj]
  exact q _ (ab _ _ (g2.trans g3))
theorem on {n:Nat} (hn : 1 <= n) {ns:List Int} {M:Mem} {Q:QD} (hs:bE ns) (hl:ns.length <= 1000) (q:∀ M',Ge M M' -> Q (.str (bh ns)) M'):phi tab n 13 [.tup (ns.map .int)] M Q:=by
 refine aA (by omega) rfl rfl (ρ := [some _,none,none,none]) rfl ?_
 unfold d13 b13
 walk_at "st"
 refine ⟨Nat.zero_le _,fun p hp => ?_⟩
 have g1:=Ge.new (o := .lst []) hp
 have e1:ag M p (.lst []) p = some (.lst []):=ad
 generalize ag M p (.lst []) = M1 at g1 e1
 walk_at "st"
 rw [iu]
 refine ej (I:=fun l ρ M'=>(∃ o2 o3, ρ = [some (.tup (ns.map .int)),some (.ref p),o2,o3]) /\ Ge M M' /\ M' p = some (.lst (((l.filter fun x=>x.1 != 0).map bp).map .str))) (ys:=ns.zipIdx) (f:=fun x => .tup [.int (x.2:Nat), .int x.1]) rfl ⟨⟨_,_,rfl⟩,g1,e1⟩ (fun _ _ _ _=>trivial) ?_ ?_
 ·rintro l x r ρ M2 e ⟨⟨o2,o3,rfl⟩,g2,e2⟩
  have hlt:=bb e
  rw [List.length_zipIdx] at hlt
  have hm:x ∈ ns.zipIdx:=by rw [e];simp
  refine ⟨_,rfl,fun F hF => ?_⟩
  walk_at "st"
  have hz:=List.mem_zipIdx_iff_getElem?.mp hm
  have hsm:=hs _ (List.mem_of_getElem? hz)
  have hi:=(List.getElem?_eq_some_iff.mp hz).1
  have la:(Str.ofString (toString x.1)).length <= 5:=aQ (i:=x.1) (by omega)
  have lb:(Str.ofString (toString (x.2:Int))).length <= 5:=aQ (i:=(x.2:Int)) (by omega)
  have lc:(Str.ofString ":").length = 1:=by rw [PySem.ofString_length];rfl
  have hfl:=List.length_filter_le (fun p:Int × Nat=>p.1 != 0) l
  split
  ·next hx =>
   walk_at "st"
   refine ⟨⟨_,e2⟩,_,rfl,bu (by omega),by rw [lc,sizeLine_eq];omega,_,rfl,bu (by omega),by rw [Str.length_append,lc,sizeLine_eq];omega,_,_,_,rfl,rfl,e2,by rw [List.length_map,List.length_map,sizeLine_eq];omega, ?_⟩
   walk_at "wp"
   refine hF _ _ ⟨⟨_,_,rfl⟩,fun a o ea => ?_, ?_⟩
   ·rw [ao (fun z=>by rw [z,hp] at ea;cases ea)];exact g2 _ _ ea
   ·rw [ad,List.filter_append,List.filter_cons_of_pos (p:=fun p:Int × Nat=>p.1 != 0) (a:=x) hx,List.map_append,List.map_append];rfl
  ·next hx =>
   refine hF _ _ ⟨⟨_,_,rfl⟩,g2, ?_⟩
   rw [e2,List.filter_append,List.filter_cons_of_neg (p:=fun p:Int × Nat=>p.1 != 0) (a:=x) hx];simp
 ·rintro ρ M2 ⟨⟨o2,o3,rfl⟩,g2,e2⟩
  have e3:M2 p = some (.lst (((fl ns).map bp).map .str)):=e2
  have lsep:(Str.ofString " ").length = 1:=by rw [PySem.ofString_length];rfl
  walk_at "st"
  refine ⟨⟨_,rfl⟩,_,e3, ?_⟩
  have hem:((((fl ns).map bp).map D.str).isEmpty) = (fl ns).isEmpty:=by cases fl ns <;> rfl
  rw [hem]
  cases hx:(fl ns).isEmpty with
  | true =>
    have hd:bh ns = Str.ofString "-" := by unfold bh;rw [if_pos hx]
    have l1:(Str.ofString "-").length = 1:=by rw [PySem.ofString_length];rfl
    rw [if_pos rfl]
    refine ⟨by rw [sizeLine_eq];first | decide | omega,fun p2 hp2=>⟨_,rfl,[Str.ofString "-"],ad, ?_, ?_⟩⟩
    ·simp only [List.map_cons,List.map_nil,List.sum_cons,List.sum_nil,List.length_cons,List.length_nil,l1,lsep];omega
    ·rw [tj]
     have:=q _ (g2.trans (Ge.new (o := .lst [.str (Str.ofString "-")]) hp2))
     rw [hd] at this
     exact this
  | false =>
    have hsum:bh ns = Str.join (Str.ofString " ") ((fl ns).map bp):=by unfold bh;rw [if_neg (by rw [hx];decide)]
    have hB:∀ t ∈ (fl ns).map bp,t.length <= 11:=by
     intro t ht
     obtain ⟨y,hy,rfl⟩:=List.mem_map.mp ht
     exact cQ hs hl hy
    have ls:=dE hB
    have hfl:=ff ns
    rw [if_neg Bool.false_ne_true]
    refine ⟨_,rfl,(fl ns).map bp,e3,by rw [lsep];rw [List.length_map] at ls ⊢;omega, ?_⟩
    rw [tj, <- hsum]
    exact q _ g2
theorem tK {n:Nat} (hn : 2 <= n) {L0 L1 L2:Nat} {pr:Addr} {ps:List Pr} {M:Mem} {Q:QD} (hp:∀ p ∈ ps,cy L0 L1 L2 p) (h0:L0 <= 100) (h1:L1 <= 100) (h2:L2 <= 100) (hc:ps.length <= 100)
 (h:M pr = some (.lst (ps.map prD))) (q:∀ M',Ge M M' -> Q (.str (cR L0 L1 L2 ps)) M'):phi tab n 14 [.tup [.int L0, .int L1, .int L2, .ref pr]] M Q:=by
 refine aA (by omega) rfl rfl (ρ := [some _,none,none,none,none]) rfl ?_
 unfold d14 b14
 have a:(Str.ofString (toString (L0:Int))).length <= 5:=aQ (i:=(L0:Int)) (by omega)
 have b:(Str.ofString (toString (L1:Int))).length <= 5:=aQ (i:=(L1:Int)) (by omega)
 have c:(Str.ofString (toString (L2:Int))).length <= 5:=aQ (i:=(L2:Int)) (by omega)
 have d:(Str.ofString "scheme ").length = 7:=by rw [PySem.ofString_length];rfl
 have e:(Str.ofString " ").length = 1:=by rw [PySem.ofString_length];rfl
 walk_at "st"
 refine ⟨⟨_,rfl⟩,m9 ?_⟩
 refine ⟨_,dj, ?_⟩
 refine bQ (I:=fun l ρ M' acc=>(∃ o1, ρ = [o1]) /\ M' = M /\ acc = (l.map fun x:Nat=>tx x).map .str) (ys := [L0,L1,L2]) (f:=fun x => .int (x:Nat)) rfl ⟨⟨_,rfl⟩,rfl,rfl⟩ (fun _ _ _ _ _=>dj) ?_ ?_
 ·rintro l x r ρ M2 acc ee ⟨⟨o1,rfl⟩,rfl,rfl⟩
  have hlt:=bb ee
  have hm:x ∈ [L0,L1,L2]:=by rw [ee];simp
  have hx:x <= 100:=by
   simp only [List.mem_cons,List.not_mem_nil,or_false] at hm
   omega
  refine ⟨_,rfl,fun N hN => ?_⟩
  walk_at "wp"
  refine ⟨_,rfl,bu (by omega),by rw [List.length_map,List.length_map,sizeLine_eq];simp only [List.length_cons,List.length_nil] at hlt;omega,hN _ _ _ ⟨⟨_,rfl⟩,rfl, ?_⟩⟩
  rw [List.map_append,List.map_append];rfl
 ·rintro ρ M2 acc ⟨_,rfl,rfl⟩ p hp1
  have l3:(Str.join (Str.ofString " ") [tx L0,tx L1,tx L2]).length <= 17:=by
   simp only [Str.join,Str.length_append,e]
   unfold tx
   omega
  refine ⟨_,rfl,[tx L0,tx L1,tx L2],ad, ?_, ?_,by rw [sizeLine_eq];first | decide | omega,fun p2 hp2 => ?_⟩
  ·simp only [List.map_cons,List.map_nil,List.sum_cons,List.sum_nil,List.length_cons,List.length_nil,e];unfold tx;omega
  ·rw [tj,d,sizeLine_eq];omega
  rw [tj,oi]
  have g0:=Ge.new (o := .lst (([L0,L1,L2].map fun x:Nat=>tx x).map .str)) hp1
  have g1:=g0.trans (Ge.new (o := .lst [.str (aK L0 L1 L2)]) hp2)
  have hpp:M2 p2 = none:=by
   cases ex:M2 p2 with
   | none=>rfl
   | some o=>rw [g0 _ _ ex] at hp2;cases hp2
  have e1:ag (ag M2 p (.lst (([L0,L1,L2].map fun x:Nat=>tx x).map .str))) p2 (.lst [.str (aK L0 L1 L2)]) p2 = some (.lst [.str (aK L0 L1 L2)]):=ad
  generalize ag (ag M2 p (.lst (([L0,L1,L2].map fun x:Nat=>tx x).map .str))) p2 (.lst [.str (aK L0 L1 L2)]) = M1 at g1 e1
  walk_at "st"
  refine ⟨_,rfl,_,ay (g1 _ _ h), ?_⟩
  refine ej (I:=fun l ρ M'=>(∃ o2 o3 o4, ρ = [some (.tup [.int L0, .int L1, .int L2, .ref pr]),some (.ref p2),o2,o3,o4]) /\ Ge M2 M' /\ M' p2 = some (.lst ((aK L0 L1 L2 :: l.map bK).map .str))) (ys:=ps) (f:=prD) rfl ⟨⟨_,_,_,rfl⟩,g1,e1⟩ (fun _ _ _ hI=>ay (hI.2.1 _ _ h)) ?_ ?_
  ·rintro l x r ρ M3 ee ⟨⟨o2,o3,o4,rfl⟩,g3,e3⟩
   have hlt:=bb ee
   have hpo:=hp x (by rw [ee];simp)
   have s0:=bc hpo.s0 (by rw [hpo.l0];omega)
   have s1:=bc hpo.s1 (by rw [hpo.l1];omega)
   have s2:=bc hpo.s2 (by rw [hpo.l2];omega)
   have t1:(Str.ofString " * ").length = 3:=by rw [PySem.ofString_length];rfl
   have t2:(Str.ofString " > ").length = 3:=by rw [PySem.ofString_length];rfl
   refine ⟨_,rfl,fun F hF => ?_⟩
   walk_at "st"
   refine ⟨⟨_,e3⟩, ?_⟩
   refine on (by omega) hpo.s0 (by rw [hpo.l0];omega) fun M4 g4 => ?_
   walk_at "wp"
   refine ⟨by rw [t1,sizeLine_eq];omega, ?_⟩
   refine on (by omega) hpo.s1 (by rw [hpo.l1];omega) fun M5 g5 => ?_
   walk_at "wp"
   refine ⟨by simp only [Str.length_append,t1,sizeLine_eq];omega,by simp only [Str.length_append,t1,t2,sizeLine_eq];omega, ?_⟩
   refine on (by omega) hpo.s2 (by rw [hpo.l2];omega) fun M6 g6 => ?_
   walk_at "wp"
   have gg:=(g4.trans g5).trans g6
   refine ⟨by simp only [Str.length_append,t1,t2,sizeLine_eq];omega,_,_,_,rfl,rfl,gg _ _ e3,by simp [sizeLine_eq];omega, ?_⟩
   walk_at "wp"
   refine hF _ _ ⟨⟨_,_,_,rfl⟩,fun a o ea => ?_, ?_⟩
   ·rw [ao (fun z=>by rw [z,hpp] at ea;cases ea)];exact gg _ _ (g3 _ _ ea)
   ·rw [ad];simp [bK]
  ·rintro ρ M3 ⟨⟨o2,o3,o4,rfl⟩,g3,e3⟩
   walk_at "st"
   refine ⟨⟨_,rfl⟩,_,rfl,aK L0 L1 L2 :: ps.map bK,e3,iz hp h0 h1 h2 hc, ?_⟩
   rw [tj]
   exact q _ g3
theorem ke {n:Nat} (hn : 3 <= n) {b:Addr} {most:Int} {M:Mem} {Q:QD} (hb:Box b M) (m0 : 0 < most) (m1:most <= 81)
 (q:∀ (L0 L1 L2:Nat) a M',L0 <= 81 -> L1 <= 81 -> L2 <= 81 -> Bx b M M' -> a ≠ b -> M' a = some (.lst [.int L0, .int L1, .int L2]) -> Q (.ref a) M'):phi tab n 11 [.ref b, .int most] M Q:=by
 refine aA (by omega) rfl rfl (ρ := [some _,some _]) rfl ?_
 unfold d11 b11
 walk_at "st"
 refine ⟨by omega,by omega, ?_⟩
 refine bQ (I:=fun l ρ M' acc=>(∃ o, ρ = [o,some (.ref b),some (.int most)]) /\ Bx b M M' /\ ∃ ls:List Nat,ls.length = l.length /\ (∀ x ∈ ls,1 <= x /\ x <= 81) /\ acc = ls.map fun x => .int (x:Nat)) (ys:=List.range 3) (f:=fun i => .int (i:Nat)) (by rw [fb];simp) ⟨⟨_,rfl⟩,Bx.refl hb,[],rfl,by simp,rfl⟩ (fun _ _ _ _ hI=>trivial) ?_ ?_
 ·rintro l k r ρ M3 acc e ⟨⟨o1,rfl⟩,x3,ls,hls,hb3,rfl⟩
  refine ⟨_,rfl,fun N hN => ?_⟩
  walk_at "wp"
  have hlt:=bb e
  rw [List.length_range] at hlt
  refine cn (by omega) x3.box m0 (by omega) fun r M5 r0 r1 x5 => ?_
  walk_at "wp"
  refine ⟨by simp [sizeLine_eq,hls];omega,hN _ _ _ ⟨⟨_,rfl⟩,x3.trans x5,ls ++ [(1 + r).toNat],by simp [hls], ?_, ?_⟩⟩
  ·intro y hy
   rcases List.mem_append.mp hy with h | h
   ·exact hb3 y h
   ·simp at h;omega
  ·simp;omega
 ·rintro ρ M2 acc ⟨_,x2,ls,hls,hb2,rfl⟩ a ha
  match ls,hls,hb2 with
  | [L0,L1,L2],_,hb2 =>
  have hL0:=hb2 L0 (by simp)
  have hL1:=hb2 L1 (by simp)
  have hL2:=hb2 L2 (by simp)
  have hab:a ≠ b:=fun z=>by obtain ⟨x,y,w,e⟩:=x2.box;rw [<- z,ha] at e;cases e
  exact q L0 L1 L2 a _ (by omega) (by omega) (by omega) (x2.ge (Ge.new ha)) hab ad
theorem oT {ds:List Int} {r:Int} (h0 : 0 <= r) (h1:r < ds.length):∃ v,v ∈ ds /\ atI (ds.map D.int) r = some (.int v):=by
 obtain ⟨x,hx,hx2⟩:=eh (xs:=ds.map D.int) h0 (by rw [List.length_map];exact h1)
 obtain ⟨v,hv,rfl⟩:=List.mem_map.mp (List.mem_of_getElem? hx2)
 exact ⟨v,hv,hx⟩
theorem uf {n:Nat} (hn : 6 <= n) {b:Addr} {M:Mem} {Q:QD} (hb:Box b M)
 (q:∀ (L0 L1 L2:Nat) (ps:List Pr) pr M',L0 <= 81 -> L1 <= 81 -> L2 <= 81 -> ps.length <= 60 -> (∀ p ∈ ps,cy L0 L1 L2 p) -> M' pr = some (.lst (ps.map prD)) -> Q (.tup [.int L0, .int L1, .int L2, .ref pr]) M'):phi tab n 12 [.ref b] M Q:=by
 refine aA (by omega) rfl rfl (ρ := [some _,none,none]) rfl ?_
 unfold d12 b12
 walk_at "st"
 refine ⟨by rw [sizeLine_eq];first | decide | omega,fun p hp => ?_⟩
 have x0:=(Bx.refl hb).ge (Ge.new (o := .lst [.int 4, .int 4, .int 4, .int 12, .int 12, .int 4, .int 4, .int 81]) hp)
 have hpb:p ≠ b:=fun z=>by obtain ⟨x,y,w,e⟩:=hb;rw [<- z,hp] at e;cases e
 refine cn (by omega) x0.box (by decide) (by decide) fun r M1 r0 r1 x1 => ?_
 obtain ⟨most,hmo,hat⟩:=oT (ds := [4,4,4,12,12,4,4,81]) r0 r1
 refine aX (x1.keep p _ hpb ad) hat ?_
 have hm2 : 0 < most /\ most <= 81:=by
  simp only [List.mem_cons,List.not_mem_nil,or_false] at hmo
  omega
 walk_at "st"
 refine ⟨by rw [sizeLine_eq];first | decide | omega,fun p2 hp2 => ?_⟩
 have hpb2:p2 ≠ b:=fun z=>by obtain ⟨x,y,w,e⟩:=x1.box;rw [<- z,hp2] at e;cases e
 have x2:=(x0.trans x1).ge (Ge.new (o := .lst [.int 3, .int 5, .int 1, .int 12, .int 4, .int 2, .int 0, .int 60]) hp2)
 refine cn (by omega) x2.box (by decide) (by decide) fun r2 M3 s0 s1 x3 => ?_
 obtain ⟨cnt,hcn,hat2⟩:=oT (ds := [3,5,1,12,4,2,0,60]) s0 s1
 refine aX (x3.keep p2 _ hpb2 ad) hat2 ?_
 have hc2 : 0 <= cnt /\ cnt <= 60:=by
  simp only [List.mem_cons,List.not_mem_nil,or_false] at hcn
  omega
 have rest:∀ cc:Int,0 <= cc -> cc <= 60 -> phi tab (n - 1) 11 [.ref b, .int most] M3 fun x M1=>phi tab (n - 1) 10 [.ref b,x, .int cc] M1 Q:=by
  intro cc c0 c1
  obtain ⟨c,rfl⟩:∃ c:Nat,cc = (c:Int):=⟨cc.toNat,(Int.toNat_of_nonneg c0).symm⟩
  refine ke (by omega) (x2.trans x3).box hm2.1 hm2.2 fun L0 L1 L2 a M4 l0 l1 l2 x4 hab ha => ?_
  refine ka (x := "_law_lengths_here") (s:=ae 13) (ft := 7) (fp := 9) rfl (cn (by omega)) (om (by omega)) (by omega) (by omega) (by omega) (by omega) (by omega) x4.box hab ha fun ps pr M5 hpl hpo x5 hpr0 hpr => ?_
  exact q L0 L1 L2 ps pr M5 l0 l1 l2 (by omega) hpo hpr
 walk_at "st"
 split
 ·walk_at "st"
  walk_at "st"
  exact rest _ (by split <;> omega) (by split <;> omega)
 ·walk_at "st"
  exact rest _ hc2.1 hc2.2
theorem iA:∀ ns:List Int,PyData.eqvAll (ns.map .int) (ns.map .int) = true
 | [] => rfl
 | x :: r=>by simp [PyData.eqvAll,PyData.eqv,iA r]
theorem j8:∀ ps:List Pr,PyData.eqvAll (ps.map cm) (ps.map cm) = true
 | [] => rfl
 | x :: r=>by simp [PyData.eqvAll,PyData.eqv,j8 r,cm,iA]
theorem qw {k:Nat} {M:Mem} {a:Addr} {ps:List Pr} (h:M a = some (.lst (ps.map prD))):rb (k + 3) M (.ref a) = some (.list (ps.map cm)):=by
 rw [ip h,io];rfl
theorem md {x y z:Int} {M:Mem} {a:Addr} {ps:List Pr} (h:M a = some (.lst (ps.map prD))):rb 16 M (.tup [.int x, .int y, .int z, .ref a]) = some (.tuple [.int x, .int y, .int z, .list (ps.map cm)]):=by
 have p1:rb 15 M (.ref a) = some (.list (ps.map cm)):=qw (k := 12) h
 have i:∀ v:Int,rb 15 M (.int v) = some (.int v):=fun _=>rfl
 show (aw (rb 15 M) [.int x, .int y, .int z, .ref a]).map PyData.tuple = _
 simp only [aw,i,p1,Option.bind_some,Option.map_some]
theorem law_holds (ns:List Int) (hl:ns.length <= 63):phi tab 40 15 [.con (ns.map D.int)] (fun _=>none) fun d _=>d = .bl true:=by
 refine aA (by omega) rfl rfl (ρ := [some _,none,none,none,none]) rfl ?_
 unfold d15 b15
 walk_at "st"
 rw [List.length_map]
 refine ⟨by split <;> split <;> omega,by split <;> split <;> omega, ?_⟩
 refine ej (I:=fun l ρ M' => ∃ o1 o2 o3 o4, ρ = [some (.con (ns.map D.int)),o1,o2,o3,o4]) fb ⟨_,_,_,_,rfl⟩ (fun _ _ _ hI=>trivial) ?_ ?_
 ·rintro l k r ρ M8 e ⟨o1,o2,o3,o4,rfl⟩
  refine ⟨_,rfl,fun F hF => ?_⟩
  walk_at "st"
  refine so (s:=ae 9) (fc := 4) (fm := 5) (sc:=ae 7) rfl rfl (fun q=>ii (s:=ae 8) rfl (by omega) q) (by omega) (by omega) fun p x y hp => ?_
  refine uf (by omega) ⟨_,_,_,ad⟩ fun L0 L1 L2 ps pr M1 l0 l1 l2 hc hpo hpr => ?_
  walk_at "st"
  refine m9 ?_
  refine ⟨_,rfl,_,_,rfl,ay hpr,fun h1 n1=>⟨by rw [sizeLine_eq];first | decide | omega, ?_⟩⟩
  have g1:=Ge.new (o := .lst (ps.map prD)) n1
  have f1:ag M1 h1 (.lst (ps.map prD)) h1 = some (.lst (ps.map prD)):=ad
  have hpr1:=g1 _ _ hpr
  generalize ag M1 h1 (.lst (ps.map prD)) = M2 at g1 f1 hpr1
  refine ⟨by simp,by rw [sizeLine_eq];simp, ?_⟩
  simp only [List.cons_append,List.nil_append]
  walk_at "st"
  refine sy (by omega) hpo (by omega) (by omega) (by omega) (by omega) f1 fun M3 g3 => ?_
  have tok:PyData.strOk (cR L0 L1 L2 ps) = true:=by
   refine fB (ak _) fun t ht => ?_
   rcases List.mem_cons.mp ht with rfl | ht
   ·exact ol
   ·obtain ⟨p',_,rfl⟩:=List.mem_map.mp ht
    exact qv
  walk_at "st"
  have hty:jC "str" "str" = true:=by decide
  refine ⟨_,rfl,true,by rw [hty];rfl, ?_⟩
  rw [if_neg (by decide)]
  refine tK (by omega) hpo (by omega) (by omega) (by omega) (by omega) (g3 _ _ hpr1) fun M4 g4 => ?_
  have r0:∀ M,rb 16 M (.str (cR L0 L1 L2 ps)) = some (.str (cR L0 L1 L2 ps)):=fun M=>by simp only [rb,tok,if_true]
  refine ⟨_,_,r0 M4,r0 M4, ?_⟩
  have e0:(!PyData.eqv (.str (cR L0 L1 L2 ps)) (.str (cR L0 L1 L2 ps))) = false:=by simp [PyData.eqv]
  refine ⟨_,rfl, ?_⟩
  rw [e0,if_neg Bool.false_ne_true]
  refine ⟨_,_,md (g4 _ _ (g3 _ _ f1)),md (g4 _ _ (g3 _ _ hpr1)), ?_⟩
  have e2:(!PyData.eqv (.tuple [.int L0, .int L1, .int L2, .list (ps.map cm)]) (.tuple [.int L0, .int L1, .int L2, .list (ps.map cm)])) = false:=by simp [PyData.eqv,PyData.eqvAll,j8]
  refine ⟨_,rfl, ?_⟩
  rw [e2,if_neg Bool.false_ne_true]
  walk_at "wp"
  exact hF _ _ ⟨_,_,_,_,rfl⟩
 ·rintro ρ M8 ⟨o1,o2,o3,o4,rfl⟩
  dsimp only
  walk_at "st"
end K52
end
end Mi
end L2
open PySem.W in
set_option maxRecDepth 100000 in
set_option maxHeartbeats 0 in
theorem PySem.Challenge.cw_fewtimes_k52_schemes_written_holds : PySem.Challenge.rw_fewtimes_k52_schemes_written.Holds := by
 w_on;o_law;k_head;(case hw=>w_witness2)
 k_fill
 refine L2.Mi.K52.walk (l:=PySem.Challenge.rw_fewtimes_k52_schemes_written) rfl rfl L2.Mi.K52.law_holds (fun w h Y=>PySem.W.kIn_of Y) ?F
 case F =>
  intro w mg fa h KX G hmg
  refine' L2.Mi.K52.all_mk KX G hmg ?a0 ?l0 ?c0 ?k0 ?a1 ?l1 ?c1 ?k1 ?a2 ?l2 ?c2 ?k2 ?a3 ?l3 ?c3 ?k3 ?a4 ?l4 ?c4 ?k4 ?a5 ?l5 ?c5 ?k5 ?a6 ?l6 ?c6 ?k6 ?a7 ?l7 ?c7 ?k7 ?a8 ?l8 ?c8 ?k8 ?a9 ?l9 ?c9 ?k9 ?a10 ?l10 ?c10 ?k10 ?a11 ?l11 ?c11 ?k11 ?a12 ?l12 ?c12 ?k12 ?a13 ?l13 ?c13 ?k13 ?a14 ?l14 ?c14 ?k14 ?a15 ?l15 ?c15 ?k15 ?z0 ?z1 ?z2 ?z3 ?z4 ?z5 ?z6 ?z7 ?z8 ?z9 ?z10 ?z11 ?z12 ?z13 ?z14 ?z15 ?z16 ?z17 ?z18 ?z19
  (case a0=>k_is)
  (case l0=>k_is)
  (case c0=>k_is)
  (case k0=>k_is)
  (case a1=>k_is)
  (case l1=>k_is)
  (case c1=>k_is)
  (case k1=>k_is)
  (case a2=>k_is)
  (case l2=>k_is)
  (case c2=>k_is)
  (case k2=>k_is)
  (case a3=>k_is)
  (case l3=>k_is)
  (case c3=>k_is)
  (case k3=>k_is)
  (case a4=>k_is)
  (case l4=>k_is)
  (case c4=>k_is)
  (case k4=>k_is)
  (case a5=>k_is)
  (case l5=>k_is)
  (case c5=>k_is)
  (case k5=>k_is)
  (case a6=>k_is)
  (case l6=>k_is)
  (case c6=>k_is)
  (case k6=>k_is)
  (case a7=>k_is)
  (case l7=>k_is)
  (case c7=>k_is)
  (case k7=>k_is)
  (case a8=>k_is)
  (case l8=>k_is)
  (case c8=>k_is)
  (case k8=>k_is)
  (case a9=>k_is)
  (case l9=>k_is)
  (case c9=>k_is)
  (case k9=>k_is)
  (case a10=>k_is)
  (case l10=>k_is)
  (case c10=>k_is)
  (case k10=>k_is)
  (case a11=>k_is)
  (case l11=>k_is)
  (case c11=>k_is)
  (case k11=>k_is)
  (case a12=>k_is)
  (case l12=>k_is)
  (case c12=>k_is)
  (case k12=>k_is)
  (case a13=>k_is)
  (case l13=>k_is)
  (case c13=>k_is)
  (case k13=>k_is)
  (case a14=>k_is)
  (case l14=>k_is)
  (case c14=>k_is)
  (case k14=>k_is)
  (case a15=>k_is)
  (case l15=>k_is)
  (case c15=>k_is)
  (case k15=>k_is)
  (case z0=>k_is)
  (case z1=>k_is)
  (case z2=>k_is)
  (case z3=>k_is)
  (case z4=>k_is)
  (case z5=>k_is)
  (case z6=>k_is)
  (case z7=>k_is)
  (case z8=>k_is)
  (case z9=>k_is)
  (case z10=>k_is)
  (case z11=>k_is)
  (case z12=>k_is)
  (case z13=>k_is)
  (case z14=>k_is)
  (case z15=>k_is)
  (case z16=>k_is)
  (case z17=>k_is)
  (case z18=>k_is)
  (case z19=>k_is)
