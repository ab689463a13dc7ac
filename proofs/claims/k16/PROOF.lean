import PyProof.Rows.All
import Wide.All
import OpenK.AllK
import Wide.FinOn
import Lean
import PyProof.EqAt
import PyProof.EqKinds
import PyProof.TupleCall
import PyProof.ZipIter
import PyProof.EnumMake
import PyProof.EnumFor
import PyProof.CollectIter
import PyProof.Rows.SeqMore
import PyProof.ConsumeWalk
import PyProof.Rows.SortShellK
import PyProof.DictItems
import PyProof.DictWalks
import PyProof.AttrMissHeap
import PyProof.DictIter
import PyProof.MaxThree
import PyProof.SeqI3
import PySem.Challenge.RW_fewtimes_k16_schemes_within
set_option Elab.async false
set_option linter.all false
set_option compiler.extract_closed false
set_option genSizeOf false
set_option bootstrap.genMatcherCode false
set_option maxRecDepth 100000
set_option maxHeartbeats 4000000
namespace L2
open PySem PySem.Spec PyProof.Rows
noncomputable abbrev Key:=Sum Int Str
noncomputable def eY:Key -> Value -> Bool
 | .inl k,v=>Value.isInt k v
 | .inr x,v=>Value.isStrOf x v
noncomputable def zg (w:World):Key -> Int
 | .inl k=>hashInt k
 | .inr x=>hashStr w x
theorem aR:∀ {k:Key} {v:Value},eY k v = true -> (∃ i t,k = Sum.inl i /\ v = Value.int i t) ∨ (∃ x t,k = Sum.inr x /\ v = Value.str x t)
 | .inl i,v,h=>by
  obtain ⟨t,e⟩:=Value.isInt_shape (k:=i) (v:=v) h
  exact .inl ⟨i,t,rfl,e⟩
 | .inr x,v,h=>by
  obtain ⟨t,e⟩:=Value.isStrOf_shape (x:=x) (v:=v) h
  exact .inr ⟨x,t,rfl,e⟩
theorem om (i:Int) (t:Tok):eY (.inl i) (.int i t) = true:=by simp [eY,Value.isInt]
theorem on (x:Str) (t:Tok):eY (.inr x) (.str x t) = true:=by simp [eY,Value.isStrOf]
theorem vO (a b:Int):decide ((Sum.inl a:Key) = Sum.inl b) = (a == b):=by
 by_cases e:a = b
 ·subst e;simp
 ·have h : ¬ (Sum.inl a:Key) = Sum.inl b:=fun q=>e (Sum.inl.inj q)
  rw [decide_eq_false h]
  exact (beq_eq_false_iff_ne.mpr e).symm
theorem vP (a b:Str):decide ((Sum.inr a:Key) = Sum.inr b) = decide (a = b):=by
 by_cases e:a = b
 ·subst e;simp
 ·have h : ¬ (Sum.inr a:Key) = Sum.inr b:=fun q=>e (Sum.inr.inj q)
  rw [decide_eq_false h,decide_eq_false e]
theorem vQ (a:Int) (b:Str):decide ((Sum.inl a:Key) = Sum.inr b) = false:=decide_eq_false (fun q=>nomatch q)
theorem vR (a:Str) (b:Int):decide ((Sum.inr a:Key) = Sum.inl b) = false:=decide_eq_false (fun q=>nomatch q)
noncomputable def aD (prog:Program) (w:World):PySem.KeyKind prog w Key where
 is:=eY
 hash:=zg w
 inj:=fun v a b ha hb=>by
  rcases aR ha with ⟨i,t,rfl,rfl⟩ | ⟨x,t,rfl,rfl⟩
  ·rcases aR hb with ⟨j,u,rfl,e⟩ | ⟨y,u,rfl,e⟩
   ·injection e with e1 _;rw [e1]
   ·exact nomatch e
  ·rcases aR hb with ⟨j,u,rfl,e⟩ | ⟨y,u,rfl,e⟩
   ·exact nomatch e
   ·injection e with e1 _;rw [e1]
 byValue:=fun k v h=>by
  rcases aR h with ⟨i,t,rfl,rfl⟩ | ⟨x,t,rfl,rfl⟩ <;> rfl
 pyHash:=fun hv h=>by
  rcases aR hv with ⟨i,t,rfl,rfl⟩ | ⟨x,t,rfl,rfl⟩
  ·exact wpAny_pyHash_int h
  ·exact wpAny_pyHash_str h
 eqBool:=fun hu hv h=>by
  rcases aR hu with ⟨i,t,rfl,rfl⟩ | ⟨x,t,rfl,rfl⟩
  ·rcases aR hv with ⟨j,u,rfl,rfl⟩ | ⟨y,u,rfl,rfl⟩
   ·rw [vO] at h;exact wpAny_eqBool_int h
   ·rw [vQ] at h;exact SeqAt.EqAt.int_str i t y u _ _ _ _ h
  ·rcases aR hv with ⟨j,u,rfl,rfl⟩ | ⟨y,u,rfl,rfl⟩
   ·rw [vR] at h;exact SeqAt.EqAt.str_int x t j u _ _ _ _ h
   ·rw [vP] at h;exact wpAny_eqBool_str h
 «strs» := fun k x t v h=>by
  rcases aR h with ⟨i,u,rfl,e⟩ | ⟨y,u,rfl,e⟩
  ·exact nomatch e
  ·injection e with e1 _
   subst e1
   cases v <;> rfl
theorem kT (prog:Program) (w:World) (i:Int) (t:Tok):(aD prog w).is (.inl i) (.int i t) = true:=om i t
theorem kU (prog:Program) (w:World) (x:Str) (t:Tok):(aD prog w).is (.inr x) (.str x t) = true:=on x t
end L2
namespace L2
open PySem PySem.Spec PyProof.Rows
inductive V where
 | non | bl (b:Bool) | int (i:Int) | str (x:Str) | byt (b:Array UInt8) | flt (b:UInt64) | ref (a:Addr) | ty (n:String)
 deriving DecidableEq
noncomputable def RelV:V -> Value -> Prop
 | .non,u=>u = Value.none
 | .bl b,u=>u = Value.bool b
 | .int i,u => ∃ t,u = Value.int i t
 | .str x,u => ∃ t,u = Value.str x t
 | .byt b,u => ∃ t,u = Value.bytes b t
 | .flt b,u => ∃ t,u = Value.float b t
 | .ref a,u=>u = Value.ref a
 | .ty n,u=>u = Value.type n
noncomputable abbrev Vals:List V -> List Value -> Prop:=Paired RelV
theorem Vals.length {xs:List V} {us:List Value} (r:Vals xs us):xs.length = us.length:=Paired.length r
theorem Vals.get:∀ {xs:List V} {us:List Value} {i:Nat} {x:V},Vals xs us -> xs[i]? = some x -> ∃ u,us[i]? = some u /\ RelV x u
 | _,_,_,_, .nil,e=>by simp at e
 | _,_,0,_, .cons r _,e=>by simp at e;subst e;exact ⟨_,rfl,r⟩
 | _,_,i + 1,x, .cons _ t,e=>by
   obtain ⟨u,h1,h2⟩:=Vals.get (i:=i) (x:=x) t (by simpa using e)
   exact ⟨u,by simpa using h1,h2⟩
theorem Vals.set {x:V} {u:Value} (r:RelV x u):∀ {xs:List V} {us:List Value} (i:Nat),Vals xs us -> Vals (xs.set i x) (us.set i u)
 | _,_,_, .nil => .nil
 | _,_,0, .cons _ t => .cons r t
 | _,_,i + 1, .cons q t => .cons q (Vals.set r i t)
theorem Vals.append:∀ {xs ys:List V} {us ws:List Value},Vals xs us -> Vals ys ws -> Vals (xs ++ ys) (us ++ ws)
 | _,_,_,_, .nil,s=>s
 | _,_,_,_, .cons r t,s => .cons r (Vals.append t s)
theorem Vals.take:∀ {xs:List V} {us:List Value} (n:Nat),Vals xs us -> Vals (xs.take n) (us.take n)
 | _,_,0,_ => .nil
 | _,_,_ + 1, .nil => .nil
 | _,_,n + 1, .cons r t => .cons r (Vals.take n t)
theorem Vals.drop:∀ {xs:List V} {us:List Value} (n:Nat),Vals xs us -> Vals (xs.drop n) (us.drop n)
 | _,_,0,r=>r
 | _,_,_ + 1, .nil => .nil
 | _,_,n + 1, .cons _ t=>Vals.drop n t
noncomputable def RelO:Option V -> Option Value -> Prop
 | some v,some u=>RelV v u
 | none,none=>True
 | _,_=>False
noncomputable def KV {κ:Type}:List (κ × V) -> List (κ × Value) -> Prop:=Paired fun (p : κ × V) (q : κ × Value)=>p.1 = q.1 /\ RelV p.2 q.2
noncomputable def kV:Key -> V
 | .inl i => .int i
 | .inr x => .str x
inductive HO where
 | lst (xs:List V)
 | tup (xs:List V)
 | dK (kvs:List (Key × V)) | dT (kvs:List (List Key × V))
 | set (S:Int -> Bool) (n:Nat)
 | ins (C dx:Addr) (fs:List (Str × V))
 | own (x:Addr)
 | xd (fs:List (Str × V))
 | met (f x:Addr)
 | rng (lo hi:Int)
 | frz (o:Obj) (u:HO)
 | tbl (ps:Array Value)
 | ext (φ:Heap -> Prop)
noncomputable abbrev Hp:=Addr -> Option HO
noncomputable def upd (H:Hp) (a:Addr) (o:HO):Hp:=fun b=>if b = a then some o else H b
theorem aq {H:Hp} {a:Addr} {o:HO}:upd H a o a = some o:=by unfold upd;rw [if_pos rfl]
theorem aj {H:Hp} {a b:Addr} {o:HO} (h:b ≠ a):upd H a o b = H b:=by unfold upd;rw [if_neg h]
theorem tR {H:Hp} {a:Addr} {o u:HO}:upd (upd H a o) a u = upd H a u:=by
 funext b;unfold upd;split <;> rfl
theorem sX {H:Hp} {a b:Addr} {o u:HO} (h:H a = some o) (h':H b = some u) (d:o ≠ u):a ≠ b:=by
 intro e;subst e;rw [h] at h';exact d (Option.some.inj h')
theorem aS {H:Hp} {a b:Addr} {o:HO} (h:H a = some o) (h':H b = none):a ≠ b:=by
 intro e;subst e;rw [h] at h';cases h'
section
variable (P:Program) (w:World)
noncomputable def ObjOk (H:Hp) (h:Heap) (a:Addr):HO -> Prop
 | .lst xs=>xs.length <= sizeLine /\ ∃ (its:List Value) (n:Nat),Vals xs its /\ h.get? a = some { cls := .type "list",data := .seq its.toArray n }
 | .tup xs=>xs.length <= sizeLine /\ ∃ its:List Value,Vals xs its /\ IsTup h a its.toArray
 | .dK kvs=>kvs.length <= sizeLine /\ (a == sysModules) = false /\ ∃ vs,KV kvs vs /\ h.DictOf (aD P w) a vs
 | .dT kvs=>kvs.length <= sizeLine /\ (a == sysModules) = false /\ ∃ xs:List (List Key × Addr × Value),
  Paired (fun (p:List Key × V) (q:List Key × Addr × Value)=>p.1 = q.1 /\ H q.2.1 = some (.tup (p.1.map kV)) /\ RelV p.2 q.2.2) kvs xs /\
  ∃ o es ep,h.get? a = some o /\ o.ExactDict /\ o.data = .dict es ep /\ es.toList = xs.map (entryOfKey (tupleKind (aD P w))) /\ (xs.map (·.1)).Nodup
 | .set S n=>h.SetOf (intKind P w) a S n
 | .ins C dx fs=>H dx = some (.own a) /\ fs.length <= 1000 /\ dx ≠ a /\ h.get? a = some (PySem.W.instObj C dx) /\
  ∃ mA,h.Ns1 dx mA /\ (∀ f,RelO (fs.lookup f) (mA f)) /\ PySem.Within mA (fs.map (·.1))
 | .own _ => ∃ o,h.get? a = some o
 | .xd fs => ∃ mA,h.Ns1 a mA /\ ∀ f,RelO (fs.lookup f) (mA f)
 | .rng lo hi => ∃ t u v,h.get? a = some { cls := .type "range",data := .fields #[.int lo t, .int hi u, .int 1 v] }
 | .frz o u=>h.get? a = some o /\ ObjOk H h a u
 | .tbl ps=>h.get? a = some { cls := .none,data := .fields ps }
 | .met f x=>h.get? a = some (PySem.W.methodObj (.ref f) (.ref x))
 | .ext φ => φ h /\ (∃ o,h.get? a = some o) /\ ∀ h1 h2:Heap, φ h1 -> (∀ o,h1.get? a = some o -> h2.get? a = some o) -> φ h2
noncomputable def HOk (H:Hp) (h:Heap):Prop := ∀ a o,H a = some o -> ObjOk P w H h a o
end
section
variable {P:Program} {w:World} {H H':Hp} {h h':Heap} {a:Addr} {o:HO}
theorem ObjOk.lt (x:ObjOk P w H h a o):a < h.objs.size:=by
 cases o with
 | lst xs=>obtain ⟨_,_,_,_,e⟩:=x;exact Heap.lt_size e
 | tup xs=>obtain ⟨_,_,_,p⟩:=x;exact p.lt
 | dK kvs=>obtain ⟨_,_,_,_,o,_,_,e,_⟩:=x;exact Heap.lt_size e
 | dT kvs=>obtain ⟨_,_,_,_,o,_,_,e,_⟩:=x;exact Heap.lt_size e
 | set S n=>obtain ⟨o,_,_,_,e,_⟩:=x;exact Heap.lt_size e
 | ins C dx fs=>obtain ⟨_,_,_,e,_⟩:=x;exact Heap.lt_size e
 | own y=>obtain ⟨_,e⟩:=x;exact Heap.lt_size e
 | xd fs=>obtain ⟨_,⟨_,_,_,e,_⟩,_⟩:=x;exact Heap.lt_size e
 | rng lo hi=>obtain ⟨_,_,_,e⟩:=x;exact Heap.lt_size e
 | frz ob u=>obtain ⟨e,_⟩:=x;exact Heap.lt_size e
 | tbl ps=>exact Heap.lt_size (show h.get? a = some _ from x)
 | met f y=>exact Heap.lt_size (show h.get? a = some _ from x)
 | ext φ => obtain ⟨_,⟨_,e⟩,_⟩:=x;exact Heap.lt_size e
theorem Paired.mapP {α β:Type} {F G : α -> β -> Prop}:∀ {l₁:List α} {l₂:List β},Paired F l₁ l₂ -> (∀ a b,F a b -> G a b) -> Paired G l₁ l₂
 | _,_, .nil,_ => .nil
 | _,_, .cons r t,f => .cons (f _ _ r) (Paired.mapP t f)
theorem ObjOk.stay (x:ObjOk P w H h a o) (k:∀ b u,(b = a ∨ H b = some (.own a)) -> h.get? b = some u -> h'.get? b = some u)
 (ho:∀ b,H b = some (.own a) -> H' b = some (.own a)) (ht:∀ b xs,H b = some (.tup xs) -> H' b = some (.tup xs)):ObjOk P w H' h' a o:=by
 induction o with
 | lst xs=>obtain ⟨z,its,n,r,e⟩:=x;exact ⟨z,its,n,r,k _ _ (.inl rfl) e⟩
 | tup xs=>obtain ⟨z,its,r,ob,e,c⟩:=x;exact ⟨z,its,r,ob,k _ _ (.inl rfl) e,c⟩
 | dK kvs=>obtain ⟨z,y,vs,r,ob,es,ep,e,c⟩:=x;exact ⟨z,y,vs,r,ob,es,ep,k _ _ (.inl rfl) e,c⟩
 | dT kvs =>
   obtain ⟨z,y,xs,r,ob,es,ep,e,c⟩:=x
   exact ⟨z,y,xs,Paired.mapP r fun p q z=>⟨z.1,ht _ _ z.2.1,z.2.2⟩,ob,es,ep,k _ _ (.inl rfl) e,c⟩
 | set S n=>obtain ⟨ob,es,ep,t,e,c⟩:=x;exact ⟨ob,es,ep,t,k _ _ (.inl rfl) e,c⟩
 | ins C dx fs =>
   obtain ⟨d,z,ne,e,mA,⟨od,es,ep,e2,c⟩,r⟩:=x
   exact ⟨ho _ d,z,ne,k _ _ (.inl rfl) e,mA,⟨od,es,ep,k _ _ (.inr d) e2,c⟩,r⟩
 | own y=>obtain ⟨ob,e⟩:=x;exact ⟨ob,k _ _ (.inl rfl) e⟩
 | xd fs=>obtain ⟨mA,⟨od,es,ep,e,c⟩,r⟩:=x;exact ⟨mA,⟨od,es,ep,k _ _ (.inl rfl) e,c⟩,r⟩
 | rng lo hi=>obtain ⟨t,u,v,e⟩:=x;exact ⟨t,u,v,k _ _ (.inl rfl) e⟩
 | frz ob u ih=>obtain ⟨e,q⟩:=x;exact ⟨k _ _ (.inl rfl) e,ih q⟩
 | tbl ps =>
   have e:h.get? a = some { cls := .none,data := .fields ps }:=x
   show h'.get? a = some { cls := .none,data := .fields ps }
   exact k a _ (.inl rfl) e
 | met f y =>
   have e:h.get? a = some (PySem.W.methodObj (.ref f) (.ref y)):=x
   show h'.get? a = some (PySem.W.methodObj (.ref f) (.ref y))
   exact k a _ (.inl rfl) e
 | ext φ => obtain ⟨p,⟨o,e⟩,st⟩:=x;exact ⟨st _ _ p fun o q=>k _ _ (.inl rfl) q,⟨o,k _ _ (.inl rfl) e⟩,st⟩
theorem HOk.lt (x:HOk P w H h) (e:H a = some o):a < h.objs.size:=(x a o e).lt
theorem HOk.fresh (x:HOk P w H h) (e:h.objs.size <= a):H a = none:=by
 cases q:H a with
 | none=>rfl
 | some u=>exact absurd (Nat.lt_of_lt_of_le (x.lt q) e) (Nat.lt_irrefl _)
theorem HOk.kept (x:HOk P w H h) (k:∀ b u,h.get? b = some u -> h'.get? b = some u):HOk P w H h':=fun a o e =>
 (x a o e).stay (fun b u _ q=>k b u q) (fun _ q=>q) fun _ _ q=>q
theorem HOk.laid (x:HOk P w H h) (k:∀ b u,h.get? b = some u -> h'.get? b = some u) (hp:h.objs.size <= a) (new:ObjOk P w (upd H a o) h' a o):HOk P w (upd H a o) h':=fun b u e=>by
 have hn:=x.fresh hp
 by_cases hb:b = a
 ·subst hb;rw [aq] at e;cases e;exact new
 ·rw [aj hb] at e
  exact (x b u e).stay (fun c v _ q=>k c v q) (fun c q=>by rw [aj (aS q hn)];exact q) fun c xs q=>by rw [aj (aS q hn)];exact q
end
noncomputable def Rd (H:Hp) (a:Addr) (u:HO):Prop:=H a = some u ∨ ∃ o,H a = some (.frz o u)
theorem Rd.of {H:Hp} {a:Addr} {u:HO} (h:H a = some u):Rd H a u := .inl h
theorem Rd.ok {P:Program} {w:World} {H:Hp} {h:Heap} {a:Addr} {u:HO} (r:Rd H a u) (x:HOk P w H h):ObjOk P w H h a u:=by
 rcases r with r | ⟨o,r⟩
 ·exact x a u r
 ·obtain ⟨_,q⟩:=x a _ r
  exact q
noncomputable def Mut:Option HO -> Prop
 | some (.lst _)=>True
 | some (.dK _)=>True
 | some (.dT _)=>True
 | some (.set _ _)=>True
 | some (.ins _ _ _)=>True
 | some (.ext _)=>True
 | _=>False
section
variable {P:Program} {w:World} {H:Hp} {h h':Heap} {x e:Addr} {o':HO}
theorem HOk.write (ok:HOk P w H h) (mu:Mut (H x)) (he:e = x ∨ H e = some (.own x)) (k:∀ b u,b ≠ e -> h.get? b = some u -> h'.get? b = some u) (heo:∃ u,h'.get? e = some u)
 (new:ObjOk P w (upd H x o') h' x o'):HOk P w (upd H x o') h':=fun b u q=>by
 have nown:∀ c y,H c = some (.own y) -> c ≠ x:=fun c y r z=>by subst z;rw [r] at mu;exact mu
 have ntup:∀ c xs,H c = some (.tup xs) -> c ≠ x:=fun c xs r z=>by subst z;rw [r] at mu;exact mu
 by_cases hb:b = x
 ·subst hb;rw [aq] at q;cases q;exact new
 ·rw [aj hb] at q
  by_cases hbe:b = e
  ·have q':H b = some (.own x):=by
    rcases he with z | z
    ·exact absurd (hbe.trans z) hb
    ·rw [hbe];exact z
   rw [q] at q';cases q'
   obtain ⟨v,hv⟩:=heo
   exact ⟨v,by rw [hbe];exact hv⟩
  ·refine (ok b u q).stay (fun c v hc r=>k c v ?_ r) (fun c r=>by rw [aj (nown c b r)];exact r) fun c xs r=>by rw [aj (ntup c xs r)];exact r
   rcases hc with rfl | hc
   ·exact hbe
   ·rintro rfl
    rcases he with z | z
    ·exact nown c b hc z
    ·rw [hc] at z;cases z;exact hb rfl
end
structure Un (fs ex:List Addr) (H H':Hp) (h h':Heap):Prop where
 keep:∀ b o,h.get? b = some o -> H b = none -> b ∉ fs -> b ∉ ex -> h'.get? b = some o
 slot:∀ b o,h.get? b = some o -> H b = none -> b ∈ fs -> b ∉ ex -> ∃ sl,h'.get? b = some { o with slots:=sl }
 free:∀ b o,h.get? b = some o -> H b = none -> b ∉ ex -> H' b = none
 there:∀ b o,h.get? b = some o -> b ∉ ex -> ∃ o',h'.get? b = some o'
 tups:∀ b xs,H b = some (.tup xs) -> H' b = some (.tup xs)
 frzs:∀ b o u,H b = some (.frz o u) -> H' b = some (.frz o u)
 tbls:∀ b ps,H b = some (.tbl ps) -> ∃ more,H' b = some (.tbl (ps ++ more))
section
variable {fs fs' ex ex':List Addr} {H H1 H2:Hp} {h h1 h2 h':Heap} {a x e:Addr} {o:HO}
theorem Un.any (u:Un fs ex H H1 h h1) {b:Addr} {ob:Obj} (q:h.get? b = some ob) (n:H b = none) (hx:b ∉ ex):∃ sl,h1.get? b = some { ob with slots:=sl }:=by
 by_cases hb:b ∈ fs
 ·exact u.slot b ob q n hb hx
 ·exact ⟨ob.slots,u.keep b ob q n hb hx⟩
theorem Un.trans (a:Un fs ex H H1 h h1) (b:Un fs ex H1 H2 h1 h2):Un fs ex H H2 h h2 where
 keep:=fun c ob q n hc hx=>b.keep c ob (a.keep c ob q n hc hx) (a.free c ob q n hx) hc hx
 slot:=fun c ob q n hc hx=>by
  obtain ⟨sl,e1⟩:=a.slot c ob q n hc hx
  obtain ⟨sl',e2⟩:=b.slot c _ e1 (a.free c ob q n hx) hc hx
  exact ⟨sl',e2⟩
 free:=fun c ob q n hx=>by
  obtain ⟨o',e1⟩:=a.there c ob q hx
  exact b.free c o' e1 (a.free c ob q n hx) hx
 there:=fun c ob q hx=>by
  obtain ⟨o',e1⟩:=a.there c ob q hx
  exact b.there c o' e1 hx
 tups:=fun c xs q=>b.tups c xs (a.tups c xs q)
 frzs:=fun c ob xs q=>b.frzs c ob xs (a.frzs c ob xs q)
 tbls:=fun c ps q=>by
  obtain ⟨m1,e1⟩:=a.tbls c ps q
  obtain ⟨m2,e2⟩:=b.tbls c _ e1
  exact ⟨m1 ++ m2,by rw [e2,Array.append_assoc]⟩
theorem Un.kept (k:∀ b u,h.get? b = some u -> h'.get? b = some u):Un fs ex H H h h' :=
 ⟨fun b ob q _ _ _=>k b ob q,fun b ob q _ _ _=>⟨ob.slots,k b ob q⟩,fun _ _ _ n _=>n,fun b ob q _=>⟨ob,k b ob q⟩,fun _ _ q=>q,fun _ _ _ q=>q,fun _ ps q=>⟨#[],by rw [q];simp⟩⟩
theorem Un.refl:Un fs ex H H h h:=Un.kept fun _ _ q=>q
theorem Un.laid (k:∀ b u,h.get? b = some u -> h'.get? b = some u) (hp:h.objs.size <= a) (hn:H a = none):Un fs ex H (upd H a o) h h' where
 keep:=fun b u q _ _ _=>k b u q
 slot:=fun b u q _ _ _=>⟨u.slots,k b u q⟩
 free:=fun b u q n _=>by rw [aj (Nat.ne_of_lt (Nat.lt_of_lt_of_le (Heap.lt_size q) hp))];exact n
 there:=fun b u q _=>⟨u,k b u q⟩
 tups:=fun b xs q=>by rw [aj (aS q hn)];exact q
 frzs:=fun b u xs q=>by rw [aj (aS q hn)];exact q
 tbls:=fun b ps q=>⟨#[],by rw [aj (aS q hn),q];simp⟩
theorem Un.write (mu:Mut (H x)) (he:e = x ∨ H e = some (.own x)) (k:∀ b u,b ≠ e -> h.get? b = some u -> h'.get? b = some u) (heo:∃ u,h'.get? e = some u):Un fs ex H (upd H x o) h h':=by
 have hx:∀ b,H b = none -> b ≠ x:=fun b n z=>by subst z;rw [n] at mu;exact mu
 have hb:∀ b,H b = none -> b ≠ e:=fun b n z=>by
  subst z
  rcases he with r | r
  ·exact hx b n r
  ·rw [n] at r;cases r
 have hm:∀ b u,H b = some u -> ¬ Mut (some u) -> b ≠ x:=fun b u q nm z=>by subst z;rw [q] at mu;exact nm mu
 refine ⟨fun b u q n _ _=>k b u (hb b n) q,fun b u q n _ _=>⟨u.slots,k b u (hb b n) q⟩,fun b u q n _=>by rw [aj (hx b n)];exact n,fun b u q _ => ?_,
  fun b xs q=>by rw [aj (hm b _ q fun z=>z)];exact q,fun b u xs q=>by rw [aj (hm b _ q fun z=>z)];exact q,fun b ps q=>⟨#[],by rw [aj (hm b _ q fun z=>z),q];simp⟩⟩
 by_cases hbe:b = e
 ·subst hbe;exact heo
 ·exact ⟨u,k b u hbe q⟩
end
noncomputable def trk (h:Heap) (H:Hp):List Addr:=(List.range h.objs.size).filter fun a=>(H a).isSome
noncomputable def dH (h:Heap) (H:Hp):Heap:=PySem.W.hideAll h (trk h H)
theorem oo (h:Heap) (H:Hp):(dH h H).objs.size = h.objs.size:=PySem.W.hideAll_size _ _
theorem qr {h:Heap} {H:Hp} {b:Addr} {o:Obj} (e:h.get? b = some o) (n:H b = none):(dH h H).get? b = some o :=
 PySem.W.hideAll_get _ e fun hm=>by
  have q:(H b).isSome = true:=(List.mem_filter.mp hm).2
  rw [n] at q;simp at q
theorem tS {h:Heap} {H:Hp} {b:Addr} {o:Obj} (e:(dH h H).get? b = some o):h.get? b = some o /\ H b = none:=by
 have e':h.get? b = some o:=PySem.W.of_hideAll (trk h H) e
 refine ⟨e', ?_⟩
 cases q:H b with
 | none=>rfl
 | some x =>
   have hm:b ∈ trk h H:=List.mem_filter.mpr ⟨List.mem_range.mpr (Heap.lt_size e'),by simp [q]⟩
   have z:(dH h H).get? b = none:=PySem.W.hideAll_none (trk h H) hm
   rw [z] at e;cases e
noncomputable def tT (g h:Heap) (L:Addr):List (Addr × Obj):=(List.range h.objs.size).filterMap fun a=>if a = L ∨ (g.get? a).isSome = true then none else (h.get? a).map fun o=>(a,o)
noncomputable def rest (g h:Heap) (L d:Addr):List (Addr × Obj):=(tT g h L).filter fun p=>decide (p.1 ≠ d)
end L2
namespace L2
open PySem PySem.Spec PyProof.Rows
structure Mod (K:PySem.W.Frag) (mg:Str -> Option Value) (base:Heap):Prop where
 kin:K.In base
 glob:base.Ns mainGlobals mg
 blt:∃ mb,base.Ns builtinsNs mb /\ ∀ x:Str,x ≠ "__name__" -> mb x = bootBuiltins x
 nolimit:base.NoLimit
structure Cx where
 prog:Program
 w:World
 K:PySem.W.Frag
 mg:Str -> Option Value
 base:Heap
 A:Around
 N:List Str
 s₀:Shared
 H₀:Hp
 env:Env
 outer:List Env
 stack:List Env
 ex:List Addr
 fn:Str -> Bool
 calm:Bool
 pn:List (Addr × Obj)
 xe:Value -> Shared -> Prop
noncomputable def frs (l:List Env):List Addr:=l.filterMap (·.frame)
noncomputable abbrev Cx.fs (X:Cx):List Addr:=frs X.outer
noncomputable def Vis (sc:Scope) (x:Str):Prop:=sc.names.lookup x = some .local ∨ sc.names.lookup x = some .cell ∨ sc.names.lookup x = some .free
noncomputable def Loc (sc:Scope) (x:Str):Prop:=sc.names.lookup x = some .local ∨ sc.names.lookup x = some .cell
noncomputable def zh (env:Env) (h:Heap) (m:Str -> Option Value) (x:Str) (u:Value):Prop :=
 (env.kindOf x = some .local /\ m x = some u) ∨ ((env.kindOf x = some .cell ∨ env.kindOf x = some .free) /\ ∃ c,env.cells.lookup x = some c /\ h.IsCell c (some u))
structure Cx.Ok (X:Cx):Prop where
 mod:Mod X.K X.mg X.base
 kind:X.env.scope.kind = .function
 glob:X.env.globals = mainGlobals
 blt:X.env.builtins = builtinsNs
 above:X.s₀.heap.objs.size <= X.env.locals
 inj:∀ x y c,X.env.cells.lookup x = some c -> X.env.cells.lookup y = some c -> x = y
 has:∀ x,(X.env.kindOf x = some .cell ∨ X.env.kindOf x = some .free) -> ∃ c,X.env.cells.lookup x = some c
 cab:∀ x c,X.fn x = true -> X.env.cells.lookup x = some c -> X.s₀.heap.objs.size <= c
 hd:X.calm = true -> X.A.handled = none
 frames:X.A.frames = some X.stack
 stk:X.stack = X.outer ∨ (X.stack = X.env :: X.outer /\ X.env.frame = some X.env.locals)
 exf:∀ b ∈ X.ex,b ≠ X.env.locals /\ ∀ x c,X.env.cells.lookup x = some c -> c ≠ b
 bs:∀ b o,X.base.get? b = some o -> X.s₀.heap.get? b = some o /\ X.H₀ b = none
 bsz:X.base.objs.size <= X.s₀.heap.objs.size
 noex:∀ b o,X.base.get? b = some o -> b ∉ X.ex
 exfs:∀ b ∈ X.ex,b ∉ X.fs
 funs:X.s₀.heap.FunFrames X.base X.outer
 frf:∀ b ∈ X.fs,X.H₀ b = none
structure Inv (X:Cx) (pins:List (Addr × Obj)) (σ:List (Option V)) (H:Hp) (s:Shared):Prop where
 ok:X.Ok
 os:s.os = X.s₀.os
 bare:AllBare s.gens
 base:Un X.fs X.ex X.H₀ H X.s₀.heap s.heap
 loc:∃ m,s.heap.Ns X.env.locals m /\ ∀ (i:Nat) (x:Str) (v:V),X.N[i]? = some x -> σ[i]? = some (some v) -> Vis X.env.scope x -> ∃ u,RelV v u /\ zh X.env s.heap m x u
 cell:∀ x c,X.env.cells.lookup x = some c -> ∃ v,s.heap.IsCell c v
 free:H X.env.locals = none
 freeC:∀ x c,X.env.cells.lookup x = some c -> H c = none
 pin:∀ p ∈ X.pn ++ pins,s.heap.get? p.1 = some p.2 /\ H p.1 = none /\ p.1 ≠ X.env.locals /\ p.1 ∉ X.fs /\ ∀ v,p.2.data ≠ .cell v
 hok:HOk X.prog X.w H s.heap
 len : σ.length = X.N.length
section
variable {X:Cx} {pins:List (Addr × Obj)} {σ:List (Option V)} {H H':Hp} {s:Shared} {h':Heap}
theorem Cx.Ok.nofr (ok:X.Ok) {b:Addr} {o:Obj} (e:X.base.get? b = some o):b ∉ X.fs:=fun hb=>by
 have:=(ok.funs.mem hb).1
 rw [e] at this;cases this
theorem Inv.bs (I:Inv X pins σ H s):∀ b o,X.base.get? b = some o -> s.heap.get? b = some o /\ H b = none:=fun b o e =>
 ⟨I.base.keep b o (I.ok.bs b o e).1 (I.ok.bs b o e).2 (I.ok.nofr e) (I.ok.noex b o e),I.base.free b o (I.ok.bs b o e).1 (I.ok.bs b o e).2 (I.ok.noex b o e)⟩
theorem Inv.bk (I:Inv X pins σ H s):∀ b o,X.base.get? b = some o -> s.heap.get? b = some o:=fun b o e=>(I.bs b o e).1
theorem Inv.mod (I:Inv X pins σ H s):Mod X.K X.mg X.base:=I.ok.mod
theorem Inv.kIn (I:Inv X pins σ H s):X.K.In s.heap:=I.ok.mod.kin.keeps I.bk
theorem Inv.lt (I:Inv X pins σ H s):X.env.locals < s.heap.objs.size:=let ⟨_,hn,_⟩:=I.loc;hn.lt
theorem Inv.sz (I:Inv X pins σ H s):X.s₀.heap.objs.size <= s.heap.objs.size:=Nat.le_trans I.ok.above (Nat.le_of_lt I.lt)
theorem Inv.nofs (I:Inv X pins σ H s) {a:Addr} (h:s.heap.objs.size <= a):a ∉ X.fs:=fun hb=>by
 obtain ⟨_,o,ho,_⟩:=I.ok.funs.mem hb
 exact absurd (Nat.lt_of_lt_of_le (Heap.lt_size ho) (Nat.le_trans I.sz h)) (Nat.lt_irrefl _)
theorem Inv.cne (I:Inv X pins σ H s):∀ x c,X.env.cells.lookup x = some c -> c ≠ X.env.locals:=fun x c e z=>by
 obtain ⟨v,o,ho,hd⟩:=I.cell x c e
 obtain ⟨m,⟨o',es,ep,ho',hd',_⟩,_⟩:=I.loc
 rw [z,ho'] at ho;cases ho;rw [hd'] at hd;cases hd
theorem Inv.funs (I:Inv X pins σ H s):s.heap.FunFrames X.base X.outer:=by
 have all:∀ (l:List Env),(∀ b ∈ frs l,b ∈ X.fs) -> X.s₀.heap.FunFrames X.base l -> s.heap.FunFrames X.base l:=by
  intro l
  induction l with
  | nil=>intro _ _;trivial
  | cons env r ih =>
    intro hs hl
    obtain ⟨hk,⟨L,o,hf,hn,ho,hd⟩,hr⟩:=hl
    have hL:L ∈ X.fs:=hs L (by unfold frs;rw [List.filterMap_cons,hf];exact List.mem_cons_self)
    obtain ⟨sl,e⟩:=I.base.slot L o ho (I.ok.frf L hL) hL fun z=>I.ok.exfs L z hL
    exact ⟨hk,⟨L,_,hf,hn,e,hd⟩,ih (fun b hb=>hs b (by unfold frs;rw [List.filterMap_cons,hf];exact List.mem_cons_of_mem _ hb)) hr⟩
 exact all X.outer (fun _ hb=>hb) I.ok.funs
theorem Inv.stack (I:Inv X pins σ H s):s.heap.FunFrames X.base X.stack:=by
 rcases I.ok.stk with e | ⟨e,hf⟩
 ·rw [e];exact I.funs
 ·rw [e]
  obtain ⟨m,hn,_⟩:=I.loc
  refine .cons (by rw [I.ok.kind];decide) hf hn ?_ I.funs
  exact Heap.get?_none_of_le (Nat.le_trans I.ok.bsz I.ok.above)
theorem Inv.stkSub (I:Inv X pins σ H s):∀ b ∈ frs X.stack,b ∈ X.env.locals :: X.fs:=fun b hb=>by
 rcases I.ok.stk with e | ⟨e,hf⟩
 ·rw [e] at hb;exact List.mem_cons_of_mem _ hb
 ·rw [e] at hb
  unfold frs at hb
  rw [List.filterMap_cons,hf] at hb
  exact hb
theorem Inv.stkFree (I:Inv X pins σ H s):∀ b ∈ frs X.stack,H b = none:=fun b hb=>by
 rcases List.mem_cons.mp (I.stkSub b hb) with e | hb
 ·rw [e];exact I.free
 ·obtain ⟨_,o,ho,_⟩:=I.ok.funs.mem hb
  exact I.base.free b o ho (I.ok.frf b hb) fun z=>I.ok.exfs b z hb
theorem Inv.step {g':Array GenState} {t':Nat} {d':Drawn} {ch:List Addr} (I:Inv X pins σ H s)
 (hch:∀ b ∈ ch,(b ∈ X.ex ∨ X.s₀.heap.objs.size <= b) /\ b ≠ X.env.locals /\ (∀ x c,X.env.cells.lookup x = some c -> c ≠ b) /\ ∀ p ∈ X.pn ++ pins,p.1 ≠ b)
 (keep:∀ b o,b ≠ X.env.locals -> b ∉ X.fs -> b ∉ ch -> s.heap.get? b = some o -> H b = none -> h'.get? b = some o)
 (slot:∀ b o,b ≠ X.env.locals -> b ∈ X.fs -> b ∉ ch -> s.heap.get? b = some o -> H b = none -> ∃ sl,h'.get? b = some { o with slots:=sl }) (free:∀ b o,b ∉ ch -> s.heap.get? b = some o -> H b = none -> H' b = none)
 (there:∀ b o,b ∉ ch -> s.heap.get? b = some o -> ∃ o',h'.get? b = some o')
 (tups:∀ b xs,H b = some (.tup xs) -> H' b = some (.tup xs)) (frzs:∀ b o u,H b = some (.frz o u) -> H' b = some (.frz o u)) (tbls:∀ b ps,H b = some (.tbl ps) -> ∃ more,H' b = some (.tbl (ps ++ more)))
 (ns:∀ m,s.heap.Ns X.env.locals m -> h'.Ns X.env.locals m) (hok:HOk X.prog X.w H' h') (hg:AllBare g') :
 Inv X pins σ H' { s with heap:=h',gens:=g',drawn:=d',toks:=t' }:=by
 have neL:∀ b o,X.s₀.heap.get? b = some o -> b ≠ X.env.locals:=fun b o e=>Nat.ne_of_lt (Nat.lt_of_lt_of_le (Heap.lt_size e) I.ok.above)
 have neC:∀ b o,X.s₀.heap.get? b = some o -> b ∉ X.ex -> b ∉ ch:=fun b o e hx hb=>by
  rcases (hch b hb).1 with z | z
  ·exact hx z
  ·exact absurd (Nat.lt_of_lt_of_le (Heap.lt_size e) z) (Nat.lt_irrefl _)
 have cellK:∀ x c,X.env.cells.lookup x = some c -> ∀ v,s.heap.IsCell c v -> h'.IsCell c v:=fun x c e v ⟨o,ho,hd⟩=>by
  have nch:c ∉ ch:=fun z=>(hch c z).2.2.1 x c e rfl
  by_cases hc:c ∈ X.fs
  ·obtain ⟨sl,q⟩:=slot c o (I.cne x c e) hc nch ho (I.freeC x c e)
   exact ⟨_,q,hd⟩
  ·exact ⟨o,keep c o (I.cne x c e) hc nch ho (I.freeC x c e),hd⟩
 refine ⟨I.ok,I.os,hg,⟨fun b o e n hb hx => ?_,fun b o e n hb hx => ?_,fun b o e n hx => ?_,fun b o e hx => ?_,fun b xs e=>tups b xs (I.base.tups b xs e),fun b o xs e=>frzs b o xs (I.base.frzs b o xs e),fun b ps e => ?_⟩, ?_,fun x c e => ?_, ?_,fun x c e => ?_,fun p hp => ?_,hok,I.len⟩
 ·exact keep b o (neL b o e) hb (neC b o e hx) (I.base.keep b o e n hb hx) (I.base.free b o e n hx)
 ·obtain ⟨sl,e1⟩:=I.base.slot b o e n hb hx
  obtain ⟨sl',e2⟩:=slot b _ (neL b o e) hb (neC b o e hx) e1 (I.base.free b o e n hx)
  exact ⟨sl',e2⟩
 ·obtain ⟨o',e1⟩:=I.base.there b o e hx
  exact free b o' (neC b o e hx) e1 (I.base.free b o e n hx)
 ·obtain ⟨o',e1⟩:=I.base.there b o e hx
  exact there b o' (neC b o e hx) e1
 ·obtain ⟨m1,e1⟩:=I.base.tbls b ps e
  obtain ⟨m2,e2⟩:=tbls b _ e1
  exact ⟨m1 ++ m2,by rw [e2,Array.append_assoc]⟩
 ·obtain ⟨m,hn,hl⟩:=I.loc
  refine ⟨m,ns m hn,fun i x v e1 e2 e3 => ?_⟩
  obtain ⟨u,r,l⟩:=hl i x v e1 e2 e3
  refine ⟨u,r, ?_⟩
  rcases l with l | ⟨k,c,e,z⟩
  ·exact .inl l
  ·exact .inr ⟨k,c,e,cellK x c e _ z⟩
 ·obtain ⟨v,z⟩:=I.cell x c e
  exact ⟨v,cellK x c e v z⟩
 ·obtain ⟨m,⟨o,_,_,ho,_⟩,_⟩:=I.loc
  exact free _ o (fun z=>(hch _ z).2.1 rfl) ho I.free
 ·obtain ⟨v,o,ho,hd⟩:=I.cell x c e
  exact free c o (fun z=>(hch c z).2.2.1 x c e rfl) ho (I.freeC x c e)
 ·obtain ⟨e,n,ne,nf,d⟩:=I.pin p hp
  have nch:p.1 ∉ ch:=fun z=>(hch p.1 z).2.2.2 p hp rfl
  exact ⟨keep p.1 p.2 ne nf nch e n,free p.1 p.2 nch e n,ne,nf,d⟩
theorem Inv.un {t':Nat} (I:Inv X pins σ H s) (u:Un X.fs [] H H' s.heap h') (hok:HOk X.prog X.w H' h'):Inv X pins σ H' { s with heap:=h',toks:=t' }:=by
 obtain ⟨m,⟨o,es,ep,ho,r⟩,_⟩:=id I.loc
 obtain ⟨sl,hL⟩:=u.any ho I.free (by simp)
 exact I.step (g':=s.gens) (d':=s.drawn) (ch := []) (fun _ z=>nomatch z) (fun b o _ hb _ e n=>u.keep b o e n hb (by simp)) (fun b o _ hb _ e n=>u.slot b o e n hb (by simp)) (fun b o _ e n=>u.free b o e n (by simp)) (fun b o _ e=>u.there b o e (by simp)) u.tups u.frzs u.tbls (fun m' hm=>by
  obtain ⟨o',es',ep',ho',r'⟩:=hm
  rw [ho] at ho';cases ho'
  exact ⟨_,es',ep',hL,r'⟩) hok I.bare
theorem Inv.call {g':Array GenState} {t':Nat} {d':Drawn} {ch:List Addr} (I:Inv X pins σ H s) (u:Un (frs X.stack) ch H H' s.heap h') (hok:HOk X.prog X.w H' h') (hg:AllBare g')
 (hch:∀ b ∈ ch,(b ∈ X.ex ∨ X.s₀.heap.objs.size <= b) /\ b ≠ X.env.locals /\ (∀ x c,X.env.cells.lookup x = some c -> c ≠ b) /\ ∀ p ∈ X.pn ++ pins,p.1 ≠ b) :
 Inv X pins σ H' { s with heap:=h',gens:=g',drawn:=d',toks:=t' }:=by
 obtain ⟨m,⟨o,es,ep,ho,r⟩,_⟩:=id I.loc
 obtain ⟨sl,hL⟩:=u.any ho I.free fun z=>(hch _ z).2.1 rfl
 exact I.step (ch:=ch) hch (fun b o hL hb hc e n=>u.keep b o e n (fun z=>(List.mem_cons.mp (I.stkSub b z)).elim hL hb) hc) (fun b o _ _ hc e n=>u.any e n hc) (fun b o hc e n=>u.free b o e n hc) (fun b o hc e=>u.there b o e hc) u.tups u.frzs u.tbls (fun m' hm=>by
  obtain ⟨o',es',ep',ho',r'⟩:=hm
  rw [ho] at ho';cases ho'
  exact ⟨_,es',ep',hL,r'⟩) hok hg
theorem Inv.turned {t':Nat} {it:Addr} (I:Inv X pins σ H s) (k:∀ b o,b ≠ it -> s.heap.get? b = some o -> h'.get? b = some o) (hn:H it = none) (hL:it ≠ X.env.locals)
 (h1:it ∈ X.ex ∨ X.s₀.heap.objs.size <= it) (h2:∀ x c,X.env.cells.lookup x = some c -> c ≠ it) (h3:∀ p ∈ X.pn ++ pins,p.1 ≠ it):Inv X pins σ H { s with heap:=h',toks:=t' }:=by
 have nit:∀ b u,H b = some u -> b ≠ it:=fun b u e z=>by rw [z,hn] at e;cases e
 refine I.step (g':=s.gens) (d':=s.drawn) (ch := [it]) (fun b hb => ?_) (fun b o _ _ hc e _=>k b o (fun z=>hc (by simp [z])) e) (fun b o _ _ hc e _=>⟨o.slots,k b o (fun z=>hc (by simp [z])) e⟩) (fun _ _ _ _ n=>n)
  (fun b o hc e=>⟨o,k b o (fun z=>hc (by simp [z])) e⟩) (fun _ _ e=>e) (fun _ _ _ e=>e) (fun b ps e=>⟨#[],by rw [e];simp⟩) (fun m hm => ?_) (fun b u e => ?_) I.bare
 ·have e:b = it:=by simpa using hb
  subst e
  exact ⟨h1,hL,h2,h3⟩
 ·obtain ⟨o,es,ep,ho,r⟩:=hm
  exact ⟨o,es,ep,k _ o (Ne.symm hL) ho,r⟩
 ·refine (I.hok b u e).stay (fun c v hc q=>k c v ?_ q) (fun _ q=>q) fun _ _ q=>q
  rcases hc with z | z
  ·rw [z];exact nit b u e
  ·exact nit c _ z
theorem Inv.tok (I:Inv X pins σ H s) (t:Nat):Inv X pins σ H { s with toks:=t }:=I.un (h':=s.heap) (t':=t) Un.refl I.hok
theorem Inv.kept {t':Nat} (I:Inv X pins σ H s) (k:∀ b u,s.heap.get? b = some u -> h'.get? b = some u):Inv X pins σ H { s with heap:=h',toks:=t' }:=I.un (Un.kept k) (I.hok.kept k)
theorem Inv.laid {a:Addr} {o:HO} {t':Nat} (I:Inv X pins σ H s) (k:∀ b u,s.heap.get? b = some u -> h'.get? b = some u) (hp:s.heap.objs.size <= a) (new:ObjOk X.prog X.w (upd H a o) h' a o) :
 Inv X pins σ (upd H a o) { s with heap:=h',toks:=t' }:=I.un (Un.laid k hp (I.hok.fresh hp)) (I.hok.laid k hp new)
theorem Inv.write {x e:Addr} {o:HO} {t':Nat} (I:Inv X pins σ H s) (mu:Mut (H x)) (he:e = x ∨ H e = some (.own x)) (k:∀ b u,b ≠ e -> s.heap.get? b = some u -> h'.get? b = some u) (heo:∃ u,h'.get? e = some u)
 (new:ObjOk X.prog X.w (upd H x o) h' x o):Inv X pins σ (upd H x o) { s with heap:=h',toks:=t' }:=I.un (Un.write mu he k heo) (I.hok.write mu he k heo new)
theorem Inv.pins_of {pins':List (Addr × Obj)} (I:Inv X pins σ H s) (h:∀ p ∈ pins',s.heap.get? p.1 = some p.2 /\ H p.1 = none /\ p.1 ≠ X.env.locals /\ p.1 ∉ X.fs /\ ∀ v,p.2.data ≠ .cell v):Inv X pins' σ H s :=
 ⟨I.ok,I.os,I.bare,I.base,I.loc,I.cell,I.free,I.freeC,fun p hp=>(List.mem_append.mp hp).elim (fun z=>I.pin p (List.mem_append_left _ z)) (h p),I.hok,I.len⟩
theorem jg {N:List Str} (hN:N.Nodup) {i j:Nat} {x:Str} (a:N[i]? = some x) (b:N[j]? = some x):i = j:=by
 obtain ⟨h1,e1⟩:=List.getElem?_eq_some_iff.mp a
 obtain ⟨h2,e2⟩:=List.getElem?_eq_some_iff.mp b
 exact (List.getElem_inj hN).mp (e1.trans e2.symm)
theorem ot {M:Model} {A:Around} {E:Value -> Shared -> Prop} {i:Nat} {x:Str} {v:V} {u:Value} {Q:Unit -> Shared -> Prop} (I:Inv X pins σ H s) (hN:X.N.Nodup) (hi:X.N[i]? = some x) (hx:Loc X.env.scope x) (r:RelV v u)
 (h:∀ s',Inv X pins (σ.set i (some v)) H s' -> (∃ a,Heap.SameBut a s.heap s'.heap /\ (a = X.env.locals ∨ X.env.cells.lookup x = some a)) -> Q () s') (hf:X.fn x = true ∨ X.env.scope.names.lookup x = some .local:=by first | exact .inl rfl | exact .inr rfl | assumption):wpAny M A (storeName X.env x u) Q E s:=by
 obtain ⟨m,hn,hl⟩:=id I.loc
 have hcls:(X.env.scope.kind == .class || (X.env.scope.kind == .module && X.env.locals != X.env.globals)) = false:=by rw [I.ok.kind];rfl
 have hiσ:i < σ.length:=by rw [I.len];exact (List.getElem?_eq_some_iff.mp hi).1
 have cne:=I.cne
 have tracked:∀ {a:Addr} {h':Heap},(∃ o,s.heap.get? a = some o /\ H a = none) -> Heap.SameBut a s.heap h' -> HOk X.prog X.w H h':=fun {a h'} ha hs b ob e=>by
  obtain ⟨_,_,hfree⟩:=ha
  refine (I.hok b ob e).stay (fun c w' hc q=>(hs.2 c ?_).trans q) (fun _ q=>q) fun _ _ q=>q
  rintro rfl
  rcases hc with rfl | hc
  ·rw [hfree] at e;cases e
  ·rw [hfree] at hc;cases hc
 rcases hx with hk | hk
 ·refine wpAny_storeName_local hk hn (fun h' hn' hs => ?_) hcls
  obtain ⟨oL,_,_,hoL,_⟩:=id hn
  refine h _ ⟨I.ok,I.os,I.bare,⟨fun b o e n hb hx => ?_,fun b o e n hb hx => ?_,I.base.free,fun b o e hx => ?_,I.base.tups,I.base.frzs,I.base.tbls⟩,⟨_,hn',fun j y v' e1 e2 e3 => ?_⟩,fun y c e => ?_,I.free,I.freeC,fun p hp => ?_,tracked ⟨oL,hoL,I.free⟩ hs,by simpa using I.len⟩ ⟨_,hs, .inl rfl⟩
  ·exact (hs.2 b (Nat.ne_of_lt (Nat.lt_of_lt_of_le (Heap.lt_size e) I.ok.above))).trans (I.base.keep b o e n hb hx)
  ·obtain ⟨sl,e1⟩:=I.base.slot b o e n hb hx
   exact ⟨sl,(hs.2 b (Nat.ne_of_lt (Nat.lt_of_lt_of_le (Heap.lt_size e) I.ok.above))).trans e1⟩
  ·obtain ⟨o',e1⟩:=I.base.there b o e hx
   exact ⟨o',(hs.2 b (Nat.ne_of_lt (Nat.lt_of_lt_of_le (Heap.lt_size e) I.ok.above))).trans e1⟩
  ·by_cases hj:j = i
   ·subst hj
    rw [hi] at e1;cases e1
    rw [List.getElem?_set_self hiσ] at e2
    cases e2
    exact ⟨u,r, .inl ⟨hk,by simp⟩⟩
   ·rw [List.getElem?_set_ne (Ne.symm hj)] at e2
    obtain ⟨u',r',q⟩:=hl j y v' e1 e2 e3
    refine ⟨u',r', ?_⟩
    rcases q with ⟨k,e⟩ | ⟨k,c,e,z⟩
    ·refine .inl ⟨k, ?_⟩
     have:y ≠ x:=fun e=>hj (jg hN e1 (e ▸ hi))
     simp [this,e]
    ·exact .inr ⟨k,c,e,z.sameBut hs (cne y c e)⟩
  ·obtain ⟨w',z⟩:=I.cell y c e
   exact ⟨w',z.sameBut hs (cne y c e)⟩
  ·obtain ⟨e,n,ne,nf,d⟩:=I.pin p hp
   exact ⟨(hs.2 p.1 ne).trans e,n,ne,nf,d⟩
 ·have hfn:X.fn x = true:=by
   rcases hf with z | z
   ·exact z
   ·rw [z] at hk;cases hk
  obtain ⟨c,hc⟩:=I.ok.has x (.inl hk)
  obtain ⟨w',z⟩:=I.cell x c hc
  refine wpAny_storeName_cell I.ok.kind hk hc z (fun h' hc' hs => ?_)
  obtain ⟨oc,hoc,hocd⟩:=id z
  refine h { s with heap:=h' } ⟨I.ok,I.os,I.bare,⟨fun b o e n hb hx => ?_,fun b o e n hb hx => ?_,I.base.free,fun b o e hx => ?_,I.base.tups,I.base.frzs,I.base.tbls⟩,⟨m,hn.sameBut hs (Ne.symm (cne x c hc)),fun j y v' e1 e2 e3 => ?_⟩,fun y c' e => ?_,I.free,I.freeC,fun p hp => ?_,tracked ⟨oc,hoc,I.freeC x c hc⟩ hs,by simpa using I.len⟩ ⟨c,hs, .inr hc⟩
  ·exact (hs.2 b (Nat.ne_of_lt (Nat.lt_of_lt_of_le (Heap.lt_size e) (I.ok.cab x c hfn hc)))).trans (I.base.keep b o e n hb hx)
  ·obtain ⟨sl,e1⟩:=I.base.slot b o e n hb hx
   exact ⟨sl,(hs.2 b (Nat.ne_of_lt (Nat.lt_of_lt_of_le (Heap.lt_size e) (I.ok.cab x c hfn hc)))).trans e1⟩
  ·obtain ⟨o',e1⟩:=I.base.there b o e hx
   exact ⟨o',(hs.2 b (Nat.ne_of_lt (Nat.lt_of_lt_of_le (Heap.lt_size e) (I.ok.cab x c hfn hc)))).trans e1⟩
  ·by_cases hj:j = i
   ·subst hj
    rw [hi] at e1;cases e1
    rw [List.getElem?_set_self hiσ] at e2
    cases e2
    exact ⟨u,r, .inr ⟨.inl hk,c,hc,hc'⟩⟩
   ·rw [List.getElem?_set_ne (Ne.symm hj)] at e2
    obtain ⟨u',r',q⟩:=hl j y v' e1 e2 e3
    refine ⟨u',r', ?_⟩
    rcases q with q | ⟨k,c',e,z'⟩
    ·exact .inl q
    ·refine .inr ⟨k,c',e,z'.sameBut hs ?_⟩
     rintro rfl
     exact hj (jg hN e1 (I.ok.inj _ _ _ e hc ▸ hi))
  ·by_cases hcc:c' = c
   ·subst hcc;exact ⟨_,hc'⟩
   ·obtain ⟨w2,z2⟩:=I.cell y c' e
    exact ⟨w2,z2.sameBut hs hcc⟩
  ·obtain ⟨e,n,ne,nf,d⟩:=I.pin p hp
   refine ⟨(hs.2 p.1 ?_).trans e,n,ne,nf,d⟩
   intro q
   rw [q,hoc] at e
   have q':oc = p.2:=Option.some.inj e
   exact d w' (by rw [<- q'];exact hocd)
theorem fF {M:Model} {A:Around} {E:Value -> Shared -> Prop} {i:Nat} {x:Str} {v:V} {u:Value} {Q:Unit -> Shared -> Prop} (I:Inv X pins σ H s) (hN:X.N.Nodup) (hi:X.N[i]? = some x) (hx:Loc X.env.scope x) (r:RelV v u)
 (h:∀ s',Inv X pins (σ.set i (some v)) H s' -> Q () s') (hf:X.fn x = true ∨ X.env.scope.names.lookup x = some .local:=by first | exact .inl rfl | exact .inr rfl | assumption):wpAny M A (storeName X.env x u) Q E s :=
 ot I hN hi hx r (fun s' I' _=>h s' I') hf
theorem Inv.call' {s':Shared} {ch:List Addr} (I:Inv X pins σ H s) (ho:s'.os = s.os) (u:Un (frs X.stack) ch H H' s.heap s'.heap) (hok:HOk X.prog X.w H' s'.heap) (hg:AllBare s'.gens)
 (hch:∀ b ∈ ch,(b ∈ X.ex ∨ X.s₀.heap.objs.size <= b) /\ b ≠ X.env.locals /\ (∀ x c,X.env.cells.lookup x = some c -> c ≠ b) /\ ∀ p ∈ X.pn ++ pins,p.1 ≠ b):Inv X pins σ H' s':=by
 obtain ⟨h',g',d',t',o'⟩:=s'
 have e:o' = s.os:=ho
 subst e
 exact I.call (g':=g') (t':=t') (d':=d') u hok hg hch
end
noncomputable abbrev XK:=Value -> Option Addr -> Hp -> Prop
noncomputable abbrev St:=List (Option V)
noncomputable abbrev VK:=V -> Hp -> Prop
noncomputable abbrev TE:=St -> Hp -> VK -> Prop
noncomputable abbrev TT:=St -> Hp -> (Bool -> Hp -> Prop) -> Prop
noncomputable abbrev TA:=St -> Hp -> (List V -> Hp -> Prop) -> Prop
structure bD where
 nx:St -> Hp -> Prop
 rt:VK
 bk:St -> Hp -> Prop:=fun _ _=>False
 ct:St -> Hp -> Prop:=fun _ _=>False
noncomputable abbrev TS:=bD -> St -> Hp -> Prop
noncomputable def EP (X:Cx) (pins:List (Addr × Obj)) (σ:St) (Q:VK) (u:Value) (s':Shared):Prop := ∃ v H',Inv X pins σ H' s' /\ RelV v u /\ Q v H'
noncomputable def TP (X:Cx) (pins:List (Addr × Obj)) (σ:St) (Q:Bool -> Hp -> Prop) (b:Bool) (s':Shared):Prop := ∃ H',Inv X pins σ H' s' /\ Q b H'
noncomputable def AP (X:Cx) (pins:List (Addr × Obj)) (σ:St) (Q:List V -> Hp -> Prop) (us:List Value) (s':Shared):Prop := ∃ vs H',Inv X pins σ H' s' /\ Vals vs us /\ Q vs H'
noncomputable def SP (X:Cx) (pins:List (Addr × Obj)) (D:bD) (f:Flow) (s':Shared):Prop :=
 match f with
 | .next => ∃ σ' H',Inv X pins σ' H' s' /\ D.nx σ' H'
 | .brk => ∃ σ' H',Inv X pins σ' H' s' /\ D.bk σ' H'
 | .cont => ∃ σ' H',Inv X pins σ' H' s' /\ D.ct σ' H'
 | .ret u => ∃ v σ' H',Inv X pins σ' H' s' /\ RelV v u /\ D.rt v H'
noncomputable def PE (X:Cx) (e:Expr) (t:TE):Prop :=
 ∀ (pins:List (Addr × Obj)) (s:Shared) (σ:St) (H:Hp) (Q:VK),Inv X pins σ H s -> t σ H Q -> wpAny (model X.prog X.w) X.A (eval e X.env) (EP X pins σ Q) X.xe s
noncomputable def PT (X:Cx) (e:Expr) (t:TT):Prop :=
 ∀ (pins:List (Addr × Obj)) (s:Shared) (σ:St) (H:Hp) (Q:Bool -> Hp -> Prop),Inv X pins σ H s -> t σ H Q -> wpAny (model X.prog X.w) X.A (isTrue e X.env (eval e X.env)) (TP X pins σ Q) X.xe s
noncomputable def PW (X:Cx) (e:Expr) (t:TT):Prop :=
 ∀ (whole:Sem Value) (pins:List (Addr × Obj)) (s:Shared) (σ:St) (H:Hp) (Q:Bool -> Hp -> Prop),Inv X pins σ H s -> t σ H Q -> wpAny (model X.prog X.w) X.A (isTrue e X.env whole) (TP X pins σ Q) X.xe s
theorem PW.pt {X:Cx} {e:Expr} {t:TT} (h:PW X e t):PT X e t:=h _
noncomputable def PA (X:Cx) (es:List Expr) (t:TA):Prop :=
 ∀ (pos:Pos) (pins:List (Addr × Obj)) (s:Shared) (σ:St) (H:Hp) (Q:List V -> Hp -> Prop),Inv X pins σ H s -> t σ H Q -> wpAny (model X.prog X.w) X.A (spliced (backTo pos (starEach es X.env))) (AP X pins σ Q) X.xe s
noncomputable def PS (X:Cx) (st:Stmt) (t:TS):Prop :=
 ∀ (pins:List (Addr × Obj)) (s:Shared) (σ:St) (H:Hp) (D:bD),Inv X pins σ H s -> t D σ H -> wpAny (model X.prog X.w) X.A (exec st X.env) (SP X pins D) X.xe s
noncomputable def PSs (X:Cx) (st:List Stmt) (t:TS):Prop :=
 ∀ (pins:List (Addr × Obj)) (s:Shared) (σ:St) (H:Hp) (D:bD),Inv X pins σ H s -> t D σ H -> wpAny (model X.prog X.w) X.A (execs st X.env) (SP X pins D) X.xe s
theorem thn {α:Type} {t:Sem α} {Q Q' : α -> Shared -> Prop} {M:Model} {A:Around} {E:Value -> Shared -> Prop} {s:Shared} (h:wpAny M A t Q E s) (hQ:∀ a s,Q a s -> Q' a s):wpAny M A t Q' E s:=wpAny_mono h hQ fun _ _ x=>x
end L2
namespace L2
open PySem PySem.Spec PyProof.Rows
section
variable {X:Cx}
theorem bin {a b:Expr} {ta tb:TE} (ha:PE X a ta) (hb:PE X b tb) {pins:List (Addr × Obj)} {s:Shared} {σ:St} {H:Hp} {R:V -> V -> Hp -> Prop} (I:Inv X pins σ H s) (h:ta σ H fun x H1=>tb σ H1 fun y H2=>R x y H2)
 {α:Type} {Q : α -> Shared -> Prop} {f:Value -> Value -> Sem α}
 (hf:∀ v u s2 x y H2,Inv X pins σ H2 s2 -> RelV x v -> RelV y u -> R x y H2 -> wpAny (model X.prog X.w) X.A (f v u) Q X.xe s2) :
 wpAny (model X.prog X.w) X.A (eval a X.env) (fun v s₁ => wpAny (model X.prog X.w) X.A (eval b X.env) (fun u s₂ => wpAny (model X.prog X.w) X.A (f v u) Q X.xe s₂) X.xe s₁) X.xe s:=by
 refine thn (ha pins s σ H _ I h) fun v s1 ⟨x,H1,I1,r1,q1⟩ => ?_
 refine thn (hb pins s1 σ H1 _ I1 q1) fun u s2 ⟨y,H2,I2,r2,q2⟩ => ?_
 exact hf v u s2 x y H2 I2 r1 r2 q2
noncomputable def zi (i:Nat):TE:=fun σ H Q => ∃ v, σ[i]? = some (some v) /\ Q v H
noncomputable def tC (v:V):TE:=fun _ H Q=>Q v H
theorem vS {i:Nat} {x:Str} {pos:Pos} (hN:X.N[i]? = some x) (hv:Vis X.env.scope x) (hd:(x == ("__debug__":Str)) = false:=by decide) (hcd:(x == ("__classdict__":Str)) = false:=by decide):PE X (.Name x pos) (zi i):=by
 intro pins s σ H Q I h
 obtain ⟨v,e,h⟩:=h
 obtain ⟨m,hn,hl⟩:=I.loc
 obtain ⟨u,r,l⟩:=hl i x v hN e hv
 have fin:EP X pins σ Q u s:=⟨v,H,I,r,h⟩
 rcases l with ⟨hk,hm⟩ | ⟨hk,c,hc,hcell⟩
 ·exact wpAny_Name (wpAny_loadName_local I.ok.kind hk hn hm fin) hd
 ·rcases hk with hk | hk
  ·exact wpAny_Name (wpAny_loadName_cell I.ok.kind hk hc hcell fin) hd
  ·exact wpAny_Name (wpAny_loadName_free I.ok.kind hk hc hcell fin hcd) hd
theorem vT {i j pos}:PE X (.Constant (.int i) j pos) (tC (.int i)):=fun _ _ _ H _ I h=>wpAny_Constant_int ⟨.int i,H,I.tok _,⟨_,rfl⟩,h⟩
theorem y9 {b j pos}:PE X (.Constant (.bool b) j pos) (tC (.bl b)):=fun _ _ _ H _ I h=>Constant_bool ⟨.bl b,H,I,rfl,h⟩
noncomputable def Gl (X:Cx) (x:Str):Prop:=X.env.kindOf x = some .globalImplicit
theorem lg {E:Value -> Shared -> Prop} {pins:List (Addr × Obj)} {s:Shared} {σ:St} {H:Hp} {x:Str} {u:Value} {pos:Pos} {Q:Value -> Shared -> Prop} (I:Inv X pins σ H s) (hg:Gl X x) (hm:X.mg x = some u) (h:Q u s)
 (hd:(x == ("__debug__":Str)) = false:=by decide):wpAny (model X.prog X.w) X.A (eval (.Name x pos) X.env) Q E s :=
 Calls.Name_function_global I.ok.kind hg (Calls.loadGlobal_global (by rw [I.ok.glob];exact I.mod.glob.keeps I.bk) hm h) hd
theorem dv {E:Value -> Shared -> Prop} {pins:List (Addr × Obj)} {s:Shared} {σ:St} {H:Hp} {x:Str} {u:Value} {pos:Pos} {Q:Value -> Shared -> Prop} (I:Inv X pins σ H s) (hg:Gl X x) (hm:X.mg x = none) (hv:bootBuiltins x = some u) (h:Q u s)
 (hn:x ≠ "__name__" := by decide) (hd:(x == ("__debug__":Str)) = false:=by decide):wpAny (model X.prog X.w) X.A (eval (.Name x pos) X.env) Q E s:=by
 obtain ⟨mb,h1,h2⟩:=I.mod.blt
 exact Calls.Name_function_global I.ok.kind hg (Calls.loadGlobal_builtin (by rw [I.ok.glob];exact I.mod.glob.keeps I.bk) hm (by rw [I.ok.blt];exact h1.keeps I.bk) ((h2 x hn).trans hv) h) hd
theorem gT {x:Str} {v:V} {u:Value} {pos:Pos} (hg:Gl X x) (hm:X.mg x = none) (hv:bootBuiltins x = some u) (r:RelV v u) (hn:x ≠ "__name__" := by decide) (hd:(x == ("__debug__":Str)) = false:=by decide):PE X (.Name x pos) (tC v) :=
 fun _ _ _ H _ I h=>dv I hg hm hv ⟨v,H,I,r,h⟩ hn hd
variable {a b:Expr} {ta tb:TE} {pos:Pos}
noncomputable def tB (t:TE):TT:=fun σ H Q=>t σ H fun x H1 => ∃ c,x = .bl c /\ Q c H1
variable {tA tB':TT} {rest:List Expr}
noncomputable def zj (t u:TT):TT:=fun σ H Q=>t σ H fun c H1=>if c = true then u σ H1 Q else Q false H1
noncomputable def tOr (t u:TT):TT:=fun σ H Q=>t σ H fun c H1=>if c = true then Q true H1 else u σ H1 Q
noncomputable def zk (t:TT):TT:=fun σ H Q=>t σ H fun c H1=>Q (!c) H1
theorem tU (ha:PT X a tA):PW X (.BoolOp .And [a] pos) tA:=by
 intro wh pins s σ H Q I h
 refine isTrue_and (thn (ha pins s σ H Q I h) fun c s1 e => ?_)
 cases c with
 | true=>exact isTrue_and_nil e
 | false=>exact e
theorem vU (ha:PT X a tA):PW X (.BoolOp .Or [a] pos) tA:=by
 intro wh pins s σ H Q I h
 refine isTrue_or (thn (ha pins s σ H Q I h) fun c s1 e => ?_)
 cases c with
 | false=>exact isTrue_or_nil e
 | true=>exact e
theorem vW (ha:PT X a tA) (hb:PW X (.BoolOp .And (b :: rest) pos) tB'):PW X (.BoolOp .And (a :: b :: rest) pos) (zj tA tB'):=by
 intro wh pins s σ H Q I h
 refine isTrue_and (thn (ha pins s σ H _ I h) fun c s1 ⟨H1,I1,q1⟩ => ?_)
 cases c with
 | true=>exact hb wh pins s1 σ H1 Q I1 q1
 | false=>exact ⟨H1,I1,q1⟩
theorem ya (ha:PT X a tA) (hb:PW X (.BoolOp .Or (b :: rest) pos) tB'):PW X (.BoolOp .Or (a :: b :: rest) pos) (tOr tA tB'):=by
 intro wh pins s σ H Q I h
 refine isTrue_or (thn (ha pins s σ H _ I h) fun c s1 ⟨H1,I1,q1⟩ => ?_)
 cases c with
 | true=>exact ⟨H1,I1,q1⟩
 | false=>exact hb wh pins s1 σ H1 Q I1 q1
theorem vX (ha:PT X a tA):PT X (.UnaryOp .Not a pos) (zk tA):=by
 intro pins s σ H Q I h
 exact isTrue_not (ha pins s σ H (fun c H1=>Q (!c) H1) I h)
noncomputable def yb (ta tb:TE):TE:=fun σ H Q=>ta σ H fun x H1 => ∃ c,x = .bl c /\ if c = true then tb σ H1 Q else Q (.bl false) H1
noncomputable def yc (ta:TE):TE:=fun σ H Q=>ta σ H fun x H1 => ∃ c,x = .bl c /\ Q (.bl (!c)) H1
theorem vY {op} {t:TE} (h:PE X a t):PE X (.BoolOp op [a] pos) t:=fun pins s σ H Q I hw=>BoolOp_one (h pins s σ H Q I hw)
theorem vZ (ha:PE X a ta) (hb:PE X (.BoolOp .And (b :: rest) pos) tb):PE X (.BoolOp .And (a :: b :: rest) pos) (yb ta tb):=by
 intro pins s σ H Q I h
 refine BoolOp_and (thn (ha pins s σ H _ I h) fun v s1 ⟨x,H1,I1,r1,q1⟩ => ?_)
 obtain ⟨c,rfl,q1⟩:=q1
 cases r1
 refine wpAny_truthy_bool ?_
 cases c with
 | true=>exact hb pins s1 σ H1 Q I1 q1
 | false=>exact ⟨.bl false,H1,I1,rfl,q1⟩
theorem w4 (ha:PE X a ta):PE X (.UnaryOp .Not a pos) (yc ta):=by
 intro pins s σ H Q I h
 refine UnaryOp_ (thn (ha pins s σ H _ I h) fun v s1 ⟨x,H1,I1,r1,q1⟩ => ?_)
 obtain ⟨c,rfl,q1⟩:=q1
 cases r1
 exact not_of (wpAny_truthy_bool ⟨.bl (!c),H1,I1,rfl,q1⟩)
noncomputable def tIf (t:TT) (ta tb:TE):TE:=fun σ H Q=>t σ H fun c H1=>if c = true then ta σ H1 Q else tb σ H1 Q
theorem qt {c:Expr} (hc:PT X c tA) (ha:PE X a ta) (hb:PE X b tb):PE X (.IfExp c a b pos) (tIf tA ta tb):=by
 intro pins s σ H Q I h
 refine wpAny_IfExp (thn (hc pins s σ H _ I h) fun d s1 ⟨H1,I1,q1⟩ => ?_)
 cases d with
 | true=>exact ha pins s1 σ H1 Q I1 q1
 | false=>exact hb pins s1 σ H1 Q I1 q1
end
end L2
namespace L2
open PySem PySem.Spec PyProof.Rows
noncomputable def SqL (K:PySem.W.Frag) (H:Hp) (a:Addr) (xs:List V):Prop :=
 Rd H a (.lst xs) ∨
  ∃ (o:Obj) (its:Array Value) (n:Nat),K.lookup a = some o /\ o.cls = .type "list" /\ o.dict = none /\ o.data = .seq its n /\ its.size <= sizeLine /\ Vals xs its.toList
noncomputable def SqT (K:PySem.W.Frag) (H:Hp) (a:Addr) (xs:List V):Prop :=
 Rd H a (.tup xs) ∨
  ∃ (o:Obj) (its:Array Value) (n:Nat),K.lookup a = some o /\ o.cls = .type "tuple" /\ o.data = .seq its n /\ its.size <= sizeLine /\ Vals xs its.toList
noncomputable def zm:Value -> Option V
 | .none=>some .non
 | .bool b=>some (.bl b)
 | .int i _=>some (.int i)
 | .str x _=>some (.str x)
 | .bytes b _=>some (.byt b)
 | .float b _=>some (.flt b)
 | .ref a=>some (.ref a)
 | .type n=>some (.ty n)
 | _=>none
theorem RelV.abs {x:V} {u:Value} (r:RelV x u):zm u = some x:=by
 cases x with
 | non=>cases r;rfl
 | bl _=>cases r;rfl
 | int _=>obtain ⟨t,rfl⟩:=r;rfl
 | str _=>obtain ⟨t,rfl⟩:=r;rfl
 | byt _=>obtain ⟨t,rfl⟩:=r;rfl
 | flt _=>obtain ⟨t,rfl⟩:=r;rfl
 | ref _=>cases r;rfl
 | ty _=>cases r;rfl
theorem RelV.inj {x y:V} {u:Value} (r:RelV x u) (q:RelV y u):x = y:=Option.some.inj (r.abs.symm.trans q.abs)
theorem Vals.inj:∀ {xs ys:List V} {us:List Value},Vals xs us -> Vals ys us -> xs = ys
 | _,_,_, .nil, .nil=>rfl
 | _,_,_, .cons r t, .cons r' t'=>by rw [r.inj r',Vals.inj t t']
section
variable {X:Cx} {pins:List (Addr × Obj)} {σ:St} {H:Hp} {s:Shared} {a:Addr} {xs ys:List V}
theorem SqL.of {K:PySem.W.Frag} (h:H a = some (.lst xs)):SqL K H a xs := .inl (.inl h)
theorem SqT.of {K:PySem.W.Frag} (h:H a = some (.tup xs)):SqT K H a xs := .inl (.inl h)
theorem Inv.list (I:Inv X pins σ H s) (h:SqL X.K H a xs):∃ its:List Value,Vals xs its /\ PlainL s.heap a its.toArray /\ xs.length <= sizeLine:=by
 rcases h with h | ⟨o,its,n,hk,hc,hd,hs,hz,r⟩
 ·obtain ⟨z,its,n,r,e⟩:=h.ok I.hok
  exact ⟨its,r,⟨_,n,e,rfl,rfl,rfl⟩,z⟩
 ·refine ⟨its.toList,r,⟨o,n,I.kIn a o hk,hc,hd,by simpa using hs⟩, ?_⟩
  have e:=r.length
  simp only [Array.length_toList] at e
  omega
theorem Inv.tuple (I:Inv X pins σ H s) (h:SqT X.K H a xs):∃ its:List Value,Vals xs its /\ IsTup s.heap a its.toArray /\ xs.length <= sizeLine:=by
 rcases h with h | ⟨o,its,n,hk,hc,hs,hz,r⟩
 ·obtain ⟨z,its,r,p⟩:=h.ok I.hok
  exact ⟨its,r,p,z⟩
 ·refine ⟨its.toList,r,⟨o,I.kIn a o hk,hc,n,by simpa using hs⟩, ?_⟩
  have e:=r.length
  simp only [Array.length_toList] at e
  omega
theorem Inv.list_inj (I:Inv X pins σ H s) (h:SqL X.K H a xs) (h':SqL X.K H a ys):xs = ys:=by
 obtain ⟨its,r,⟨o,n,e,_,_,d⟩,_⟩:=I.list h
 obtain ⟨its',r',⟨o',n',e',_,_,d'⟩,_⟩:=I.list h'
 rw [e] at e';cases e'
 rw [d] at d'
 injection d' with d1 _
 have:its = its':=by simpa using congrArg Array.toList d1
 subst this
 exact r.inj r'
theorem Inv.tuple_inj (I:Inv X pins σ H s) (h:SqT X.K H a xs) (h':SqT X.K H a ys):xs = ys:=by
 obtain ⟨its,r,⟨o,e,_,n,d⟩,_⟩:=I.tuple h
 obtain ⟨its',r',⟨o',e',_,n',d'⟩,_⟩:=I.tuple h'
 rw [e] at e';cases e'
 rw [d] at d'
 injection d' with d1 _
 have:its = its':=by simpa using congrArg Array.toList d1
 subst this
 exact r.inj r'
end
noncomputable abbrev Cx.wish (X:Cx) (E:Value -> Shared -> Prop):Cx := { X with xe:=E }
noncomputable abbrev Cx.nox (X:Cx):Cx:=X.wish fun _ _=>False
theorem Cx.Ok.wish {X:Cx} (ok:X.Ok) (E:Value -> Shared -> Prop):(X.wish E).Ok :=
 ⟨ok.mod,ok.kind,ok.glob,ok.blt,ok.above,ok.inj,ok.has,ok.cab,ok.hd,ok.frames,ok.stk,ok.exf,ok.bs,ok.bsz,ok.noex,ok.exfs,ok.funs,ok.frf⟩
theorem Cx.Ok.unwish {X:Cx} {E:Value -> Shared -> Prop} (ok:(X.wish E).Ok):X.Ok :=
 ⟨ok.mod,ok.kind,ok.glob,ok.blt,ok.above,ok.inj,ok.has,ok.cab,ok.hd,ok.frames,ok.stk,ok.exf,ok.bs,ok.bsz,ok.noex,ok.exfs,ok.funs,ok.frf⟩
section
variable {X:Cx} {pins:List (Addr × Obj)} {σ:St} {H:Hp} {s:Shared} {E:Value -> Shared -> Prop}
theorem Inv.wish (I:Inv X pins σ H s) (E:Value -> Shared -> Prop):Inv (X.wish E) pins σ H s:=⟨I.ok.wish E,I.os,I.bare,I.base,I.loc,I.cell,I.free,I.freeC,I.pin,I.hok,I.len⟩
theorem Inv.unwish (I:Inv (X.wish E) pins σ H s):Inv X pins σ H s:=⟨I.ok.unwish,I.os,I.bare,I.base,I.loc,I.cell,I.free,I.freeC,I.pin,I.hok,I.len⟩
theorem SP.unwish {D:bD} {f:Flow} {s':Shared} (h:SP (X.wish E) pins D f s'):SP X pins D f s':=by
 cases f with
 | next=>obtain ⟨σ',H',I,q⟩:=h;exact ⟨σ',H',I.unwish,q⟩
 | brk=>obtain ⟨σ',H',I,q⟩:=h;exact ⟨σ',H',I.unwish,q⟩
 | cont=>obtain ⟨σ',H',I,q⟩:=h;exact ⟨σ',H',I.unwish,q⟩
 | ret u=>obtain ⟨v, σ',H',I,r,q⟩:=h;exact ⟨v, σ',H',I.unwish,r,q⟩
theorem PSs.nox {st:List Stmt} {t:TS} (h:PSs X.nox st t):PSs X st t:=fun pins s σ H D I hw =>
 wpAny_mono (h pins s σ H D (I.wish _) hw) (fun _ _ q=>q.unwish) fun _ _ z=>False.elim z
end
section
variable {X:Cx} {st:Stmt} {rest:List Stmt} {t u:TS} {e:Expr} {te:TE} {pos:Pos}
noncomputable def my:TS:=fun D σ H=>D.nx σ H
noncomputable def w8 (t u:TS):TS:=fun D σ H=>t { D with nx:=u D } σ H
theorem tV:PSs X [] my:=fun _ _ σ H _ I h=>wpAny_execs_nil ⟨σ,H,I,h⟩
theorem qu (h1:PS X st t) (h2:PSs X rest u):PSs X (st :: rest) (w8 t u):=by
 intro pins s σ H D I h
 refine wpAny_execs_cons (thn (h1 pins s σ H { D with nx:=u D } I h) fun f s1 q => ?_)
 cases f with
 | next =>
   obtain ⟨σ',H',I',q⟩:=q
   exact h2 pins s1 σ' H' D I' q
 | ret v=>exact q
 | brk=>exact q
 | cont=>exact q
noncomputable def ou:TS:=fun D σ H=>D.bk σ H
noncomputable def sY:TS:=fun D σ H=>D.ct σ H
theorem tW:PS X (.Pass pos) my:=fun _ _ σ H _ I h=>wpAny_Pass ⟨σ,H,I,h⟩
theorem qv:PS X (.Break pos) ou:=fun _ _ σ H _ I h=>wpAny_Break ⟨σ,H,I,h⟩
theorem kW:PS X (.Continue pos) sY:=fun _ _ σ H _ I h=>wpAny_Continue ⟨σ,H,I,h⟩
theorem Inv.quiet {pins:List (Addr × Obj)} {σ:St} {H:Hp} {s:Shared} (I:Inv X pins σ H s):interactive X.env = false:=by simp [interactive,I.ok.kind]
noncomputable def sZ (te:TE):TS:=fun D σ H=>te σ H fun _ H1=>D.nx σ H1
theorem tX (he:PE X e te) (hs:swapsWith e none pos.line X.env = pure false:=by rfl):PS X (.Expr e pos) (sZ te):=by
 intro pins s σ H D I h
 exact wpAny_Expr_any (thn (he pins s σ H _ I h) fun v s1 ⟨x,H1,I1,r1,q1⟩=>⟨σ,H1,I1,q1⟩) I.quiet hs
noncomputable def w9 (te:TE):TS:=fun D σ H=>te σ H D.rt
theorem wa (he:PE X e te):PS X (.Return (some e) pos) (w9 te):=by
 intro pins s σ H D I h
 exact wpAny_Return_some (thn (he pins s σ H _ I h) fun v s1 ⟨x,H1,I1,r1,q1⟩=>⟨x, σ,H1,I1,r1,q1⟩)
noncomputable def wb (c:TT) (t u:TS):TS:=fun D σ H=>c σ H fun b H1=>if b = true then t D σ H1 else u D σ H1
theorem yd {c:Expr} {a b:List Stmt} {tc:TT} (hc:PT X c tc) (ha:PSs X a t) (hb:PSs X b u):PS X (.If c a b pos) (wb tc t u):=by
 intro pins s σ H D I h
 refine wpAny_If (thn (hc pins s σ H _ I h) fun d s1 ⟨H1,I1,q1⟩ => ?_)
 cases d with
 | true=>exact ha pins s1 σ H1 D I1 q1
 | false=>exact hb pins s1 σ H1 D I1 q1
end
noncomputable abbrev TG:=V -> St -> Hp -> (St -> Hp -> Prop) -> Prop
noncomputable abbrev TGs:=List V -> St -> Hp -> (St -> Hp -> Prop) -> Prop
noncomputable def PG (X:Cx) (target:Expr) (t:TG):Prop :=
 ∀ (pins:List (Addr × Obj)) (s:Shared) (σ:St) (H:Hp) (v:V) (u:Value) (Q:St -> Hp -> Prop),Inv X pins σ H s -> RelV v u -> t v σ H Q ->
  wpAny (model X.prog X.w) X.A (assign target X.env u) (fun _ s' => ∃ σ' H',Inv X pins σ' H' s' /\ Q σ' H') X.xe s
noncomputable def PGs (X:Cx) (ts:List Expr) (t:TGs):Prop :=
 ∀ (pins:List (Addr × Obj)) (s:Shared) (σ:St) (H:Hp) (vs:List V) (us:List Value) (Q:St -> Hp -> Prop),Inv X pins σ H s -> Vals vs us -> t vs σ H Q ->
  wpAny (model X.prog X.w) X.A (assignInOrder ((assignEach ts X.env).map (·.2)) us) (fun _ s' => ∃ σ' H',Inv X pins σ' H' s' /\ Q σ' H') X.xe s
noncomputable abbrev mz:=V -> V -> V -> Hp -> (Hp -> Prop) -> Prop
noncomputable def PSet (X:Cx) (t:mz):Prop :=
 ∀ (pins:List (Addr × Obj)) (s:Shared) (σ:St) (H:Hp) (o i v:V) (ov iv u:Value) (Q:Hp -> Prop),Inv X pins σ H s -> RelV o ov -> RelV i iv -> RelV v u -> t o i v H Q ->
  wpAny (model X.prog X.w) X.A (setItem ov iv u) (fun _ s' => ∃ H',Inv X pins σ H' s' /\ Q H') X.xe s
section
variable {X:Cx} {pos:Pos}
noncomputable def fX (i:Nat):TG:=fun v σ H Q=>Q (σ.set i (some v)) H
theorem lh {i:Nat} {x:Str} (hN:X.N.Nodup) (hi:X.N[i]? = some x) (hx:Loc X.env.scope x) (hf:X.fn x = true ∨ X.env.scope.names.lookup x = some .local:=by first | exact .inl rfl | exact .inr rfl | assumption):PG X (.Name x pos) (fX i):=by
 intro pins s σ H v u Q I r h
 exact wpAny_assign_Name (fF I hN hi hx r (fun s' I'=>⟨_,H,I',h⟩) hf)
noncomputable def zn:TGs:=fun vs σ H Q=>vs = [] /\ Q σ H
noncomputable def ye (t:TG) (u:TGs):TGs:=fun vs σ H Q => ∃ v r,vs = v :: r /\ t v σ H fun σ' H'=>u r σ' H' Q
theorem tY:PGs X [] zn:=by
 intro pins s σ H vs us Q I r h
 obtain ⟨e,h⟩:=h
 subst e
 cases r
 exact assignInOrder_nil ⟨σ,H,I,h⟩
theorem qw {e:Expr} {es:List Expr} {t:TG} {u:TGs} (h1:PG X e t) (h2:PGs X es u)
 (hs:(assignEach (e :: es) X.env).map (·.2) = assign e X.env :: (assignEach es X.env).map (·.2):=by rfl):PGs X (e :: es) (ye t u):=by
 intro pins s σ H vs us Q I r h
 obtain ⟨v,vr,e1,h⟩:=h
 subst e1
 cases r with
 | cons r rr =>
   rw [hs]
   refine assignInOrder_cons (thn (h1 pins s σ H _ _ _ I r h) fun _ s1 ⟨σ1,H1,I1,q1⟩ => ?_)
   exact h2 pins s1 σ1 H1 _ _ Q I1 rr q1
noncomputable def zo (K:PySem.W.Frag) (n:Nat) (t:TGs):TG:=fun v σ H Q => ∃ a xs,v = .ref a /\ SqT K H a xs /\ xs.length = n /\ t xs σ H Q
theorem wc {es:List Expr} {k:Nat} {t:TGs} {n:Nat} (hc:X.calm = true) (h:PGs X es t)
 (hn:(assignEach es X.env).length = n:=by rfl) (hst:(assignEach es X.env).findIdx? (·.1) = none:=by rfl):PG X (.Tuple es k pos) (zo X.K n t):=by
 intro pins s σ H v u Q I r hw
 obtain ⟨a,xs,e1,hq,hl,hw⟩:=hw
 subst e1
 cases r
 obtain ⟨its,rv,ht,hz⟩:=I.tuple hq
 refine assign_Tuple_tuple (I.ok.hd hc) ht (by simp [hn, <- hl,rv.length]) hst fun h' hx => ?_
 have I1:Inv X pins σ H { s with heap:=h' }:=I.kept (t':=s.toks) fun b o e=>hx b o (Nat.ne_of_lt (Heap.lt_size e)) e
 exact h pins _ σ H xs _ Q I1 (by simpa using rv) hw
noncomputable def zp (to ti:TE) (t:mz):TG:=fun v σ H Q=>to σ H fun o H1=>ti σ H1 fun i H2=>t o i v H2 fun H3=>Q σ H3
theorem wd {o i:Expr} {to ti:TE} {t:mz} (ho:PE X o to) (hi:PE X i ti) (hs:PSet X t)
 (ha:∀ v,assign (.Subscript o i pos) X.env v = (do
   let ov <- holding [v] (eval o X.env)
   let iv <- holding [v,ov] (eval i X.env)
   standAt pos
   holding [v,ov,iv] (setItem ov iv v)
   release [v,ov,iv] []):=by intro _;rfl):PG X (.Subscript o i pos) (zp to ti t):=by
 intro pins s σ H v u Q I r h
 rw [ha]
 refine wpAny_bind (wpAny_holding (thn (ho pins s σ H _ I h) fun ov s1 ⟨x,H1,I1,r1,q1⟩ => ?_))
 refine wpAny_bind (wpAny_holding (thn (hi pins s1 σ H1 _ I1 q1) fun iv s2 ⟨y,H2,I2,r2,q2⟩ => ?_))
 refine wpAny_bind (wpAny_standAt (wpAny_bind (wpAny_holding (thn (hs pins s2 σ H2 x y v ov iv u _ I2 r1 r2 r q2) fun _ s3 ⟨H3,I3,q3⟩ => ?_))))
 exact wpAny_release ⟨σ,H3,I3,q3⟩
noncomputable def mC (te:TE) (g:TG):TS:=fun D σ H=>te σ H fun x H1=>g x σ H1 D.nx
theorem ow {tg e:Expr} {te:TE} {g:TG} (he:PE X e te) (hg:PG X tg g) (hs:swapsWithSole [tg] e pos.line X.env = pure false:=by rfl) (hw:swappedStores [tg] e X.env = pure none:=by rfl)
 (h1:(assignEach [tg] X.env).map (·.2) = [assign tg X.env]:=by rfl):PS X (.Assign [tg] e pos) (mC te g):=by
 intro pins s σ H D I h
 refine wpAny_Assign_stores (thn (he pins s σ H _ I h) fun v s1 ⟨x,H1,I1,r1,q1⟩ => ?_) hs hw
 rw [h1]
 exact thn (hg pins s1 σ H1 x v _ I1 r1 q1) fun _ s2 q=>q
noncomputable def we (i j:Nat) (ta:TA):TS:=fun D σ H=>ta σ H fun vs H1 => ∃ v w,vs = [v,w] /\ D.nx ((σ.set i (some v)).set j (some w)) H1
theorem wf {i j:Nat} {x y:Str} {a b:Expr} {ta:TA} {px py pt:Pos} {kt k2 pt2} (hc:X.calm = true) (hN:X.N.Nodup) (hi:X.N[i]? = some x) (hj:X.N[j]? = some y) (hij:i ≠ j)
 (hx:X.env.scope.names.lookup x = some .local) (hy:X.env.scope.names.lookup y = some .local) (ha:PA X [a,b] ta)
 (hw:swappedStores [.Tuple [.Name x px, .Name y py] kt pt] (.Tuple [a,b] k2 pt2) X.env = pure (some [x,y]))
 (hs:swapsWithSole [.Tuple [.Name x px, .Name y py] kt pt] (.Tuple [a,b] k2 pt2) pos.line X.env = pure false:=by rfl) :
 PS X (.Assign [.Tuple [.Name x px, .Name y py] kt pt] (.Tuple [a,b] k2 pt2) pos) (we i j ta):=by
 intro pins s σ H D I h
 rw [exec_Assign_arm]
 refine wpAny_bind (wpAny_standAt ?_)
 rw [hs]
 refine wpAny_bind (wpAny_pure ?_)
 rw [if_neg (by decide)]
 refine wpAny_bind (Tuple_ (thn (ha _ pins s σ H _ I h) fun us s1 ⟨vs,H1,I1,r1,q1⟩ => ?_))
 obtain ⟨v,w,e1,q1⟩:=q1
 subst e1
 obtain ⟨u1,u2,rfl,rv,rw'⟩:∃ u1 u2,us = [u1,u2] /\ RelV v u1 /\ RelV w u2:=by
  cases r1 with
  | cons p q =>
    cases q with
    | cons p' q' =>
      cases q'
      exact ⟨_,_,rfl,p,p'⟩
 refine wpAny_newObj_type ?_ (by show 2 <= sizeLine;decide)
 have I2:Inv X pins σ H1 { s1 with heap:=s1.heap.push { cls := .type "tuple",data := .seq [u1,u2].toArray } }:=I1.kept (t':=s1.toks) fun b o e=>Heap.get?_push_of_some _ e
 rw [hw]
 refine wpAny_bind (wpAny_pure ?_)
 show wpAny (model X.prog X.w) X.A (do rule "assign.swapped-stores";let items <- unpackItems (.ref s1.heap.objs.size) 2 none;assignInOrder [fun v=>bindName X.env y v,fun v=>bindName X.env x v] items.reverse;pure Flow.next) _ _ _
 refine wpAny_bind (wpAny_rule (wpAny_bind (unpackItems_tuple (items := #[u1,u2]) (I.ok.hd hc) (IsTup.new s1.heap _) fun h' hx' => ?_)))
 have I3:=I2.kept (h':=h') (t':=s1.toks) fun b o e=>hx' b o (Nat.ne_of_lt (Heap.lt_size e)) e
 show wpAny _ _ (assignInOrder [fun v=>bindName X.env y v,fun v=>bindName X.env x v] [u2,u1] >>= fun _=>pure Flow.next) _ _ _
 refine wpAny_bind (assignInOrder_cons (wpAny_bindName (fF I3 hN hj (.inl hy) rw' (fun s2 I4 => ?_) (.inr hy))))
 refine assignInOrder_cons (wpAny_bindName (fF I4 hN hi (.inl hx) rv (fun s3 I5=>assignInOrder_nil (wpAny_pure ?_)) (.inr hx)))
 rw [List.set_comm _ _ (Ne.symm hij)] at I5
 exact ⟨_,H1,I5,q1⟩
noncomputable def zq (X:Cx) (t:V -> V -> Hp -> VK -> Prop):Prop :=
 ∀ (pins:List (Addr × Obj)) (s:Shared) (σ:St) (H:Hp) (o i:V) (ov iv:Value) (Q:VK),Inv X pins σ H s -> RelV o ov -> RelV i iv -> t o i H Q ->
  wpAny (model X.prog X.w) X.A (getItem ov iv) (EP X pins σ Q) X.xe s
end
section
variable {X:Cx} {pos:Pos}
noncomputable def ox (c:TT) (tb:TS):TS:=fun D σ H => ∃ W:Nat -> St -> Hp -> Prop,(∃ m,W m σ H) /\ ∀ m σ H,W m σ H ->
 c σ H fun b H1=>if b = true then ∃ N:St -> Hp -> Prop,(∀ σ' H',N σ' H' -> ∃ m',m' < m /\ W m' σ' H') /\ tb { D with nx:=N,ct:=N,bk:=D.nx } σ H1 else D.nx σ H1
theorem qz {c:Expr} {body:List Stmt} {tc:TT} {tb:TS} (hp:PassesOwn (model X.prog X.w) X.A X.env X.xe) (hc:PT X c tc) (hb:PSs X body tb):PS X (.While c body [] pos) (ox tc tb):=by
 intro pins s σ H D I h
 obtain ⟨W,⟨m0,w0⟩,turn⟩:=h
 refine wpAny_While (codeAny_whileLoop (fun n s' => ∃ σ' H',Inv X pins σ' H' s' /\ W n σ' H') ?_ m0 ⟨σ,H,I,w0⟩)
 rintro n s1 ⟨σ1,H1,I1,w1⟩
 refine wpAny_passesOwn hp (thn (hc pins s1 σ1 H1 _ I1 (turn n σ1 H1 w1)) fun b s2 ⟨H2,I2,q2⟩ => ?_)
 cases b with
 | true =>
   obtain ⟨N,hN,q2⟩:=q2
   rw [if_pos rfl]
   refine wpAny_passesOwn hp (thn (hb pins s2 σ1 H2 _ I2 q2) fun f s3 q3 => ?_)
   cases f with
   | next =>
     obtain ⟨σ3,H3,I3,n3⟩:=q3
     obtain ⟨m',hm,w3⟩:=hN σ3 H3 n3
     exact ⟨m',hm, σ3,H3,I3,w3⟩
   | cont =>
     obtain ⟨σ3,H3,I3,n3⟩:=q3
     obtain ⟨m',hm,w3⟩:=hN σ3 H3 n3
     exact ⟨m',hm, σ3,H3,I3,w3⟩
   | brk=>exact q3
   | ret v=>exact q3
 | false =>
   rw [if_neg Bool.false_ne_true]
   exact wpAny_execs_nil ⟨σ1,H2,I2,q2⟩
end
structure It where
 go:Nat -> Hp -> Prop
 yld:Nat -> Hp -> V -> Hp -> Prop
 stop:Nat -> Hp -> Prop
noncomputable def bU (X:Cx) (pins:List (Addr × Obj)) (H:Hp) (b:Addr):Prop :=
 H b = none /\ b ≠ X.env.locals /\ b ∉ X.fs /\ (b ∈ X.ex ∨ X.s₀.heap.objs.size <= b) /\ (∀ x c,X.env.cells.lookup x = some c -> c ≠ b) /\ ∀ p ∈ X.pn ++ pins,p.1 ≠ b
theorem Inv.fpOk {X:Cx} {pins:List (Addr × Obj)} {σ:St} {H H':Hp} {s:Shared} {b:Addr} (I:Inv X pins σ H s) (hb:s.heap.objs.size <= b) (hn:H' b = none):bU X pins H' b:=by
 refine ⟨hn,Nat.ne_of_gt (Nat.lt_of_lt_of_le I.lt hb),I.nofs hb, .inr (Nat.le_trans I.sz hb),fun x c e z => ?_,fun p hp z => ?_⟩
 ·obtain ⟨v,q⟩:=I.cell x c e
  exact absurd (Nat.lt_of_lt_of_le q.lt (by rw [z];exact hb)) (Nat.lt_irrefl _)
 ·exact absurd (Nat.lt_of_lt_of_le (Heap.lt_size (I.pin p hp).1) (by rw [z];exact hb)) (Nat.lt_irrefl _)
structure ee (P:Program) (w:World) (K:PySem.W.Frag) (tg:Expr) (J:It) (fp:List Addr) (it:Addr) (tn:Nat -> Heap -> Prop):Prop where
 mem:it ∈ fp
 obj:∀ i h,tn i h -> ∀ b ∈ fp, ∃ o,h.get? b = some o /\ ∀ v,o.data ≠ .cell v
 keep:∀ i h h',tn i h -> (∀ b ∈ fp, ∀ o,h.get? b = some o -> h'.get? b = some o) -> tn i h'
 item:∀ (X:Cx),X.prog = P -> X.w = w -> X.K = K -> X.calm = true -> ∀ (i:Nat) (pins:List (Addr × Obj)) (s:Shared) (σ:St) (H:Hp) (E:Value -> Shared -> Prop),Inv X pins σ H s -> (∀ b ∈ fp,bU X pins H b) -> tn i s.heap -> J.go i H ->
  wpAny (model P w) X.A (pyNext (.ref it)) (fun r s1 => ∃ u,r = some u /\
   wpAny (model P w) X.A (letOwnedTupleGo tg (.ref it) u) (fun _ s2 => ∃ x H',Inv X pins σ H' s2 /\ RelV x u /\ J.yld i H x H' /\ tn (i + 1) s2.heap /\ ∀ b ∈ fp,H' b = none) E s1) E s
 done:∀ (X:Cx),X.prog = P -> X.w = w -> X.K = K -> X.calm = true -> ∀ (i:Nat) (pins:List (Addr × Obj)) (s:Shared) (σ:St) (H:Hp) (E:Value -> Shared -> Prop),Inv X pins σ H s -> (∀ b ∈ fp,bU X pins H b) -> tn i s.heap -> J.stop i H ->
  wpAny (model P w) X.A (pyNext (.ref it)) (fun r s1=>r = none /\ Inv X pins σ H s1) E s
 self:∀ (A:Around) (i:Nat) (s:Shared) (Q:Value -> Shared -> Prop) (E:Value -> Shared -> Prop),tn i s.heap -> Q (.ref it) s -> wpAny (model P w) A (pyIter (.ref it)) Q E s
noncomputable abbrev TI:=St -> Hp -> (It -> Hp -> Prop) -> Prop
noncomputable def PIE (X:Cx) (pins:List (Addr × Obj)) (σ:St) (tg:Expr) (R:It -> Hp -> Prop) (itv:Value) (s2:Shared):Prop :=
 ∃ (it:Addr) (fp:List Addr) (tn:Nat -> Heap -> Prop) (J:It) (H':Hp),itv = .ref it /\ Inv X pins σ H' s2 /\ ee X.prog X.w X.K tg J fp it tn /\ tn 0 s2.heap /\ (∀ b ∈ fp,bU X pins H' b) /\ R J H'
noncomputable def PI (X:Cx) (tg iter:Expr) (wi:TI):Prop :=
 ∀ (pins:List (Addr × Obj)) (s:Shared) (σ:St) (H:Hp) (R:It -> Hp -> Prop),Inv X pins σ H s -> wi σ H R ->
  wpAny (model X.prog X.w) X.A (eval iter X.env) (fun v s1=>wpAny (model X.prog X.w) X.A (pyIter v) (PIE X pins σ tg R) X.xe s1) X.xe s
theorem iT {M:Model} {A:Around} {E:Value -> Shared -> Prop} {s:Shared} {tg:Expr} {it:Addr} {u:Value} {o:Obj} {n:String} {vs:Array Value} {Q:Unit -> Shared -> Prop} (ho:s.heap.get? it = some o) (hc:o.cls = .type n) (hd:o.data = .fields vs)
 (hn : ["enumerate", "zip", "dict_itemiterator", "dict_reverseitemiterator", "odict_iterator", "itertools.zip_longest", "itertools.pairwise"].contains n = false) (hQ:Q () s):wpAny M A (letOwnedTupleGo tg (.ref it) u) Q E s:=by
 unfold letOwnedTupleGo
 cases tg <;> first
  | exact wpAny_pure hQ
  | (cases u <;> first
      | exact wpAny_pure hQ
      | (refine wpAny_bind (wpAny_load ho ?_)
         rw [hc,hd]
         show wpAny M A (if (["enumerate", "zip", "dict_itemiterator", "dict_reverseitemiterator", "odict_iterator", "itertools.zip_longest", "itertools.pairwise"].contains n && vs[0]? == some (rawInt _)) = true then _ else _) Q E s
         rw [if_neg (by intro h;rw [hn,Bool.false_and] at h;cases h)]
         exact wpAny_pure hQ))
noncomputable def Itl (K:PySem.W.Frag) (a:Addr):It :=
 ⟨fun i H => ∃ xs x,SqL K H a xs /\ xs[i]? = some x,fun i H x H'=>H' = H /\ ∀ xs,SqL K H a xs -> xs[i]? = some x,fun i H => ∃ xs,SqL K H a xs /\ xs.length <= i⟩
noncomputable def Itt (K:PySem.W.Frag) (a:Addr):It :=
 ⟨fun i H => ∃ xs x,SqT K H a xs /\ xs[i]? = some x,fun i H x H'=>H' = H /\ ∀ xs,SqT K H a xs -> xs[i]? = some x,fun i H => ∃ xs,SqT K H a xs /\ xs.length <= i⟩
noncomputable def Itr (lo:Int) (n:Nat):It:=⟨fun i _=>i < n,fun i H x H'=>H' = H /\ x = .int (lo + i),fun i _=>n <= i⟩
theorem oz {P:Program} {w:World} {K:PySem.W.Frag} {tg:Expr} (a it:Addr):ee P w K tg (Itl K a) [it] it (fun i h=>h.IsListIter it a i) where
 mem:=by simp
 obj:=fun i h st b hb=>by
  have e:b = it:=by simpa using hb
  subst e
  obtain ⟨o,e,c,d⟩:=st
  exact ⟨o,e,fun v z=>by rw [d] at z;cases z⟩
 keep:=fun i h h' st k=>st.at fun o e=>k it (by simp) o e
 item:=by
  intro X hP hw hK hc i pins s σ H E I hf st hg
  subst hP hw hK
  obtain ⟨xs,x,hq,hx⟩:=hg
  obtain ⟨its,rv,p,hz⟩:=I.list hq
  obtain ⟨u,hu,ru⟩:=rv.get hx
  obtain ⟨f0,f1,f2,f3,f4,f5⟩:=hf it (by simp)
  refine wpAny_pyNext_list_item st p.isList (x:=u) (by simpa using hu) fun h' st' sb => ?_
  have I1:Inv X pins σ H { s with heap:=h' }:=I.turned (t':=s.toks) (fun b o hb e=>(sb.2 b hb).trans e) f0 f1 f3 f4 f5
  obtain ⟨o,e,c,d⟩:=id st'
  exact ⟨u,rfl,iT (s := { s with heap:=h' }) e c d (by decide) ⟨x,H,I1,ru,⟨rfl,fun ys hy=>by rw [I.list_inj hy hq];exact hx⟩,st',fun b hb=>(hf b hb).1⟩⟩
 done:=by
  intro X hP hw hK hc i pins s σ H E I hf st hg
  subst hP hw hK
  obtain ⟨xs,hq,hx⟩:=hg
  obtain ⟨its,rv,p,hz⟩:=I.list hq
  obtain ⟨f0,f1,f2,f3,f4,f5⟩:=hf it (by simp)
  have hl:=rv.length
  exact wpAny_pyNext_list_end (I.ok.hd hc) st p.isList (by simp;omega) fun h' eb=>⟨rfl,I.turned (t':=s.toks) (fun b o hb e=>eb b o hb e) f0 f1 f3 f4 f5⟩
 self:=fun _ _ _ _ _ st h=>wpAny_pyIter_listiter st h
theorem mD {P:Program} {w:World} {K:PySem.W.Frag} {tg:Expr} (a it:Addr):ee P w K tg (Itt K a) [it] it (fun i h=>h.IsTupleIter it a i) where
 mem:=by simp
 obj:=fun i h st b hb=>by
  have e:b = it:=by simpa using hb
  subst e
  obtain ⟨o,e,c,d⟩:=st
  exact ⟨o,e,fun v z=>by rw [d] at z;cases z⟩
 keep:=fun i h h' st k=>st.at fun o e=>k it (by simp) o e
 item:=by
  intro X hP hw hK hc i pins s σ H E I hf st hg
  subst hP hw hK
  obtain ⟨xs,x,hq,hx⟩:=hg
  obtain ⟨its,rv,p,hz⟩:=I.tuple hq
  obtain ⟨u,hu,ru⟩:=rv.get hx
  obtain ⟨f0,f1,f2,f3,f4,f5⟩:=hf it (by simp)
  refine wpAny_pyNext_tuple_item st (show s.heap.IsTuple a its.toArray from p) (x:=u) (by simpa using hu) fun h' st' sb => ?_
  have I1:Inv X pins σ H { s with heap:=h' }:=I.turned (t':=s.toks) (fun b o hb e=>(sb.2 b hb).trans e) f0 f1 f3 f4 f5
  obtain ⟨o,e,c,d⟩:=id st'
  exact ⟨u,rfl,iT (s := { s with heap:=h' }) e c d (by decide) ⟨x,H,I1,ru,⟨rfl,fun ys hy=>by rw [I.tuple_inj hy hq];exact hx⟩,st',fun b hb=>(hf b hb).1⟩⟩
 done:=by
  intro X hP hw hK hc i pins s σ H E I hf st hg
  subst hP hw hK
  obtain ⟨xs,hq,hx⟩:=hg
  obtain ⟨its,rv,p,hz⟩:=I.tuple hq
  obtain ⟨f0,f1,f2,f3,f4,f5⟩:=hf it (by simp)
  have hl:=rv.length
  exact wpAny_pyNext_tuple_end (I.ok.hd hc) st (show s.heap.IsTuple a its.toArray from p) (by simp;omega) fun h' eb=>⟨rfl,I.turned (t':=s.toks) (fun b o hb e=>eb b o hb e) f0 f1 f3 f4 f5⟩
 self:=fun _ _ _ _ _ st h=>wpAny_pyIter_tupleiter st h
theorem mF {P:Program} {w:World} {K:PySem.W.Frag} {tg:Expr} (it:Addr) (lo:Int) (n:Nat):ee P w K tg (Itr lo n) [it] it (fun i h=>IsRangeIter h it (lo + (i:Nat) * 1) ((n:Int) - (i:Nat)) 1) where
 mem:=by simp
 obj:=fun i h st b hb=>by
  have e:b = it:=by simpa using hb
  subst e
  exact ⟨_,st,fun v z=>by
   have z':Data.fields _ = Data.cell v:=z
   cases z'⟩
 keep:=fun i h h' st k=>k it (by simp) _ st
 item:=by
  intro X hP hw hK hc i pins s σ H E I hf st hg
  subst hP hw hK
  obtain ⟨f0,f1,f2,f3,f4,f5⟩:=hf it (by simp)
  have W:=Walks.range (prog:=X.prog) (w:=X.w) (I.ok.hd hc) it lo 1 n
  refine W.item i s _ _ hg st fun v h' tk hv st' kk => ?_
  obtain ⟨t,rfl⟩:=hv
  have I1:Inv X pins σ H { s with heap:=h',toks:=tk }:=I.turned (fun b o hb e=>kk b o (by simpa using hb) e) f0 f1 f3 f4 f5
  refine ⟨_,rfl,iT (s := { s with heap:=h',toks:=tk }) (n := "range_iterator") st' rfl rfl (by decide) ⟨.int (lo + i),H,I1,⟨t, ?_⟩,⟨rfl,rfl⟩,st',fun b hb=>(hf b hb).1⟩⟩
  rw [Int.mul_one]
 done:=by
  intro X hP hw hK hc i pins s σ H E I hf st hg
  subst hP hw hK
  obtain ⟨f0,f1,f2,f3,f4,f5⟩:=hf it (by simp)
  exact wpAny_pyNext_range_end (I.ok.hd hc) st (by have:n <= i:=hg;omega) fun h' eb=>⟨rfl,I.turned (t':=s.toks) (fun b o hb e=>eb b o hb e) f0 f1 f3 f4 f5⟩
 self:=fun _ _ _ _ _ st h=>wpAny_pyIter_rangeiter st h
end L2
namespace L2
open PySem PySem.Spec PyProof.Rows
section
variable {X:Cx} {tg:Expr}
theorem qA {pins:List (Addr × Obj)} {σ:St} {H:Hp} {s:Shared} {R:It -> Hp -> Prop} {E:Value -> Shared -> Prop} {lo hi:Int} {t u v:Tok} {tk:Nat} (I:Inv X pins σ H s) (h1 : -(2 ^ 62) <= lo) (h2:lo < 2 ^ 62) (h3 : -(2 ^ 62) <= hi) (h4:hi < 2 ^ 62)
 (q:R (Itr lo (hi - lo).toNat) H):wpAny (model X.prog X.w) X.A (pyIter (.ref s.heap.objs.size)) (PIE X pins σ tg R) E { s with heap:=s.heap.push { cls := .type "range",data := .fields #[.int lo t, .int hi u, .int 1 v] },toks:=tk }:=by
 refine wpAny_pyIter_range (IsRange.new ..) (small_one h1 h2 h3 h4) ?_
 have I1:Inv X pins σ H { s with heap:=s.heap.push { cls := .type "range",data := .fields #[.int lo t, .int hi u, .int 1 v] },toks:=tk }:=I.kept fun b o e=>Heap.get?_push_of_some _ e
 refine ⟨(s.heap.push { cls := .type "range",data := .fields #[.int lo t, .int hi u, .int 1 v] }).objs.size,[(s.heap.push { cls := .type "range",data := .fields #[.int lo t, .int hi u, .int 1 v] }).objs.size],_,_,H,rfl,
  I1.kept (t':=tk) fun b o e=>Heap.get?_push_of_some _ e,mF _ lo (hi - lo).toNat, ?_,fun b hb => ?_,q⟩
 ·have e1:lo + ((0:Nat):Int) * 1 = lo:=by simp
  have e2:(((hi - lo).toNat:Nat):Int) - ((0:Nat):Int) = Builtin.Range.rangeSize lo hi 1:=by rw [rangeSize_one];split <;> omega
  show IsRangeIter _ _ (lo + ((0:Nat):Int) * 1) ((((hi - lo).toNat:Nat):Int) - ((0:Nat):Int)) 1
  rw [e1,e2]
  exact Heap.get?_push_size _ rfl
 ·have e:b = (s.heap.push { cls := .type "range",data := .fields #[.int lo t, .int hi u, .int 1 v] }).objs.size:=by simpa using hb
  subst e
  exact I1.fpOk (Nat.le_refl _) (I1.hok.fresh (Nat.le_refl _))
noncomputable def yf (ta:TA):TI:=fun σ H R=>ta σ H fun vs H1 => ∃ j:Int,vs = [.int j] /\ -(2 ^ 62) <= j /\ j < 2 ^ 62 /\ R (Itr 0 j.toNat) H1
theorem oA {a:Expr} {ta:TA} {p pos:Pos} (hg:Gl X "range") (hm:X.mg "range" = none) (ha:PA X [a] ta) (hs:starEach [a] X.env = [(false,eval a X.env)]:=by rfl):PI X tg (.Call (.Name "range" p) [a] [] pos) (yf ta):=by
 intro pins s σ H R I h
 refine Call_ (dv I hg hm boot_range (PyProof.Rows.callWith_type1 (thn (ha pos pins s σ H _ I h) fun us s1 ⟨vs,H1,I1,r1,q1⟩ => ?_) hs rfl))
 obtain ⟨j,e,q1,q2,q⟩:=q1
 subst e
 cases r1 with
 | cons r rr =>
   cases rr
   obtain ⟨t,rfl⟩:=r
   exact call_range_1 (qA I1 (by omega) (by omega) q1 q2 (by simpa using q))
noncomputable def wg (wi:TI) (g:TG) (tb:TS):TS:=fun D σ H=>wi σ H fun J H1 => ∃ W:Nat -> Nat -> St -> Hp -> Prop,(∃ m,W 0 m σ H1) /\ ∀ i m σ H,W i m σ H ->
 (J.stop i H /\ D.nx σ H) ∨ (J.go i H /\ ∃ N:St -> Hp -> Prop,(∀ σ' H',N σ' H' -> ∃ m',m' < m /\ W (i + 1) m' σ' H') /\ ∀ x H',J.yld i H x H' -> g x σ H' fun σ2 H2=>tb { D with nx:=N,ct:=N,bk:=D.nx } σ2 H2)
noncomputable def fY (fp:List Addr) (h:Heap):List (Addr × Obj):=fp.filterMap fun b=>(h.get? b).map fun o=>(b,o)
theorem cD {fp:List Addr} {h:Heap} {b:Addr} {o:Obj} (hb:b ∈ fp) (e:h.get? b = some o):(b,o) ∈ fY fp h:=List.mem_filterMap.mpr ⟨b,hb,by rw [e];rfl⟩
theorem oB {fp:List Addr} {h:Heap} {p:Addr × Obj} (hp:p ∈ fY fp h):p.1 ∈ fp /\ h.get? p.1 = some p.2:=by
 obtain ⟨b,hb,e⟩:=List.mem_filterMap.mp hp
 cases q:h.get? b with
 | none=>rw [q] at e;cases e
 | some o =>
   rw [q] at e
   have e':(b,o) = p:=Option.some.inj e
   subst e'
   exact ⟨hb,q⟩
theorem Inv.pinned {pins:List (Addr × Obj)} {σ:St} {H:Hp} {s:Shared} {fp:List Addr} (I:Inv X pins σ H s) (hf:∀ b ∈ fp,bU X pins H b) (ho:∀ b ∈ fp, ∃ o,s.heap.get? b = some o /\ ∀ v,o.data ≠ .cell v):Inv X (pins ++ fY fp s.heap) σ H s :=
 I.pins_of fun p hp=>(List.mem_append.mp hp).elim (fun z=>I.pin p (List.mem_append_right _ z)) fun z=>by
  obtain ⟨hb,e⟩:=oB z
  obtain ⟨f0,f1,f2,_⟩:=hf p.1 hb
  obtain ⟨o,e',d⟩:=ho p.1 hb
  rw [e] at e';cases e'
  exact ⟨e,f0,f1,f2,d⟩
theorem Inv.unpinned {pins pl:List (Addr × Obj)} {σ:St} {H:Hp} {s:Shared} (I:Inv X (pins ++ pl) σ H s):Inv X pins σ H s:=I.pins_of fun p hp=>I.pin p (List.mem_append_right _ (List.mem_append_left _ hp))
theorem wj {iter:Expr} {body:List Stmt} {wi:TI} {g:TG} {tb:TS} {pos:Pos} (hp:PassesOwn (model X.prog X.w) X.A X.env X.xe) (hc:X.calm = true) (hi:PI X tg iter wi) (hg:PG X tg g) (hb:PSs X body tb)
 (hs:∀ x,foldedSetIterable iter X.env x = pure x:=by intro _;rfl):PS X (.For tg iter body [] pos) (wg wi g tb):=by
 intro pins s σ H D I h
 refine wpAny_For (thn (hi pins s σ H _ I h) fun v s1 h1=>thn h1 fun itv s2 h2 => ?_) hs
 obtain ⟨it,fp,tn,J,H2,e,I2,T,st2,f2,W,⟨m0,w0⟩,turn⟩:=h2
 subst e
 have stat:∀ {H':Hp},(∀ b ∈ fp,H' b = none) -> ∀ b ∈ fp,bU X pins H' b:=fun hn b hb=>⟨hn b hb,(f2 b hb).2⟩
 refine codeAny_forLoop_any (fun n s' => ∃ i σ' H',Inv X pins σ' H' s' /\ tn i s'.heap /\ (∀ b ∈ fp,H' b = none) /\ W i n σ' H') ?_ m0 ⟨0, σ,H2,I2,st2,fun b hb=>(f2 b hb).1,w0⟩
 rintro n s3 ⟨i, σ3,H3,I3,st3,fr3,w3⟩
 rcases turn i n σ3 H3 w3 with ⟨stop,qn⟩ | ⟨go,N,hN,step⟩
 ·refine wpAny_passesOwn hp (thn (T.done X rfl rfl rfl hc i pins s3 σ3 H3 X.xe I3 (stat fr3) st3 stop) fun r s4 ⟨hr,I4⟩ => ?_)
  subst hr
  exact wpAny_execs_nil ⟨σ3,H3,I4,qn⟩
 ·refine wpAny_passesOwn hp (thn (T.item X rfl rfl rfl hc i pins s3 σ3 H3 X.xe I3 (stat fr3) st3 go) fun r s4 ⟨u,hr,h4⟩ => ?_)
  subst hr
  refine wpAny_passesOwn hp (thn h4 fun _ s5 ⟨x,H5,I5,r5,y5,st5,fr5⟩ => ?_)
  have I5':=I5.pinned (stat fr5) (T.obj _ _ st5)
  refine wpAny_passesOwn hp (thn (hg _ s5 σ3 H5 x u _ I5' r5 (step x H5 y5)) fun _ s6 ⟨σ6,H6,I6,q6⟩ => ?_)
  refine wpAny_passesOwn hp (thn (hb _ s6 σ6 H6 _ I6 q6) fun f s7 q7 => ?_)
  have again:∀ {σ7:St} {H7:Hp},Inv X (pins ++ fY fp s5.heap) σ7 H7 s7 -> N σ7 H7 -> ∃ m,m < n /\ ∃ i σ' H',Inv X pins σ' H' s7 /\ tn i s7.heap /\ (∀ b ∈ fp,H' b = none) /\ W i m σ' H':=fun {σ7 H7} I7 n7=>by
   obtain ⟨m',hm,w7⟩:=hN σ7 H7 n7
   refine ⟨m',hm,i + 1, σ7,H7,I7.unpinned,T.keep _ _ _ st5 fun b hb o e=>(I7.pin (b,o) (List.mem_append_right _ (List.mem_append_right _ (cD hb e)))).1,fun b hb => ?_,w7⟩
   obtain ⟨o,e,d⟩:=T.obj _ _ st5 b hb
   exact (I7.pin (b,o) (List.mem_append_right _ (List.mem_append_right _ (cD hb e)))).2.1
  cases f with
  | next=>obtain ⟨σ7,H7,I7,n7⟩:=q7;exact again I7 n7
  | cont=>obtain ⟨σ7,H7,I7,n7⟩:=q7;exact again I7 n7
  | brk=>obtain ⟨σ7,H7,I7,q7⟩:=q7;exact ⟨σ7,H7,I7.unpinned,q7⟩
  | ret v=>obtain ⟨x7, σ7,H7,I7,r7,q7⟩:=q7;exact ⟨x7, σ7,H7,I7.unpinned,r7,q7⟩
end
end L2
namespace L2
open PySem PySem.Spec PyProof.Rows
noncomputable abbrev R2:=V -> V -> Hp -> VK -> Prop
noncomputable def OpR (X:Cx) (f:Value -> Value -> Sem Value) (r:R2):Prop :=
 ∀ (pins:List (Addr × Obj)) (s:Shared) (σ:St) (H:Hp) (x y:V) (v u:Value) (Q:VK),Inv X pins σ H s -> RelV x v -> RelV y u -> r x y H Q ->
  wpAny (model X.prog X.w) X.A (f v u) (EP X pins σ Q) X.xe s
noncomputable def UnR (X:Cx) (f:Value -> Sem Value) (r:V -> Hp -> VK -> Prop):Prop :=
 ∀ (pins:List (Addr × Obj)) (s:Shared) (σ:St) (H:Hp) (x:V) (v:Value) (Q:VK),Inv X pins σ H s -> RelV x v -> r x H Q ->
  wpAny (model X.prog X.w) X.A (f v) (EP X pins σ Q) X.xe s
noncomputable def CallR (X:Cx) (f:Value) (r:List V -> Hp -> VK -> Prop):Prop :=
 ∀ (pins:List (Addr × Obj)) (s:Shared) (σ:St) (H:Hp) (xs:List V) (us:List Value) (Q:VK),Inv X pins σ H s -> Vals xs us -> r xs H Q ->
  wpAny (model X.prog X.w) X.A (call f us) (EP X pins σ Q) X.xe s
noncomputable def zr (X:Cx) (r:V -> Hp -> (Bool -> Hp -> Prop) -> Prop):Prop :=
 ∀ (pins:List (Addr × Obj)) (s:Shared) (σ:St) (H:Hp) (x:V) (v:Value) (Q:Bool -> Hp -> Prop),Inv X pins σ H s -> RelV x v -> r x H Q ->
  wpAny (model X.prog X.w) X.A (truthy v) (TP X pins σ Q) X.xe s
noncomputable def tOp (r:R2) (ta tb:TE):TE:=fun σ H Q=>ta σ H fun x H1=>tb σ H1 fun y H2=>r x y H2 Q
noncomputable def tUn (r:V -> Hp -> VK -> Prop) (ta:TE):TE:=fun σ H Q=>ta σ H fun x H1=>r x H1 Q
noncomputable def rI (C:Int -> Int -> Prop) (g:Int -> Int -> V):R2:=fun x y H Q => ∃ i j,x = .int i /\ y = .int j /\ C i j /\ Q (g i j) H
noncomputable def rI0 (g:Int -> Int -> V):R2:=fun x y H Q => ∃ i j,x = .int i /\ y = .int j /\ Q (g i j) H
noncomputable def rU (g:Int -> V):V -> Hp -> VK -> Prop:=fun x H Q => ∃ i,x = .int i /\ Q (g i) H
section
variable {X:Cx} {a b c:Expr} {ta tb tc:TE} {pos:Pos}
theorem qB (ha:PE X a ta) (hb:PE X b tb) {pins:List (Addr × Obj)} {s:Shared} {σ:St} {H:Hp} {R:V -> V -> Hp -> Prop} (I:Inv X pins σ H s)
 (h:ta σ H fun x H1=>tb σ H1 fun y H2=>R x y H2) {Q:Value -> Shared -> Prop} {f:Value -> Value -> Sem Value}
 (hf:∀ v u s2 x y H2,Inv X pins σ H2 s2 -> RelV x v -> RelV y u -> R x y H2 -> wpAny (model X.prog X.w) X.A (f v u) Q X.xe s2) :
 wpAny (model X.prog X.w) X.A (eval a X.env) (fun v s₁ => wpAny (model X.prog X.w) X.A (eval b X.env) (fun u s₂ => wpAny (model X.prog X.w) X.A (f v u) Q X.xe s₂) X.xe s₁) X.xe s:=by
 refine thn (ha pins s σ H _ I h) fun v s1 ⟨x,H1,I1,r1,q1⟩ => ?_
 refine thn (hb pins s1 σ H1 _ I1 q1) fun u s2 ⟨y,H2,I2,r2,q2⟩ => ?_
 exact hf v u s2 x y H2 I2 r1 r2 q2
theorem yg {op:Operator} {r:R2} (ho:OpR X (binaryOp op) r) (ha:PE X a ta) (hb:PE X b tb):PE X (.BinOp a op b pos) (tOp r ta tb):=by
 intro pins s σ H Q I h
 exact wpAny_BinOp (qB ha hb I h fun v u s2 x y H2 I2 rx ry q=>ho pins s2 σ H2 x y v u Q I2 rx ry q)
theorem yh {op:UnaryOp} {r:V -> Hp -> VK -> Prop} (ho:UnR X (unaryOp op) r) (ha:PE X a ta):PE X (.UnaryOp op a pos) (tUn r ta):=by
 intro pins s σ H Q I h
 exact UnaryOp_ (thn (ha pins s σ H _ I h) fun v s1 ⟨x,H1,I1,r1,q1⟩=>ho pins s1 σ H1 x v Q I1 r1 q1)
theorem opI {f:Value -> Value -> Sem Value} {C:Int -> Int -> Prop} {g:Int -> Int -> Int}
 (rule:∀ (i j:Int) (t u:Tok) (s:Shared) (Q:Value -> Shared -> Prop) (E:Value -> Shared -> Prop),C i j -> Q (.int (g i j) s.toks) { s with toks:=s.toks + 1 } -> wpAny (model X.prog X.w) X.A (f (.int i t) (.int j u)) Q E s) :
 OpR X f (rI C fun i j => .int (g i j)):=by
 intro pins s σ H x y v u Q I rx ry h
 obtain ⟨i,j,rfl,rfl,hc,q⟩:=h
 obtain ⟨t,rfl⟩:=rx
 obtain ⟨t',rfl⟩:=ry
 exact rule i j t t' s _ _ hc ⟨.int (g i j),H,I.tok _,⟨_,rfl⟩,q⟩
theorem wk {f:Value -> Value -> Sem Value} {g:Int -> Int -> Int}
 (rule:∀ (i j:Int) (t u:Tok) (s:Shared) (Q:Value -> Shared -> Prop) (E:Value -> Shared -> Prop),Q (.int (g i j) s.toks) { s with toks:=s.toks + 1 } -> wpAny (model X.prog X.w) X.A (f (.int i t) (.int j u)) Q E s) :
 OpR X f (rI0 fun i j => .int (g i j)):=by
 intro pins s σ H x y v u Q I rx ry h
 obtain ⟨i,j,rfl,rfl,q⟩:=h
 obtain ⟨t,rfl⟩:=rx
 obtain ⟨t',rfl⟩:=ry
 exact rule i j t t' s _ _ ⟨.int (g i j),H,I.tok _,⟨_,rfl⟩,q⟩
theorem qC {f:Value -> Value -> Sem Value} {g:Int -> Int -> Bool}
 (rule:∀ (i j:Int) (t u:Tok) (s:Shared) (Q:Value -> Shared -> Prop) (E:Value -> Shared -> Prop),Q (.bool (g i j)) s -> wpAny (model X.prog X.w) X.A (f (.int i t) (.int j u)) Q E s) :
 OpR X f (rI0 fun i j => .bl (g i j)):=by
 intro pins s σ H x y v u Q I rx ry h
 obtain ⟨i,j,rfl,rfl,q⟩:=h
 obtain ⟨t,rfl⟩:=rx
 obtain ⟨t',rfl⟩:=ry
 exact rule i j t t' s _ _ ⟨.bl (g i j),H,I,rfl,q⟩
noncomputable def zt (i j:Int):Prop := 0 <= j /\ j <= 1000000 /\ i.natAbs < 2 ^ 64
noncomputable def CMul (i j:Int):Prop:=(-(2 ^ 64) < i /\ i < 2 ^ 64) ∨ (-(2 ^ 64) < j /\ j < 2 ^ 64)
theorem CMul.ok {i j:Int} (h:CMul i j):IntMulOk i j:=by
 rcases h with ⟨h1,h2⟩ | ⟨h1,h2⟩
 ·exact .of_left (intBits_le_64 h1 h2)
 ·exact .of_right (intBits_le_64 h1 h2)
theorem op_add:OpR X (binaryOp .Add) (rI0 fun i j => .int (i + j)):=wk fun _ _ _ _ _ _ _ q=>add_int q
theorem wl:OpR X (binaryOp .Sub) (rI0 fun i j => .int (i - j)):=wk fun _ _ _ _ _ _ _ q=>sub_int q
theorem wm:OpR X (binaryOp .Mod) (rI (fun _ j => 0 < j) fun i j => .int (i % j)):=opI fun i j _ _ _ _ _ hc q=>by
 have h1:(0:Int) < j:=hc
 exact mod_int' (by omega) (by rw [Int.fmod_eq_emod_of_nonneg i (by omega)];exact q)
theorem wn:OpR X (binaryOp .Pow) (rI zt fun i j => .int (i ^ j.toNat)):=opI fun _ _ _ _ _ _ _ hc q=>pow_int_small hc.1 hc.2.1 hc.2.2 q
theorem unI {f:Value -> Sem Value} {g:Int -> Int}
 (rule:∀ (i:Int) (t:Tok) (s:Shared) (Q:Value -> Shared -> Prop) (E:Value -> Shared -> Prop),Q (.int (g i) s.toks) { s with toks:=s.toks + 1 } -> wpAny (model X.prog X.w) X.A (f (.int i t)) Q E s) :
 UnR X f (rU fun i => .int (g i)):=by
 intro pins s σ H x v Q I rx h
 obtain ⟨i,rfl,q⟩:=h
 obtain ⟨t,rfl⟩:=rx
 exact rule i t s _ _ ⟨.int (g i),H,I.tok _,⟨_,rfl⟩,q⟩
theorem wo:UnR X (unaryOp .USub) (rU fun i => .int (-i)):=unI fun _ _ _ _ _ q=>neg_int q
end
section
variable {X:Cx} {a b c:Expr} {ta tb tc:TE} {pos:Pos}
theorem yi:OpR X (compareOp .Lt) (rI0 fun i j => .bl (decide (i < j))):=qC fun _ _ _ _ _ _ _ q=>lt_int q
theorem yj:OpR X (compareOp .Gt) (rI0 fun i j => .bl (decide (j < i))):=qC fun _ _ _ _ _ _ _ q=>gt_int q
theorem yk:OpR X (compareOp .GtE) (rI0 fun i j => .bl (decide (j <= i))):=qC fun _ _ _ _ _ _ _ q=>ge_int q
theorem OpR.or {f:Value -> Value -> Sem Value} {r r':R2} (h:OpR X f r) (h':OpR X f r'):OpR X f (fun x y H Q=>r x y H Q ∨ r' x y H Q):=by
 intro pins s σ H x y v u Q I rx ry q
 rcases q with q | q
 ·exact h pins s σ H x y v u Q I rx ry q
 ·exact h' pins s σ H x y v u Q I rx ry q
theorem wp (b:Expr) {op:CmpOp} (h:op ≠ .In:=by decide) (h2:op ≠ .NotIn:=by decide):behindInMarks op b = false:=by
 have e1:(op == CmpOp.In) = false:=by cases op <;> first | rfl | exact absurd rfl h
 have e2:(op == CmpOp.NotIn) = false:=by cases op <;> first | rfl | exact absurd rfl h2
 cases b <;> simp [behindInMarks,e1,e2]
theorem tZ {op:CmpOp} {r:R2} (ho:OpR X (compareOp op) r) (ha:PE X a ta) (hb:PE X b tb) (hm:behindInMarks op b = false):PE X (.Compare a [op] [b] pos) (tOp r ta tb):=by
 intro pins s σ H Q I h
 exact wpAny_Compare1 (qB ha hb I h fun v u s2 x y H2 I2 rx ry q=>ho pins s2 σ H2 x y v u Q I2 rx ry q) hm
noncomputable def t3 (t:TE):TT:=fun σ H Q=>t σ H fun x H' => ∃ k,x = .bl k /\ Q k H'
theorem u3 {op:CmpOp} {r:R2} (ho:OpR X (compareOp op) r) (ha:PE X a ta) (hb:PE X b tb) (hm:behindInMarks op b = false):PT X (.Compare a [op] [b] pos) (t3 (tOp r ta tb)):=by
 intro pins s σ H Q I h
 refine wpAny_isTrue_Compare1 (thn (ha pins s σ H _ I h) fun v s1 ⟨x,H1,I1,r1,q1⟩=>thn (hb pins s1 σ H1 _ I1 q1) fun u s2 ⟨y,H2,I2,r2,q2⟩ =>
  thn (ho pins s2 σ H2 x y v u _ I2 r1 r2 q2) fun c s3 ⟨z,H3,I3,r3,k,e,q3⟩ => ?_) hm
 subst e
 cases r3
 exact wpAny_truthy_bool ⟨H3,I3,q3⟩
noncomputable def qD (K:PySem.W.Frag) (x:V) (H:Hp) (k:Bool):Prop :=
 match x with
 | .non=>k = false
 | .bl b=>k = b
 | .int i=>k = (i != 0)
 | .str y=>y.length <= sizeLine /\ k = ((y.length:Int) != 0)
 | .byt y=>y.size <= sizeLine /\ k = ((y.size:Int) != 0)
 | .ref p=>(∃ xs,SqL K H p xs /\ k = !xs.isEmpty) ∨ (∃ xs,SqT K H p xs /\ k = !xs.isEmpty) ∨ ∃ kvs,H p = some (.dK kvs) /\ k = !kvs.isEmpty
 | _=>False
theorem mG {κ:Type} {kvs:List (κ × V)} {vs:List (κ × Value)} (r:KV kvs vs):(!vs.isEmpty) = !kvs.isEmpty:=by
 cases r <;> rfl
theorem fZ {xs:List V} {its:List Value} (r:Vals xs its):(!its.toArray.isEmpty) = !xs.isEmpty:=by
 cases r <;> simp
theorem dw:(sizeLine:Nat) < 2 ^ 63:=by rw [sizeLine_eq];decide
theorem wq:zr X (fun x H Q => ∃ k,qD X.K x H k /\ Q k H):=by
 intro pins s σ H x v Q I rx h
 obtain ⟨k,e,q⟩:=h
 have hl:=dw
 have hs:sizeLine = 16777216:=sizeLine_eq
 cases x with
 | non =>
   cases rx
   have e':k = false:=e
   subst e'
   exact truthy_none ⟨H,I,q⟩
 | bl b =>
   cases rx
   have e':k = b:=e
   subst e'
   exact wpAny_truthy_bool ⟨H,I,q⟩
 | int i =>
   obtain ⟨t,rfl⟩:=rx
   have e':k = (i != 0):=e
   subst e'
   exact PySem.P.truthy_int ⟨H,I,q⟩
 | str y =>
   obtain ⟨t,rfl⟩:=rx
   obtain ⟨hy,e'⟩:y.length <= sizeLine /\ k = ((y.length:Int) != 0):=e
   subst e'
   exact PySem.P.truthy_str (by omega) ⟨H,I.tok _,q⟩
 | byt y =>
   obtain ⟨t,rfl⟩:=rx
   obtain ⟨hy,e'⟩:y.size <= sizeLine /\ k = ((y.size:Int) != 0):=e
   subst e'
   exact PySem.W.truthy_bytes (by omega) ⟨H,I.tok _,q⟩
 | ref p =>
   cases rx
   have e':(∃ xs,SqL X.K H p xs /\ k = !xs.isEmpty) ∨ (∃ xs,SqT X.K H p xs /\ k = !xs.isEmpty) ∨ ∃ kvs,H p = some (.dK kvs) /\ k = !kvs.isEmpty:=e
   rcases e' with ⟨xs,hx,e'⟩ | ⟨xs,hx,e'⟩ | ⟨kvs,hx,e'⟩
   ·subst e'
    obtain ⟨its,r,pl,hz⟩:=I.list hx
    have hlen:=r.length
    exact wpAny_truthy_list pl.isList (by simp only [List.size_toArray];omega) ⟨H,I.tok _,by rw [fZ r];exact q⟩
   ·subst e'
    obtain ⟨its,r,pl,hz⟩:=I.tuple hx
    have hlen:=r.length
    exact truthy_tuple pl (by simp only [List.size_toArray];omega) ⟨H,I.tok _,by rw [fZ r];exact q⟩
   ·subst e'
    obtain ⟨hz,hS,vs,r,m⟩:kvs.length <= sizeLine /\ (p == sysModules) = false /\ ∃ vs,KV kvs vs /\ s.heap.DictOf (aD X.prog X.w) p vs:=I.hok p _ hx
    have hlen:kvs.length = vs.length:=Paired.length r
    exact wpAny_truthy_dict hS m (by omega) ⟨H,I.tok _,by rw [mG r];exact q⟩
 | _=>exact (show False from e).elim
theorem qE (ha:PE X a ta) (he:∀ whole,isTrue a X.env whole = (do let v <- whole;standAt a.pos;holding [v] (truthy v))) :
 PT X a (fun σ H Q=>ta σ H fun x H' => ∃ k,qD X.K x H' k /\ Q k H'):=by
 intro pins s σ H Q I h
 exact isTrue_plain (thn (ha pins s σ H _ I h) fun v s1 ⟨x,H1,I1,r1,q1⟩=>wq pins s1 σ H1 x v Q I1 r1 q1) (he _)
theorem mH:OpR X (binaryOp .Add) (fun x y H Q => ∃ i j,x = .str i /\ y = .str j /\ i.length + j.length <= sizeLine /\ Q (.str (i ++ j)) H):=by
 intro pins s σ H x y v u Q I rx ry h
 obtain ⟨i,j,rfl,rfl,hz,q⟩:=h
 obtain ⟨t,rfl⟩:=rx
 obtain ⟨t',rfl⟩:=ry
 exact add_str (fun t' tk=>⟨.str (i ++ j),H,I.tok _,⟨_,rfl⟩,q⟩) hz
theorem dg {x:V} {us:List Value} (r:Vals [x] us):∃ u,us = [u] /\ RelV x u:=by
 cases r with
 | cons r1 r2=>cases r2;exact ⟨_,rfl,r1⟩
theorem mJ {x y:V} {us:List Value} (r:Vals [x,y] us):∃ u w',us = [u,w'] /\ RelV x u /\ RelV y w':=by
 cases r with
 | cons r1 r2 =>
   cases r2 with
   | cons r3 r4=>cases r4;exact ⟨_,_,rfl,r1,r3⟩
theorem qF:CallR X (.builtin "abs") (fun xs H Q => ∃ i,xs = [.int i] /\ Q (.int (if i < 0 then -i else i)) H):=by
 intro pins s σ H xs us Q I r h
 obtain ⟨i,rfl,q⟩:=h
 obtain ⟨u,rfl,t,rfl⟩:=dg r
 exact call_abs_int fun u tk=>⟨.int (if i < 0 then -i else i),H,I.tok _,⟨_,rfl⟩,q⟩
theorem oC (hc:X.calm = true):CallR X (.builtin "min") (fun xs H Q => ∃ i j,xs = [.int i, .int j] /\ Q (.int (if j < i then j else i)) H):=by
 intro pins s σ H xs us Q I r h
 obtain ⟨i,j,rfl,q⟩:=h
 obtain ⟨u,w',rfl,⟨t,rfl⟩,⟨t',rfl⟩⟩:=mJ r
 refine min_two_ints (I.ok.hd hc) fun h' tk k=>⟨_,H,I.kept k, ?_,q⟩
 by_cases hj:j < i
 ·rw [if_pos hj,if_pos hj];exact ⟨_,rfl⟩
 ·rw [if_neg hj,if_neg hj];exact ⟨_,rfl⟩
theorem oD:CallR X (.type "int") (fun xs H Q=>(∃ i,xs = [.int i] /\ Q (.int i) H) ∨ ∃ k,xs = [.bl k] /\ Q (.int (if k then 1 else 0)) H):=by
 intro pins s σ H xs us Q I r h
 rcases h with ⟨i,rfl,q⟩ | ⟨k,rfl,q⟩
 ·obtain ⟨u,rfl,t,rfl⟩:=dg r
  exact call_int_int ⟨.int i,H,I,⟨_,rfl⟩,q⟩
 ·obtain ⟨u,rfl,r1⟩:=dg r
  cases r1
  exact call_int_bool ⟨.int (if k then 1 else 0),H,I.tok _,⟨_,rfl⟩,q⟩
noncomputable def zu (K:PySem.W.Frag) (x:V) (H:Hp) (n:Nat):Prop :=
 match x with
 | .str y=>y.length <= sizeLine /\ n = y.length
 | .byt y=>y.size <= sizeLine /\ n = y.size
 | .ref p=>(∃ xs,SqL K H p xs /\ n = xs.length) ∨ ∃ xs,SqT K H p xs /\ n = xs.length
 | _=>False
theorem qG:CallR X (.builtin "len") (fun xs H Q => ∃ x n,xs = [x] /\ zu X.K x H n /\ Q (.int n) H):=by
 intro pins s σ H xs us Q I r h
 obtain ⟨x,n,rfl,e,q⟩:=h
 obtain ⟨u,rfl,rx⟩:=dg r
 have hl:=dw
 have hs:sizeLine = 16777216:=sizeLine_eq
 cases x with
 | str y =>
   obtain ⟨t,rfl⟩:=rx
   obtain ⟨hy,e'⟩:y.length <= sizeLine /\ n = y.length:=e
   subst e'
   exact len_str (by omega) ⟨.int _,H,I.tok _,⟨_,rfl⟩,q⟩
 | byt y =>
   obtain ⟨t,rfl⟩:=rx
   obtain ⟨hy,e'⟩:y.size <= sizeLine /\ n = y.size:=e
   subst e'
   exact PySem.W.len_bytes (by omega) ⟨.int _,H,I.tok _,⟨_,rfl⟩,q⟩
 | ref p =>
   cases rx
   have e':(∃ xs,SqL X.K H p xs /\ n = xs.length) ∨ ∃ xs,SqT X.K H p xs /\ n = xs.length:=e
   rcases e' with ⟨xs,hx,e'⟩ | ⟨xs,hx,e'⟩
   ·subst e'
    obtain ⟨its,r',pl,hz⟩:=I.list hx
    have hlen:=r'.length
    exact Calls.call_len_list pl.isList (by simp only [List.size_toArray];omega) ⟨.int xs.length,H,I.tok _,⟨_,by simp only [List.size_toArray];rw [hlen]⟩,q⟩
   ·subst e'
    obtain ⟨its,r',pl,hz⟩:=I.tuple hx
    have hlen:=r'.length
    exact len_tuple pl (by simp only [List.size_toArray];omega) ⟨.int xs.length,H,I.tok _,⟨_,by simp only [List.size_toArray];rw [hlen]⟩,q⟩
 | _=>exact (show False from e).elim
end
end L2
namespace L2
open PySem PySem.Spec PyProof.Rows
structure ObjM (h:Heap) (x dx C:Addr) (mA:Str -> Option Value):Prop where
 obj:h.get? x = some (PySem.W.instObj C dx)
 ns:h.Ns1 dx mA
 ne:dx ≠ x
theorem oE {h:Heap} {dx:Addr} {mA:Str -> Option Value} (n:h.Ns1 dx mA):∃ od,h.get? dx = some od /\ ∀ name,PySem.W.lookIn name od = some (mA name):=by
 obtain ⟨o,es,ep,ho,hd,hk,_,hm⟩:=n
 refine ⟨o,ho,fun name => ?_⟩
 have e:=hm name
 unfold nsFind findBy at e
 rw [<- Array.find?_toList] at e
 unfold PySem.W.lookIn
 rw [hd]
 dsimp only
 split
 ·rename_i y q
  rw [q] at e
  exact congrArg some e
 ·rename_i q
  rw [q] at e
  have a:es.toList.any (·.refKey) = false:=by
   rw [List.any_eq_false]
   intro y hy
   obtain ⟨z,t,hkey⟩:=hk y (Array.mem_toList_iff.mp hy)
   simp [DictEntry.refKey,hkey]
  have a' : ¬ es.toList.any (·.refKey) = true:=by rw [a];exact Bool.false_ne_true
  rw [if_neg a']
  exact congrArg some e
theorem ObjM.look {h:Heap} {x dx C:Addr} {mA:Str -> Option Value} (I:ObjM h x dx C mA):∃ od,PySem.W.InstAt h x (PySem.W.instObj C dx) C (some od) /\ ∀ name,PySem.W.lookIn name od = some (mA name) :=
 let ⟨od,ho,hl⟩:=oE I.ns
 ⟨od,⟨I.obj,rfl,rfl,ho⟩,hl⟩
section
variable {prog:Program} {w:World} {A:Around} {E:Value -> Shared -> Prop} {s:Shared} {K:PySem.W.Frag} {x dx C f:Addr} {mA:Str -> Option Value} {name:Str} {v:Value}
end
theorem RelO.some_of {v:V} {o:Option Value} (r:RelO (some v) o):∃ u,o = some u /\ RelV v u:=by
 cases o with
 | none=>exact (show False from r).elim
 | some u=>exact ⟨u,rfl,r⟩
section
variable {P:Program} {w:World} {H H':Hp} {h h':Heap} {a C dx:Addr} {fs fs':List (Str × V)}
theorem u4 (hok:HOk P w H h) (e:H a = some (.ins C dx fs)):∃ mA,ObjM h a dx C mA /\ (∀ f,RelO (fs.lookup f) (mA f)) /\ PySem.Within mA (fs.map (·.1)) /\ fs.length <= 1000 /\ H dx = some (.own a):=by
 obtain ⟨d,z,ne,ob,mA,n,r,q⟩:=(show ObjOk P w H h a (.ins C dx fs) from hok a _ e)
 exact ⟨mA,⟨ob,n,ne⟩,r,q,z,d⟩
end
structure Cls (K:PySem.W.Frag) (C:Addr):Prop where
 pg:PySem.W.plainGet K C Str.empty = true
 hd:PySem.W.hasDictIn K C = true
 po:PySem.W.plainOver K C = true
 sa:PySem.W.findIn K (.ref C) "__setattr__" = some (some (.builtin "object.__setattr__"))
theorem Cls.get {K:PySem.W.Frag} {C:Addr} (c:Cls K C) (f:Str):PySem.W.plainGet K C f = true:=c.pg
section
variable {X:Cx} {pins:List (Addr × Obj)} {σ:St} {H:Hp} {s:Shared} {a C dx:Addr} {fs:List (Str × V)} {f:Str} {v:V} {A:Around} {E:Value -> Shared -> Prop}
end
section
variable {X:Cx} {o e value:Expr} {f:Str} {pos pos' tpos:Pos} {ta tv:TE}
end
section
variable {X:Cx} {pins:List (Addr × Obj)} {σ:St} {H:Hp} {s:Shared} {A:Around} {E:Value -> Shared -> Prop} {Q:Value -> Shared -> Prop} {c:Value} {b:Bool}
inductive bV (K:PySem.W.Frag) (H:Hp):V -> Value -> Prop where
 | non:bV K H .non (.type "NoneType")
 | bl (x:Bool):bV K H (.bl x) (.type "bool")
 | int (i:Int):bV K H (.int i) (.type "int")
 | str (x:Str):bV K H (.str x) (.type "str")
 | flt (x:UInt64):bV K H (.flt x) (.type "float")
 | lst {a:Addr} {xs:List V} (e:H a = some (.lst xs)):bV K H (.ref a) (.type "list")
 | frz {a:Addr} {o:Obj} {xs:List V} (e:H a = some (.frz o (.lst xs))):bV K H (.ref a) (.type "list")
 | tup {a:Addr} {xs:List V} (e:H a = some (.tup xs)):bV K H (.ref a) (.type "tuple")
 | dK {a:Addr} {kvs:List (Key × V)} (e:H a = some (.dK kvs)):bV K H (.ref a) (.type "dict")
 | dT {a:Addr} {kvs:List (List Key × V)} (e:H a = some (.dT kvs)):bV K H (.ref a) (.type "dict")
 | ins {a C dx:Addr} {fs:List (Str × V)} (e:H a = some (.ins C dx fs)) (cl:Cls K C) (ha:PySem.W.findIn K (.ref C) "__class__" = some (some (.builtin "object.__class__")))
    (hn:PySem.W.specialIn K (.builtin "object.__class__") "__get__" = some (some (.builtin "getset_descriptor.__get__"))) (htk:PySem.W.takesIn K (.builtin "object.__class__") = some true)
    (hm:PySem.W.mroIn K C (.type "object") = some true):bV K H (.ref a) (.ref C)
theorem oF {x:V} {u t:Value} (I:Inv X pins σ H s) (rx:RelV x u) (ty:bV X.K H x t) (e:PySem.W.kitOne X.K t c = some b) (h:∀ tk,Q (.bool b) { s with toks:=tk }) :
 wpAny (model X.prog X.w) A (call (.builtin "isinstance") [u,c]) Q E s:=by
 cases ty with
 | non=>cases (show u = Value.none from rx);exact PySem.W.kia_one PySem.W.kitx_none I.kIn True.intro e (fun z=>nomatch z) h
 | bl y=>cases (show u = Value.bool y from rx);exact PySem.W.kia_one PySem.W.kitx_bool I.kIn True.intro e (fun z=>nomatch z) h
 | int i=>obtain ⟨t,q⟩:=(show ∃ t,u = Value.int i t from rx);cases q;exact PySem.W.kia_one PySem.W.kitx_int I.kIn True.intro e (fun z=>nomatch z) h
 | str y=>obtain ⟨t,q⟩:=(show ∃ t,u = Value.str y t from rx);cases q;exact PySem.W.kia_one PySem.W.kitx_str I.kIn True.intro e (fun z=>nomatch z) h
 | flt y=>obtain ⟨t,q⟩:=(show ∃ t,u = Value.float y t from rx);cases q;exact PySem.W.kia_one PySem.W.kitx_float I.kIn True.intro e (fun z=>nomatch z) h
 | @lst a xs ea =>
  cases (show u = Value.ref a from rx)
  obtain ⟨_,_,n,_,h1⟩:=(show ObjOk X.prog X.w H s.heap a (.lst xs) from I.hok a _ ea)
  exact PySem.W.kia_one PySem.W.kitx_list I.kIn ⟨_,h1,rfl⟩ e (fun z=>nomatch z) h
 | @frz a ob xs ea =>
  cases (show u = Value.ref a from rx)
  obtain ⟨_,_,_,n,_,h1⟩:=(show ObjOk X.prog X.w H s.heap a (.frz ob (.lst xs)) from I.hok a _ ea)
  exact PySem.W.kia_one PySem.W.kitx_list I.kIn ⟨_,h1,rfl⟩ e (fun z=>nomatch z) h
 | @tup a xs ea =>
  cases (show u = Value.ref a from rx)
  obtain ⟨_,_,_,p⟩:=(show ObjOk X.prog X.w H s.heap a (.tup xs) from I.hok a _ ea)
  obtain ⟨o,h1,h2,_⟩:=p
  exact PySem.W.kia_one PySem.W.kitx_tuple I.kIn ⟨o,h1,h2⟩ e (fun z=>nomatch z) h
 | @dK a kvs ea =>
  cases (show u = Value.ref a from rx)
  obtain ⟨_,_,vs,_,p⟩:=(show ObjOk X.prog X.w H s.heap a (.dK kvs) from I.hok a _ ea)
  obtain ⟨o,es,ep,h1,h2,_⟩:=p
  exact PySem.W.kia_one PySem.W.kitx_dict I.kIn ⟨o,h1,h2.1⟩ e (fun z=>nomatch z) h
 | @dT a kvs ea =>
  cases (show u = Value.ref a from rx)
  obtain ⟨_,_,xs,_,o,es,ep,h1,h2,_⟩:=(show ObjOk X.prog X.w H s.heap a (.dT kvs) from I.hok a _ ea)
  exact PySem.W.kia_one PySem.W.kitx_dict I.kIn ⟨o,h1,h2.1⟩ e (fun z=>nomatch z) h
 | @ins a C dx fs ea cl ha hn htk hm =>
  cases (show u = Value.ref a from rx)
  obtain ⟨mA,O,_⟩:=u4 I.hok ea
  obtain ⟨od,J,_⟩:=O.look
  exact PySem.W.kia_one (PySem.W.kitx_own (cl.get _) cl.hd ha hn htk hm) I.kIn J e (fun z=>nomatch z) h
end
end L2
namespace L2
open PySem PySem.Spec PyProof.Rows
structure Room (k:Nat) (A:Around):Prop where
 hd:A.handled = none
 dp:A.depth + 3 * k + 5 < recursionLimit
 un:A.units + 16 * k + 200 < cLine
theorem Room.deeper {k:Nat} {A:Around} (r:Room (k + 1) A) (env:Env):Room k (A.deeper env) :=
 ⟨r.hd,by have:=r.dp;show A.depth + 1 + 3 * k + 5 < _;omega,by have:=r.un;show A.units + 3 + 16 * k + 200 < _;omega⟩
theorem Room.in1 {k:Nat} {A:Around} (r:Room (k + 1) A):Room k A.in1 :=
 ⟨r.hd,by have:=r.dp;show A.depth + 3 * k + 5 < _;omega,by have:=r.un;show A.units + 1 + 16 * k + 200 < _;omega⟩
theorem Room.depth {k:Nat} {A:Around} (r:Room k A):A.depth < recursionLimit:=by have:=r.dp;omega
theorem Room.units {k:Nat} {A:Around} (r:Room k A):A.units + 64 < cLine:=by have:=r.un;omega
noncomputable def wt:TA:=fun _ H Q=>Q [] H
noncomputable def t4 (ta:TE) (tr:TA):TA:=fun σ H Q=>ta σ H fun x H1=>tr σ H1 fun xs H2=>Q (x :: xs) H2
section
variable {X:Cx} {e:Expr} {es:List Expr} {te:TE} {t:TA} {pos:Pos}
theorem ga:PA X [] wt:=fun _ _ _ _ H Q I h=>Calls.spliced_nil ⟨[],H,I, .nil,h⟩
theorem cq (ha:PE X e te) (hr:PA X es t) (hs:starEach (e :: es) X.env = (false,eval e X.env) :: starEach es X.env:=by rfl):PA X (e :: es) (t4 te t):=by
 intro pos pins s σ H Q I h
 rw [hs]
 show wpAny _ _ (spliced ((false,eval e X.env) :: backTo pos (starEach es X.env))) _ _ s
 refine Calls.spliced_cons (thn (ha pins s σ H _ I h) fun u s1 ⟨x,H1,I1,r1,q1⟩ => ?_)
 exact thn (hr pos pins s1 σ H1 _ I1 q1) fun us s2 ⟨xs,H2,I2,r2,q2⟩=>⟨x :: xs,H2,I2, .cons r1 r2,q2⟩
noncomputable def zv (t:TA):TE:=fun σ H Q=>t σ H fun xs H1=>xs.length <= sizeLine /\ ∀ p,H1 p = none -> Q (.ref p) (upd H1 p (.tup xs))
noncomputable def zw (t:TA):TE:=fun σ H Q=>t σ H fun xs H1=>xs.length <= sizeLine /\ ∀ p,H1 p = none -> Q (.ref p) (upd H1 p (.lst xs))
theorem oG {x1} (h:PA X es t):PE X (.Tuple es x1 pos) (zv t):=by
 intro pins s σ H Q I hq
 refine wpAny_Tuple_spliced (thn (h pos pins s σ H _ I hq) fun us s1 ⟨xs,H1,I1,r,z,q⟩=>⟨by rw [<- r.length];exact z, ?_⟩)
 have hf:H1 s1.heap.objs.size = none:=I1.hok.fresh (Nat.le_refl _)
 refine ⟨.ref s1.heap.objs.size,upd H1 s1.heap.objs.size (.tup xs),I1.laid (t':=s1.toks) (fun b u e=>Heap.get?_push_of_some _ e) (Nat.le_refl _) ?_,rfl,q _ hf⟩
 exact ⟨z,us,r,⟨_,Heap.get?_push_size _ rfl,rfl,_,rfl⟩⟩
theorem wu (h:PA X es t):PE X (.List es pos) (zw t):=by
 intro pins s σ H Q I hq
 refine wpAny_List_spliced (thn (h pos pins s σ H _ I hq) fun us s1 ⟨xs,H1,I1,r,z,q⟩=>⟨by rw [<- r.length];exact z, ?_⟩)
 have hf:H1 s1.heap.objs.size = none:=I1.hok.fresh (Nat.le_refl _)
 refine ⟨.ref s1.heap.objs.size,upd H1 s1.heap.objs.size (.lst xs),I1.laid (t':=s1.toks) (fun b u e=>Heap.get?_push_of_some _ e) (Nat.le_refl _) ?_,rfl,q _ hf⟩
 exact ⟨z,us,0,r,Heap.get?_push_size _ rfl⟩
end
noncomputable abbrev Sp:=List V -> Hp -> VK -> XK -> Prop
noncomputable abbrev CXT:=List Env -> Hp -> Shared -> XK -> Value -> Shared -> Prop
structure Env0 (P:Program) (w:World) (K:PySem.W.Frag) (mg:Str -> Option Value) (base:Heap) (A:Around) (outer:List Env) (s:Shared) (H:Hp):Prop where
 frames:A.frames = some outer
 mod:Mod K mg base
 bs:∀ b o,base.get? b = some o -> s.heap.get? b = some o /\ H b = none
 bsz:base.objs.size <= s.heap.objs.size
 funs:s.heap.FunFrames base outer
 frf:∀ b ∈ frs outer,H b = none
 hok:HOk P w H s.heap
 bare:AllBare s.gens
noncomputable def CE (outer:List Env) (P:Program) (w:World) (H:Hp) (s:Shared) (Q:VK) (u:Value) (s':Shared):Prop :=
 ∃ v H',s'.os = s.os /\ AllBare s'.gens /\ Un (frs outer) [] H H' s.heap s'.heap /\ HOk P w H' s'.heap /\ RelV v u /\ Q v H'
noncomputable def CR (CX:CXT) (outer:List Env) (P:Program) (w:World) (H:Hp) (s:Shared) (Q:VK) (E:XK) (r:Result) (s':Shared):Prop :=
 match r with
 | .ok (.ret u)=>CE outer P w H s Q u s'
 | .ok _=>False
 | .error e=>CX outer H s E e s'
structure FnOk (P:Program) (w:World) (K:PySem.W.Frag) (mg:Str -> Option Value) (base:Heap) (CX:CXT) (k:Nat) (f:Addr) (fd:FuncData) (ps:List Str) (sp:Sp):Prop where
 len:∀ vs H Q E,sp vs H Q E -> vs.length = ps.length
 run:∀ (A:Around) (outer:List Env) (s:Shared) (H:Hp) (args:Args) (us:List Value) (vs:List V) (Q:VK) (E:XK),Room k A -> Env0 P w K mg base A outer s H -> BindsTo s fd args (ps.zip us) -> Vals vs us -> sp vs H Q E ->
  codeAny (model P w) A (.call (.ref f) args) (CR CX outer P w H s Q E) s
theorem FnOk.imp {P:Program} {w:World} {K:PySem.W.Frag} {mg:Str -> Option Value} {base:Heap} {CX:CXT} {k:Nat} {f:Addr} {fd:FuncData} {ps:List Str} {sp sp':Sp} (F:FnOk P w K mg base CX k f fd ps sp)
 (h:∀ vs H Q E,sp' vs H Q E -> sp vs H Q E):FnOk P w K mg base CX k f fd ps sp' :=
 ⟨fun vs H Q E q=>F.len vs H Q E (h _ _ _ _ q),fun A outer s H args us vs Q E hr he hb hv hs=>F.run A outer s H args us vs Q E hr he hb hv (h _ _ _ _ hs)⟩
theorem Env0.in1 {P:Program} {w:World} {K:PySem.W.Frag} {mg:Str -> Option Value} {base:Heap} {A:Around} {outer:List Env} {s:Shared} {H:Hp} (e:Env0 P w K mg base A outer s H) :
 Env0 P w K mg base A.in1 outer s H:=⟨e.frames,e.mod,e.bs,e.bsz,e.funs,e.frf,e.hok,e.bare⟩
section
variable {X:Cx} {pins:List (Addr × Obj)} {σ:St} {H:Hp} {s s':Shared}
theorem Inv.env0 (I:Inv X pins σ H s):Env0 X.prog X.w X.K X.mg X.base X.A X.stack s H :=
 ⟨I.ok.frames,I.ok.mod,I.bs,Nat.le_trans I.ok.bsz I.sz,I.stack,I.stkFree,I.hok,I.bare⟩
theorem Inv.after {Q:VK} {u:Value} (I:Inv X pins σ H s) (h:CE X.stack X.prog X.w H s Q u s'):EP X pins σ Q u s':=by
 obtain ⟨v,H',os,bare,un,hok,r,q⟩:=h
 obtain ⟨hh,g,d,t,os'⟩:=s'
 obtain rfl:os' = s.os:=os
 exact ⟨v,H',I.call (h':=hh) (g':=g) (d':=d) (t':=t) (ch := []) un hok bare (fun b z=>absurd z (by simp)),r,q⟩
end
noncomputable def t5 (sp:Sp) (dvs:List V) (E:XK) (t:TA):TE:=fun σ H Q=>t σ H fun vs H1=>sp (vs ++ dvs) H1 Q E
noncomputable def Binds (K:PySem.W.Frag) (fd:FuncData) (ps:List Str) (ds:List Value):Prop :=
 ∀ (s:Shared) (us:List Value),K.In s.heap -> (us ++ ds).length = ps.length -> BindsTo s fd ⟨us,[]⟩ (ps.zip (us ++ ds))
theorem Binds.all {K:PySem.W.Frag} {fd:FuncData} {ps:List Str} (h:∀ us:List Value,us.length = ps.length -> bindArgs fd ⟨us,[]⟩ = pure (ps.zip us)):Binds K fd ps []:=fun s us _ hl=>by
 rw [List.append_nil] at hl ⊢
 exact .of_eq (h us hl)
noncomputable def gb (CX:CXT) (X:Cx) (E:XK):Prop := ∀ (pins:List (Addr × Obj)) (σ:St) (H:Hp) (s:Shared) (e:Value) (s':Shared),Inv X pins σ H s -> CX X.stack H s E e s' -> X.xe e s'
section
variable {X:Cx} {CX:CXT} {k:Nat} {f C:Addr} {fd:FuncData} {ps:List Str} {sp:Sp} {dvs:List V} {ds:List Value} {E:XK} {x m:Str} {p pos apos:Pos} {e o:Expr} {es:List Expr} {ta:TE} {t:TA}
theorem oH {pins:List (Addr × Obj)} {σ:St} {H:Hp} {s:Shared} {Q:VK} {us:List Value} {vs:List V} (F:FnOk X.prog X.w X.K X.mg X.base CX k f fd ps sp) (hr:Room k X.A) (hb:Binds X.K fd ps ds) (hd:Vals dvs ds) (hx:gb CX X E)
 (I:Inv X pins σ H s) (r:Vals vs us) (h:sp (vs ++ dvs) H Q E):wpAny (model X.prog X.w) X.A (call (.ref f) us) (EP X pins σ Q) X.xe s:=by
 have r2:Vals (vs ++ dvs) (us ++ ds):=r.append hd
 have hl:(us ++ ds).length = ps.length:=by rw [<- r2.length];exact F.len _ _ _ _ h
 refine wpAny_call (codeAny_mono (F.run X.A X.stack s H ⟨us,[]⟩ (us ++ ds) (vs ++ dvs) Q E hr I.env0 (hb s us I.kIn hl) r2 h) fun r s' hq => ?_)
 cases r with
 | error e=>exact hx pins σ H s e s' I hq
 | ok fl =>
   cases fl with
   | ret u=>exact I.after hq
   | next=>exact False.elim hq
   | brk=>exact False.elim hq
   | cont=>exact False.elim hq
theorem u5 (F:FnOk X.prog X.w X.K X.mg X.base CX k f fd ps sp) (hr:Room k X.A) (hg:Gl X x) (hm:X.mg x = some (.ref f)) (hk:PySem.W.keepIn X.K (.ref f) = true) (hb:Binds X.K fd ps ds) (hd:Vals dvs ds) (hx:gb CX X E)
 (ha:PA X (e :: es) t) (hdb:(x == ("__debug__":Str)) = false:=by decide) (he:starEach (e :: es) X.env = (false,eval e X.env) :: starEach es X.env:=by rfl) (hpl:(backTo pos (starEach es X.env)).any (·.1) = false:=by rfl) :
 PE X (.Call (.Name x p) (e :: es) [] pos) (t5 sp dvs E t):=by
 intro pins s σ H Q I h
 refine wpAny_Call_Name_kw (lg I hg hm ?_ hdb)
 refine PySem.W.callWith_K (h₀ := X.base) I.ok.mod.kin hk (thn (ha pos pins s σ H _ I h) fun us s1 ⟨vs,H1,I1,r,q⟩=>⟨I1.kIn, ?_⟩) he hpl
 exact oH F hr hb hd hx I1 r q
theorem qH (F:FnOk X.prog X.w X.K X.mg X.base CX k f fd ps sp) (hr:Room k X.A) (hg:Gl X x) (hm:X.mg x = some (.ref f)) (hk:PySem.W.keepIn X.K (.ref f) = true) (hb:Binds X.K fd ps ds) (hd:Vals dvs ds) (hx:gb CX X E)
 (hdb:(x == ("__debug__":Str)) = false:=by decide):PE X (.Call (.Name x p) [] [] pos) (t5 sp dvs E wt):=by
 intro pins s σ H Q I h
 refine wpAny_Call_Name_kw (lg I hg hm ?_ hdb)
 exact PySem.W.callWith_K0 I.kIn hk (oH (us := []) F hr hb hd hx I .nil h)
end
section
variable {X:Cx} {CX:CXT} {k:Nat} {f C:Addr} {fd:FuncData} {ps ks:List Str} {sp:Sp} {E:XK} {x m:Str} {p pos apos kpos:Pos} {e o:Expr} {es:List Expr} {kws:List Keyword} {te ta:TE} {t tk:TA} {nm:Option Str}
variable {g:List Value -> List Value -> List Value} {gV:List V -> List V -> List V}
end
structure eZ (N P:List Str) (sc:Scope):Prop where
 kind:sc.kind = .function
 co:sc.isCoroutine = false
 gen:sc.isGenerator = false
 nd:N.Nodup
 pre:N.take P.length = P
 par:∀ x ∈ P,sc.names.lookup x = some .local ∨ sc.names.lookup x = some .cell
 nofree:∀ y ∈ sc.names,y.2 ≠ .free
theorem i7 {kindOf:Str -> Option NameKind} {x:Str}:∀ {binds:List (Str × Value)} {m:Str -> Option Value},(∀ v,(x,v) ∉ binds) -> bindL kindOf binds m x = m x
 | [],_,_=>rfl
 | (n,v) :: r,m,h=>by
  unfold bindL
  rw [i7 fun w hw=>h w (List.mem_cons_of_mem _ hw)]
  split
  ·have:x ≠ n:=by rintro rfl;exact h v List.mem_cons_self
   simp [this]
  ·rfl
theorem i8 {kindOf:Str -> Option NameKind} {x:Str}:∀ {binds:List (Str × Value)} {m:Str -> Option Value},(∀ v,(x,v) ∉ binds) -> bindC kindOf binds m x = m x
 | [],_,_=>rfl
 | (n,v) :: r,m,h=>by
  unfold bindC
  rw [i8 fun w hw=>h w (List.mem_cons_of_mem _ hw)]
  split
  ·rfl
  ·have:x ≠ n:=by rintro rfl;exact h v List.mem_cons_self
   simp [this]
theorem i9 {kindOf:Str -> Option NameKind} {x:Str} {v:Value}:∀ {P:List Str} {vs:List Value} {i:Nat} {m:Str -> Option Value},P.Nodup -> P[i]? = some x -> vs[i]? = some v -> kindOf x = some .local ->
 bindL kindOf (P.zip vs) m x = some v
 | [],_,_,_,_,h,_,_=>by simp at h
 | _ :: _,[],_,_,_,_,h,_=>by simp at h
 | p :: P,w :: vs,0,m,nd,h1,h2,hk=>by
   simp at h1 h2;subst h1;subst h2
   show bindL kindOf ((p,w) :: P.zip vs) m p = _
   unfold bindL
   rw [i7 fun v hv=>(List.nodup_cons.mp nd).1 (List.of_mem_zip hv).1,if_pos hk]
   simp
 | p :: P,w :: vs,i + 1,m,nd,h1,h2,hk=>by
   show bindL kindOf ((p,w) :: P.zip vs) m x = _
   unfold bindL
   exact i9 (i:=i) (List.nodup_cons.mp nd).2 (by simpa using h1) (by simpa using h2) hk
theorem ic {kindOf:Str -> Option NameKind} {x:Str} {v:Value}:∀ {P:List Str} {vs:List Value} {i:Nat} {m:Str -> Option Value},P.Nodup -> P[i]? = some x -> vs[i]? = some v -> kindOf x ≠ some .local ->
 bindC kindOf (P.zip vs) m x = some v
 | [],_,_,_,_,h,_,_=>by simp at h
 | _ :: _,[],_,_,_,_,h,_=>by simp at h
 | p :: P,w :: vs,0,m,nd,h1,h2,hk=>by
   simp at h1 h2;subst h1;subst h2
   show bindC kindOf ((p,w) :: P.zip vs) m p = _
   unfold bindC
   rw [i8 fun v hv=>(List.nodup_cons.mp nd).1 (List.of_mem_zip hv).1,if_neg hk]
   simp
 | p :: P,w :: vs,i + 1,m,nd,h1,h2,hk=>by
   show bindC kindOf ((p,w) :: P.zip vs) m x = _
   unfold bindC
   exact ic (i:=i) (List.nodup_cons.mp nd).2 (by simpa using h1) (by simpa using h2) hk
noncomputable def cu (N:List Str) (vs:List V):St:=vs.map some ++ List.replicate (N.length - vs.length) none
noncomputable def fG (CX:CXT) (P:Program) (w:World) (K:PySem.W.Frag) (mg:Str -> Option Value) (base:Heap) (N:List Str) (qual:Str) (scope:Scope) (f:Addr) (cd:Value) (A:Around) (outer:List Env) (s:Shared) (H:Hp) (E:XK):Cx where
 prog:=P
 w:=w
 K:=K
 mg:=mg
 base:=base
 A:=A.deeper (envOfC qual scope s.heap.objs.size f cd)
 N:=N
 s₀ := s
 H₀ := H
 env:=envOfC qual scope s.heap.objs.size f cd
 outer:=outer
 stack:=envOfC qual scope s.heap.objs.size f cd :: outer
 ex := []
 calm:=true
 fn:=fun _=>true
 pn := []
 xe:=fun e s'=>wpAny (model P w) (A.deeper (envOfC qual scope s.heap.objs.size f cd)) (leaving (envOfC qual scope s.heap.objs.size f cd) e) (fun _ s''=>CX outer H s E e s'') (fun e' s''=>CX outer H s E e' s'') s'
theorem jh {sc:Scope} {n:Nat} {x:Str} (h:sc.names.lookup x = some .cell):∃ c,(cellsFrom n sc.names []).lookup x = some c:=by
 have q:=PySem.W.cellsFrom_some sc.names n [] (.inl h)
 exact Option.isSome_iff_exists.mp q
theorem oI {CX:CXT} {P:Program} {w:World} {K:PySem.W.Frag} {mg:Str -> Option Value} {base:Heap} {N ps:List Str} {qual:Str} {scope:Scope} {f:Addr} {cd:Value} {A:Around} {outer:List Env} {s s1:Shared} {H:Hp} {E:XK} {us:List Value} {vs:List V}
 (S:eZ N ps scope) (hd:A.handled = none) (e0:Env0 P w K mg base A outer s H) (hl:vs.length = ps.length) (r:Vals vs us)
 (x:InCallC s s.heap.objs.size (bindL (envOfC qual scope s.heap.objs.size f cd).kindOf (ps.zip us) fun _=>none) (cellsFrom (s.heap.objs.size + 1) scope.names []) (bindC (envOfC qual scope s.heap.objs.size f cd).kindOf (ps.zip us) fun _=>none) s1) :
 Inv (fG CX P w K mg base N qual scope f cd A outer s H E) [] (cu N vs) H s1:=by
 have hpl:ps.length <= N.length:=by have:=congrArg List.length S.pre;rw [List.length_take] at this;omega
 obtain ⟨h1,tk,rfl,hk⟩:=x.done
 have noA:∀ b:Addr,b ∉ (fG CX P w K mg base N qual scope f cd A outer s H E).ex:=fun b z=>absurd (show b ∈ ([]:List Addr) from z) (by simp)
 refine ⟨⟨e0.mod,S.kind,rfl,rfl,Nat.le_refl _,fun y z c h1 h2 => ?_,fun y hy => ?_,fun y c _ h => ?_,fun _=>hd,Around.frames_deeper e0.frames, .inr ⟨rfl,rfl⟩,fun b z=>absurd z (noA b),e0.bs,e0.bsz,fun b _ _=>noA b,fun b z=>absurd z (noA b),e0.funs,e0.frf⟩,
  rfl,e0.bare,Un.kept hk,⟨_,x.toInCall.ns,fun i y v h1 h2 h3 => ?_⟩,fun y c h=>⟨_,x.cell y c h⟩,e0.hok.fresh (Nat.le_refl _),fun y c h => ?_,fun p hp=>absurd (show p ∈ ([]:List (Addr × Obj)) from hp) (by simp),e0.hok.kept hk, ?_⟩
 ·exact name_of_addr x.apart (PySem.mem_of_lookup h1) (PySem.mem_of_lookup h2)
 ·have hy:scope.names.lookup y = some .cell ∨ scope.names.lookup y = some .free:=hy
  rcases hy with hy | hy
  ·exact jh hy
  ·exact absurd rfl (S.nofree _ (PySem.mem_of_lookup hy))
 ·exact Nat.le_of_lt (x.above y c (PySem.mem_of_lookup h))
 ·have hi:i < vs.length:=by
   unfold cu at h2
   by_cases hi:i < vs.length
   ·exact hi
   ·rw [List.getElem?_append_right (by simpa using hi)] at h2
    rw [List.getElem?_replicate] at h2
    split at h2 <;> cases h2
  have ha:vs[i]? = some v:=by
   unfold cu at h2
   rw [List.getElem?_append_left (by simpa using hi),List.getElem?_map] at h2
   cases e:vs[i]? with
   | none=>rw [e] at h2;cases h2
   | some a=>rw [e] at h2;cases h2;rfl
  obtain ⟨u,hu,rv⟩:=r.get ha
  have hp:ps[i]? = some y:=by
   rw [<- S.pre,List.getElem?_take_of_lt (by omega)];exact h1
  have ndP:ps.Nodup:=by rw [<- S.pre];exact S.nd.sublist (List.take_sublist _ _)
  refine ⟨u,rv, ?_⟩
  rcases S.par y (List.mem_of_getElem? hp) with k | k
  ·exact .inl ⟨k,i9 ndP hp hu k⟩
  ·obtain ⟨c,e⟩:=jh (n:=s.heap.objs.size + 1) k
   refine .inr ⟨.inl k,c,e, ?_⟩
   have q:=x.cell y c e
   rw [ic ndP hp hu (by show scope.names.lookup y ≠ _;rw [k];decide)] at q
   exact q
 ·exact e0.hok.fresh (Nat.le_of_lt (x.above y c (PySem.mem_of_lookup h)))
 ·unfold cu
  show _ = N.length
  rw [List.length_append,List.length_map,List.length_replicate]
  omega
theorem ym {CX:CXT} {P:Program} {w:World} {K:PySem.W.Frag} {mg:Str -> Option Value} {base:Heap} {k:Nat} {f:Addr} {name qual:Str} {params:Arguments} {body:List Stmt} {scope:Scope} {dV kV doc pm cdv ct oc:Value} {an od:Option Addr}
 {osl:Array (Option Value)} {N ps:List Str} {sp:Sp} (lk:K.lookup f = some ⟨oc,od, .func (PySem.W.fnOf name qual params body scope dV kV doc pm an cdv ct),osl⟩) (hcd:PySem.W.codeIn K cdv qual = true) (S:eZ N ps scope)
 (len:∀ vs H Q E,sp vs H Q E -> vs.length = ps.length)
 (hbody:∀ (A:Around) (outer:List Env) (s:Shared) (H:Hp) (vs:List V) (Q:VK) (E:XK),Room k (A.deeper (envOfC qual scope s.heap.objs.size f cdv)) -> sp vs H Q E ->
   ∃ t,PSs (fG CX P w K mg base N qual scope f cdv A outer s H E) body t /\ t { nx:=fun _ H'=>Q .non H',rt:=Q } (cu N vs) H) :
 FnOk P w K mg base CX (k + 1) f (PySem.W.fnOf name qual params body scope dV kV doc pm an cdv ct) ps sp:=by
 refine ⟨len,fun A outer s H args us vs Q E hr e0 hb r hsp => ?_⟩
 have hl:=len _ _ _ _ hsp
 have KX:K.In s.heap:=e0.mod.kin.keeps fun b o e=>(e0.bs b o e).1
 have lim:s.heap.NoLimit:=e0.mod.nolimit.keeps fun b o e=>(e0.bs b o e).1
 have hkind:∀ y ∈ ps.zip us,scope.names.lookup y.1 = some .local ∨ (scope.names.lookup y.1 = some .cell /\ ((cellsFrom (s.heap.objs.size + 1) scope.names []).lookup y.1).isSome = true):=fun ⟨n,v⟩ hy=>by
  rcases S.par n (List.of_mem_zip hy).1 with q | q
  ·exact .inl q
  ·exact .inr ⟨q,PySem.W.cellsFrom_some _ _ _ (.inl q)⟩
 refine codeAny_call_function hr.depth (KX _ _ lk) rfl S.co S.gen rfl (PySem.W.codeRec_of KX hcd) (hb _ _ _ _ ?_)
 refine wpAny_newFunctionEnv_cells S.kind hkind fun env he s1 x => ?_
 subst he
 refine ⟨lim.keeps x.toInCall.keep,codeAny_func ?_⟩
 obtain ⟨t,ht,hq⟩:=hbody A outer s H vs Q E (hr.deeper _) hsp
 have I:Inv (fG CX P w K mg base N qual scope f cdv A outer s H E) [] (cu N vs) H s1:=oI S hr.hd e0 hl r x
 refine wpAny_mono (ht [] s1 (cu N vs) H _ I hq) (fun fl s' hs => ?_) fun e s' hs=>hs
 have fin:∀ {σ':St} {H':Hp} {v:V} {u:Value},Inv (fG CX P w K mg base N qual scope f cdv A outer s H E) [] σ' H' s' -> RelV v u -> Q v H' -> CE outer P w H s Q u s' :=
  fun {σ' H' v u} J rv q=>⟨v,H',J.os,J.bare,J.base,J.hok,rv,q⟩
 cases fl with
 | ret u =>
   obtain ⟨v, σ',H',J,rv,q⟩:=hs
   exact fin J rv q
 | next =>
   obtain ⟨σ',H',J,q⟩:=hs
   exact fin (v:=V.non) (u:=Value.none) J rfl q
 | brk =>
   obtain ⟨_,_,_,q⟩:=hs
   exact False.elim q
 | cont =>
   obtain ⟨_,_,_,q⟩:=hs
   exact False.elim q
end L2
namespace L2
open PySem PySem.Spec PyProof.Rows
section
variable {X:Cx} {x:Str} {p pos:Pos} {e:Expr} {es:List Expr} {t:TA} {id T:String} {r:List V -> Hp -> VK -> Prop}
noncomputable def tCB (r:List V -> Hp -> VK -> Prop) (t:TA):TE:=fun σ H Q=>t σ H fun vs H1=>r vs H1 Q
theorem ca (hc:CallR X (.builtin id) r) (hg:Gl X x) (hm:X.mg x = none) (hv:bootBuiltins x = some (.builtin id)) (ha:PA X (e :: es) t) (hn:x ≠ "__name__" := by decide) (hdb:(x == ("__debug__":Str)) = false:=by decide)
 (he:starEach (e :: es) X.env = (false,eval e X.env) :: starEach es X.env:=by rfl) (hpl:(backTo pos (starEach es X.env)).any (·.1) = false:=by rfl):PE X (.Call (.Name x p) (e :: es) [] pos) (tCB r t):=by
 intro pins s σ H Q I h
 refine wpAny_Call_Name_kw (dv I hg hm hv ?_ hn hdb)
 exact PyProof.Rows.callWith_builtin1 (thn (ha pos pins s σ H _ I h) fun us s1 ⟨vs,H1,I1,r1,q1⟩=>hc pins s1 σ H1 vs us Q I1 r1 q1) he hpl
theorem dh (hc:CallR X (.type T) r) (hg:Gl X x) (hm:X.mg x = none) (hv:bootBuiltins x = some (.type T)) (ha:PA X (e :: es) t) (hn:x ≠ "__name__" := by decide) (hdb:(x == ("__debug__":Str)) = false:=by decide)
 (he:starEach (e :: es) X.env = (false,eval e X.env) :: starEach es X.env:=by rfl) (hpl:(backTo pos (starEach es X.env)).any (·.1) = false:=by rfl):PE X (.Call (.Name x p) (e :: es) [] pos) (tCB r t):=by
 intro pins s σ H Q I h
 refine wpAny_Call_Name_kw (dv I hg hm hv ?_ hn hdb)
 exact PyProof.Rows.callWith_type1 (thn (ha pos pins s σ H _ I h) fun us s1 ⟨vs,H1,I1,r1,q1⟩=>hc pins s1 σ H1 vs us Q I1 r1 q1) he hpl
end
end L2
namespace HT
open PySem PyProof.Rows
section
open PySem.SeqAt
open PySem.AutoSeq1 (wpAny_loadPart')
open PySem.MeetsSeq PySem.MeetsSeq2 PySem.MeetsSeq3
end
section
variable {prog:Program} {w:World} {A:Around} {E:Value -> Shared -> Prop} {s:Shared}
theorem cat_tup {t b:Addr} {vs ws:List Value} {Q:Value -> Shared -> Prop} (ht:IsTup s.heap t vs.toArray) (hb:IsTup s.heap b ws.toArray) (hv:vs ≠ [])
 (h1:ws = [] -> Q (.ref t) s) (h2:ws ≠ [] -> Q (.ref s.heap.objs.size) { s with heap:=s.heap.push { cls := .type "tuple",data := .seq (vs ++ ws).toArray } })
 (hsz:vs.length + ws.length <= sizeLine):wpAny (model prog w) A (binaryOp .Add (.ref t) (.ref b)) Q E s:=by
 obtain ⟨⟨cls,dd,data,sl⟩,ho,hc,n,hd⟩:=id ht
 obtain ⟨⟨cls2,dd2,data2,sl2⟩,ho2,hc2,n2,hd2⟩:=id hb
 simp only at hc hd hc2 hd2
 subst hc hd hc2 hd2
 have e:vs.toArray ++ ws.toArray = (vs ++ ws).toArray:=by simp
 by_cases hw:ws = []
 ·exact concat_meets ⟨_,ho,rfl⟩ ⟨_,ho2,rfl⟩ noFill_tuple_add seq_tuple_add PySem.F.slot_tuple_add PySem.F.entry_tuple_add (PySem.F.args_tuple_add_2 _ _)
   (tuple_addW1 t b vs.toArray ws.toArray n n2 dd dd2 sl sl2 (by simpa using hv) (by simp [hw])) ⟨ho,ho2,h1 hw⟩
 ·refine concat_meets ⟨_,ho,rfl⟩ ⟨_,ho2,rfl⟩ noFill_tuple_add seq_tuple_add PySem.F.slot_tuple_add PySem.F.entry_tuple_add (PySem.F.args_tuple_add_2 _ _)
   (tuple_addW2 t b vs.toArray ws.toArray n n2 dd dd2 sl sl2 (by simpa using hv) (by simpa using hw) (by rw [List.size_toArray,List.size_toArray];exact hsz)) ⟨ho,ho2, ?_⟩
  rw [e]
  exact h2 hw
noncomputable def sIx (n d:Nat):Option Int -> Nat
 | none=>d
 | some v=>if v < 0 then (v + (n:Int)).toNat else min v.toNat n
theorem wv (n d:Nat) (hd:d <= n) (o:Option Int):sIx n d o <= n:=by
 cases o with
 | none=>exact hd
 | some v =>
   show (if v < 0 then (v + (n:Int)).toNat else min v.toNat n) <= n
   by_cases hv:v < 0
   ·rw [if_pos hv];omega
   ·rw [if_neg hv];exact Nat.min_le_right _ _
theorem lj (v:Int) (n d:Nat):(if v < 0 then max (v + (n:Int)) 0 else min v (n:Int)) = ((sIx n d (some v):Nat):Int):=by
 show (if v < 0 then max (v + (n:Int)) 0 else min v (n:Int)) = (((if v < 0 then (v + (n:Int)).toNat else min v.toNat n):Nat):Int)
 by_cases hv:v < 0
 ·simp only [if_pos hv];omega
 ·simp only [if_neg hv];omega
theorem mK (lo hi:Option Int) (n:Nat):Builtin.Slice.sliceAdjust lo hi 1 (n:Int) = (((sIx n 0 lo:Nat):Int),((sIx n n hi:Nat):Int)):=by
 have h1 : ¬ ((1:Int) < 0):=by omega
 unfold Builtin.Slice.sliceAdjust
 simp only [h1,if_false]
 refine Prod.ext ?_ ?_
 ·cases lo with
  | none=>rfl
  | some v=>exact lj v n 0
 ·cases hi with
  | none=>rfl
  | some v=>exact lj v n n
theorem mL (i j:Nat):Builtin.Slice.slicePlaces (i:Int) (j:Int) 1 = j - i:=by
 unfold Builtin.Slice.slicePlaces
 have h1:(1:Int) > 0:=by omega
 simp only [h1,if_true,Int.ediv_one]
 split <;> omega
theorem gc {v:Value} {o:Option Int} {Q:Option Int -> Shared -> Prop} (p:IsPart v o) (h:Q o s):wpAny (model prog w) A (Builtin.Slice.slicePartIndex v) Q E s:=by
 cases p with
 | none=>exact slicePart_none h
 | int i t=>exact slicePart_int h
theorem fH {sl:Addr} {vl vu:Value} {lo hi:Option Int} {n:Nat} {Q:Int × Int × Nat -> Shared -> Prop} (hs:s.heap.IsSliceOf sl vl vu .none) (pl:IsPart vl lo) (pu:IsPart vu hi)
 (h:Q (((sIx n 0 lo:Nat):Int),1,sIx n n hi - sIx n 0 lo) s):wpAny (model prog w) A (Builtin.Slice.sliceApplied (.ref sl) (pure (n:Int))) Q E s:=by
 obtain ⟨os,hos,hcs,hds⟩:=id hs
 unfold Builtin.Slice.sliceApplied Builtin.Slice.sliceFields
 refine wpAny_bind (wpAny_bind (wpAny_field hos hds (x:=vl) rfl (wpAny_bind (wpAny_field hos hds (x:=vu) rfl (wpAny_bind (wpAny_field hos hds (x := .none) rfl (wpAny_pure ?_)))))))
 refine wpAny_bind (slicePart_none ?_)
 show wpAny _ _ (if ((1:Int) == 0) = true then _ else _) _ _ s
 rw [if_neg (by decide)]
 refine wpAny_bind (gc pl (wpAny_bind (gc pu (wpAny_bind (wpAny_pure ?_)))))
 show wpAny _ _ (match Builtin.Slice.sliceAdjust lo hi 1 (n:Int) with | (lo,hi)=>pure (lo,(1:Int),Builtin.Slice.slicePlaces lo hi 1)) _ _ s
 rw [mK lo hi n]
 show wpAny _ _ (pure (((sIx n 0 lo:Nat):Int),(1:Int),Builtin.Slice.slicePlaces ((sIx n 0 lo:Nat):Int) ((sIx n n hi:Nat):Int) 1)) _ _ s
 rw [mL]
 exact wpAny_pure h
theorem qI (xs:Array Value) (i k:Nat):((List.range k).filterMap fun (m:Nat)=>xs[((i:Int) + (m:Int) * 1).toNat]?).toArray = ((xs.toList.drop i).take k).toArray:=by
 have e:(fun (m:Nat)=>xs[((i:Int) + (m:Int) * 1).toNat]?) = fun m=>xs[i + m]? := by
  funext m
  have:((i:Int) + (m:Int) * 1).toNat = i + m:=by omega
  rw [this]
 rw [e]
 have:=pick_run xs i k
 rw [List.filterMap_map] at this
 have e2:((fun x=>xs[x]?) ∘ fun x=>i + x) = fun m=>xs[i + m]? := rfl
 rw [e2] at this
 rw [this]
theorem getItem_tuple_cut {t sl:Addr} {items:Array Value} {vl vu:Value} {lo hi:Option Int} {Q:Value -> Shared -> Prop} (ht:IsTup s.heap t items) (hs:s.heap.IsSliceOf sl vl vu .none) (pl:IsPart vl lo) (pu:IsPart vu hi)
 (hw : ¬ (sIx items.size 0 lo = 0 /\ sIx items.size items.size hi = items.size))
 (h:Q (.ref s.heap.objs.size) { s with heap:=s.heap.push { cls := .type "tuple",data := .seq ((items.toList.drop (sIx items.size 0 lo)).take (sIx items.size items.size hi - sIx items.size 0 lo)).toArray } })
 (hsz:items.size <= sizeLine):wpAny (model prog w) A (getItem (.ref t) (.ref sl)) Q E s:=by
 have htake:sizeOk (.seq ((items.toList.drop (sIx items.size 0 lo)).take (sIx items.size items.size hi - sIx items.size 0 lo)).toArray):=by
  show ((items.toList.drop (sIx items.size 0 lo)).take (sIx items.size items.size hi - sIx items.size 0 lo)).toArray.size <= sizeLine
  rw [List.size_toArray,List.length_take,List.length_drop,Array.length_toList]
  omega
 have hj:sIx items.size items.size hi <= items.size:=wv _ _ (Nat.le_refl _) hi
 obtain ⟨os,hos,hcs,hds⟩:=id hs
 have hTs:s.TypeIs (.ref sl) "slice" := ⟨os,hos,hcs⟩
 unfold getItem
 try with_reducible refine wpAny_holding ?_
 first | refine wpAny_bind (wpAny_pure ?_) | skip
 refine wpAny_bind (wpAny_sequenceKey ht.typeIs (by decide) ?_)
 refine wpAny_bind (wpAny_callSpecial?_slot (name:=Str.ofString "__getitem__") ht.typeIs PyProof.Rows.slot_tuple_getitem
  (wpAny_call_entry PyProof.Rows.slot_tuple_getitem ht.typeIs entry_tuple_getitem ?_ (args_tuple_getitem _ _)))
 show wpAny _ _ (Builtin.Tuple.tupleItemsOf (.ref t) >>= _) _ _ s
 refine wpAny_bind (tupleItemsOf_ ht ?_)
 refine wpAny_bind (wpAny_typeOf hTs ?_)
 rw [if_pos (by decide)]
 refine wpAny_bind (fH hs pl pu ?_)
 have hno : ¬ ((((sIx items.size 0 lo:Nat):Int) == 0 && (1:Int) == 1 && (sIx items.size items.size hi - sIx items.size 0 lo) == items.size) = true):=by
  intro q
  rw [Bool.and_eq_true,Bool.and_eq_true] at q
  have q1:((sIx items.size 0 lo:Nat):Int) = 0:=eq_of_beq q.1.1
  have q2:sIx items.size items.size hi - sIx items.size 0 lo = items.size:=eq_of_beq q.2
  exact hw ⟨by omega,by omega⟩
 show wpAny _ _ (if (((sIx items.size 0 lo:Nat):Int) == 0 && (1:Int) == 1 && (sIx items.size items.size hi - sIx items.size 0 lo) == items.size) = true then _ else _) _ _ s
 rw [if_neg hno,qI]
 first
  | exact wpAny_bind (m:=Builtin.Tuple.tupleExact _) (wpAny_newObj_type (wpAny_pure ⟨_,rfl,wpAny_pure h⟩) htake)
  | exact wpAny_bind (m:=Builtin.Tuple.tupleExact _) (wpAny_newObj_type (wpAny_bind (wpAny_pure (wpAny_pure ⟨_,rfl,wpAny_pure h⟩))) htake)
  | exact wpAny_bind (wpAny_bind (m:=Builtin.Tuple.tupleExact _) (wpAny_newObj_type (wpAny_pure (wpAny_pure ⟨_,rfl,wpAny_pure h⟩)) htake))
  | exact wpAny_bind (wpAny_bind (m:=Builtin.Tuple.tupleExact _) (wpAny_newObj_type (wpAny_pure ⟨_,rfl,wpAny_pure h⟩) htake))
end
end HT
namespace L2
open PySem PySem.Spec PyProof.Rows
noncomputable abbrev TO:=St -> Hp -> (Option Int -> Hp -> Prop) -> Prop
noncomputable def PO (X:Cx) (e:Option Expr) (t:TO):Prop :=
 ∀ (pins:List (Addr × Obj)) (s:Shared) (σ:St) (H:Hp) (Q:Option Int -> Hp -> Prop),Inv X pins σ H s -> t σ H Q ->
  wpAny (model X.prog X.w) X.A (evalPart e X.env) (fun u s' => ∃ o H',Inv X pins σ H' s' /\ IsPart u o /\ Q o H') X.xe s
noncomputable def u6:TO:=fun _ H Q=>Q none H
noncomputable def yn (t:TE):TO:=fun σ H Q=>t σ H fun x H1 => ∃ i,x = .int i /\ Q (some i) H1
section
variable {X:Cx} {e:Expr} {te:TE} {lo hi:Option Expr} {tl th:TO} {pos p2:Pos}
theorem u7:PO X none u6:=by
 intro pins s σ H Q I h
 rw [evalPart_none]
 exact wpAny_pure ⟨none,H,I, .none,h⟩
theorem u8 (h:PE X e te):PO X (some e) (yn te):=by
 intro pins s σ H Q I hw
 rw [evalPart_some]
 refine thn (h pins s σ H _ I hw) fun u s1 ⟨x,H1,I1,r1,q1⟩ => ?_
 obtain ⟨i,rfl,q⟩:=q1
 obtain ⟨t,rfl⟩:=r1
 exact ⟨some i,H1,I1, .int i t,q⟩
noncomputable def SlR (X:Cx) (r:V -> Option Int -> Option Int -> Hp -> VK -> Prop):Prop :=
 ∀ (pins:List (Addr × Obj)) (s:Shared) (σ:St) (H:Hp) (x:V) (v vl vu:Value) (lo hi:Option Int) (sl:Addr) (Q:VK),Inv X pins σ H s -> RelV x v -> s.heap.IsSliceOf sl vl vu .none -> IsPart vl lo -> IsPart vu hi -> r x lo hi H Q ->
  ∃ T id,typeLookup (.type T) "__getitem__" = pure (some (.builtin id)) /\ s.TypeIs v T /\ wpAny (model X.prog X.w) X.A (getItem v (.ref sl)) (EP X pins σ Q) X.xe s
theorem SlR.or {r r':V -> Option Int -> Option Int -> Hp -> VK -> Prop} (h:SlR X r) (h':SlR X r'):SlR X (fun x lo hi H Q=>r x lo hi H Q ∨ r' x lo hi H Q):=by
 intro pins s σ H x v vl vu lo hi sl Q I rx hs pl pu q
 rcases q with q | q
 ·exact h pins s σ H x v vl vu lo hi sl Q I rx hs pl pu q
 ·exact h' pins s σ H x v vl vu lo hi sl Q I rx hs pl pu q
noncomputable def tSl (r:V -> Option Int -> Option Int -> Hp -> VK -> Prop) (te:TE) (tl th:TO):TE:=fun σ H Q=>te σ H fun x H1=>tl σ H1 fun l H2=>th σ H2 fun u H3=>r x l u H3 Q
theorem qJ {r:V -> Option Int -> Option Int -> Hp -> VK -> Prop} (hr:SlR X r) (he:PE X e te) (hl:PO X lo tl) (hu:PO X hi th):PE X (.Subscript e (.Slice lo hi none p2) pos) (tSl r te tl th):=by
 intro pins s σ H Q I h
 refine Subscript_ (thn (he pins s σ H _ I h) fun v s1 ⟨x,H1,I1,r1,q1⟩ => ?_)
 refine wpAny_Slice (thn (hl pins s1 σ H1 _ I1 q1) fun vl s2 ⟨l,H2,I2,pl,q2⟩=>thn (hu pins s2 σ H2 _ I2 q2) fun vu s3 ⟨u,H3,I3,pu,q3⟩ => ?_)
 rw [evalPart_none]
 refine wpAny_pure ?_
 have I4:Inv X pins σ H3 { s3 with heap:=s3.heap.push { cls := .type "slice",data := .fields #[vl,vu, .none] } }:=I3.kept (t':=s3.toks) fun b ob q=>Heap.get?_push_of_some _ q
 obtain ⟨T,id,hT,ht,hg⟩:=hr pins { s3 with heap:=s3.heap.push { cls := .type "slice",data := .fields #[vl,vu, .none] } } σ H3 x v vl vu l u s3.heap.objs.size Q I4 r1 (Heap.IsSliceOf.new ..) pl pu q3
 show wpAny (model X.prog X.w) X.A (subscriptTail e (.Slice lo hi none p2) v (.ref s3.heap.objs.size)) (EP X pins σ Q) X.xe { s3 with heap:=s3.heap.push { cls := .type "slice",data := .fields #[vl,vu, .none] } }
 exact tail_any (ops := [.ref s3.heap.objs.size,v]) ht hT hg (by with_unfolding_all rfl)
noncomputable def eh (xs:List V) (lo hi:Option Int):List V:=(xs.drop (HT.sIx xs.length 0 lo)).take (HT.sIx xs.length xs.length hi - HT.sIx xs.length 0 lo)
theorem fy (xs:List V) (lo hi:Option Int):(eh xs lo hi).length <= xs.length:=by
 unfold eh
 rw [List.length_take,List.length_drop]
 omega
noncomputable def zx (K:PySem.W.Frag):V -> Option Int -> Option Int -> Hp -> VK -> Prop:=fun x lo hi H Q => ∃ a xs,x = .ref a /\ SqT K H a xs /\
 ¬ (HT.sIx xs.length 0 lo = 0 /\ HT.sIx xs.length xs.length hi = xs.length) /\ ∀ p,H p = none -> Q (.ref p) (upd H p (.tup (eh xs lo hi)))
theorem sl_tup:SlR X (zx X.K):=by
 intro pins s σ H x v vl vu lo hi sl Q I rx hs pl pu h
 obtain ⟨a,xs,rfl,hx,hw,q⟩:=h
 cases rx
 obtain ⟨its,r,ht,hz⟩:=I.tuple hx
 have hlen:its.toArray.size = xs.length:=by rw [List.size_toArray];exact r.length.symm
 refine ⟨"tuple",_,PyProof.Rows.slot_tuple_getitem.lookup,ht.typeIs, ?_⟩
 refine HT.getItem_tuple_cut ht hs pl pu (by rw [hlen];exact hw) ?_ (by rw [hlen];exact hz)
 rw [hlen]
 refine ⟨.ref s.heap.objs.size,_,I.laid (t':=s.toks) (o := .tup (eh xs lo hi)) (fun b ob q=>Heap.get?_push_of_some _ q) (Nat.le_refl _) ?_,rfl,q _ (I.hok.fresh (Nat.le_refl _))⟩
 exact ⟨Nat.le_trans (fy xs lo hi) hz,_,(r.drop (HT.sIx xs.length 0 lo)).take (HT.sIx xs.length xs.length hi - HT.sIx xs.length 0 lo),IsTup.new _ _⟩
noncomputable def t6 (K:PySem.W.Frag):R2:=fun x y H Q => ∃ a b xs ys,x = .ref a /\ y = .ref b /\ SqT K H a xs /\ SqT K H b ys /\ xs ≠ [] /\ xs.length + ys.length <= sizeLine /\
 (ys = [] -> Q (.ref a) H) /\ (ys ≠ [] -> ∀ p,H p = none -> Q (.ref p) (upd H p (.tup (xs ++ ys))))
theorem Vals.nil_iff {xs:List V} {us:List Value} (r:Vals xs us):us = [] ↔ xs = []:=by
 cases r with
 | nil=>simp
 | cons _ _=>simp
theorem op_catT:OpR X (binaryOp .Add) (t6 X.K):=by
 intro pins s σ H x y v u Q I rx ry h
 obtain ⟨a,b,xs,ys,rfl,rfl,ha,hb,hx,hz,q1,q2⟩:=h
 cases rx
 cases ry
 obtain ⟨its,r1,p1,_⟩:=I.tuple ha
 obtain ⟨its2,r2,p2,_⟩:=I.tuple hb
 refine HT.cat_tup p1 p2 (fun z=>hx (r1.nil_iff.mp z)) (fun z=>⟨.ref a,H,I,rfl,q1 (r2.nil_iff.mp z)⟩) (fun z => ?_) (by rw [<- r1.length, <- r2.length];exact hz)
 refine ⟨.ref s.heap.objs.size,_,I.laid (t':=s.toks) (o := .tup (xs ++ ys)) (fun b ob q=>Heap.get?_push_of_some _ q) (Nat.le_refl _) ?_,rfl,q2 (fun w=>z (r2.nil_iff.mpr w)) _ (I.hok.fresh (Nat.le_refl _))⟩
 exact ⟨by rw [List.length_append];exact hz,_,r1.append r2,IsTup.new _ _⟩
end
end L2
namespace L2
open PySem PySem.Spec PyProof.Rows
noncomputable def ixN (n:Nat) (i:Int):Option Nat:=if 0 <= i then (if i < n then some i.toNat else none) else if -(n:Int) <= i then some (i + n).toNat else none
noncomputable def atI {α:Type} (xs:List α) (i:Int):Option α := (ixN xs.length i).bind fun j=>xs[j]?
theorem ll {n:Nat} {i:Int} {j:Nat} (h:ixN n i = some j):seqIndex? i n = some j /\ j < n /\ -(n:Int) <= i /\ i < n:=by
 unfold ixN at h
 by_cases h0 : 0 <= i
 ·rw [if_pos h0] at h
  by_cases h1:i < n
  ·rw [if_pos h1] at h
   have e:i.toNat = j:=Option.some.inj h
   exact ⟨by rw [seqIndex_of h0 h1,e],by omega,by omega,h1⟩
  ·rw [if_neg h1] at h;cases h
 ·rw [if_neg h0] at h
  by_cases h1 : -(n:Int) <= i
  ·rw [if_pos h1] at h
   have e:(i + n).toNat = j:=Option.some.inj h
   exact ⟨by rw [seqIndex_neg (by omega) h1,e],by omega,h1,by omega⟩
  ·rw [if_neg h1] at h;cases h
theorem gU {α:Type} {xs:List α} {i:Int} {v : α} (h:atI xs i = some v):∃ j,seqIndex? i xs.length = some j /\ xs[j]? = some v /\ j < xs.length /\ -(xs.length:Int) <= i /\ i < xs.length:=by
 unfold atI at h
 cases e:ixN xs.length i with
 | none=>rw [e] at h;cases h
 | some j =>
   rw [e] at h
   obtain ⟨h1,h2,h3,h4⟩:=ll e
   exact ⟨j,h1,h,h2,h3,h4⟩
theorem dy {α:Type} {xs:List α} {j:Nat} {v : α} (h:xs[j]? = some v):atI xs (j:Int) = some v:=by
 have hj:j < xs.length:=(List.getElem?_eq_some_iff.mp h).1
 have e:ixN xs.length (j:Int) = some j:=by
  unfold ixN
  rw [if_pos (by omega),if_pos (by omega)];simp
 unfold atI;rw [e];exact h
noncomputable def gW (b:Expr):Prop := ∀ o i,subscripted b false o i = operate [o,i] (getItem o i)
noncomputable def IxR (X:Cx) (r:R2):Prop :=
 ∀ (value slice:Expr) (pins:List (Addr × Obj)) (s:Shared) (σ:St) (H:Hp) (x y:V) (v u:Value) (Q:VK),Inv X pins σ H s -> RelV x v -> RelV y u -> r x y H Q ->
  subscripted slice false v u = operate [v,u] (getItem v u) -> wpAny (model X.prog X.w) X.A (subscriptTail value slice v u) (EP X pins σ Q) X.xe s
noncomputable def MtR (X:Cx) (id:String) (r:V -> List V -> Hp -> VK -> Prop):Prop :=
 ∀ (pins:List (Addr × Obj)) (s:Shared) (σ:St) (H:Hp) (x:V) (xs:List V) (v:Value) (us:List Value) (Q:VK),Inv X pins σ H s -> RelV x v -> Vals xs us -> r x xs H Q ->
  wpAny (model X.prog X.w) X.A (call (.builtin id) (v :: us)) (EP X pins σ Q) X.xe s
section
variable {X:Cx} {a b:Expr} {ta tb:TE} {pos:Pos}
theorem IxR.or {r r':R2} (h:IxR X r) (h':IxR X r'):IxR X (fun x y H Q=>r x y H Q ∨ r' x y H Q):=by
 intro value slice pins s σ H x y v u Q I rx ry q hs
 rcases q with q | q
 ·exact h value slice pins s σ H x y v u Q I rx ry q hs
 ·exact h' value slice pins s σ H x y v u Q I rx ry q hs
theorem yo {r:R2} (hr:IxR X r) (ha:PE X a ta) (hb:PE X b tb) (hs:gW b):PE X (.Subscript a b pos) (tOp r ta tb):=by
 intro pins s σ H Q I h
 exact Subscript_ (qB ha hb I h fun v u s2 x y H2 I2 rx ry q=>hr a b pins s2 σ H2 x y v u Q I2 rx ry q (hs _ _))
noncomputable def zy (K:PySem.W.Frag):R2:=fun x y H Q => ∃ p xs i v,x = .ref p /\ y = .int i /\ SqL K H p xs /\ atI xs i = some v /\ Q v H
noncomputable def zz (K:PySem.W.Frag):R2:=fun x y H Q => ∃ p xs i v,x = .ref p /\ y = .int i /\ SqT K H p xs /\ atI xs i = some v /\ Q v H
theorem ix_list:IxR X (zy X.K):=by
 intro value slice pins s σ H x y v u Q I rx ry h hs
 obtain ⟨p,xs,i,z,rfl,rfl,hq,he,q⟩:=h
 cases rx
 obtain ⟨t,rfl⟩:=ry
 obtain ⟨its,r,pl,hz⟩:=I.list hq
 obtain ⟨j,h1,h2,h3,h4,h5⟩:=gU he
 obtain ⟨w,ew,rw'⟩:=r.get h2
 have hl:=r.length
 have hn:=dw
 have fin:EP X pins σ Q w s:=⟨z,H,I,rw',q⟩
 by_cases h0 : 0 <= i
 ·have hj:i.toNat = j:=by
   rw [seqIndex_of h0 h5] at h1
   exact Option.some.inj h1
  exact item_listR pl.isList h0 (by omega) (by rw [hj];simpa using ew) fin hs
 ·have hj:(i + (its.toArray.size:Int)).toNat = j:=by
   rw [seqIndex_neg (by omega) h4] at h1
   rw [List.size_toArray, <- hl]
   exact Option.some.inj h1
  exact subscriptTail_builtinR (x:=w) pl.isList.typeIs slot_list_getitem.lookup
   (wpAny_getItem_list_neg (Q:=fun r s'=>r = w /\ EP X pins σ Q r s') pl.isList (by omega) (by rw [List.size_toArray] <;> omega) (by omega) (by rw [hj];simpa using ew) ⟨rfl,fin⟩) hs
theorem ix_tup:IxR X (zz X.K):=by
 intro value slice pins s σ H x y v u Q I rx ry h hs
 obtain ⟨p,xs,i,z,rfl,rfl,hq,he,q⟩:=h
 cases rx
 obtain ⟨t,rfl⟩:=ry
 obtain ⟨its,r,pl,hz⟩:=I.tuple hq
 obtain ⟨j,h1,h2,h3,h4,h5⟩:=gU he
 obtain ⟨w,ew,rw'⟩:=r.get h2
 have hl:=r.length
 have hn:=dw
 have fin:EP X pins σ Q w s:=⟨z,H,I,rw',q⟩
 exact subscriptTail_builtinR (x:=w) pl.typeIs slot_tuple_getitem.lookup
  (getItem_tuple (j:=j) (Q:=fun r s'=>r = w /\ EP X pins σ Q r s') pl (by omega) (by omega) (by rw [List.size_toArray, <- hl];exact h1) (by simpa using ew) ⟨rfl,fin⟩) hs
theorem mM (its:List Value) (n j:Nat) (u:Value):Obj.mapSeq (·.setIfInBounds j u) { cls := .type "list",data := .seq its.toArray n } = { cls := .type "list",data := .seq (its.set j u).toArray n }:=by
 simp [Obj.mapSeq]
theorem Inv.lst {pins:List (Addr × Obj)} {σ:St} {H:Hp} {s:Shared} {p:Addr} {xs:List V} (I:Inv X pins σ H s) (h:H p = some (.lst xs)) :
 ∃ (its:List Value) (n:Nat),Vals xs its /\ s.heap.get? p = some { cls := .type "list",data := .seq its.toArray n } /\ xs.length <= sizeLine:=by
 obtain ⟨z,its,n,r,e⟩:=I.hok p _ h
 exact ⟨its,n,r,e,z⟩
theorem Inv.lstUpd {pins:List (Addr × Obj)} {σ:St} {H:Hp} {s:Shared} {p:Addr} {xs ys:List V} {its its':List Value} {n n':Nat} {f:Obj -> Obj} (I:Inv X pins σ H s) (h:H p = some (.lst xs))
 (ho:s.heap.get? p = some { cls := .type "list",data := .seq its.toArray n }) (hf:f { cls := .type "list",data := .seq its.toArray n } = { cls := .type "list",data := .seq its'.toArray n' }) (r:Vals ys its') (hz:ys.length <= sizeLine) (t:Nat) :
 Inv X pins σ (upd H p (.lst ys)) { s with heap:=s.heap.update p f,toks:=t }:=by
 have e:(s.heap.update p f).get? p = some { cls := .type "list",data := .seq its'.toArray n' }:=by
  rw [Heap.get?_update_self f ho (by rw [hf] <;> rfl),hf]
 refine I.write (x:=p) (e:=p) (by rw [h];trivial) (.inl rfl) (fun b u hb q=>(Heap.get?_update_other _ _ (Ne.symm hb)).trans q) ⟨_,e⟩ ?_
 exact ⟨hz,its',n',r,e⟩
noncomputable def t7:V -> V -> V -> Hp -> (Hp -> Prop) -> Prop:=fun o i v H Q => ∃ p xs k j,o = .ref p /\ i = .int k /\ H p = some (.lst xs) /\ ixN xs.length k = some j /\ Q (upd H p (.lst (xs.set j v)))
theorem qK:PSet X t7:=by
 intro pins s σ H o i v ov iv u Q I ro ri rv h
 obtain ⟨p,xs,k,j,rfl,rfl,hp,hj,q⟩:=h
 cases ro
 obtain ⟨t,rfl⟩:=ri
 obtain ⟨its,n,r,ho,hz⟩:=I.lst hp
 obtain ⟨h1,h2,h3,h4⟩:=ll hj
 have hl:=r.length
 have hn:=dw
 have I':Inv X pins σ (upd H p (.lst (xs.set j v))) { s with heap:=s.heap.update p (Obj.mapSeq (·.setIfInBounds j u)) } :=
  I.lstUpd hp ho (mM its n j u) (r.set rv j) (by rw [List.length_set];exact hz) s.toks
 by_cases h0 : 0 <= k
 ·have hk:k.toNat = j:=by
   rw [seqIndex_of h0 h4] at h1
   exact Option.some.inj h1
  exact PySem.W.ki_setAt ho h0 (by omega) (by rw [List.size_toArray, <- hl];exact h4) (by rw [hk];exact ⟨_,I',q⟩)
 ·have hk:(k + (its.toArray.size:Int)).toNat = j:=by
   rw [seqIndex_neg (by omega) h3] at h1
   rw [List.size_toArray, <- hl]
   exact Option.some.inj h1
  exact PySem.W.ki_setBack ho (by omega) (by rw [List.size_toArray, <- hl];exact h3) (by omega) (by rw [hk];exact ⟨_,I',q⟩)
theorem ji (lo hi:Option Int) (n:Nat):(sliceBounds lo hi none n).1 = ((HT.sIx n 0 lo:Nat):Int) /\ (sliceBounds lo hi none n).2.1 = ((HT.sIx n n hi:Nat):Int) /\ (sliceBounds lo hi none n).2.2 = 1:=by
 refine ⟨?_, ?_,rfl⟩
 ·cases lo with
  | none=>simp [sliceBounds,HT.sIx]
  | some i =>
    simp only [sliceBounds,HT.sIx,Option.getD_none,show (1:Int) > 0 by decide,if_true]
    by_cases h:i < 0
    ·simp only [h,if_true] <;> omega
    ·simp only [h,if_false] <;> omega
 ·cases hi with
  | none=>simp [sliceBounds,HT.sIx]
  | some i =>
    simp only [sliceBounds,HT.sIx,Option.getD_none,show (1:Int) > 0 by decide,if_true]
    by_cases h:i < 0
    ·simp only [h,if_true] <;> omega
    ·simp only [h,if_false] <;> omega
theorem iQ (its:List Value) (lo hi:Option Int):slicePick its.toArray lo hi none = ((its.drop (HT.sIx its.length 0 lo)).take (HT.sIx its.length its.length hi - HT.sIx its.length 0 lo)).toArray:=by
 obtain ⟨h1,h2,h3⟩:=ji lo hi its.toArray.size
 unfold slicePick
 rw [h1,h2,h3]
 simp only [sliceRange_one,pick_run,List.size_toArray] <;> rfl
noncomputable def zA (K:PySem.W.Frag):V -> Option Int -> Option Int -> Hp -> VK -> Prop:=fun x lo hi H Q => ∃ a xs,x = .ref a /\ SqL K H a xs /\ ∀ p,H p = none -> Q (.ref p) (upd H p (.lst (eh xs lo hi)))
theorem u9:SlR X (zA X.K):=by
 intro pins s σ H x v vl vu lo hi sl Q I rx hs pl pu h
 obtain ⟨a,xs,rfl,hx,q⟩:=h
 cases rx
 obtain ⟨its,r,ht,hz⟩:=I.list hx
 have hlen:=r.length
 refine ⟨"list",_,slot_list_getitem.lookup,ht.isList.typeIs, ?_⟩
 refine wpAny_getItem_list_slice ht.isList hs pl pu .none (by simp) ?_ (by rw [List.size_toArray] <;> omega)
 rw [iQ, <- hlen]
 refine ⟨.ref s.heap.objs.size,_,I.laid (t':=s.toks) (o := .lst (eh xs lo hi)) (fun b ob q=>Heap.get?_push_of_some _ q) (Nat.le_refl _) ?_,rfl,q _ (I.hok.fresh (Nat.le_refl _))⟩
 exact ⟨Nat.le_trans (fy xs lo hi) hz,_,0,(r.drop (HT.sIx xs.length 0 lo)).take (HT.sIx xs.length xs.length hi - HT.sIx xs.length 0 lo),Heap.get?_push_size _ rfl⟩
theorem jj:CallR X (.type "list") (fun xs H Q => ∃ p ys,xs = [.ref p] /\ (SqL X.K H p ys ∨ SqT X.K H p ys) /\ ∀ l,H l = none -> Q (.ref l) (upd H l (.lst ys))):=by
 intro pins s σ H xs us Q I r h
 obtain ⟨p,ys,rfl,hq,q⟩:=h
 obtain ⟨u,rfl,rx⟩:=dg r
 cases rx
 have fin:∀ (its:List Value),Vals ys its -> ys.length <= sizeLine -> ∀ (h':Heap) (c':Nat),(∀ b o',s.heap.get? b = some o' -> h'.get? b = some o') ->
  h'.get? s.heap.objs.size = some { cls := .type "list",dict:=none,data := .seq its.toArray c',slots := #[] } -> EP X pins σ Q (.ref s.heap.objs.size) { s with heap:=h' }:=fun its r' hz h' c' kp e =>
  ⟨.ref s.heap.objs.size,_,I.laid (t':=s.toks) kp (Nat.le_refl _) (show ObjOk X.prog X.w _ h' _ (.lst ys) from ⟨hz,its,c',r',e⟩),rfl,q _ (I.hok.fresh (Nat.le_refl _))⟩
 rcases hq with hq | hq
 ·obtain ⟨its,r',pl,hz⟩:=I.list hq
  have hlen:=r'.length
  obtain ⟨o,ho,hc,n,hd⟩:=pl.isList
  exact call_list_seq p (.inl rfl) ho hc hd (fun h' c' kp e=>fin its r' hz h' c' kp e) (by simp only [List.size_toArray] <;> omega)
 ·obtain ⟨its,r',pl,hz⟩:=I.tuple hq
  have hlen:=r'.length
  obtain ⟨o,ho,hc,n,hd⟩:=pl
  exact call_list_seq p (.inr rfl) ho hc hd (fun h' c' kp e=>fin its r' hz h' c' kp e) (by simp only [List.size_toArray] <;> omega)
theorem iR:CallR X (.type "tuple") (fun xs H Q => ∃ p ys,xs = [.ref p] /\ ((SqL X.K H p ys /\ ∀ l,H l = none -> Q (.ref l) (upd H l (.tup ys))) ∨ (SqT X.K H p ys /\ Q (.ref p) H))):=by
 intro pins s σ H xs us Q I r h
 obtain ⟨p,ys,rfl,h⟩:=h
 obtain ⟨u,rfl,rx⟩:=dg r
 cases rx
 rcases h with ⟨hq,q⟩ | ⟨hq,q⟩
 ·obtain ⟨its,r',pl,hz⟩:=I.list hq
  have hlen:=r'.length
  refine call_tuple_list pl.isList (fun h' kp => ?_) (by simp only [List.size_toArray] <;> omega)
  have I1:Inv X pins σ H { s with heap:=h' }:=I.kept (t':=s.toks) kp
  have I2:Inv X pins σ (upd H h'.objs.size (.tup ys)) { s with heap:=h'.push { cls := .type "tuple",data := .seq its.toArray } } :=
   I1.laid (t':=s.toks) (fun b o e=>Heap.get?_push_of_some _ e) (Nat.le_refl _) (show ObjOk X.prog X.w _ _ _ (.tup ys) from ⟨hz,its,r',IsTup.new _ _⟩)
  exact ⟨.ref h'.objs.size,_,I2,rfl,q _ (I1.hok.fresh (Nat.le_refl _))⟩
 ·obtain ⟨its,r',pl,hz⟩:=I.tuple hq
  exact call_tuple_same pl ⟨.ref p,H,I,rfl,q⟩
noncomputable def tyV (K:PySem.W.Frag) (T:String) (x:V) (H:Hp):Prop:=match x with
 | .str _=>T = "str"
 | .int _=>T = "int"
 | .ref p=>(T = "list" /\ ∃ xs,SqL K H p xs) ∨ (T = "tuple" /\ ∃ o,K.lookup p = some o /\ o.cls = .type "tuple" /\ o.dict = none) ∨
  (T = "dict" /\ ((∃ kvs,H p = some (.dK kvs)) ∨ ∃ kvs,H p = some (.dT kvs))) ∨ (T = "set" /\ ∃ S n,H p = some (.set S n))
 | _=>False
theorem ww {pins:List (Addr × Obj)} {σ:St} {H:Hp} {s:Shared} {T:String} {x:V} {v:Value} (I:Inv X pins σ H s) (r:RelV x v) (ty:tyV X.K T x H) :
 s.TypeIs v T /\ ∀ a,v = .ref a -> ∃ ob,s.heap.get? a = some ob /\ ob.dict = none:=by
 cases x with
 | str z =>
   obtain ⟨t,rfl⟩:=r
   cases (show T = "str" from ty)
   exact ⟨typeIs_str s z t,fun _ e=>nomatch e⟩
 | int i =>
   obtain ⟨t,rfl⟩:=r
   cases (show T = "int" from ty)
   exact ⟨typeIs_int s i t,fun _ e=>nomatch e⟩
 | ref p =>
   cases r
   rcases ty with ⟨rfl,xs,hq⟩ | ⟨rfl,o,hk,hc,hd⟩ | ⟨rfl,hk⟩ | ⟨rfl,S,n,hk⟩
   ·obtain ⟨its,_,pl,_⟩:=I.list hq
    refine ⟨pl.isList.typeIs,fun a e => ?_⟩
    cases e
    obtain ⟨o,n,e,c,hd,_⟩:=pl
    exact ⟨o,e,hd⟩
   ·refine ⟨⟨o,I.kIn p o hk,hc⟩,fun a e => ?_⟩
    cases e
    exact ⟨o,I.kIn _ o hk,hd⟩
   ·have z:∃ o,s.heap.get? p = some o /\ o.ExactDict:=by
     rcases hk with ⟨kvs,hk⟩ | ⟨kvs,hk⟩
     ·obtain ⟨_,_,_,_,o,_,_,e,ex,_⟩:=I.hok p _ hk
      exact ⟨o,e,ex⟩
     ·obtain ⟨_,_,_,_,o,_,_,e,ex,_⟩:=I.hok p _ hk
      exact ⟨o,e,ex⟩
    obtain ⟨o,e,ex⟩:=z
    refine ⟨⟨o,e,ex.1⟩,fun a e2 => ?_⟩
    cases e2
    exact ⟨o,e,ex.2.1⟩
   ·obtain ⟨o,_,_,_,e,ex,_⟩:=I.hok p _ hk
    refine ⟨⟨o,e,ex.1⟩,fun a e2 => ?_⟩
    cases e2
    exact ⟨o,e,ex.2.1⟩
 | _=>exact False.elim ty
noncomputable def tBM (K:PySem.W.Frag) (T:String) (r:V -> List V -> Hp -> VK -> Prop) (to:TE) (t:TA):TE:=fun σ H Q=>to σ H fun x H1=>tyV K T x H1 /\ t σ H1 fun xs H2=>r x xs H2 Q
variable {o e:Expr} {es:List Expr} {to:TE} {t:TA} {name:Str} {apos cpos:Pos} {T id:String} {r:V -> List V -> Hp -> VK -> Prop}
theorem yp (pa:PlainAttrs T) (slot:Slot T name id) (hty:typeOf (.builtin id) = pure (.type "method_descriptor")) (hm:MtR X id r) (ho:PE X o to) (ha:PA X (e :: es) t)
 (hbase:attributeBase o name X.env (eval o X.env) = eval o X.env:=by rfl)
 (hfew:((backTo cpos (starEach (e :: es) X.env)).all (fun x => !x.1) && (backToKw cpos (keywordEach [] X.env)).all (fun x=>x.1.isSome)
   && decide ((e :: es).length + ([]:List Keyword).length + (if ([]:List Keyword).isEmpty then 0 else 1) < 30)) = true:=by rfl)
 (hline:(apos.endLine == cpos.line) = true:=by rfl) (hs:starEach (e :: es) X.env = (false,eval e X.env) :: starEach es X.env:=by rfl) (hplain:(backTo cpos (starEach es X.env)).any (·.1) = false:=by rfl) :
 PE X (.Call (.Attribute o name apos) (e :: es) [] cpos) (tBM X.K T r to t):=by
 intro pins s σ H Q I h
 refine wpAny_Call_method_late hbase hfew hline rfl (thn (ho pins s σ H _ I h) fun v s1 ⟨x,H1,I1,r1,ty,q1⟩ => ?_)
 obtain ⟨h1,h2⟩:=ww I1 r1 ty
 refine ⟨T,id,pa,slot,hty,h1,h2, ?_⟩
 have hA:=ha cpos pins s1 σ H1 _ I1 q1
 rw [hs] at hA ⊢
 refine Calls.callWith_builtin (by show (false || (backTo cpos (starEach es X.env)).any (·.1)) = false;rw [hplain] <;> rfl) (Calls.evalArgs_plain ?_)
 exact thn hA fun us s2 ⟨vs,H2,I2,r2,q2⟩=>hm pins s2 σ H2 x vs v us Q I2 r1 r2 q2
end
end L2
namespace L2
open PySem PySem.Spec PyProof.Rows
noncomputable def MtM (X:Cx) (id:String) (r:V -> List V -> Hp -> VK -> Prop):Prop :=
 ∀ (pins:List (Addr × Obj)) (s:Shared) (σ:St) (H:Hp) (x:V) (xs:List V) (v:Value) (us:List Value) (Q:VK),Inv X pins σ H s -> RelV x v -> Vals xs us -> r x xs H Q ->
  wpAny (model X.prog X.w) X.A (call (.builtin id) (v :: us)) (EP X pins σ Q) X.xe s
theorem Vals.one:∀ {x:V} {us:List Value},Vals [x] us -> ∃ u,us = [u] /\ RelV x u
 | _,_, .cons r .nil=>⟨_,rfl,r⟩
theorem Vals.two:∀ {x y:V} {us:List Value},Vals [x,y] us -> ∃ u v,us = [u,v] /\ RelV x u /\ RelV y v
 | _,_,_, .cons r (.cons q .nil)=>⟨_,_,rfl,r,q⟩
theorem Vals.dropLast {xs:List V} {us:List Value} (h:Vals xs us):Vals xs.dropLast us.dropLast:=by
 induction h with
 | nil=>exact .nil
 | cons r t ih =>
   cases t with
   | nil=>exact .nil
   | cons q t'=>exact .cons r ih
theorem Vals.reverse {xs:List V} {us:List Value} (h:Vals xs us):Vals xs.reverse us.reverse:=by
 induction h with
 | nil=>exact .nil
 | cons r t ih=>rw [List.reverse_cons,List.reverse_cons];exact Vals.append ih (.cons r .nil)
theorem Vals.rep {xs:List V} {us:List Value} (h:Vals xs us):∀ k:Nat,Vals (List.replicate k xs).flatten (List.replicate k us).flatten
 | 0 => .nil
 | k + 1=>by
   rw [List.replicate_succ,List.replicate_succ,List.flatten_cons,List.flatten_cons]
   exact Vals.append h (Vals.rep h k)
theorem et (its:List Value):∀ (k:Nat) (acc:List Value),
 List.foldl (fun x1 x2=>x1 ++ x2) acc.toArray (List.replicate k its.toArray) = (acc ++ (List.replicate k its).flatten).toArray
 | 0,acc=>by simp
 | k + 1,acc=>by
   have e:acc.toArray ++ its.toArray = (acc ++ its).toArray:=by simp
   have e2:(acc ++ its) ++ (List.replicate k its).flatten = acc ++ (List.replicate (k + 1) its).flatten:=by
    rw [List.replicate_succ,List.flatten_cons,List.append_assoc]
   rw [<- e2, <- et its k (acc ++ its), <- e,List.replicate_succ,List.foldl_cons]
section
variable {X:Cx} {pins:List (Addr × Obj)} {σ:St} {H:Hp} {s:Shared} {l b:Addr} {xs ys zs:List V}
theorem Inv.lset {its its':List Value} {n:Nat} {f:Array Value -> Array Value} {t':Nat} (I:Inv X pins σ H s) (hH:H l = some (.lst xs))
 (e:s.heap.get? l = some { cls := .type "list",data := .seq its.toArray n }) (hf:f its.toArray = its'.toArray) (hv:Vals ys its') (hz:ys.length <= sizeLine) :
 Inv X pins σ (upd H l (.lst ys)) { s with heap:=s.heap.update l (Obj.mapSeq f),toks:=t' }:=by
 have q:=PySem.IsL.update e f
 rw [hf] at q
 refine I.write (x:=l) (e:=l) (by rw [hH];exact trivial) (.inl rfl) (fun b' u hb hu=>(Heap.get?_update_other s.heap (Obj.mapSeq f) (Ne.symm hb)).trans hu) ⟨_,q⟩ ?_
 exact ⟨hz,its',_,hv,q⟩
theorem Inv.lnew {its:List Value} {t':Nat} (I:Inv X pins σ H s) (hv:Vals ys its) (hz:ys.length <= sizeLine) :
 Inv X pins σ (upd H s.heap.objs.size (.lst ys)) { s with heap:=s.heap.push { cls := .type "list",data := .seq its.toArray },toks:=t' } :=
 I.laid (fun _ _ q=>Heap.get?_push_of_some _ q) (Nat.le_refl _) ⟨hz,its,0,hv,Heap.get?_push_size _ rfl⟩
theorem Inv.fresh (I:Inv X pins σ H s):H s.heap.objs.size = none:=I.hok.fresh (Nat.le_refl _)
theorem Inv.lstM (I:Inv X pins σ H s) (hH:H l = some (.lst xs)):xs.length <= sizeLine /\ ∃ (its:List Value) (n:Nat),Vals xs its /\ xs.length = its.length /\ s.heap.get? l = some { cls := .type "list",data := .seq its.toArray n }:=by
 obtain ⟨z,its,n,r,e⟩:=I.hok l _ hH
 exact ⟨z,its,n,r,r.length,e⟩
theorem jk {n:Nat} (h:n <= sizeLine):Builtin.List.listTooLong n = false:=by
 unfold Builtin.List.listTooLong
 exact decide_eq_false (by omega)
end
section
variable {X:Cx}
noncomputable def lm:V -> List V -> Hp -> VK -> Prop:=fun x vs H Q => ∃ l xs y,x = .ref l /\ vs = [y] /\ H l = some (.lst xs) /\ xs.length < sizeLine /\ Q .non (upd H l (.lst (xs ++ [y])))
theorem ie:MtM X "list.append" lm:=by
 intro pins s σ H x vs v us Q I rx rv h
 obtain ⟨l,xs,y,rfl,rfl,hH,hz,q⟩:=h
 cases rx
 obtain ⟨u,rfl,ru⟩:=rv.one
 obtain ⟨z,its,n,r,hl,e⟩:=I.lstM hH
 refine call_meets F.slot_list_append ⟨_,e,rfl⟩ F.entry_list_append (F.args_list_append_2 _ _) (PySem.list_append l its.toArray n u (by rw [List.size_toArray];omega)) ⟨e, ?_⟩
 refine ⟨.non,_,I.lset (its':=its ++ [u]) hH e (by simp) (r.append (.cons ru .nil)) ?_,rfl,q⟩
 rw [List.length_append,List.length_singleton]
 omega
noncomputable def ua:V -> List V -> Hp -> VK -> Prop:=fun x vs H Q => ∃ l b xs zs,x = .ref l /\ vs = [.ref b] /\ H l = some (.lst xs) /\ H b = some (.lst zs) /\ xs.length + zs.length <= sizeLine /\ Q .non (upd H l (.lst (xs ++ zs)))
theorem zf:MtM X "list.extend" ua:=by
 intro pins s σ H x vs v us Q I rx rv h
 obtain ⟨l,b,xs,zs,rfl,rfl,hH,hB,hz,q⟩:=h
 cases rx
 obtain ⟨u,rfl,ru⟩:=rv.one
 cases ru
 obtain ⟨z,its,n,r,hl,e⟩:=I.lstM hH
 obtain ⟨z2,its2,n2,r2,hl2,e2⟩:=I.lstM hB
 have hsz:its.toArray.size + its2.toArray.size <= sizeLine:=by rw [List.size_toArray,List.size_toArray];omega
 have hlong : ¬ (!its.toArray.isEmpty && Builtin.List.listTooLong (its.toArray.size + its2.toArray.size)) = true:=by
  rw [jk hsz,Bool.and_false]
  exact Bool.false_ne_true
 refine call_meets F.slot_list_extend ⟨_,e,rfl⟩ F.entry_list_extend (F.args_list_extend_2 _ _)
  (AutoSeq1.list_extend_list_list_0 l its.toArray n b its2.toArray n2 hlong (by rw [List.size_toArray];omega) (by omega)) ⟨e,e2, ?_⟩
 refine ⟨.non,_,I.lset (its':=its ++ its2) hH e (by simp) (r.append r2) ?_,rfl,q⟩
 rw [List.length_append]
 omega
noncomputable def zB:R2:=fun x y H Q => ∃ l b xs zs,x = .ref l /\ y = .ref b /\ H l = some (.lst xs) /\ H b = some (.lst zs) /\ xs.length + zs.length <= sizeLine /\ ∀ p,H p = none -> Q (.ref p) (upd H p (.lst (xs ++ zs)))
theorem op_cat:OpR X (binaryOp .Add) zB:=by
 intro pins s σ H x y v u Q I rx ry h
 obtain ⟨l,b,xs,zs,rfl,rfl,hH,hB,hz,q⟩:=h
 cases rx
 cases ry
 obtain ⟨z,its,n,r,hl,e⟩:=I.lstM hH
 obtain ⟨z2,its2,n2,r2,hl2,e2⟩:=I.lstM hB
 refine PySem.P.add_list e e2 ?_ (by rw [List.size_toArray,List.size_toArray];omega)
 have ea:its.toArray ++ its2.toArray = (its ++ its2).toArray:=by simp
 rw [ea]
 exact ⟨.ref _,_,I.lnew (t':=s.toks) (r.append r2) (by rw [List.length_append];omega),rfl,q _ I.fresh⟩
noncomputable def zC:R2:=fun x y H Q => ∃ l k xs,x = .ref l /\ y = .int k /\ H l = some (.lst xs) /\ -(2 ^ 63) <= k /\ k < 2 ^ 63 /\ xs.length * k.toNat <= sizeLine /\
 ∀ p,H p = none -> Q (.ref p) (upd H p (.lst (List.replicate k.toNat xs).flatten))
theorem ln {α:Type} (xs:List α) (k:Nat):(List.replicate k xs).flatten.length = k * xs.length:=by
 induction k with
 | zero=>simp
 | succ k ih=>rw [List.replicate_succ,List.flatten_cons,List.length_append,ih,Nat.succ_mul,Nat.add_comm]
theorem op_rep:OpR X (binaryOp .Mult) zC:=by
 intro pins s σ H x y v u Q I rx ry h
 obtain ⟨l,k,xs,rfl,rfl,hH,h1,h2,hz,q⟩:=h
 cases rx
 obtain ⟨t,rfl⟩:=ry
 obtain ⟨z,its,n,r,hl,e⟩:=I.lstM hH
 have hlen:its.toArray.size * k.toNat <= sizeLine:=by rw [List.size_toArray, <- hl];exact hz
 have hcap : ¬ its.toArray.size * k.toNat > (2 ^ 63 - 1) / 8:=by
  have:(sizeLine:Nat) <= (2 ^ 63 - 1) / 8:=by decide
  omega
 have hfit : ¬ (!Builtin.List.listFitsIndex k) = true:=by
  rw [fitsIndex_both h1 h2]
  exact Bool.false_ne_true
 have hlong : ¬ Builtin.List.listTooLong (its.toArray.size * k.toNat) = true:=by
  rw [jk hlen]
  exact Bool.false_ne_true
 have hnew:List.foldl (fun x1 x2=>x1 ++ x2) #[] (List.replicate (if its.toArray.isEmpty = true then 0 else k.toNat) its.toArray) = (List.replicate k.toNat its).flatten.toArray:=by
  have f0:∀ m:Nat,List.foldl (fun x1 x2=>x1 ++ x2) #[] (List.replicate m its.toArray) = (List.replicate m its).flatten.toArray:=fun m=>by
   have:=et its m []
   rw [List.nil_append] at this
   exact this
  rw [f0]
  cases its with
  | nil=>simp
  | cons a r'=>rw [if_neg (by simp)]
 refine wpAny_binaryOp_repeat_ref (T := "list") (U := "int") (by decide) ⟨_,e,rfl⟩ (fun s'=>typeIs_int s' k t) noFill_list_mul F.fills_int_mul F.slot_int_rmul repeat_list F.slot_int_index.lookup
  (call_meets F.slot_int_rmul (typeIs_int s k t) F.entry_int_rmul (F.args_int_rmul_2 _ _) (int___rmul___int_list k t l its.toArray n)
    ⟨e,rfl,⟨_,e,rfl⟩,call_meets F.slot_list_mul ⟨_,e,rfl⟩ F.entry_list_mul (F.args_list_mul_2 _ _) (AutoListH.list___mul___list_int_3 l its.toArray n k t hfit hcap hlong) ⟨e, ?_⟩⟩)
 rw [hnew]
 exact ⟨.ref _,_,I.lnew (t':=s.toks) (r.rep k.toNat) (by rw [ln,Nat.mul_comm];exact hz),rfl,q _ I.fresh⟩
end
section
variable {prog:Program} {w:World} {A:Around} {E:Value -> Shared -> Prop} {s:Shared}
end
section
variable {X:Cx}
end
end L2
namespace Att
open PySem PySem.W PySem.Calls PyProof.Rows
theorem gd {P:Params} {h:Heap}:∀ (ns:List Int) (vs:List Value),WellAll P h vs (ns.map WData.int) -> IntsAre vs ns:=by
 intro ns
 induction ns with
 | nil =>
   intro vs w
   rw [List.map_nil] at w
   cases w
   exact .nil
 | cons n ns ih =>
   intro vs w
   rw [List.map_cons] at w
   cases w with
   | cons a b =>
     cases a
     exact .cons _ _ (ih _ b)
theorem oJ {l:OpenLaw} {n:Nat} (hn:l.most = some n) {P:Params} {h:Heap} {args:List WData} {vals:List Value}
 (hpre:l.row.toRowW.claim.pre args = true) (hwl:WellAll P h vals args) :
 ∃ a vs ns,vals = [Value.ref a] /\ args = [WData.list (ns.map WData.int)] /\ h.get? a = some { cls := .type "list",data := .seq vs.toArray } /\ IntsAre vs ns /\ ns.length <= n:=by
 have hsh:WShape.hasAll [] args [.list .int] = true:=(pre_splitW hpre).1
 have hc:l.pre.holds [] { args:=args } = true:=(pre_splitW hpre).2
 obtain ⟨d,r,rfl,h1,h2⟩:=hasAllW_cons hsh
 obtain rfl:=hasAllW_nil h2
 obtain ⟨xs,rfl,h3⟩:=hasW_list h1
 obtain ⟨ns,rfl⟩:=items_int h3
 have hlen:ns.length <= n:=by
  unfold OpenLaw.pre at hc
  have h4:(WTm.not (.lt (.lit (.int (n:Int))) (.len (.arg 0)))).holds [] { args := [.list (ns.map .int)] } = true:=by
   have h4:=(holds_andW hc).1
   rw [hn] at h4
   exact h4
  have h5:=condW_of h4 (w_not (w_lt w_lit (w_len_list (w_arg rfl))))
  rw [List.length_map] at h5
  refine Nat.le_of_not_lt fun q => ?_
  have q':(n:Int) < ((ns.length:Nat):Int):=by omega
  first
   | (rw [decide_eq_true q'] at h5;exact absurd h5 (by decide))
   | (simp at h5;omega)
 cases hwl with
 | cons w1 w2 =>
   cases w2
   cases w1 with
   | list ho hall=>exact ⟨_,_,ns,rfl,rfl,ho,gd ns _ hall,hlen⟩
theorem oK (l:OpenLaw) (args:List WData):l.row.toRowW.claim.post args (.bool true) args = true :=
 postW_of (r:=l.row.toRowW) (X:=(true == true))
  (show WShape.has [] (.bool true) .bool = true by first | rfl | decide | simp [WShape.has,WShape.arms,WShape.armsAll])
  (show (WTm.eq .res (.lit (.bool true))).value [] { args:=args,res:=some (.bool true),after:=args } = some (.bool (true == true)) from w_eq_bool (w_res rfl) w_lit) rfl
theorem attach_call {l:OpenLaw} {n:Nat} {q:Program} {loose:List Str} {XP:(Str -> Option Value) -> Heap -> Prop} {YP:World -> Heap -> Prop} {d:DefRec}
 (hn:l.most = some n) (hdf:d.params.defaults = [])
 (call:∀ (w:World) (s₀ s₁:Shared) (mg mb:Str -> Option Value) (fa:Addr) (o:Obj) (pm cd doc:Value) (a:Addr) (vs:List Value) (ns:List Int),
   Ground q loose [] XP w s₀ mg mb s₁.heap -> YP w s₁.heap ->
   s₁.heap.get? fa = some o -> o.data = .func (docDef d.name d.params d.body d.scope pm cd doc) -> s₁.heap.CodeRec cd d.name -> mg d.name = some (.ref fa) ->
   s₁.heap.get? a = some { cls := .type "list",data := .seq vs.toArray } -> IntsAre vs ns -> ns.length <= n -> s₁.gens = #[] ->
   codeAny (model l.prog w) callerA (.call (.ref fa) ⟨[.ref a],[]⟩) (fun r s'=>r = .ok (.ret (.bool true)) /\ OldK s₁.heap s'.heap /\ s'.os = s₁.os /\ AllBare s'.gens) s₁) :
 WalkO q loose XP YP l.row.toRowW d [] (fun f vs=>PySem.call f vs):=by
 intro w s₀ s₁ mg mb G Y fa o pm cd doc dV kV ho hd hcd hD hmg hg args vals as hpre hlay hrd hwl hlo
 obtain rfl:dV = .none:=Dflts.none hD hdf
 obtain rfl:kV = .none:=Dflts.noKw hD
 obtain ⟨a,vs,ns,rfl,rfl,hobj,hints,hlen⟩:=oJ hn hpre hwl
 refine enter_call (codeAny_mono (call w s₀ s₁ mg mb fa o pm cd doc a vs ns G Y ho (fd_plain hd) hcd hmg hobj hints hlen hg) fun r s' hq => ?_)
 obtain ⟨rfl,h2,h3,h4⟩:=hq
 exact ⟨.inl ⟨.bool true, .bool true,[],rfl,fun _=>rfl, .bool true,oK l _,fun _=>⟨List.Pairwise.nil,fun _ hm=>(nomatch hm)⟩⟩,h2,h3,h4⟩
section
variable {prog:Program} {w:World} {A:Around} {E:Value -> Shared -> Prop} {s:Shared} {K:Frag}
noncomputable def zL (h:Heap) (L d:Addr):List (Addr × Obj):=(List.range h.objs.size).filterMap fun a=>if a = L ∨ a = d then none else (h.get? a).map fun o=>(a,o)
end
end Att
namespace L2
open PySem PySem.Spec PyProof.Rows
theorem ig:∀ {vs:List Value} {ns:List Int},IntsAre vs ns -> Vals (ns.map V.int) vs
 | _,_, .nil => .nil
 | _,_, .cons n t h => .cons ⟨t,rfl⟩ (ig h)
noncomputable def mN (H:Hp):Prop := ∀ b,H b = none ∨ ∃ o xs,H b = some (.frz o (.lst xs))
theorem qL {P:Program} {w:World} {K:PySem.W.Frag} {mg mb:Str -> Option Value} {CX:CXT} {k:Nat} {fa a:Addr} {fd:FuncData} {x:Str} {sp:Sp} {s₁:Shared} {vs:List Value} {ns:List Int}
 (KX:K.In s₁.heap) (hns:s₁.heap.Ns mainGlobals mg) (hb:s₁.heap.Ns builtinsNs mb) (hbb:∀ x:Str,x ≠ "__name__" -> mb x = bootBuiltins x) (hlim:s₁.heap.NoLimit) (hg:s₁.gens = #[])
 (ha:s₁.heap.get? a = some { cls := .type "list",data := .seq vs.toArray }) (hi:IntsAre vs ns) (hl:ns.length <= sizeLine) (hr:Room k callerA)
 (F:∀ base:Heap,K.In base -> base.Ns mainGlobals mg -> FnOk P w K mg base CX k fa fd [x] sp) (hbind:∀ (s:Shared) (u:Value),BindsTo s fd ⟨[u],[]⟩ [(x,u)])
 (hsp:∀ H:Hp,mN H -> SqL K H a (ns.map V.int) -> sp [.ref a] H (fun v _=>v = .bl true) fun _ _ _=>False)
 (hCX:∀ H e s',CX [] H s₁ (fun _ _ _=>False) e s' -> False) :
 codeAny (model P w) callerA (.call (.ref fa) ⟨[.ref a],[]⟩) (fun r s'=>r = .ok (.ret (.bool true)) /\ OldK s₁.heap s'.heap /\ s'.os = s₁.os /\ AllBare s'.gens) s₁ := by
 have rv:=ig hi
 have lenV:=hi.length
 have core:∀ H:Hp,mN H -> SqL K H a (ns.map V.int) -> HOk P w H s₁.heap -> (∀ b,H b ≠ none -> b = a) -> (H a ≠ none -> K.lookup a = none) ->
  codeAny (model P w) callerA (.call (.ref fa) ⟨[.ref a],[]⟩) (fun r s'=>r = .ok (.ret (.bool true)) /\ OldK s₁.heap s'.heap /\ s'.os = s₁.os /\ AllBare s'.gens) s₁ := by
  intro H hO hS hok hA hK
  have base_of:∀ {b:Addr} {o:Obj},s₁.heap.get? b = some o -> H b = none -> (dH s₁.heap H).get? b = some o:=fun e n=>qr e n
  have noA:∀ {b:Addr} {o:Obj} {es:Array DictEntry} {ep:Nat},s₁.heap.get? b = some o -> o.data = .dict es ep -> H b = none:=fun {b o es ep} e d=>by
   cases q:H b with
   | none=>rfl
   | some u =>
     have e':b = a:=hA b (by rw [q];simp)
     subst e'
     rw [ha] at e;cases e
     have d':Data.seq vs.toArray _ = Data.dict es ep:=d
     cases d'
  have nsK:∀ {b:Addr} {m:Str -> Option Value},s₁.heap.Ns b m -> (dH s₁.heap H).Ns b m:=fun {b m} ⟨o,es,ep,e,d,r⟩=>⟨o,es,ep,base_of e (noA e d),d,r⟩
  have hKb:K.In (dH s₁.heap H):=fun b o e=>base_of (KX b o e) (by
   cases q:H b with
   | none=>rfl
   | some u =>
     have e':b = a:=hA b (by rw [q];simp)
     subst e'
     rw [hK (by rw [q];simp)] at e;cases e)
  have hM:Mod K mg (dH s₁.heap H):=⟨hKb,nsK hns,⟨mb,nsK hb,hbb⟩,let ⟨mc,h1,h2⟩:=hlim; ⟨mc,nsK h1,h2⟩⟩
  have e0:Env0 P w K mg (dH s₁.heap H) callerA [] s₁ H:=⟨rfl,hM,fun b o e=>tS e,Nat.le_of_eq (oo _ _),trivial,fun b hb=>absurd (show b ∈ ([]:List Addr) from hb) (by simp),hok, .of_eq hg⟩
  refine codeAny_mono ((F _ hKb (nsK hns)).run callerA [] s₁ H ⟨[.ref a],[]⟩ [.ref a] [.ref a] _ _ hr e0 (hbind s₁ (.ref a)) (.cons rfl .nil) (hsp H hO hS)) fun r s' h => ?_
  cases r with
  | error e=>exact (hCX H e s' h).elim
  | ok fl =>
    cases fl with
    | next=>exact False.elim h
    | brk=>exact False.elim h
    | cont=>exact False.elim h
    | ret u =>
      obtain ⟨v,H',os,bare,un,hok',r',q⟩:=h
      have q':v = .bl true:=q
      subst q'
      obtain rfl:u = Value.bool true:=r'
      refine ⟨rfl,OldK.of_keep fun b o e => ?_,os,bare⟩
      cases q:H b with
      | none=>exact un.keep b o e q (by intro z;exact absurd (show b ∈ ([]:List Addr) from z) (by simp)) (by simp)
      | some u =>
        rcases hO b with z | ⟨ob,xs,z⟩
        ·rw [q] at z;cases z
        ·have z2:=un.frzs b ob _ z
         obtain ⟨e1,_⟩:=hok b _ z
         obtain ⟨e2,_⟩:=hok' b _ z2
         rw [e] at e1;cases e1
         exact e2
 cases hk:K.lookup a with
 | some o =>
   have e:=KX a o hk
   rw [ha] at e
   cases e
   refine core (fun _=>none) (fun _ => .inl rfl) (.inr ⟨_,vs.toArray,_,hk,rfl,rfl,rfl,by rw [List.size_toArray,lenV];exact hl,by simpa using rv⟩) (fun b u z=>by have z':(none:Option HO) = some u:=z;cases z') (fun b z=>absurd rfl z) fun z=>absurd rfl z
 | none =>
   refine core (fun b=>if b = a then some (.frz { cls := .type "list",data := .seq vs.toArray } (.lst (ns.map V.int))) else none) (fun b => ?_) (.inl (.inr ⟨{ cls := .type "list",data := .seq vs.toArray },if_pos rfl⟩)) (fun b u z => ?_) (fun b z => ?_) fun _=>hk
   ·by_cases hb:b = a
    ·exact .inr ⟨_,_,if_pos hb⟩
    ·exact .inl (if_neg hb)
   ·by_cases hb:b = a
    ·have z':=(if_pos hb).symm.trans z
     cases z'
     subst hb
     exact ⟨ha,by rw [List.length_map];exact hl,vs,_,rv,ha⟩
    ·have z':=(if_neg hb).symm.trans z
     cases z'
   ·by_cases hb:b = a
    ·exact hb
    ·exact absurd (if_neg hb) z
end L2
namespace L2
open PySem PySem.Spec PyProof.Rows
noncomputable abbrev KOf {K:PySem.W.Frag} {h:Heap} (_:K.In h):PySem.W.Frag:=K
theorem walk_of {l:PySem.W.OpenLaw} {n k:Nat} {q:Program} {loose:List Str} {XP:(Str -> Option Value) -> Heap -> Prop} {YP:World -> Heap -> Prop} {d:DefRec} {K:Params -> PySem.W.Frag} {CX:World -> CXT} {sp:World -> Sp} {x:Str}
 (hn:l.most = some n) (hn2:n <= sizeLine) (hdf:d.params.defaults = []) (hr:Room k callerA)
 (hY:∀ (w:World) (h:Heap),YP w h -> (K w.params).In h)
 (F:∀ (w:World) (mg:Str -> Option Value) (fa:Addr) (h:Heap),(K w.params).In h -> h.Ns mainGlobals mg -> mg d.name = some (.ref fa) ->
   ∃ fd:FuncData,(∀ (s:Shared) (u:Value),BindsTo s fd ⟨[u],[]⟩ [(x,u)]) /\
    ∀ base:Heap,(K w.params).In base -> base.Ns mainGlobals mg -> FnOk l.prog w (K w.params) mg base (CX w) k fa fd [x] (sp w))
 (hsp:∀ (w:World) (H:Hp) (a:Addr) (ns:List Int),ns.length <= n -> mN H -> SqL (K w.params) H a (ns.map V.int) -> sp w [.ref a] H (fun v _=>v = .bl true) fun _ _ _=>False)
 (hCX:∀ (w:World) (H:Hp) (s:Shared) (e:Value) (s':Shared),CX w [] H s (fun _ _ _=>False) e s' -> False) :
 PySem.W.WalkO q loose XP YP l.row.toRowW d [] (fun f vs=>PySem.call f vs):=by
 refine Att.attach_call hn hdf fun w s₀ s₁ mg mb fa o pm cd doc a vs ns G Y ho hd hcd hmg hobj hints hlen hg => ?_
 have KX:=hY w _ Y
 obtain ⟨fd,hb,hF⟩:=F w mg fa _ KX G.T.g hmg
 exact qL KX G.T.g G.T.b G.T.builtins G.T.nolimit hg hobj hints (Nat.le_trans hlen hn2) hr hF hb (fun H hO hS=>hsp w H a ns hlen hO hS) fun H e s'=>hCX w H s₁ e s'
end L2
namespace L2
open PySem PySem.Spec PyProof.Rows
noncomputable def ax (s:Stmt):Arguments:=match s with
 | .FunctionDef _ a _ _ _ _ _ _ _ _=>a
 | _ => { posonlyargs := [],args := [],vararg:=none,kwonlyargs := [],kw_defaults := [],kwarg:=none,defaults := [] }
noncomputable def au (s:Stmt):List Stmt:=match s with
 | .FunctionDef _ _ b _ _ _ _ _ _ _=>b
 | _ => []
noncomputable def ai (s:Stmt):Scope:=match s with
 | .FunctionDef _ _ _ _ _ _ sc _ _ _=>sc
 | _ => { kind := .function,names := [],isGenerator:=false,isCoroutine:=false }
noncomputable abbrev CX0:CXT:=fun _ _ _ _ _ _=>False
noncomputable abbrev E0:XK:=fun _ _ _=>False
theorem t8 {X:Cx}:gb CX0 X E0:=fun _ _ _ _ _ _ _ h=>h.elim
structure Fun (K:PySem.W.Frag) (x qual:Str) (st:Stmt) (f:Addr) (fd:FuncData):Prop where
 ex:∃ (oc:Value) (od:Option Addr) (kV doc pm:Value) (an:Option Addr) (cdv ct:Value) (osl:Array (Option Value)),
  fd = PySem.W.fnOf x qual (ax st) (au st) (ai st) .none kV doc pm an cdv ct /\ K.lookup f = some ⟨oc,od, .func fd,osl⟩ /\ PySem.W.codeIn K cdv qual = true
 kp:PySem.W.keepIn K (.ref f) = true
section
variable {P:Program} {w:World} {K:PySem.W.Frag} {mg:Str -> Option Value} {base:Heap}
theorem Fun.ok {x qual:Str} {st:Stmt} {f:Addr} {fd:FuncData} {N ps:List Str} {k:Nat} {sp:Sp} (F:Fun K x qual st f fd) (S:eZ N ps (ai st)) (len:∀ vs H Q E,sp vs H Q E -> vs.length = ps.length)
 (hbody:∀ (cdv:Value) (A:Around) (outer:List Env) (s:Shared) (H:Hp) (vs:List V) (Q:VK) (E:XK),Room k (A.deeper (envOfC qual (ai st) s.heap.objs.size f cdv)) -> sp vs H Q E ->
   ∃ t,PSs (fG CX0 P w K mg base N qual (ai st) f cdv A outer s H E).nox (au st) t /\ t { nx:=fun _ H'=>Q .non H',rt:=Q } (cu N vs) H):FnOk P w K mg base CX0 (k + 1) f fd ps sp:=by
 obtain ⟨oc,od,kV,doc,pm,an,cdv,ct,osl,rfl,lk,hcd⟩:=F.ex
 refine ym lk hcd S len fun A outer s H vs Q E hr hsp => ?_
 obtain ⟨t,h,q⟩:=hbody cdv A outer s H vs Q E hr hsp
 exact ⟨t,h.nox,q⟩
theorem Fun.binds {x qual:Str} {st:Stmt} {f:Addr} {fd:FuncData} {ps:List Str} (F:Fun K x qual st f fd)
 (h:∀ (kV doc pm:Value) (an:Option Addr) (cdv ct:Value) (us:List Value),us.length = ps.length -> bindArgs (PySem.W.fnOf x qual (ax st) (au st) (ai st) .none kV doc pm an cdv ct) ⟨us,[]⟩ = pure (ps.zip us)):Binds K fd ps []:=by
 obtain ⟨oc,od,kV,doc,pm,an,cdv,ct,osl,rfl,lk,hcd⟩:=F.ex
 exact .all (h kV doc pm an cdv ct)
theorem be {x qual:Str} {st:Stmt} {f:Addr} {oc:Value} {od an:Option Addr} {osl:Array (Option Value)} {kV doc pm cdv ct:Value} (l:K.lookup f = some ⟨oc,od, .func (PySem.W.fnOf x qual (ax st) (au st) (ai st) .none kV doc pm an cdv ct),osl⟩)
 (c:PySem.W.codeIn K cdv qual = true) (k:PySem.W.keepIn K (.ref f) = true):Fun K x qual st f (PySem.W.fnOf x qual (ax st) (au st) (ai st) .none kV doc pm an cdv ct):=⟨⟨oc,od,kV,doc,pm,an,cdv,ct,osl,rfl,l,c⟩,k⟩
end
section
variable {X:Cx}
end
noncomputable def Same (H H':Hp):Prop := ∀ b o,H b = some o -> H' b = some o
theorem Same.refl (H:Hp):Same H H:=fun _ _ h=>h
theorem Same.trans {H H1 H2:Hp} (a:Same H H1) (b:Same H1 H2):Same H H2:=fun c o h=>b c o (a c o h)
theorem Same.free {H H':Hp} (e:Same H H') {l:Addr} (h:H' l = Option.none):H l = Option.none:=by
 cases q:H l with
 | none=>rfl
 | some o =>
   rw [e l o q] at h
   cases h
end L2
namespace L2
open PySem PySem.Spec PyProof.Rows
section
variable {κ:Type} [DecidableEq κ]
noncomputable def bN (kvs:List (κ × V)) (k : κ):Option V:=(kvs.find? fun kv=>decide (kv.1 = k)).map (·.2)
noncomputable def bg (kvs:List (κ × V)) (k : κ) (v:V):List (κ × V) :=
 if (kvs.any fun kv=>decide (kv.1 = k)) = true then kvs.map (fun kv=>if kv.1 = k then (kv.1,v) else kv) else kvs ++ [(k,v)]
noncomputable def t9 (kvs:List (κ × V)) (k : κ):List (κ × V):=kvs.filter fun kv=>decide (kv.1 ≠ k)
theorem dJ {p : κ × V} {r:List (κ × V)} {k : κ} (e:p.1 = k):bN (p :: r) k = some p.2:=by simp [bN,List.find?_cons,e]
theorem dL {p : κ × V} {r:List (κ × V)} {k : κ} (e : ¬ p.1 = k):bN (p :: r) k = bN r k:=by simp [bN,List.find?_cons,e]
theorem jl (k : κ):∀ kvs:List (κ × V),(kvs.any fun kv=>decide (kv.1 = k)) = (bN kvs k).isSome
 | [] => rfl
 | p :: r=>by
   rw [List.any_cons]
   by_cases e:p.1 = k
   ·simp only [dJ e,decide_eq_true e,Bool.true_or,Option.isSome_some]
   ·rw [dL e,decide_eq_false e,Bool.false_or];exact jl k r
theorem cv (kvs:List (κ × V)) (k : κ) (v:V):(bg kvs k v).length <= kvs.length + 1:=by
 unfold bg
 split
 ·rw [List.length_map];omega
 ·rw [List.length_append,List.length_cons,List.length_nil];omega
theorem RelO.isSome_eq {o:Option V} {u:Option Value} (r:RelO o u):o.isSome = u.isSome:=by
 cases o with
 | none=>cases u with
   | none=>rfl
   | some _=>exact (show False from r).elim
 | some _=>cases u with
   | none=>exact (show False from r).elim
   | some _=>rfl
theorem RelO.getD {o:Option V} {u:Option Value} {d:V} {d':Value} (r:RelO o u) (rd:RelV d d'):RelV (o.getD d) (u.getD d'):=by
 cases o with
 | none=>cases u with
   | none=>exact rd
   | some _=>exact (show False from r).elim
 | some _=>cases u with
   | none=>exact (show False from r).elim
   | some _=>exact r
theorem KV.val {kvs:List (κ × V)} {vs:List (κ × Value)} (r:KV kvs vs) (k : κ):RelO (bN kvs k) (valueAt vs k):=by
 unfold KV at r
 induction r with
 | nil=>exact True.intro
 | @cons p q ps qs h t ih =>
  obtain ⟨h1,h2⟩:=h
  by_cases e:p.1 = k
  ·have e':q.1 = k:=h1.symm.trans e
   have b:valueAt (q :: qs) k = some q.2:=by simp [valueAt,List.find?_cons,e']
   rw [dJ e,b];exact h2
  ·have e' : ¬ q.1 = k:=fun z=>e (h1.trans z)
   have b:valueAt (q :: qs) k = valueAt qs k:=by simp [valueAt,List.find?_cons,e']
   rw [dL e,b];exact ih
theorem KV.any {kvs:List (κ × V)} {vs:List (κ × Value)} (r:KV kvs vs) (k : κ):(kvs.any fun kv=>decide (kv.1 = k)) = vs.any fun kv=>decide (kv.1 = k):=by
 unfold KV at r
 induction r with
 | nil=>rfl
 | cons h t ih=>rw [List.any_cons,List.any_cons,ih,h.1]
theorem KV.repl {kvs:List (κ × V)} {vs:List (κ × Value)} (r:KV kvs vs) (k : κ) {y:V} {u:Value} (ry:RelV y u) :
 KV (kvs.map fun kv=>if kv.1 = k then (kv.1,y) else kv) (vs.map fun kv=>if kv.1 = k then (kv.1,u) else kv):=by
 unfold KV at r ⊢
 induction r with
 | nil=>exact .nil
 | @cons p q ps qs h t ih =>
  rw [List.map_cons,List.map_cons]
  refine .cons ?_ ih
  obtain ⟨h1,h2⟩:=h
  by_cases e:p.1 = k
  ·rw [if_pos e,if_pos (h1.symm.trans e)];exact ⟨h1,ry⟩
  ·rw [if_neg e,if_neg (fun z=>e (h1.trans z))];exact ⟨h1,h2⟩
theorem KV.put {kvs:List (κ × V)} {vs:List (κ × Value)} (r:KV kvs vs) (k : κ) {y:V} {u:Value} (ry:RelV y u):KV (bg kvs k y) (stored vs k u):=by
 unfold bg stored
 rw [r.any k]
 by_cases e:(vs.any fun kv=>decide (kv.1 = k)) = true
 ·rw [if_pos e,if_pos e];exact r.repl k ry
 ·rw [if_neg e,if_neg e];exact Paired.snoc r ⟨rfl,ry⟩
theorem KV.drop {kvs:List (κ × V)} {vs:List (κ × Value)} (r:KV kvs vs) (k : κ):KV (t9 kvs k) (without vs k):=by
 unfold KV at r ⊢
 unfold t9 without
 induction r with
 | nil=>exact .nil
 | @cons p q ps qs h t ih =>
  obtain ⟨h1,h2⟩:=h
  rw [List.filter_cons,List.filter_cons]
  by_cases e:p.1 = k
  ·have a : ¬ decide (p.1 ≠ k) = true:=by simp [e]
   have b : ¬ decide (q.1 ≠ k) = true:=by simp [h1.symm.trans e]
   rw [if_neg a,if_neg b];exact ih
  ·have e' : ¬ q.1 = k:=fun z=>e (h1.trans z)
   have a:decide (p.1 ≠ k) = true:=by simp [e]
   have b:decide (q.1 ≠ k) = true:=by simp [e']
   rw [if_pos a,if_pos b];exact .cons ⟨h1,h2⟩ ih
theorem KV.keys {kvs:List (κ × V)} {vs:List (κ × Value)} (r:KV kvs vs):kvs.map (·.1) = vs.map (·.1):=by
 unfold KV at r
 induction r with
 | nil=>rfl
 | cons h t ih=>rw [List.map_cons,List.map_cons,ih,h.1]
theorem KV.length {kvs:List (κ × V)} {vs:List (κ × Value)} (r:KV kvs vs):kvs.length = vs.length:=Paired.length r
end
theorem iU {P:Program} {w:World} {k:Key} {u:Value} (r:RelV (kV k) u):(aD P w).is k u = true:=by
 cases k with
 | inl i=>obtain ⟨t,e⟩:=(show ∃ t,u = Value.int i t from r);subst e;exact kT P w i t
 | inr x=>obtain ⟨t,e⟩:=(show ∃ t,u = Value.str x t from r);subst e;exact kU P w x t
theorem ii {P:Program} {w:World}:∀ {ks:List Key} {us:List Value},Vals (ks.map kV) us -> ItemsAre (aD P w) ks us
 | [],_,r=>by rw [List.map_nil] at r;cases r;exact .nil
 | k :: ks,_,r=>by
   rw [List.map_cons] at r
   cases r with
   | cons h t=>exact .cons (iU h) (ii t)
noncomputable abbrev KT (H:Hp):List (List Key × V) -> List (List Key × Addr × Value) -> Prop:=Paired fun p q=>p.1 = q.1 /\ H q.2.1 = some (.tup (p.1.map kV)) /\ RelV p.2 q.2.2
theorem KT.val {H:Hp} {kvs:List (List Key × V)} {xs:List (List Key × Addr × Value)} (r:KT H kvs xs) (k:List Key):RelO (bN kvs k) ((atKey xs k).map (·.2)):=by
 induction r with
 | nil=>exact True.intro
 | @cons p q ps qs h t ih =>
  obtain ⟨h1,_,h2⟩:=h
  by_cases e:p.1 = k
  ·have e':q.1 = k:=h1.symm.trans e
   have b:atKey (q :: qs) k = some q.2:=by simp [atKey,List.find?_cons,e']
   rw [dJ e,b];exact h2
  ·have e' : ¬ q.1 = k:=fun z=>e (h1.trans z)
   have b:atKey (q :: qs) k = atKey qs k:=by simp [atKey,List.find?_cons,e']
   rw [dL e,b];exact ih
theorem KT.repl {H:Hp} {kvs:List (List Key × V)} {xs:List (List Key × Addr × Value)} (r:KT H kvs xs) (k:List Key) {y:V} {u:Value} (ry:RelV y u) :
 KT H (kvs.map fun kv=>if kv.1 = k then (kv.1,y) else kv) (xs.map (putAt k u)):=by
 induction r with
 | nil=>exact .nil
 | @cons p q ps qs h t ih =>
  rw [List.map_cons,List.map_cons]
  refine .cons ?_ ih
  obtain ⟨h1,h2,h3⟩:=h
  unfold putAt
  by_cases e:p.1 = k
  ·rw [if_pos e,if_pos (h1.symm.trans e)];exact ⟨h1,h2,ry⟩
  ·rw [if_neg e,if_neg (fun z=>e (h1.trans z))];exact ⟨h1,h2,h3⟩
theorem KT.put {H:Hp} {kvs:List (List Key × V)} {xs:List (List Key × Addr × Value)} (r:KT H kvs xs) (k:List Key) {b:Addr} {y:V} {u:Value} (hb:H b = some (.tup (k.map kV))) (ry:RelV y u) :
 KT H (bg kvs k y) (storedH xs k b u):=by
 have e:(kvs.any fun kv=>decide (kv.1 = k)) = (atKey xs k).isSome:=by
  rw [jl,(r.val k).isSome_eq,Option.isSome_map]
 unfold bg storedH
 rw [e]
 by_cases q:(atKey xs k).isSome = true
 ·rw [if_pos q,if_pos q];exact r.repl k ry
 ·rw [if_neg q,if_neg q];exact Paired.snoc r ⟨rfl,hb,ry⟩
theorem KT.keeps {H H':Hp} {kvs:List (List Key × V)} {xs:List (List Key × Addr × Value)} (r:KT H kvs xs) (ht:∀ b ys,H b = some (.tup ys) -> H' b = some (.tup ys)):KT H' kvs xs :=
 Paired.mapP r fun _ _ z=>⟨z.1,ht _ _ z.2.1,z.2.2⟩
section
variable {P:Program} {w:World} {H:Hp} {h:Heap} {a:Addr}
theorem tf {u:HO} (ok:HOk P w H h) (e:Rd H a u):ObjOk P w H h a u:=e.ok ok
theorem iV {kvs:List (Key × V)} (ok:HOk P w H h) (e:Rd H a (.dK kvs)):kvs.length <= sizeLine /\ (a == sysModules) = false /\ ∃ vs,KV kvs vs /\ h.DictOf (aD P w) a vs :=
 show ObjOk P w H h a (.dK kvs) from tf ok e
theorem yq {kvs:List (Key × V)} (ok:HOk P w H h) (e:H a = some (.dK kvs)):kvs.length <= sizeLine /\ (a == sysModules) = false /\ ∃ vs,KV kvs vs /\ h.DictOf (aD P w) a vs:=iV ok (.inl e)
theorem eA {ks:List Key} (ok:HOk P w H h) (e:H a = some (.tup (ks.map kV))):(tupleKind (aD P w)).is h ks a:=by
 obtain ⟨_,its,r,o,h1,h2,n,h3⟩:=(show ObjOk P w H h a (.tup (ks.map kV)) from ok a _ e)
 exact ⟨o,its.toArray,n,h1,h2,h3,by simpa using ii r⟩
theorem fb {kvs:List (List Key × V)} (ok:HOk P w H h) (e:Rd H a (.dT kvs)):kvs.length <= sizeLine /\ (a == sysModules) = false /\
 ∃ xs,KT H kvs xs /\ h.DictOfH (tupleKind (aD P w)) a xs:=by
 obtain ⟨z,y,xs,r,o,es,ep,h1,h2,h3,h4,h5⟩:=(show ObjOk P w H h a (.dT kvs) from tf ok e)
 refine ⟨z,y,xs,r,o,es,ep,h1,h2,h3,h4,fun x hx => ?_,h5⟩
 have all:∀ {l:List (List Key × V)} {m:List (List Key × Addr × Value)},KT H l m -> ∀ x ∈ m,(tupleKind (aD P w)).is h x.1 x.2.1:=by
  intro l m q
  induction q with
  | nil=>intro x hx;exact nomatch hx
  | @cons p q ps qs hq t ih =>
   intro x hx
   rcases List.mem_cons.mp hx with e | hx
   ·subst e
    exact eA ok (by rw [<- hq.1];exact hq.2.1)
   ·exact ih x hx
 exact all r x hx
theorem tj {kvs:List (List Key × V)} (ok:HOk P w H h) (e:H a = some (.dT kvs)):kvs.length <= sizeLine /\ (a == sysModules) = false /\
 ∃ xs,KT H kvs xs /\ h.DictOfH (tupleKind (aD P w)) a xs:=fb ok (.inl e)
end
noncomputable def DGet (H:Hp) (a:Addr) (y:V) (r:Option V):Prop :=
 (∃ kvs k,Rd H a (.dK kvs) /\ y = kV k /\ r = bN kvs k) ∨ ∃ kvs k b,Rd H a (.dT kvs) /\ y = .ref b /\ H b = some (.tup (k.map kV)) /\ r = bN kvs k
noncomputable def DPut (H:Hp) (a:Addr) (y v:V) (H':Hp):Prop :=
 (∃ kvs k,H a = some (.dK kvs) /\ y = kV k /\ kvs.length < sizeLine /\ H' = upd H a (.dK (bg kvs k v))) ∨
 ∃ kvs k b,H a = some (.dT kvs) /\ y = .ref b /\ H b = some (.tup (k.map kV)) /\ kvs.length < sizeLine /\ H' = upd H a (.dT (bg kvs k v))
theorem DGet.k {H:Hp} {a:Addr} {kvs:List (Key × V)} {k:Key} (e:H a = some (.dK kvs)):DGet H a (kV k) (bN kvs k) := .inl ⟨kvs,k, .inl e,rfl,rfl⟩
theorem DGet.t {H:Hp} {a b:Addr} {kvs:List (List Key × V)} {k:List Key} (e:H a = some (.dT kvs)) (eb:H b = some (.tup (k.map kV))):DGet H a (.ref b) (bN kvs k) := .inr ⟨kvs,k,b, .inl e,rfl,eb,rfl⟩
theorem DPut.k {H:Hp} {a:Addr} {kvs:List (Key × V)} {k:Key} {v:V} (e:H a = some (.dK kvs)) (hl:kvs.length < sizeLine):DPut H a (kV k) v (upd H a (.dK (bg kvs k v))) := .inl ⟨kvs,k,e,rfl,hl,rfl⟩
theorem DPut.t {H:Hp} {a b:Addr} {kvs:List (List Key × V)} {k:List Key} {v:V} (e:H a = some (.dT kvs)) (eb:H b = some (.tup (k.map kV))) (hl:kvs.length < sizeLine) :
 DPut H a (.ref b) v (upd H a (.dT (bg kvs k v))) := .inr ⟨kvs,k,b,e,rfl,eb,hl,rfl⟩
section
variable {X:Cx} {pins:List (Addr × Obj)} {σ:St} {H:Hp} {s:Shared} {a:Addr} {y v:V} {u r:Value} {o:Option V} {A:Around} {E:Value -> Shared -> Prop}
theorem Inv.big (I:Inv X pins σ H s):sysModules < s.heap.objs.size:=by
 have h:mainGlobals < s.heap.objs.size:=(I.mod.glob.keeps I.bk).lt
 exact Nat.lt_trans (by decide) h
theorem oM {Q:Value -> Shared -> Prop} (hu:A.units + 1 < cLine) (I:Inv X pins σ H s) (g:DGet H a y (some v)) (ry:RelV y u) (h:∀ w' s',Inv X pins σ H s' -> RelV v w' -> Q w' s') :
 wpAny (model X.prog X.w) A (getItem (.ref a) u) Q E s:=by
 rcases g with ⟨kvs,k,e,ey,l⟩ | ⟨kvs,k,b,e,ey,eb,l⟩
 ·subst ey
  obtain ⟨z,hd,vs,rel,dd⟩:=iV I.hok e
  obtain ⟨w',hw,rw'⟩:=RelO.some_of (v:=v) (o:=valueAt vs k) (by rw [l];exact rel.val k)
  exact wpAny_getItem_of (iU ry) dd.mapOf hw (h w' _ (I.tok _) rw')
 ·subst ey
  cases (show u = Value.ref b from ry)
  obtain ⟨z,hd,xs,rel,dd⟩:=fb I.hok e
  obtain ⟨w',hw,rw'⟩:=RelO.some_of (v:=v) (o:=(atKey xs k).map (·.2)) (by rw [l];exact rel.val k)
  obtain ⟨p,hp,hp2⟩:=Option.map_eq_some_iff.mp hw
  refine wpAny_getItem_heap (tupleKind_room_in1 hu) (eA I.hok eb) dd hp ?_
  rw [hp2]
  exact h w' _ (I.tok _) rw'
theorem gX {h':Heap} {t':Nat} {ob:HO} (I:Inv X pins σ H s) (mu:Mut (H a)) (hs:Heap.SameBut a s.heap h') (he:∃ q,h'.get? a = some q) (new:ObjOk X.prog X.w (upd H a ob) h' a ob) :
 Inv X pins σ (upd H a ob) { s with heap:=h',toks:=t' } :=
 I.write (x:=a) (e:=a) mu (.inl rfl) (fun b q hb z=>(hs.2 b hb).trans z) he new
theorem wx {P:Program} {w:World} {H':Hp} {h':Heap} {kvs:List (Key × V)} {vs:List (Key × Value)} (z:kvs.length <= sizeLine) (hd:(a == sysModules) = false) (rel:KV kvs vs) (dd:h'.DictOf (aD P w) a vs) :
 ObjOk P w H' h' a (.dK kvs):=⟨z,hd,vs,rel,dd⟩
theorem oO {H':Hp} {Q:Unit -> Shared -> Prop} (hu:A.units + 1 < cLine) (I:Inv X pins σ H s) (g:DPut H a y v H') (ry:RelV y u) (rv:RelV v r) (h:∀ s',Inv X pins σ H' s' -> Q () s') :
 wpAny (model X.prog X.w) A (setItem (.ref a) u r) Q E s:=by
 rcases g with ⟨kvs,k,e,ey,l,eH⟩ | ⟨kvs,k,b,e,ey,eb,l,eH⟩
 ·subst ey eH
  obtain ⟨z,hd,vs,rel,dd⟩:=yq I.hok e
  have hz:vs.length <= sizeLine:=by rw [<- rel.length];exact z
  have hl:(bg kvs k v).length <= sizeLine:=by have:=cv kvs k v;omega
  refine wpAny_setItem_pairs (hsz:=hz) (iU ry) dd fun h' dd' hs=>h _ ?_
  have he:∃ q,h'.get? a = some q:=let ⟨q,_,_,hq,_⟩:=dd'; ⟨q,hq⟩
  exact gX I (by rw [e];exact True.intro) hs he (wx hl hd (rel.put k rv) dd')
 ·subst ey eH
  cases (show u = Value.ref b from ry)
  obtain ⟨z,hd,xs,rel,dd⟩:=tj I.hok e
  have hz:xs.length <= sizeLine:=by rw [<- Paired.length rel];exact z
  have hl:(bg kvs k v).length <= sizeLine:=by have:=cv kvs k v;omega
  refine wpAny_setItem_heap (hsz:=hz) (tupleKind_room_in1 hu) (eA I.hok eb) dd fun h' dd' hs=>h _ ?_
  obtain ⟨q,es,ep,hq,h2,h3,h4,_,h5⟩:=dd'
  refine gX I (by rw [e];exact True.intro) hs ⟨q,hq⟩ ⟨hl,hd,_,(rel.put k eb rv).keeps fun c ys ec => ?_,q,es,ep,hq,h2,h3,h4,h5⟩
  rw [aj (sX ec e (fun z=>nomatch z))]
  exact ec
end
section
variable {X:Cx} {pins:List (Addr × Obj)} {σ:St} {H:Hp} {s:Shared} {a:Addr} {kvs:List (Key × V)} {k:Key} {u:Value} {A:Around} {E:Value -> Shared -> Prop}
end
section
variable {X:Cx} {o i e value:Expr} {pos pos' tpos:Pos} {td ty tv:TE}
end
theorem qM {P:Program} {w:World} {H:Hp} (h:Heap) (hb:sysModules < h.objs.size):ObjOk P w H (h.push { cls := .type "dict",data := .dict #[] }) h.objs.size (.dK []) :=
 ⟨Nat.zero_le _,beq_eq_false_iff_ne.mpr (Ne.symm (Nat.ne_of_lt hb)),[], .nil,Heap.DictOf.new h⟩
theorem jm {P:Program} {w:World} {H:Hp} (h:Heap) (hb:sysModules < h.objs.size):ObjOk P w H (h.push { cls := .type "dict",data := .dict #[] }) h.objs.size (.dT []) :=
 ⟨Nat.zero_le _,beq_eq_false_iff_ne.mpr (Ne.symm (Nat.ne_of_lt hb)),[], .nil,_, #[],0,Heap.get?_push_size _ rfl,⟨rfl,rfl,rfl⟩,rfl,rfl,List.nodup_nil⟩
noncomputable def wy:TE:=fun _ H Q => ∀ p,H p = none -> Q (.ref p) (upd H p (.dK []))
noncomputable def wz:TE:=fun _ H Q => ∀ p,H p = none -> Q (.ref p) (upd H p (.dT []))
section
variable {X:Cx} {pos:Pos}
theorem qN:PE X (.Dict [] [] pos) wy:=fun pins s σ H Q I h =>
 wpAny_Dict_empty ⟨.ref s.heap.objs.size,_,I.laid (a:=s.heap.objs.size) (o := .dK []) (t':=s.toks) (fun _ _ q=>Heap.get?_push_of_some _ q) (Nat.le_refl _) (qM s.heap I.big),rfl,h _ (I.hok.fresh (Nat.le_refl _))⟩
theorem qO:PE X (.Dict [] [] pos) wz:=fun pins s σ H Q I h =>
 wpAny_Dict_empty ⟨.ref s.heap.objs.size,_,I.laid (a:=s.heap.objs.size) (o := .dT []) (t':=s.toks) (fun _ _ q=>Heap.get?_push_of_some _ q) (Nat.le_refl _) (jm s.heap I.big),rfl,h _ (I.hok.fresh (Nat.le_refl _))⟩
end
structure M1 (X:Cx) (o:Expr) (m:Str) (apos:Pos) (e:Expr) (cpos:Pos):Prop where
 base:attributeBase o m X.env (eval o X.env) = eval o X.env
 few:((backTo cpos (starEach [e] X.env)).all (fun x => !x.1) && (backToKw cpos (keywordEach [] X.env)).all (fun x=>x.1.isSome)
  && decide (([e]:List Expr).length + ([]:List Keyword).length + (if ([]:List Keyword).isEmpty then 0 else 1) < 30)) = true
 line:(apos.endLine == cpos.line) = true
 trees:backTo cpos (starEach [e] X.env) = [(false,eval e X.env)]
structure M2 (X:Cx) (o:Expr) (m:Str) (apos:Pos) (e f:Expr) (cpos:Pos):Prop where
 base:attributeBase o m X.env (eval o X.env) = eval o X.env
 few:((backTo cpos (starEach [e,f] X.env)).all (fun x => !x.1) && (backToKw cpos (keywordEach [] X.env)).all (fun x=>x.1.isSome)
  && decide (([e,f]:List Expr).length + ([]:List Keyword).length + (if ([]:List Keyword).isEmpty then 0 else 1) < 30)) = true
 line:(apos.endLine == cpos.line) = true
 trees:backTo cpos (starEach [e,f] X.env) = [(false,eval e X.env),(false,eval f X.env)]
noncomputable def IsD (H:Hp) (a:Addr):Prop:=(∃ kvs,Rd H a (.dK kvs)) ∨ ∃ kvs,Rd H a (.dT kvs)
theorem jn {X:Cx} {pins:List (Addr × Obj)} {σ:St} {H:Hp} {s:Shared} {a:Addr} (I:Inv X pins σ H s) (d:IsD H a) :
 s.TypeIs (.ref a) "dict" /\ (∀ b,Value.ref a = .ref b -> ∃ ob,s.heap.get? b = some ob /\ ob.dict = none) /\ (a == sysModules) = false:=by
 rcases d with ⟨kvs,e⟩ | ⟨kvs,e⟩
 ·obtain ⟨_,hd,vs,_,dd⟩:=iV I.hok e
  refine ⟨dd.typeIs,fun b q => ?_,hd⟩
  cases q
  obtain ⟨ob,_,_,h1,h2,_⟩:=dd
  exact ⟨ob,h1,h2.2.1⟩
 ·obtain ⟨_,hd,xs,_,dd⟩:=fb I.hok e
  refine ⟨dd.typeIs,fun b q => ?_,hd⟩
  cases q
  obtain ⟨ob,_,_,h1,h2,_⟩:=dd
  exact ⟨ob,h1,h2.2.1⟩
section
variable {X:Cx} {pins:List (Addr × Obj)} {σ:St} {H:Hp} {s:Shared} {a:Addr} {y d:V} {u r:Value} {o:Option V} {A:Around} {E:Value -> Shared -> Prop}
theorem wB {Q:Value -> Shared -> Prop} (hu:A.units + 1 < cLine) (I:Inv X pins σ H s) (g:DGet H a y o) (ry:RelV y u) (rd:RelV d r) (h:∀ w' s',Inv X pins σ H s' -> RelV (o.getD d) w' -> Q w' s') :
 wpAny (model X.prog X.w) A (call (.builtin "dict.get") [.ref a,u,r]) Q E s:=by
 rcases g with ⟨kvs,k,e,ey,l⟩ | ⟨kvs,k,b,e,ey,eb,l⟩
 ·subst ey
  obtain ⟨z,hd,vs,rel,dd⟩:=iV I.hok e
  refine call_meetsIn PySem.F.slot_dict_get dd.typeIs PySem.F.entry_dict_get (PySem.F.args_dict_get_3 _ _ _) (meets_dict_get_default (aD X.prog X.w) a (iU ry) hd r) ⟨_,dd.mapOf,h _ _ (I.tok _) ?_⟩
  rw [l]
  exact (rel.val k).getD rd
 ·subst ey
  cases (show u = Value.ref b from ry)
  obtain ⟨z,hd,xs,rel,dd⟩:=fb I.hok e
  refine call_meetsIn PySem.F.slot_dict_get dd.typeIs PySem.F.entry_dict_get (PySem.F.args_dict_get_3 _ _ _) (meetsH_dict_get_default (tupleKind (aD X.prog X.w)) a b hd r) ⟨tupleKind_room_in1 hu,k,xs,eA I.hok eb,dd,h _ _ (I.tok _) ?_⟩
  rw [l]
  exact (rel.val k).getD rd
end
noncomputable def wD (td ty tx:TE):TE:=fun σ H Q=>td σ H fun x H1 => ∃ a,x = .ref a /\ IsD H1 a /\ ty σ H1 fun y H2=>tx σ H2 fun z H3 => ∃ o,DGet H3 a y o /\ Q (o.getD z) H3
section
variable {X:Cx} {o e f:Expr} {apos cpos:Pos} {td ty tx:TE}
theorem qP (hu:X.A.units + 1 < cLine) (ho:PE X o td) (he:PE X e ty) (hf:PE X f tx) (m:M2 X o "get" apos e f cpos):PE X (.Call (.Attribute o "get" apos) [e,f] [] cpos) (wD td ty tx):=by
 intro pins s σ H Q I h
 refine wpAny_Call_method m.base m.few m.line PySem.F.plainAttrs_dict PySem.F.slot_dict_get PySem.F.type_dict_get (thn (ho pins s σ H _ I h) fun u s1 ⟨x,H1,I1,rx,a,ex,d,q1⟩ => ?_)
 subst ex
 obtain rfl:u = Value.ref a:=rx
 obtain ⟨t1,t2,_⟩:=jn I1 d
 refine ⟨t1,t2, ?_⟩
 rw [m.trees]
 refine Calls.callWith_builtin rfl (Calls.evalArgs_plain (Calls.spliced_cons (thn (he pins s1 σ H1 _ I1 q1) fun iv s2 ⟨y,H2,I2,ry,q2⟩ =>
  Calls.spliced_cons (thn (hf pins s2 σ H2 _ I2 q2) fun fv s3 ⟨z,H3,I3,rz,ov,g,q3⟩=>Calls.spliced_nil ?_))))
 exact wB hu I3 g ry rz fun w' s4 I4 rw'=>⟨_,H3,I4,rw',q3⟩
end
section
variable {X:Cx} {pins:List (Addr × Obj)} {σ:St} {H:Hp} {s:Shared} {a:Addr} {kvs:List (Key × V)} {A:Around} {E:Value -> Shared -> Prop}
end
section
variable {X:Cx} {pins:List (Addr × Obj)} {σ:St} {H:Hp} {s:Shared} {a:Addr} {y:V} {u:Value} {A:Around} {E:Value -> Shared -> Prop}
end
end L2
namespace L2
open PySem PySem.Spec PyProof.Rows
section
variable {κ:Type} [DecidableEq κ]
end
end L2
namespace L2
open PySem PySem.Spec PyProof.Rows
noncomputable def aY (elt:Expr) (gens:List Comprehension) (scope:Scope) (pos:Pos) (d:Nat) (acc:Value) (env:Env) (k:Sem Fin):Sem Fin :=
 match gens[d + 1]? with
 | some g'=>eval g'.iter env >>= fun x=>standAt g'.iter.pos >>= fun _=>foldedSetIterable g'.iter env x >>= fun x=>holding [x] (pyIter x) >>= fun it' =>
    runOwn (.compStart (.ListComp elt gens scope pos) (d + 1) it' acc env) env >>= fun _=>k
 | none=>(eval elt env >>= fun x=>call (.builtin "list.append") [acc,x] >>= fun _=>pure ()) >>= fun _=>k
noncomputable def bh (ifs:List Expr) (env:Env):Sem Bool :=
 forIn ifs true fun c r=>if r = true then do let ok <- isTrue c env (eval c env);pure (ForInStep.yield ok) else pure (ForInStep.yield r)
theorem jo (elt target iter:Expr) (ifs:List Expr) (gens:List Comprehension) (scope:Scope) (pos:Pos) (d:Nat) (it acc:Value) (env:Env)
 (hd:gens[d]? = some ⟨target,iter,ifs,0⟩) (ha:∀ g',gens[d + 1]? = some g' -> g'.is_async = 0) :
 compTurn (.ListComp elt gens scope pos) d it acc env = (standAt iter.pos >>= fun _=>pyNext it >>= fun r=>match r with
  | none=>pure (.done .next)
  | some v=>letOwnedTupleGo target it v >>= fun _=>assign target env v >>= fun _=>bh ifs env >>= fun ok =>
    (if ok = true then aY elt gens scope pos d acc env (again (.compLoop (.ListComp elt gens scope pos) d it acc env)) else again (.compLoop (.ListComp elt gens scope pos) d it acc env))):=by
 unfold compTurn
 simp only [hd]
 unfold aY bh
 cases hn:gens[d + 1]? with
 | none=>rfl
 | some g' =>
   obtain ⟨t',i',f',a'⟩:=g'
   have e:a' = 0:=ha _ hn
   subst e
   rfl
noncomputable abbrev TC:=St -> Hp -> (St -> Hp -> Prop) -> Prop
noncomputable def di (J:It) (g:TG) (tb:TC) (N:St -> Hp -> Prop) (σ:St) (H:Hp):Prop :=
 ∃ W:Nat -> Nat -> St -> Hp -> Prop,(∃ m,W 0 m σ H) /\ ∀ i m σ H,W i m σ H ->
  (J.stop i H /\ N σ H) ∨ (J.go i H /\ ∃ N':St -> Hp -> Prop,(∀ σ' H',N' σ' H' -> ∃ m',m' < m /\ W (i + 1) m' σ' H') /\ ∀ x H',J.yld i H x H' -> g x σ H' fun σ2 H2=>tb σ2 H2 N')
noncomputable def PB (X:Cx) (F:Sem Fin -> Sem Fin) (t:TC):Prop :=
 ∀ (pins:List (Addr × Obj)) (s:Shared) (σ:St) (H:Hp) (N:St -> Hp -> Prop) (k:Sem Fin) (Q:Fin -> Shared -> Prop) (E:Value -> Shared -> Prop),Inv X pins σ H s -> t σ H N ->
  (∀ s' σ' H',Inv X pins σ' H' s' -> N σ' H' -> wpAny (model X.prog X.w) X.A k Q E s') -> wpAny (model X.prog X.w) X.A (F k) Q E s
section
variable {X:Cx}
theorem nox {α:Type} {m:Sem α} {Q : α -> Shared -> Prop} {E:Value -> Shared -> Prop} {s:Shared} (hx:∀ e s,X.xe e s -> False) (h:wpAny (model X.prog X.w) X.A m Q X.xe s):wpAny (model X.prog X.w) X.A m Q E s :=
 wpAny_mono h (fun _ _ q=>q) fun e s' q=>(hx e s' q).elim
noncomputable def gf (ts:List TT) (tb:TC):TC:=match ts with
 | [] => tb
 | t :: r=>fun σ H N=>t σ H fun b H1=>if b = true then gf r tb σ H1 N else N σ H1
theorem gh {env:Env} {M:Model} {A:Around} {Q:Bool -> Shared -> Prop} {E:Value -> Shared -> Prop} {s:Shared} (h:Q false s):∀ ifs:List Expr,
 wpAny M A (forIn ifs false fun c r=>if r = true then do let ok <- isTrue c env (eval c env);pure (ForInStep.yield ok) else pure (ForInStep.yield r)) Q E s
 | [] => wpAny_pure h
 | c :: r=>by
   rw [List.forIn_cons]
   simp only [Bool.false_eq_true,if_false]
   exact wpAny_bind (wpAny_pure (gh h r))
theorem jq (hx:∀ e s,X.xe e s -> False) {tb:TC} {N:St -> Hp -> Prop}:∀ {ifs:List Expr} {ts:List TT},Paired (fun c t=>PT X c t) ifs ts ->
 ∀ (pins:List (Addr × Obj)) (s:Shared) (σ:St) (H:Hp) (E:Value -> Shared -> Prop),Inv X pins σ H s -> gf ts tb σ H N ->
 wpAny (model X.prog X.w) X.A (bh ifs X.env) (fun ok s' => ∃ H',Inv X pins σ H' s' /\ if ok = true then tb σ H' N else N σ H') E s
 | _,_, .nil=>fun pins s σ H E I h=>wpAny_pure ⟨H,I,by rw [if_pos rfl];exact h⟩
 | c :: ifs,_, .cons (b:=t) hc hr=>by
   intro pins s σ H E I h
   have ih:=jq hx hr (tb:=tb) (N:=N) pins
   unfold bh at ih ⊢
   rw [List.forIn_cons]
   simp only [if_true]
   refine wpAny_bind (wpAny_bind (nox hx (thn (hc pins s σ H _ I h) fun b s1 ⟨H1,I1,q1⟩=>wpAny_pure ?_)))
   cases b with
   | false =>
     rw [if_neg Bool.false_ne_true] at q1
     exact gh ⟨H1,I1,by rw [if_neg Bool.false_ne_true];exact q1⟩ ifs
   | true =>
     rw [if_pos rfl] at q1
     exact ih s1 σ H1 E I1 q1
theorem qQ (hx:∀ e s,X.xe e s -> False) {F:Sem Fin -> Sem Fin} {tb:TC} (hb:PB X F tb) {ifs:List Expr} {ts:List TT} (hp:Paired (fun c t=>PT X c t) ifs ts) :
 PB X (fun k=>bh ifs X.env >>= fun ok=>if ok = true then F k else k) (gf ts tb):=by
 intro pins s σ H N k Q E I h hk
 refine wpAny_bind (thn (jq hx hp pins s σ H E I h) fun ok s1 ⟨H1,I1,q1⟩ => ?_)
 cases ok with
 | false =>
   rw [if_neg Bool.false_ne_true] at q1 ⊢
   exact hk s1 σ H1 I1 q1
 | true =>
   rw [if_pos rfl] at q1 ⊢
   exact hb pins s1 σ H1 N k Q E I1 q1 hk
noncomputable def tm (p:Addr) (te:TE):TC:=fun σ H N=>te σ H fun x H1 => ∃ xs,H1 p = some (.lst xs) /\ xs.length < sizeLine /\ N σ (upd H1 p (.lst (xs ++ [x])))
theorem gY (hx:∀ e s,X.xe e s -> False) {elt:Expr} {gens:List Comprehension} {scope:Scope} {pos:Pos} {d:Nat} {p:Addr} {te:TE} (he:PE X elt te) (hd:gens[d + 1]? = none) :
 PB X (aY elt gens scope pos d (.ref p) X.env) (tm p te):=by
 intro pins s σ H N k Q E I h hk
 unfold aY
 rw [hd]
 refine wpAny_bind (wpAny_bind (nox hx (thn (he pins s σ H _ I h) fun u s1 ⟨x,H1,I1,r1,xs,e1,l1,q1⟩ => ?_)))
 refine wpAny_bind (nox hx (thn (ie (X:=X) pins s1 σ H1 (.ref p) [x] (.ref p) [u] (fun _ H2=>N σ H2) I1 rfl (.cons r1 .nil) ⟨p,xs,x,rfl,rfl,e1,l1,q1⟩) fun v s2 ⟨_,H2,I2,_,q2⟩ => ?_))
 exact wpAny_pure (hk s2 σ H2 I2 q2)
theorem ik (hx:∀ e s,X.xe e s -> False) (hc:X.calm = true) {elt target iter:Expr} {ifs:List Expr} {gens:List Comprehension} {scope:Scope} {pos:Pos} {d:Nat} {acc:Value}
 (hd:gens[d]? = some ⟨target,iter,ifs,0⟩) (ha:∀ g',gens[d + 1]? = some g' -> g'.is_async = 0) {g:TG} (hg:PG X target g) {tb:TC}
 (hb:PB X (fun k=>bh ifs X.env >>= fun ok=>if ok = true then aY elt gens scope pos d acc X.env k else k) tb)
 {pins:List (Addr × Obj)} {s:Shared} {σ:St} {H:Hp} {N:St -> Hp -> Prop} {it:Addr} {fp:List Addr} {tn:Nat -> Heap -> Prop} {J:It} (I:Inv X pins σ H s) (T:ee X.prog X.w X.K target J fp it tn)
 (t0:tn 0 s.heap) (f2:∀ b ∈ fp,bU X pins H b) (h:di J g tb N σ H) :
 codeAny (model X.prog X.w) X.A (.compLoop (.ListComp elt gens scope pos) d (.ref it) acc X.env) (fun r s'=>match r with | .ok _ => ∃ σ' H',Inv X pins σ' H' s' /\ N σ' H' | .error _=>False) s:=by
 obtain ⟨W,⟨m0,w0⟩,turn⟩:=h
 have stat:∀ {H':Hp},(∀ b ∈ fp,H' b = none) -> ∀ b ∈ fp,bU X pins H' b:=fun hn b hb=>⟨hn b hb,(f2 b hb).2⟩
 refine codeAny_loop rfl (fun n s' => ∃ i σ' H',Inv X pins σ' H' s' /\ tn i s'.heap /\ (∀ b ∈ fp,H' b = none) /\ W i n σ' H') ?_ m0 ⟨0, σ,H,I,t0,fun b hb=>(f2 b hb).1,w0⟩
 rintro n s3 ⟨i, σ3,H3,I3,st3,fr3,w3⟩
 show wpAny _ _ ((compTurn (.ListComp elt gens scope pos) d (.ref it) acc X.env).onRaise (fun x=>do noteFrame x X.env;theTreesLotGoes x)) _ _ s3
 refine wpAny_noted ?_
 rw [jo elt target iter ifs gens scope pos d (.ref it) acc X.env hd ha]
 refine wpAny_bind (wpAny_standAt (wpAny_bind ?_))
 show wpAny (model X.prog X.w) X.A _ _ _ s3
 rcases turn i n σ3 H3 w3 with ⟨stop,qn⟩ | ⟨go,N',hN,step⟩
 ·refine thn (T.done X rfl rfl rfl hc i pins s3 σ3 H3 _ I3 (stat fr3) st3 stop) fun r s4 ⟨hr,I4⟩ => ?_
  subst hr
  exact wpAny_pure ⟨σ3,H3,I4,qn⟩
 ·refine thn (T.item X rfl rfl rfl hc i pins s3 σ3 H3 _ I3 (stat fr3) st3 go) fun r s4 ⟨u,hr,h4⟩ => ?_
  subst hr
  refine wpAny_bind (thn h4 fun _ s5 ⟨x,H5,I5,r5,y5,st5,fr5⟩ => ?_)
  have I5':=I5.pinned (stat fr5) (T.obj _ _ st5)
  refine wpAny_bind (nox hx (thn (hg _ s5 σ3 H5 x u _ I5' r5 (step x H5 y5)) fun _ s6 ⟨σ6,H6,I6,q6⟩ => ?_))
  refine hb _ s6 σ6 H6 N' (again (.compLoop (.ListComp elt gens scope pos) d (.ref it) acc X.env)) _ _ I6 q6 fun s7 σ7 H7 I7 n7 => ?_
  obtain ⟨m',hm,w7⟩:=hN σ7 H7 n7
  refine wpAny_pure ⟨rfl,m',hm,i + 1, σ7,H7,I7.unpinned,T.keep _ _ _ st5 fun b hb o e=>(I7.pin (b,o) (List.mem_append_right _ (List.mem_append_right _ (cD hb e)))).1,fun b hb => ?_,w7⟩
  obtain ⟨o,e,dd⟩:=T.obj _ _ st5 b hb
  exact (I7.pin (b,o) (List.mem_append_right _ (List.mem_append_right _ (cD hb e)))).2.1
theorem gi {elt target iter:Expr} {ifs:List Expr} {gens:List Comprehension} {scope:Scope} {pos:Pos} {d:Nat} {it acc:Value} {env:Env} {prog:Program} {w:World} {A:Around} {R:Result -> Shared -> Prop} {s:Shared}
 (hd:gens[d]? = some ⟨target,iter,ifs,0⟩)
 (h0:codeAny (model prog w) A (.compLoop (.ListComp elt gens scope pos) d it acc env) R s)
 (h:wpAny (model prog w) A (pyIter it) (fun it' s'=>codeAny (model prog w) A (.compLoop (.ListComp elt gens scope pos) d it' acc env) R s')
   (notedBy (model prog w) A env fun x s'=>R (.error x) s') s) :
 codeAny (model prog w) A (.compStart (.ListComp elt gens scope pos) d it acc env) R s:=by
 refine codeAny_of_tree ?_
 show wpAny _ _ ((compStart (.ListComp elt gens scope pos) d it acc env).onRaise (fun x=>do noteFrame x env;standAt theWindowsPlace)) _ _ s
 refine wpAny_notedAt ?_
 unfold compStart
 have hc:(clausesOf (.ListComp elt gens scope pos))[d]? = some ⟨target,iter,ifs,0⟩:=hd
 rw [hc]
 show wpAny _ _ (ask >>= _) _ _ s
 refine wpAny_bind (wpAny_askSetting (wpAny_ite ?_))
 split
 ·first
   | exact wpAny_bind (wpAny_pure (wpAny_pure (And.intro rfl h0)))
   | exact wpAny_pure (And.intro rfl h0)
 ·first
   | exact wpAny_bind (wpAny_rule (wpAny_bind (wpAny_standAt (wpAny_bind (wpAny_mono h (fun it' s' h'=>wpAny_pure (And.intro rfl h')) fun _ _ x=>x)))))
   | (refine wpAny_bind (wpAny_rule ?_);show wpAny _ _ (standAt iter.pos >>= _) _ _ s;exact wpAny_bind (wpAny_standAt (wpAny_bind (wpAny_mono h (fun it' s' h'=>wpAny_pure (And.intro rfl h')) fun _ _ x=>x))))
theorem im (hx:∀ e s,X.xe e s -> False) (hc:X.calm = true) {elt target iter:Expr} {ifs:List Expr} {gens:List Comprehension} {scope:Scope} {pos:Pos} {d:Nat} {acc:Value}
 (hd:gens[d + 1]? = some ⟨target,iter,ifs,0⟩) (ha:∀ g',gens[d + 1 + 1]? = some g' -> g'.is_async = 0) {wi:TI} (hi:PI X target iter wi) {g:TG} (hg:PG X target g) {tb:TC}
 (hb:PB X (fun k=>bh ifs X.env >>= fun ok=>if ok = true then aY elt gens scope pos (d + 1) acc X.env k else k) tb)
 (hs:∀ x,foldedSetIterable iter X.env x = pure x) :
 PB X (aY elt gens scope pos d acc X.env) (fun σ H N=>wi σ H fun J H1=>di J g tb N σ H1):=by
 intro pins s σ H N k Q E I h hk
 unfold aY
 rw [hd]
 refine wpAny_bind (nox hx (thn (hi pins s σ H _ I h) fun v s1 h1 => ?_))
 refine wpAny_bind (wpAny_standAt (wpAny_bind (wpAny_of_eq (hs v) ?_)))
 refine wpAny_bind (wpAny_holding (nox hx (thn h1 fun itv s2 h2 => ?_)))
 obtain ⟨it,fp,tn,J,H2,e,I2,T,st2,f2,hw⟩:=h2
 subst e
 have loop:=ik (acc:=acc) hx hc hd ha hg hb I2 T st2 f2 hw
 refine wpAny_bind (wpAny_runOwn (codeAny_mono (gi (R:=fun r s'=>match r with | .ok _ => ∃ σ' H',Inv X pins σ' H' s' /\ N σ' H' | .error _=>False) hd loop (T.self _ 0 _ _ _ st2 loop)) fun r s3 hr => ?_))
 cases r with
 | error e=>exact hr.elim
 | ok f =>
   obtain ⟨σ3,H3,I3,n3⟩:=hr
   exact hk s3 σ3 H3 I3 n3
noncomputable def aP (cells:List (Str × Addr)):List (Str × NameKind) -> List (Str × Addr) -> List (Str × Addr)
 | [],acc=>acc
 | (n,k) :: r,acc=>if k == .free then (match cells.lookup n with | some c=>aP cells r ((n,c) :: acc) | none=>aP cells r acc) else aP cells r acc
theorem fA {env:Env}:∀ (names:List (Str × NameKind)) (acc:List (Str × Addr)),(∀ x ∈ names,x.2 = .free -> (env.cells.lookup x.1).isSome = true) ->
 (forIn names acc fun (x:Str × NameKind) (r:List (Str × Addr))=>(match x with | (name,kind)=>if (kind == NameKind.free) = true then do let c <- cellOf env name;pure (ForInStep.yield ((name,c) :: r)) else pure (ForInStep.yield r):Sem (ForInStep (List (Str × Addr))))) = (pure (aP env.cells names acc):Sem (List (Str × Addr)))
 | [],acc,_=>rfl
 | (n,k) :: r,acc,h=>by
  rw [List.forIn_cons]
  have ih:=fun acc'=>fA r acc' fun x hx=>h x (List.mem_cons_of_mem _ hx)
  unfold aP
  by_cases hk:(k == NameKind.free) = true
  ·obtain ⟨c,hc⟩:=Option.isSome_iff_exists.mp (h (n,k) List.mem_cons_self (beq_iff_eq.mp hk))
   have hc':env.cells.lookup n = some c:=hc
   have e1:cellOf env n = pure c:=by unfold cellOf;rw [hc']
   simp only [hk,if_true,e1,hc',pure_bind]
   exact ih _
  ·simp only [hk,if_false,pure_bind]
   exact ih _
theorem gj {scope:Scope} {env:Env} (h:∀ x ∈ scope.names,x.2 = .free -> (env.cells.lookup x.1).isSome = true):closureFor scope env = pure (aP env.cells scope.names []):=by
 unfold closureFor
 have e:=fA (env:=env) scope.names [] h
 simp only [bind_pure]
 exact e
theorem cE {cells:List (Str × Addr)} {y:Str} {c:Addr}:∀ {names:List (Str × NameKind)} {acc:List (Str × Addr)},(y,c) ∈ aP cells names acc -> (y,c) ∈ acc ∨ (cells.lookup y = some c /\ (y,NameKind.free) ∈ names)
 | [],acc,h => .inl h
 | (n,k) :: r,acc,h=>by
  unfold aP at h
  by_cases hk:(k == NameKind.free) = true
  ·rw [if_pos hk] at h
   have hk':k = .free:=beq_iff_eq.mp hk
   subst hk'
   cases hl:cells.lookup n with
   | none =>
     rw [hl] at h
     rcases cE h with z | ⟨z1,z2⟩
     ·exact .inl z
     ·exact .inr ⟨z1,List.mem_cons_of_mem _ z2⟩
   | some c' =>
     rw [hl] at h
     rcases cE h with z | ⟨z1,z2⟩
     ·rcases List.mem_cons.mp z with e | z
      ·cases e
       exact .inr ⟨hl,List.mem_cons_self⟩
      ·exact .inl z
     ·exact .inr ⟨z1,List.mem_cons_of_mem _ z2⟩
  ·rw [if_neg hk] at h
   rcases cE h with z | ⟨z1,z2⟩
   ·exact .inl z
   ·exact .inr ⟨z1,List.mem_cons_of_mem _ z2⟩
theorem cF {cells:List (Str × Addr)} {y:Str} {c:Addr} (hc:cells.lookup y = some c):∀ {names:List (Str × NameKind)} {acc:List (Str × Addr)},((y,c) ∈ acc ∨ (y,NameKind.free) ∈ names) -> (y,c) ∈ aP cells names acc
 | [],acc,h=>by
  rcases h with h | h
  ·exact h
  ·simp at h
 | (n,k) :: r,acc,h=>by
  unfold aP
  by_cases hk:(k == NameKind.free) = true
  ·rw [if_pos hk]
   have hk':k = .free:=beq_iff_eq.mp hk
   subst hk'
   cases hl:cells.lookup n with
   | none =>
     refine cF hc ?_
     rcases h with h | h
     ·exact .inl h
     ·rcases List.mem_cons.mp h with e | h
      ·cases e;rw [hl] at hc;cases hc
      ·exact .inr h
   | some c' =>
     refine cF hc ?_
     rcases h with h | h
     ·exact .inl (List.mem_cons_of_mem _ h)
     ·rcases List.mem_cons.mp h with e | h
      ·cases e;rw [hl] at hc;cases hc;exact .inl List.mem_cons_self
      ·exact .inr h
  ·rw [if_neg hk]
   refine cF hc ?_
   rcases h with h | h
   ·exact .inl h
   ·rcases List.mem_cons.mp h with e | h
    ·cases e;exact absurd rfl hk
    ·exact .inr h
theorem cz:∀ (names:List (Str × NameKind)) (n:Nat) (acc acc':List (Str × Addr)),cellsFrom n names (acc ++ acc') = cellsFrom n names acc ++ acc'
 | [],_,_,_=>rfl
 | (x,k) :: r,n,acc,acc'=>by
  unfold cellsFrom
  by_cases hk:(k == NameKind.cell) = true
  ·rw [if_pos hk,if_pos hk]
   exact cz r (n + 1) ((x,n) :: acc) acc'
  ·rw [if_neg hk,if_neg hk]
   exact cz r n acc acc'
theorem cA:∀ {names:List (Str × NameKind)} {n:Nat} {acc:List (Str × Addr)} {y:Str} {c:Addr},(y,c) ∈ cellsFrom n names acc -> (y,c) ∈ acc ∨ (n <= c /\ (y,NameKind.cell) ∈ names)
 | [],_,_,_,_,h => .inl h
 | (x,k) :: r,n,acc,y,c,h=>by
  unfold cellsFrom at h
  by_cases hk:(k == NameKind.cell) = true
  ·rw [if_pos hk] at h
   have hk':k = .cell:=beq_iff_eq.mp hk
   subst hk'
   rcases cA h with z | ⟨z1,z2⟩
   ·rcases List.mem_cons.mp z with e | z
    ·cases e;exact .inr ⟨Nat.le_refl _,List.mem_cons_self⟩
    ·exact .inl z
   ·exact .inr ⟨Nat.le_of_succ_le z1,List.mem_cons_of_mem _ z2⟩
  ·rw [if_neg hk] at h
   rcases cA h with z | ⟨z1,z2⟩
   ·exact .inl z
   ·exact .inr ⟨z1,List.mem_cons_of_mem _ z2⟩
structure aZ (sc osc:Scope) (oN N':List Str) (fr:List (Option Nat)):Prop where
 kind:sc.kind = .function
 nd:(sc.names.map (·.1)).Nodup
 ndN:N'.Nodup
 free:∀ x ∈ sc.names,x.2 = .free -> osc.names.lookup x.1 = some .cell ∨ osc.names.lookup x.1 = some .free
 len:fr.length = N'.length
 fr:∀ (i j:Nat) (x:Str),N'[i]? = some x -> fr[i]? = some (some j) -> oN[j]? = some x /\ (x,NameKind.free) ∈ sc.names
noncomputable def inh (fr:List (Option Nat)) (σ:St):St:=fr.map fun o=>o.bind fun j=>(σ[j]?).join
noncomputable def ba (X:Cx) (sc:Scope) (L:Addr):Env :=
 { scope:=relabel sc X.env,locals:=L,globals:=X.env.globals,cells:=cellsFrom (L + 1) sc.names (aP X.env.cells sc.names []),qual:=X.env.qual,func:=none,code:=X.env.code,frame:=X.env.frame,builtins:=X.env.builtins }
noncomputable def aA (X:Cx) (sc:Scope) (N':List Str) (s:Shared) (H:Hp) (fp:List Addr):Cx :=
 { X with N:=N',s₀ := s,H₀ := H,env:=ba X sc s.heap.objs.size,outer:=X.stack,stack:=X.stack,ex:=fp,fn:=fun x=>sc.names.lookup x == some .cell,pn := [],xe:=fun _ _=>False }
theorem aO:∀ {l:List (Str × NameKind)} {x:Str} {k:NameKind},(l.map (·.1)).Nodup -> (x,k) ∈ l -> l.lookup x = some k
 | (y,k') :: r,x,k,nd,h=>by
  have nd':(y :: r.map (·.1)).Nodup:=nd
  obtain ⟨n1,n2⟩:=List.nodup_cons.mp nd'
  rw [List.lookup_cons]
  rcases List.mem_cons.mp h with e | hm
  ·cases e;simp
  ·have hne:(x == y) = false:=by
    refine beq_eq_false_iff_ne.mpr fun e => ?_
    subst e
    exact n1 (List.mem_map.mpr ⟨(x,k),hm,rfl⟩)
   rw [hne]
   exact aO n2 hm
theorem cj {env:Env}:∀ {names:List (Str × NameKind)} {x:Str},
 (names.map fun (n,k)=>if (k == NameKind.free && env.scope.kind == .function && env.kindOf n == some .cell) then (n,NameKind.cell) else (n,k)).lookup x =
   (names.lookup x).map fun k=>if (k == NameKind.free && env.scope.kind == .function && env.kindOf x == some .cell) then NameKind.cell else k
 | [],_=>rfl
 | (n,k) :: r,x=>by
  have ih:=cj (env:=env) (names:=r) (x:=x)
  show List.lookup x ((if (k == NameKind.free && env.scope.kind == .function && env.kindOf n == some .cell) = true then (n,NameKind.cell) else (n,k)) :: _) = _
  rw [List.lookup_cons (a:=x) (b:=k)]
  by_cases hx:x = n
  ·subst hx
   simp only [beq_self_eq_true]
   show _ = some (if (k == NameKind.free && env.scope.kind == .function && env.kindOf x == some .cell) = true then NameKind.cell else k)
   by_cases hc:(k == NameKind.free && env.scope.kind == .function && env.kindOf x == some .cell) = true
   ·rw [if_pos hc,if_pos hc,List.lookup_cons];simp only [beq_self_eq_true]
   ·rw [if_neg hc,if_neg hc,List.lookup_cons];simp only [beq_self_eq_true]
  ·have hb:(x == n) = false:=beq_eq_false_iff_ne.mpr hx
   rw [hb]
   by_cases hc:(k == NameKind.free && env.scope.kind == .function && env.kindOf n == some .cell) = true
   ·rw [if_pos hc,List.lookup_cons,hb];exact ih
   ·rw [if_neg hc,List.lookup_cons,hb];exact ih
section
variable {pins:List (Addr × Obj)} {σ:St} {H:Hp} {s:Shared} {sc:Scope} {N':List Str} {fr:List (Option Nat)} {fp:List Addr}
theorem eB (I:Inv X pins σ H s) (B:aZ sc X.env.scope X.N N' fr):∀ x ∈ sc.names,x.2 = .free -> (X.env.cells.lookup x.1).isSome = true:=fun x hx e=>by
 obtain ⟨c,hc⟩:=I.ok.has x.1 (B.free x hx e)
 rw [hc];rfl
theorem oP (I:Inv X pins σ H s) (f2:∀ b ∈ fp,bU X pins H b) (hfo:∀ b ∈ fp,b < s.heap.objs.size) (B:aZ sc X.env.scope X.N N' fr) :
 Inv (aA X sc N' s H fp) [] (inh fr σ) H { s with heap:=pushCells (s.heap.push { cls := .type "dict",data := .dict #[] }) sc.names }:=by
 have hkp:∀ b o,s.heap.get? b = some o -> (pushCells (s.heap.push { cls := .type "dict",data := .dict #[] }) sc.names).get? b = some o:=fun b o e=>pushCells_keeps _ _ b o (Heap.get?_push_of_some _ e)
 have ok:=cellsFrom_ok sc.names (s.heap.push { cls := .type "dict",data := .dict #[] }) (s.heap.objs.size + 1) [] ⟨fun _ _ hm=>(nomatch hm),List.Pairwise.nil⟩ (by rw [Heap.size_push];exact Nat.le_refl _)
 rw [Heap.size_push] at ok
 have capp:cellsFrom (s.heap.objs.size + 1) sc.names (aP X.env.cells sc.names []) = cellsFrom (s.heap.objs.size + 1) sc.names [] ++ aP X.env.cells sc.names []:=cz sc.names _ [] _
 have cof:∀ x c,(ba X sc s.heap.objs.size).cells.lookup x = some c -> ((x,c) ∈ cellsFrom (s.heap.objs.size + 1) sc.names [] /\ s.heap.objs.size < c) ∨ (X.env.cells.lookup x = some c /\ (x,NameKind.free) ∈ sc.names):=fun x c e=>by
  have m:=PySem.mem_of_lookup e
  have m':(x,c) ∈ cellsFrom (s.heap.objs.size + 1) sc.names (aP X.env.cells sc.names []):=m
  rw [capp] at m'
  rcases List.mem_append.mp m' with z | z
  ·exact .inl ⟨z,(ok.empty x c z).2⟩
  ·rcases cE z with q | q
   ·simp at q
   ·exact .inr q
 have cOld:∀ x c,X.env.cells.lookup x = some c -> c < s.heap.objs.size:=fun x c e=>by
  obtain ⟨v,q⟩:=I.cell x c e
  exact q.lt
 have kindF:∀ x,(x,NameKind.free) ∈ sc.names -> (ba X sc s.heap.objs.size).kindOf x = some .cell ∨ (ba X sc s.heap.objs.size).kindOf x = some .free:=fun x hx=>by
  have e1:sc.names.lookup x = some .free:=aO B.nd hx
  have e2:(ba X sc s.heap.objs.size).kindOf x = _:=cj (env:=X.env) (names:=sc.names) (x:=x)
  rw [e1] at e2
  rw [e2]
  by_cases hc:(NameKind.free == NameKind.free && X.env.scope.kind == .function && X.env.kindOf x == some .cell) = true
  ·exact .inl (by simp only [Option.map_some,if_pos hc])
  ·exact .inr (by simp only [Option.map_some,if_neg hc])
 have cellF:∀ x c,(x,NameKind.free) ∈ sc.names -> X.env.cells.lookup x = some c -> (ba X sc s.heap.objs.size).cells.lookup x = some c:=fun x c hx hc=>by
  have m:=cF (acc := []) hc (.inr hx)
  have m2:(x,c) ∈ (ba X sc s.heap.objs.size).cells:=by
   show (x,c) ∈ cellsFrom (s.heap.objs.size + 1) sc.names (aP X.env.cells sc.names [])
   rw [capp]
   exact List.mem_append_right _ m
  cases hl:(ba X sc s.heap.objs.size).cells.lookup x with
  | none =>
    exfalso
    have:∀ {l:List (Str × Addr)},(x,c) ∈ l -> l.lookup x = none -> False:=by
     intro l
     induction l with
     | nil=>intro h;simp at h
     | cons a r ih =>
       intro h e
       obtain ⟨y,d⟩:=a
       rw [List.lookup_cons] at e
       rcases List.mem_cons.mp h with z | z
       ·cases z;simp at e
       ·by_cases hxy:(x == y) = true
        ·rw [hxy] at e;cases e
        ·simp only [Bool.not_eq_true] at hxy
         rw [hxy] at e
         exact ih z e
    exact this m2 hl
  | some c' =>
    rcases cof x c' hl with ⟨z,_⟩ | ⟨z,_⟩
    ·rcases cA z with q | ⟨_,q⟩
     ·simp at q
     ·have a1:=aO B.nd hx
      have a2:=aO B.nd q
      rw [a1] at a2;cases a2
    ·rw [hc] at z;rw [z]
 have kindC:∀ x,(ba X sc s.heap.objs.size).kindOf x = some .cell -> (x,NameKind.cell) ∈ sc.names ∨ (x,NameKind.free) ∈ sc.names:=fun x e=>by
  have e2:(ba X sc s.heap.objs.size).kindOf x = _:=cj (env:=X.env) (names:=sc.names) (x:=x)
  rw [e2] at e
  cases hl:sc.names.lookup x with
  | none=>rw [hl] at e;cases e
  | some k =>
    rw [hl] at e
    have m:=PySem.mem_of_lookup hl
    cases k with
    | cell=>exact .inl m
    | free=>exact .inr m
    | «local» => simp at e
    | globalImplicit=>simp at e
    | globalExplicit=>simp at e
 have kindFr:∀ x,(ba X sc s.heap.objs.size).kindOf x = some .free -> (x,NameKind.free) ∈ sc.names:=fun x e=>by
  have e2:(ba X sc s.heap.objs.size).kindOf x = _:=cj (env:=X.env) (names:=sc.names) (x:=x)
  rw [e2] at e
  cases hl:sc.names.lookup x with
  | none=>rw [hl] at e;cases e
  | some k =>
    rw [hl] at e
    have m:=PySem.mem_of_lookup hl
    cases k with
    | free=>exact m
    | cell=>simp at e
    | «local» => simp at e
    | globalImplicit=>simp at e
    | globalExplicit=>simp at e
 refine ⟨⟨I.ok.mod,B.kind,I.ok.glob,I.ok.blt,Nat.le_refl _,fun y z c h1 h2 => ?_,fun y hy => ?_,fun y c hf h => ?_,I.ok.hd,I.ok.frames, .inl rfl,fun b hb=>⟨?_,fun x c e => ?_⟩,fun b o e=>I.bs b o e, ?_,fun b o e hb => ?_,fun b hb => ?_,I.stack,I.stkFree⟩,
  rfl,I.bare,Un.kept hkp,⟨_,(Heap.Ns.new s.heap (.type "dict")).keeps (pushCells_keeps _ _),fun i x v h1 h2 h3 => ?_⟩,fun y c h => ?_,I.hok.fresh (Nat.le_refl _),fun y c h => ?_,fun p hp=>absurd (show p ∈ ([]:List (Addr × Obj)) from hp) (by simp),I.hok.kept hkp, ?_⟩
 ·rcases cof y c h1 with ⟨a1,a2⟩ | ⟨a1,a2⟩
  ·rcases cof z c h2 with ⟨b1,b2⟩ | ⟨b1,b2⟩
   ·exact name_of_addr ok.apart a1 b1
   ·exact absurd (cOld z c b1) (Nat.not_lt.mpr (Nat.le_of_lt a2))
  ·rcases cof z c h2 with ⟨b1,b2⟩ | ⟨b1,b2⟩
   ·exact absurd (cOld y c a1) (Nat.not_lt.mpr (Nat.le_of_lt b2))
   ·exact I.ok.inj y z c a1 b1
 ·have hy':(y,NameKind.cell) ∈ sc.names ∨ (y,NameKind.free) ∈ sc.names:=by
   rcases hy with hy | hy
   ·exact kindC y hy
   ·exact .inr (kindFr y hy)
  rcases hy' with q | q
  ·exact Option.isSome_iff_exists.mp (PySem.W.cellsFrom_some sc.names _ _ (.inl (aO B.nd q)))
  ·obtain ⟨c,hc⟩:=Option.isSome_iff_exists.mp (eB I B _ q rfl)
   exact ⟨c,cellF y c q hc⟩
 ·have hf':(sc.names.lookup y == some .cell) = true:=hf
  have hf2:sc.names.lookup y = some .cell:=by simpa using hf'
  rcases cof y c h with ⟨_,a2⟩ | ⟨_,a2⟩
  ·exact Nat.le_of_lt a2
  ·rw [aO B.nd a2] at hf2;cases hf2
 ·exact Nat.ne_of_lt (hfo b hb)
 ·rcases cof x c e with ⟨_,a2⟩ | ⟨a1,_⟩
  ·exact Nat.ne_of_gt (Nat.lt_trans (hfo b hb) a2)
  ·exact (f2 b hb).2.2.2.2.1 x c a1
 ·exact Nat.le_trans I.ok.bsz I.sz
 ·obtain ⟨f0,f1,f3,f4,f5,f6⟩:=f2 b hb
  rcases f4 with z | z
  ·exact I.ok.noex b o e z
  ·exact absurd (Nat.lt_of_lt_of_le (Nat.lt_of_lt_of_le (Heap.lt_size e) I.ok.bsz) z) (Nat.lt_irrefl _)
 ·obtain ⟨f0,f1,f3,f4,f5,f6⟩:=f2 b hb
  exact fun z=>(List.mem_cons.mp (I.stkSub b z)).elim f1 f3
 ·have hi:∃ j,fr[i]? = some (some j) /\ σ[j]? = some (some v):=by
   unfold inh at h2
   rw [List.getElem?_map] at h2
   cases e:fr[i]? with
   | none=>rw [e] at h2;cases h2
   | some o =>
     rw [e] at h2
     cases o with
     | none=>cases h2
     | some j =>
       refine ⟨j,rfl, ?_⟩
       have h2':some ((σ[j]?).join) = some (some v):=h2
       cases e' : σ[j]? with
       | none=>rw [e'] at h2';cases h2'
       | some w=>rw [e'] at h2';cases h2';rfl
  obtain ⟨j,e1,e2⟩:=hi
  obtain ⟨n1,n2⟩:=B.fr i j x h1 e1
  obtain ⟨m,hn,hl⟩:=I.loc
  have hv:Vis X.env.scope x := .inr (B.free (x, .free) n2 rfl)
  obtain ⟨u,ru,lk⟩:=hl j x v n1 e2 hv
  refine ⟨u,ru, .inr ⟨kindF x n2, ?_⟩⟩
  rcases lk with ⟨k1,_⟩ | ⟨_,c,hc,hcell⟩
  ·have k1':X.env.scope.names.lookup x = some .local:=k1
   rcases B.free (x, .free) n2 rfl with z | z
   ·rw [k1'] at z;cases z
   ·rw [k1'] at z;cases z
  ·exact ⟨c,cellF x c n2 hc,hcell.keeps hkp⟩
 ·rcases cof y c h with ⟨a1,a2⟩ | ⟨a1,a2⟩
  ·exact ⟨_,(ok.empty y c a1).1⟩
  ·obtain ⟨v,q⟩:=I.cell y c a1
   exact ⟨v,q.keeps hkp⟩
 ·rcases cof y c h with ⟨a1,a2⟩ | ⟨a1,a2⟩
  ·exact I.hok.fresh (Nat.le_of_lt a2)
  ·exact I.freeC y c a1
 ·show (inh fr σ).length = N'.length
  unfold inh
  rw [List.length_map]
  exact B.len
theorem io {σ':St} {H':Hp} {s':Shared} {h':Heap} (I:Inv X pins σ H s) (f2:∀ b ∈ fp,bU X pins H b) (J:Inv (aA X sc N' s H fp) [] σ' H' s') (hs:Heap.SameBut s.heap.objs.size s'.heap h') :
 Inv X pins σ H' { s' with heap:=h' }:=by
 have u:Un (frs X.stack) fp H H' s.heap s'.heap:=J.base
 have ne:∀ b o,s.heap.get? b = some o -> b ≠ s.heap.objs.size:=fun b o e=>Nat.ne_of_lt (Heap.lt_size e)
 refine I.call' (s' := { s' with heap:=h' }) (ch:=fp) J.os ⟨fun b o e n hb hx => ?_,fun b o e n hb hx => ?_,u.free,fun b o e hx => ?_,u.tups,u.frzs,u.tbls⟩ (fun b v e => ?_) J.bare fun b hb => ?_
 ·exact (hs.2 b (ne b o e)).trans (u.keep b o e n hb hx)
 ·obtain ⟨sl,q⟩:=u.slot b o e n hb hx
  exact ⟨sl,(hs.2 b (ne b o e)).trans q⟩
 ·obtain ⟨o',q⟩:=u.there b o e hx
  exact ⟨o',(hs.2 b (ne b o e)).trans q⟩
 ·refine (J.hok b v e).stay (fun c w hc q=>(hs.2 c ?_).trans q) (fun _ q=>q) fun _ _ q=>q
  have fr:H' s.heap.objs.size = none:=J.free
  rcases hc with z | z
  ·rw [z];intro z2;rw [z2,fr] at e;cases e
  ·intro z2;rw [z2,fr] at z;cases z
 ·obtain ⟨f0,f1,f3,f4,f5,f6⟩:=f2 b hb
  exact ⟨f4,f1,f5,f6⟩
theorem iS {Q:Env -> Shared -> Prop} {E:Value -> Shared -> Prop} {M:Model} {A:Around}
 (h:Q { scope:=sc,locals:=s.heap.objs.size,globals:=X.env.globals,cells:=cellsFrom (s.heap.objs.size + 1) sc.names (aP X.env.cells sc.names []),qual:=X.env.qual,func:=none,code:=X.env.code,frame:=X.env.frame,builtins:=X.env.builtins }
   { s with heap:=pushCells (s.heap.push { cls := .type "dict",data := .dict #[] }) sc.names }) :
 wpAny M A (newFunctionEnv sc X.env.globals (aP X.env.cells sc.names []) [] X.env.qual none .none (some X.env)) Q E s:=by
 simp only [newFunctionEnv,Option.isSome_some,if_true]
 refine wpAny_bind (wpAny_alloc ?_)
 refine wpAny_bind (wpAny_layCells _ (fun name kind cells=>by cases hkc:kind == NameKind.cell <;> simp [hkc]) _ _ _ _ ?_)
 rw [show ({ s with heap:=s.heap.push { cls := .type "dict",data := .dict #[] } }:Shared).heap.objs.size = s.heap.objs.size + 1 from Heap.size_push ..]
 exact wpAny_bind (wpAny_pure (wpAny_pure h))
theorem jr (hc:X.calm = true) {elt target iter:Expr} {ifs:List Expr} {rest:List Comprehension} {pos:Pos} {E:Value -> Shared -> Prop}
 (hx:∀ e s,X.xe e s -> False) (B:aZ sc X.env.scope X.N N' fr) (ha:∀ g',rest[0]? = some g' -> g'.is_async = 0) {wi:TI} (hi:PI X target iter wi) {g:TG} {tb:Addr -> TC}
 (hg:∀ s H fp,PG (aA X sc N' s H fp) target g)
 (hb:∀ s H fp p,PB (aA X sc N' s H fp) (fun k=>bh ifs (aA X sc N' s H fp).env >>= fun ok=>if ok = true then aY elt (⟨target,iter,ifs,0⟩ :: rest) sc pos 0 (.ref p) (aA X sc N' s H fp).env k else k) (tb p))
 {Nn:Addr -> St -> Hp -> Prop} {RR:Value -> Addr -> Result -> Shared -> Prop} (I:Inv X pins σ H s)
 (h:wi σ H fun J H1 => ∀ p,H1 p = none -> di J g (tb p) (Nn p) (inh fr σ) (upd H1 p (.lst [])))
 (hR:∀ p fp s3 H3 s' σ' H' f,Inv X pins σ H3 s3 -> (∀ b ∈ fp,bU X pins H3 b) -> Inv (aA X sc N' s3 H3 fp) [] σ' H' s' -> Nn p σ' H' -> RR (.ref p) s3.heap.objs.size (.ok f) s') :
 wpAny (model X.prog X.w) X.A (eval iter X.env) (fun x s₁ => wpAny (model X.prog X.w) X.A (pyIter x) (fun it s₂ => wpAny (model X.prog X.w) X.A (newList []) (fun acc s₃ =>
  wpAny (model X.prog X.w) X.A (newFunctionEnv sc X.env.globals (aP X.env.cells sc.names []) [] X.env.qual none .none (some X.env)) (fun cenv s₄ =>
   codeAny (model X.prog X.w) X.A (.compStart (.ListComp elt (⟨target,iter,ifs,0⟩ :: rest) sc pos) 0 it acc { cenv with scope:=relabel sc X.env }) (RR acc cenv.locals) s₄) E s₃) E s₂) E s₁) E s:=by
 refine nox hx (thn (hi pins s σ H _ I h) fun v s1 h1=>nox hx (thn h1 fun itv s2 h2 => ?_))
 obtain ⟨it,fp,tn,J,H2,e,I2,T,st2,f2,hw⟩:=h2
 subst e
 have hf:H2 s2.heap.objs.size = none:=I2.hok.fresh (Nat.le_refl _)
 refine wpAny_newList ?_
 have I3:Inv X pins σ (upd H2 s2.heap.objs.size (.lst [])) { s2 with heap:=s2.heap.push { cls := .type "list",dict:=none,data := .seq ([]:List Value).toArray } } :=
  I2.laid (t':=s2.toks) (fun b u e=>Heap.get?_push_of_some _ e) (Nat.le_refl _) ⟨Nat.zero_le _,[],0, .nil,Heap.get?_push_size _ rfl⟩
 have fneq:∀ b ∈ fp,b ≠ s2.heap.objs.size:=fun b hb z=>by
  obtain ⟨o,e,_⟩:=T.obj _ _ st2 b hb
  exact absurd (Heap.lt_size e) (by rw [z];exact Nat.lt_irrefl _)
 have f3:∀ b ∈ fp,bU X pins (upd H2 s2.heap.objs.size (.lst [])) b:=fun b hb=>⟨by rw [aj (fneq b hb)];exact (f2 b hb).1,(f2 b hb).2⟩
 have hfo:∀ b ∈ fp,b < (s2.heap.push { cls := .type "list",dict:=none,data := .seq ([]:List Value).toArray }).objs.size:=fun b hb=>by
  obtain ⟨o,e,_⟩:=T.obj _ _ st2 b hb
  rw [Heap.size_push]
  exact Nat.lt_succ_of_lt (Heap.lt_size e)
 have st3:tn 0 (s2.heap.push { cls := .type "list",dict:=none,data := .seq ([]:List Value).toArray }):=T.keep _ _ _ st2 fun b _ o e=>Heap.get?_push_of_some _ e
 refine iS ?_
 have J4:=oP (N':=N') I3 f3 hfo B
 have st4:=T.keep _ (h':=pushCells (({ s2 with heap:=s2.heap.push { cls := .type "list",dict:=none,data := .seq ([]:List Value).toArray } }:Shared).heap.push { cls := .type "dict",data := .dict #[] }) sc.names) _ st3 fun b _ o e=>pushCells_keeps _ _ b o (Heap.get?_push_of_some _ e)
 have f4:∀ b ∈ fp,bU (aA X sc N' { s2 with heap:=s2.heap.push { cls := .type "list",dict:=none,data := .seq ([]:List Value).toArray } } (upd H2 s2.heap.objs.size (.lst [])) fp) [] (upd H2 s2.heap.objs.size (.lst [])) b:=fun b hb =>
  ⟨(f3 b hb).1,(J4.ok.exf b hb).1,J4.ok.exfs b hb, .inl hb,(J4.ok.exf b hb).2,fun p hp=>absurd (show p ∈ ([]:List (Addr × Obj)) from hp) (by simp)⟩
 have loop:=ik (X:=aA X sc N' { s2 with heap:=s2.heap.push { cls := .type "list",dict:=none,data := .seq ([]:List Value).toArray } } (upd H2 s2.heap.objs.size (.lst [])) fp) (fun _ _ z=>z) hc
  (elt:=elt) (pos:=pos) (scope:=sc) (gens:=⟨target,iter,ifs,0⟩ :: rest) (d := 0) (acc := .ref s2.heap.objs.size) rfl (fun g' e=>ha g' (by simpa using e)) (hg _ _ _) (hb _ _ _ _) J4 T st4 f4 (hw _ hf)
 refine codeAny_mono (gi (R:=fun r s'=>match r with | .ok _ => ∃ σ' H',Inv (aA X sc N' { s2 with heap:=s2.heap.push { cls := .type "list",dict:=none,data := .seq ([]:List Value).toArray } } (upd H2 s2.heap.objs.size (.lst [])) fp) [] σ' H' s' /\ Nn s2.heap.objs.size σ' H' | .error _=>False)
  (gens:=⟨target,iter,ifs,0⟩ :: rest) (d := 0) rfl loop (T.self _ 0 _ _ _ st4 loop)) fun r s5 hr => ?_
 cases r with
 | error e=>exact hr.elim
 | ok f =>
   obtain ⟨σ5,H5,I5,n5⟩:=hr
   exact hR _ fp _ _ s5 σ5 H5 f I3 f3 I5 n5
noncomputable def mP (wi:TI) (g:TG) (tb:Addr -> TC) (fr:List (Option Nat)):TE:=fun σ H Q=>wi σ H fun J H1 => ∀ p,H1 p = none -> di J g (tb p) (fun _ H2=>Q (.ref p) H2) (inh fr σ) (upd H1 p (.lst []))
theorem ip (B:aZ sc X.env.scope X.N N' fr):∀ x ∈ sc.names,x.2 = .local -> sc.names.lookup x.1 = some .local:=fun x hx e=>by
 obtain ⟨n,k⟩:=x
 have e':k = .local:=e
 subst e'
 exact aO B.nd hx
theorem fB (hc:X.calm = true) {elt target iter:Expr} {ifs:List Expr} {rest:List Comprehension} {pos:Pos}
 (hx:∀ e s,X.xe e s -> False) (B:aZ sc X.env.scope X.N N' fr) (ha:∀ g',rest[0]? = some g' -> g'.is_async = 0) {wi:TI} (hi:PI X target iter wi) {g:TG} {tb:Addr -> TC}
 (hg:∀ s H fp,PG (aA X sc N' s H fp) target g)
 (hb:∀ s H fp p,PB (aA X sc N' s H fp) (fun k=>bh ifs (aA X sc N' s H fp).env >>= fun ok=>if ok = true then aY elt (⟨target,iter,ifs,0⟩ :: rest) sc pos 0 (.ref p) (aA X sc N' s H fp).env k else k) (tb p))
 (hs:∀ x,foldedSetIterable iter X.env x = pure x) :
 PE X (.ListComp elt (⟨target,iter,ifs,0⟩ :: rest) sc pos) (mP wi g tb fr):=by
 intro pins s σ H Q I h
 rw [eval_ListComp]
 refine wpAny_comprehension_free (use:=none) rfl hs (gj (eB I B)) B.kind (ip B) (jr (Nn:=fun p _ H2=>Q (.ref p) H2) (RR:=fun acc C=>compPost (model X.prog X.w) X.A X.xe none (EP X pins σ Q) acc C) hc hx B ha hi hg hb I h ?_)
 intro p fp s3 H3 s' σ' H' f I3 f3 J q
 obtain ⟨m,hn,_⟩:=J.loc
 exact ⟨m,hn,fun h' hs'=>⟨.ref p,H',io I3 f3 J hs',rfl,q⟩⟩
theorem gk (hc:X.calm = true) {elt target iter:Expr} {ifs:List Expr} {rest:List Comprehension} {pos pos' spos:Pos} {x:Str} {i:Nat}
 (hx:∀ e s,X.xe e s -> False) (B:aZ sc X.env.scope X.N N' fr) (ha:∀ g',rest[0]? = some g' -> g'.is_async = 0) {wi:TI} (hi:PI X target iter wi) {g:TG} {tb:Addr -> TC}
 (hg:∀ s H fp,PG (aA X sc N' s H fp) target g)
 (hb:∀ s H fp p,PB (aA X sc N' s H fp) (fun k=>bh ifs (aA X sc N' s H fp).env >>= fun ok=>if ok = true then aY elt (⟨target,iter,ifs,0⟩ :: rest) sc pos 0 (.ref p) (aA X sc N' s H fp).env k else k) (tb p))
 (hs:∀ x,foldedSetIterable iter X.env x = pure x) (hgx:PG X (.Name x pos') (fX i))
 (hsw:swapsWith (.ListComp elt (⟨target,iter,ifs,0⟩ :: rest) sc pos) (some (.Name x pos')) spos.line X.env = pure true) :
 PS X (.Assign [.Name x pos'] (.ListComp elt (⟨target,iter,ifs,0⟩ :: rest) sc pos) spos) (mC (mP wi g tb fr) (fX i)):=by
 intro pins s σ H D I h
 rw [exec_Assign_Name_used _ _ _ _ hsw]
 refine wpAny_bind (wpAny_standAt (wpAny_bind ?_))
 show wpAny _ X.A (do let _ <- comprehension (.ListComp elt (⟨target,iter,ifs,0⟩ :: rest) sc pos) sc X.env _ (newList []) false (eval iter X.env) (some (assign (.Name x pos') X.env))) _ _ s
 refine wpAny_bind (wpAny_mono (wpAny_comprehension_free (use:=some (assign (.Name x pos') X.env)) (Q:=fun _ s'=>SP X pins D .next s') rfl hs (gj (eB I B)) B.kind (ip B)
  (jr (Nn:=fun p _ H2=>D.nx (σ.set i (some (.ref p))) H2) (RR:=fun acc C=>compPost (model X.prog X.w) X.A X.xe (some (assign (.Name x pos') X.env)) (fun _ s'=>SP X pins D .next s') acc C) hc hx B ha hi hg hb I h ?_)) (fun _ s' hq=>wpAny_pure (wpAny_pure hq)) fun _ _ e=>e)
 intro p fp s3 H3 s' σ' H' f I3 f3 J q
 obtain ⟨m,⟨o,es,ep,ho,hd,hk,hm⟩,_⟩:=J.loc
 have I4:Inv X pins σ H' s':=io (h':=s'.heap) I3 f3 J ⟨rfl,fun _ _=>rfl⟩
 have hL:(aA X sc N' s3 H3 fp).env.locals = s3.heap.objs.size:=rfl
 rw [hL] at ho
 have fr0:H' s3.heap.objs.size = none:=J.free
 have neL:s3.heap.objs.size ≠ X.env.locals:=Nat.ne_of_gt I3.lt
 have nfs:s3.heap.objs.size ∉ X.fs:=I3.nofs (Nat.le_refl _)
 have I5:Inv X (pins ++ [(s3.heap.objs.size,o)]) σ H' s':=I4.pins_of fun pr hp=>by
  rcases List.mem_append.mp hp with z | z
  ·exact I4.pin pr (List.mem_append_right _ z)
  ·have e:pr = (s3.heap.objs.size,o):=by simpa using z
   subst e
   exact ⟨ho,fr0,neL,nfs,fun v z=>by rw [hd] at z;cases z⟩
 show wpAny _ X.A (assign (.Name x pos') X.env (.ref p)) _ _ _
 refine thn (hgx _ s' σ H' (.ref p) (.ref p) D.nx I5 rfl q) fun _ s6 ⟨σ6,H6,I6,q6⟩ => ?_
 obtain ⟨ho6,fr6,_⟩:=I6.pin (s3.heap.objs.size,o) (List.mem_append_right _ (List.mem_append_right _ (by simp)))
 refine ⟨m,⟨o,es,ep,ho6,hd,hk,hm⟩,fun h' hs'=>⟨σ6,H6, ?_,q6⟩⟩
 refine (I6.unpinned).turned (t':=s6.toks) (it:=s3.heap.objs.size) (fun b o hb e=>(hs'.2 b hb).trans e) fr6 neL (.inr I3.sz) (fun y c e z => ?_) fun pr hp z => ?_
 ·obtain ⟨v,q⟩:=I3.cell y c e
  exact absurd q.lt (by rw [z];exact Nat.lt_irrefl _)
 ·exact absurd (Heap.lt_size (I3.pin pr hp).1) (by rw [z];exact Nat.lt_irrefl _)
end
end
end L2
namespace L2
namespace Zp
open PySem PySem.Spec PyProof.Rows
noncomputable def At (t:Bool) (h:Heap) (i l:Addr) (k:Nat):Prop:=match t with | true=>h.IsTupleIter i l k | false=>h.IsListIter i l k
noncomputable def Sq (t:Bool) (h:Heap) (l:Addr) (xs:Array Value):Prop:=match t with | true=>h.IsTuple l xs | false=>h.IsList l xs
theorem At.up {t:Bool} {h h':Heap} {i l:Addr} {k:Nat} (x:At t h i l k) (e:∀ o,h.get? i = some o -> h'.get? i = some o):At t h' i l k:=by
 cases t <;> (obtain ⟨o,ho,r⟩:=x;exact ⟨o,e o ho,r⟩)
theorem Sq.up {t:Bool} {h h':Heap} {l:Addr} {xs:Array Value} (x:Sq t h l xs) (e:∀ o,h.get? l = some o -> h'.get? l = some o):Sq t h' l xs:=by
 cases t <;> (obtain ⟨o,ho,r⟩:=x;exact ⟨o,e o ho,r⟩)
theorem At.lt {t:Bool} {h:Heap} {i l:Addr} {k:Nat} (x:At t h i l k):∃ o,h.get? i = some o /\ ∀ v,o.data ≠ .cell v:=by
 cases t <;> (obtain ⟨o,ho,hc,hd⟩:=x;exact ⟨o,ho,fun v z=>by rw [hd] at z;cases z⟩)
section
variable {prog:Program} {w:World} {A:Around} {E:Value -> Shared -> Prop} {s:Shared}
open Builtin.SmallTypes in
theorem qR {i l:Addr} {k:Nat} {xs:Array Value} {x:Value} {Q:Value -> Shared -> Prop} (hi:s.heap.IsTupleIter i l k) (hl:s.heap.IsTuple l xs) (hx:xs[k]? = some x)
 (q:∀ h',h'.IsTupleIter i l (k + 1) -> Heap.SameBut i s.heap h' -> Q x { s with heap:=h' }):wpAny (model prog w) A (nextOf (.ref i)) Q E s:=by
 obtain ⟨ob,hob,hcl,hda⟩:=id hi
 obtain ⟨oq,hoq,_,nq,hdq⟩:=hl
 unfold nextOf
 refine wpAny_bind (wpAny_callSpecial?_slot (name:=Str.ofString "__next__") hi.typeIs F.slot_tuple_iterator_next (wpAny_call_entry F.slot_tuple_iterator_next hi.typeIs F.entry_tuple_iterator_next ?_ (F.args_tuple_iterator_next_1 _)))
 refine wpAny_bind (m:=field (.ref i) 0) (wpAny_field hob hda (x := .ref l) rfl ?_)
 refine (if_neg (c:=(Value.ref l == Value.none) = true) Bool.false_ne_true) ▸ ?_
 refine wpAny_bind (m:=field (.ref i) 1) (wpAny_field hob hda (x := .int k 0) rfl ?_)
 refine wpAny_bind (m:=seqItems? (.ref l)) (wpAny_seqItems hoq hdq ?_)
 simp only [Int.toNat_natCast,hx]
 refine wpAny_bind (wpAny_setField hob hda (by simp) (wpAny_pure ⟨x,rfl,wpAny_pure (q _ ⟨_,Heap.get?_update_self _ hob (Obj.isFreed_of_fields (Obj.data_mapFields hda _)),(Obj.cls_mapFields ..).trans hcl, ?_⟩ (Heap.SameBut.update ..))⟩))
 rw [Obj.data_mapFields hda];simp [rawInt]
open Builtin.SmallTypes in
theorem ub {i l:Addr} {k:Nat} {xs:Array Value} {Q:Value -> Shared -> Prop} (hn:A.handled = none) (hi:s.heap.IsTupleIter i l k) (hl:s.heap.IsTuple l xs) (hx:xs[k]? = none)
 (q:∀ h' e,Heap.ExtBut i s.heap h' -> (∃ o,h'.get? e = some o /\ o.cls = .type "StopIteration") -> E (.ref e) { s with heap:=h' }):wpAny (model prog w) A (nextOf (.ref i)) Q E s:=by
 obtain ⟨ob,hob,hcl,hda⟩:=id hi
 obtain ⟨oq,hoq,_,nq,hdq⟩:=hl
 unfold nextOf
 refine wpAny_bind (wpAny_callSpecial?_slot (name:=Str.ofString "__next__") hi.typeIs F.slot_tuple_iterator_next (wpAny_call_entry F.slot_tuple_iterator_next hi.typeIs F.entry_tuple_iterator_next ?_ (F.args_tuple_iterator_next_1 _)))
 refine wpAny_bind (m:=field (.ref i) 0) (wpAny_field hob hda (x := .ref l) rfl ?_)
 refine (if_neg (c:=(Value.ref l == Value.none) = true) Bool.false_ne_true) ▸ ?_
 refine wpAny_bind (m:=field (.ref i) 1) (wpAny_field hob hda (x := .int k 0) rfl ?_)
 refine wpAny_bind (m:=seqItems? (.ref l)) (wpAny_seqItems hoq hdq ?_)
 simp only [Int.toNat_natCast,hx]
 refine wpAny_bind (wpAny_rule (wpAny_bind (wpAny_setField hob hda (by simp) ?_)))
 refine wpAny_bind (m:=newExc (.type "StopIteration") []) ?_
 simp only [newExc,newTuple]
 refine wpAny_bind (wpAny_newObj_type ?_ (by size_fits))
 refine wpAny_bind (m:=firstArgMember _ _) (wpAny_of_eq (a:=Value.none) (by first | rfl | (simp only [firstArgMember];rfl)) (wpAny_newObj_type ?_ (by size_fits)))
 simp only [raiseNew]
 refine wpAny_bind (wpAny_handled ?_)
 first | rw [show A.in1.handled = none from hn] | rw [hn]
 exact wpAny_bind (wpAny_pure (wpAny_throw (q _ _ (((Heap.SameBut.update ..).extBut.push _).push _) ⟨_,Heap.get?_push_size _ rfl,rfl⟩)))
open Builtin.SmallTypes in
theorem nx_item {t:Bool} {i l:Addr} {k:Nat} {xs:Array Value} {x:Value} {Q:Value -> Shared -> Prop} (hi:At t s.heap i l k) (hl:Sq t s.heap l xs) (hx:xs[k]? = some x)
 (q:∀ h',At t h' i l (k + 1) -> Heap.SameBut i s.heap h' -> Q x { s with heap:=h' }):wpAny (model prog w) A (nextOf (.ref i)) Q E s:=by
 cases t with
 | true=>exact qR hi hl hx q
 | false=>exact wpAny_nextOf_list_item hi hl hx q
open Builtin.SmallTypes in
theorem nx_end {t:Bool} {i l:Addr} {k:Nat} {xs:Array Value} {Q:Value -> Shared -> Prop} (hn:A.handled = none) (hi:At t s.heap i l k) (hl:Sq t s.heap l xs) (hx:xs[k]? = none)
 (q:∀ h' e,Heap.ExtBut i s.heap h' -> (∃ o,h'.get? e = some o /\ o.cls = .type "StopIteration") -> E (.ref e) { s with heap:=h' }):wpAny (model prog w) A (nextOf (.ref i)) Q E s:=by
 cases t with
 | true=>exact ub hn hi hl hx q
 | false=>exact wpAny_nextOf_list_end hn hi hl hx q
open Builtin.SmallTypes in
theorem wF {z T O i j a b:Addr} {t u:Bool} {k:Nat} {xs ys:Array Value} {x y p r:Value} {Q:Value -> Shared -> Prop} (D:ZipApart z T O i j a b)
 (hz:IsZip s.heap z T O .none) (hT:IsPair s.heap T (.ref i) (.ref j)) (hO:IsPair s.heap O p r)
 (hi:At t s.heap i a k) (hj:At u s.heap j b k) (ha:Sq t s.heap a xs) (hb:Sq u s.heap b ys) (hx:xs[k]? = some x) (hy:ys[k]? = some y)
 (q:∀ h',IsZip h' z T O (rawInt s.heap.objs.size) -> IsPair h' O x y -> At t h' i a (k + 1) -> At u h' j b (k + 1) -> IsPair h' s.heap.objs.size x y ->
   (∀ c o,c ≠ z -> c ≠ O -> c ≠ i -> c ≠ j -> s.heap.get? c = some o -> h'.get? c = some o) -> Q (.ref s.heap.objs.size) { s with heap:=h' }) :
 wpAny (model prog w) A (Builtin.«zip.__next__» ⟨[.ref z],[]⟩) (fun fin s' => ∃ v,fin = .done (.ret v) /\ Q v s') E s:=by
 refine wpAny_bind (m:=field (.ref z) 2) (wpAny_field hz rfl (x := .bool false) rfl ?_)
 refine wpAny_bind (m:=field (.ref z) 3) (wpAny_field hz rfl (x := .ref T) rfl ?_)
 refine wpAny_bind (wpAny_seqItems hT rfl ?_)
 refine wpAny_bind (m:=ownedTupleIsFree (.ref z)) ?_
 unfold ownedTupleIsFree
 refine wpAny_bind (wpAny_field hz rfl (x := .none) rfl (wpAny_pure ?_))
 simp only [if_true]
 refine wpAny_bind (wpAny_rule (wpAny_bind (wpAny_field hz rfl (x := .ref O) rfl (wpAny_bind (wpAny_setField_rec hz (by simp) fun g1 z1 s1 => ?_)))))
 have Z1:IsZip g1 z T O .ellipsis:=z1
 clear z1
 refine wpAny_bind ?_
 simp only [List.zipIdx_cons,List.zipIdx_nil,List.forIn_cons,List.forIn_nil]
 refine wpAny_bind (wpAny_bind (wpAny_onRaise (wpAny_bind (m:=nextOf (.ref i)) ?_)))
 refine nx_item (hi.up fun o e=>s1.extBut _ o D.i1z e) (ha.up fun o e=>s1.extBut _ o D.l1z e) hx fun g2 hi2 s2=>wpAny_pure ?_
 have O2:IsPair g2 O p r:=s2.extBut _ _ D.TOi1 (s1.extBut _ _ D.TOz hO)
 refine wpAny_bind (wpAny_seqItems O2 rfl (wpAny_bind (wpAny_updateSeq_pair O2 fun g3 o3 s3 => ?_)))
 have O3:IsPair g3 O x r:=o3
 clear o3
 refine wpAny_bind (wpAny_letGo (wpAny_pure (wpAny_bind (wpAny_bind (wpAny_onRaise (wpAny_bind (m:=nextOf (.ref j)) ?_))))))
 refine nx_item (hj.up fun o e=>s3.extBut _ o D.TOi2.symm (s2.extBut _ o D.i12.symm (s1.extBut _ o D.i2z e))) (hb.up fun o e=>s3.extBut _ o D.l2TO (s2.extBut _ o D.l2i1 (s1.extBut _ o D.l2z e))) hy fun g4 hj4 s4=>wpAny_pure ?_
 have O4:IsPair g4 O x r:=s4.extBut _ _ D.TOi2 O3
 refine wpAny_bind (wpAny_seqItems O4 rfl (wpAny_bind (wpAny_updateSeq_pair O4 fun g5 o5 s5 => ?_)))
 have O5:IsPair g5 O x y:=o5
 clear o5
 refine wpAny_bind (wpAny_letGo (wpAny_pure (wpAny_pure (wpAny_bind (wpAny_seqItems O5 rfl (wpAny_bind (wpAny_newTuple ?_)))))))
 have sz:g5.objs.size = s.heap.objs.size:=by rw [s5.1,s4.1,s3.1,s2.1,s1.1]
 have k5:∀ c o,c ≠ z -> c ≠ O -> c ≠ i -> c ≠ j -> s.heap.get? c = some o -> g5.get? c = some o:=fun c o c1 c2 c3 c4 e =>
  s5.extBut _ _ c2 (s4.extBut _ _ c4 (s3.extBut _ _ c2 (s2.extBut _ _ c3 (s1.extBut _ _ c1 e))))
 have Z5:IsZip g5 z T O .ellipsis:=s5.extBut _ _ D.TOz.symm (s4.extBut _ _ D.i2z.symm (s3.extBut _ _ D.TOz.symm (s2.extBut _ _ D.i1z.symm Z1)))
 have I5:At t g5 i a (k + 1):=hi2.up fun o e=>s5.extBut _ o D.TOi1.symm (s4.extBut _ o D.i12 (s3.extBut _ o D.TOi1.symm e))
 have J5:At u g5 j b (k + 1):=hj4.up fun o e=>s5.extBut _ o D.TOi2.symm e
 have zl:z < g5.objs.size:=Heap.lt_size Z5
 refine wpAny_bind (m:=ownedTupleHandOut (.ref z) (.ref g5.objs.size)) ?_
 unfold ownedTupleHandOut
 refine wpAny_bind (wpAny_setField_rec (Heap.get?_push_of_some _ Z5) (by simp) fun g7 z7 s7 => ?_)
 have Z7:IsZip g7 z T O (rawInt g5.objs.size):=z7
 clear z7
 refine wpAny_setField_rec Z7 (by simp) fun g8 z8 s8 => ?_
 have Z8:IsZip g8 z T O (rawInt g5.objs.size):=z8
 clear z8
 have up:∀ c o,c ≠ z -> g5.get? c = some o -> g8.get? c = some o:=fun c o c1 e=>s8.extBut _ _ c1 (s7.extBut _ _ c1 (Heap.get?_push_of_some _ e))
 have P8:IsPair g8 g5.objs.size x y:=s8.extBut _ _ (Nat.ne_of_gt zl) (s7.extBut _ _ (Nat.ne_of_gt zl) (Heap.get?_push_size _ rfl))
 rw [sz] at Z8 P8
 refine wpAny_pure ⟨_,rfl, ?_⟩
 show Q (.ref g5.objs.size) _
 rw [sz]
 exact q g8 Z8 (up _ _ D.TOz O5) (I5.up fun o e=>up _ o D.i1z e) (J5.up fun o e=>up _ o D.i2z e) P8 fun c o c1 c2 c3 c4 e=>up c o c1 (k5 c o c1 c2 c3 c4 e)
open Builtin.SmallTypes in
theorem yr {z T O i j a b:Addr} {t u:Bool} {k:Nat} {xs ys:Array Value} {p r:Value} {Q:Fin -> Shared -> Prop} (hn:A.handled = none) (D:ZipApart z T O i j a b)
 (hz:IsZip s.heap z T O .none) (hT:IsPair s.heap T (.ref i) (.ref j)) (hO:IsPair s.heap O p r)
 (hi:At t s.heap i a k) (hj:At u s.heap j b k) (ha:Sq t s.heap a xs) (hb:Sq u s.heap b ys) (hend:xs[k]? = none ∨ ys[k]? = none)
 (q:∀ h' e,(∀ c o,c ≠ z -> c ≠ O -> c ≠ i -> c ≠ j -> s.heap.get? c = some o -> h'.get? c = some o) -> (∃ o,h'.get? e = some o /\ o.cls = .type "StopIteration") -> E (.ref e) { s with heap:=h' }) :
 wpAny (model prog w) A (Builtin.«zip.__next__» ⟨[.ref z],[]⟩) Q E s:=by
 refine wpAny_bind (m:=field (.ref z) 2) (wpAny_field hz rfl (x := .bool false) rfl ?_)
 refine wpAny_bind (m:=field (.ref z) 3) (wpAny_field hz rfl (x := .ref T) rfl ?_)
 refine wpAny_bind (wpAny_seqItems hT rfl ?_)
 refine wpAny_bind (m:=ownedTupleIsFree (.ref z)) ?_
 unfold ownedTupleIsFree
 refine wpAny_bind (wpAny_field hz rfl (x := .none) rfl (wpAny_pure ?_))
 simp only [if_true]
 refine wpAny_bind (wpAny_rule (wpAny_bind (wpAny_field hz rfl (x := .ref O) rfl (wpAny_bind (wpAny_setField_rec hz (by simp) fun g1 z1 s1 => ?_)))))
 have Z1:IsZip g1 z T O .ellipsis:=z1
 clear z1
 refine wpAny_bind ?_
 simp only [List.zipIdx_cons,List.zipIdx_nil,List.forIn_cons,List.forIn_nil]
 refine wpAny_bind (wpAny_bind (wpAny_onRaise (wpAny_bind (m:=nextOf (.ref i)) ?_)))
 have hi1:At t g1 i a k:=hi.up fun o e=>s1.extBut _ o D.i1z e
 have ha1:Sq t g1 a xs:=ha.up fun o e=>s1.extBut _ o D.l1z e
 cases hx:xs[k]? with
 | none =>
   refine nx_end hn hi1 ha1 hx fun g2 e s2 he => ?_
   obtain ⟨oe,hoe,hce⟩:=he
   have Z2:IsZip g2 z T O .ellipsis:=s2 _ _ D.i1z.symm Z1
   have ez:e ≠ z:=fun x=>by subst x;rw [Z2] at hoe;cases hoe;simp at hce
   exact wpAny_setField_rec Z2 (by simp) fun g3 _ s3=>q g3 e (fun c o c1 _ c3 _ x=>s3.extBut _ _ c1 (s2 _ _ c3 (s1.extBut _ _ c1 x))) ⟨oe,s3.extBut _ _ ez hoe,hce⟩
 | some x =>
   have hy:ys[k]? = none:=hend.elim (fun z=>by rw [hx] at z;cases z) id
   refine nx_item hi1 ha1 hx fun g2 hi2 s2=>wpAny_pure ?_
   have O2:IsPair g2 O p r:=s2.extBut _ _ D.TOi1 (s1.extBut _ _ D.TOz hO)
   refine wpAny_bind (wpAny_seqItems O2 rfl (wpAny_bind (wpAny_updateSeq_pair O2 fun g3 o3 s3 => ?_)))
   refine wpAny_bind (wpAny_letGo (wpAny_pure (wpAny_bind (wpAny_bind (wpAny_onRaise (wpAny_bind (m:=nextOf (.ref j)) ?_))))))
   refine nx_end hn (hj.up fun o e=>s3.extBut _ o D.TOi2.symm (s2.extBut _ o D.i12.symm (s1.extBut _ o D.i2z e))) (hb.up fun o e=>s3.extBut _ o D.l2TO (s2.extBut _ o D.l2i1 (s1.extBut _ o D.l2z e))) hy fun g4 e s4 he => ?_
   obtain ⟨oe,hoe,hce⟩:=he
   have Z4:IsZip g4 z T O .ellipsis:=s4 _ _ D.i2z.symm (s3.extBut _ _ D.TOz.symm (s2.extBut _ _ D.i1z.symm Z1))
   have ez:e ≠ z:=fun x=>by subst x;rw [Z4] at hoe;cases hoe;simp at hce
   exact wpAny_setField_rec Z4 (by simp) fun g5 _ s5=>q g5 e (fun c o c1 c2 c3 c4 x=>s5.extBut _ _ c1 (s4 _ _ c4 (s3.extBut _ _ c2 (s2.extBut _ _ c3 (s1.extBut _ _ c1 x))))) ⟨oe,s5.extBut _ _ ez hoe,hce⟩
theorem nxt_item {z T O i j a b:Addr} {t u:Bool} {k:Nat} {xs ys:Array Value} {x y p r:Value} {Q:Option Value -> Shared -> Prop} (D:ZipApart z T O i j a b)
 (hz:IsZip s.heap z T O .none) (hT:IsPair s.heap T (.ref i) (.ref j)) (hO:IsPair s.heap O p r)
 (hi:At t s.heap i a k) (hj:At u s.heap j b k) (ha:Sq t s.heap a xs) (hb:Sq u s.heap b ys) (hx:xs[k]? = some x) (hy:ys[k]? = some y)
 (q:∀ h',IsZip h' z T O (rawInt s.heap.objs.size) -> IsPair h' O x y -> At t h' i a (k + 1) -> At u h' j b (k + 1) -> IsPair h' s.heap.objs.size x y ->
   (∀ c o,c ≠ z -> c ≠ O -> c ≠ i -> c ≠ j -> s.heap.get? c = some o -> h'.get? c = some o) -> Q (some (.ref s.heap.objs.size)) { s with heap:=h' }) :
 wpAny (model prog w) A (pyNext (.ref z)) Q E s:=by
 have ty:s.TypeIs (.ref z) "zip" := ⟨_,hz,rfl⟩
 unfold pyNext
 exact wpAny_bind (wpAny_attempt (wpAny_callSpecial?_slot (name:=Str.ofString "__next__") ty F.slot_zip_next (wpAny_call_entry F.slot_zip_next ty F.entry_zip_next
  (wF D hz hT hO hi hj ha hb hx hy fun h' a1 a2 a3 a4 a5 a6=>wpAny_pure (q h' a1 a2 a3 a4 a5 a6)) (F.args_zip_next_1 _))))
theorem nxt_end {z T O i j a b:Addr} {t u:Bool} {k:Nat} {xs ys:Array Value} {p r:Value} {Q:Option Value -> Shared -> Prop} (hn:A.handled = none) (D:ZipApart z T O i j a b)
 (hz:IsZip s.heap z T O .none) (hT:IsPair s.heap T (.ref i) (.ref j)) (hO:IsPair s.heap O p r)
 (hi:At t s.heap i a k) (hj:At u s.heap j b k) (ha:Sq t s.heap a xs) (hb:Sq u s.heap b ys) (hend:xs[k]? = none ∨ ys[k]? = none)
 (q:∀ h',(∀ c o,c ≠ z -> c ≠ O -> c ≠ i -> c ≠ j -> s.heap.get? c = some o -> h'.get? c = some o) -> Q none { s with heap:=h' }):wpAny (model prog w) A (pyNext (.ref z)) Q E s:=by
 have ty:s.TypeIs (.ref z) "zip" := ⟨_,hz,rfl⟩
 unfold pyNext
 refine wpAny_bind (wpAny_attempt (wpAny_callSpecial?_slot (name:=Str.ofString "__next__") ty F.slot_zip_next (wpAny_call_entry F.slot_zip_next ty F.entry_zip_next
  (yr hn D hz hT hO hi hj ha hb hend fun h' e hk he => ?_) (F.args_zip_next_1 _))))
 obtain ⟨o,ho,hc⟩:=he
 exact wpAny_bind (wpAny_isInstance (T := "StopIteration") (b:=true) ⟨o,ho,hc⟩ isSubtype_stop (wpAny_pure (q _ hk)))
noncomputable def itO (t:Bool) (l:Addr):Obj:=match t with | true => { cls := .type "tuple_iterator",data := .fields #[.ref l, .int 0 0] } | false => { cls := .type "list_iterator",data := .fields #[.ref l, .int 0 0] }
noncomputable def zH1 (h:Heap) (t:Bool) (a:Addr):Heap:=h.push (itO t a)
noncomputable def zH2 (h:Heap) (t u:Bool) (a b:Addr):Heap:=(zH1 h t a).push (itO u b)
noncomputable def zH3 (h:Heap) (t u:Bool) (a b:Addr):Heap:=(zH2 h t u a b).push { cls := .type "tuple",data := .seq #[.ref h.objs.size, .ref (zH1 h t a).objs.size] }
noncomputable def zH4 (h:Heap) (t u:Bool) (a b:Addr):Heap:=(zH3 h t u a b).push { cls := .type "tuple",data := .seq #[.none, .none] }
noncomputable def zH5 (h:Heap) (t u:Bool) (a b:Addr):Heap:=(zH4 h t u a b).push { cls := .type "zip",data := .fields #[.none, .bool false, .bool false, .ref (zH2 h t u a b).objs.size, .ref (zH3 h t u a b).objs.size] }
theorem oQ (t u:Bool) (a b:Addr) (xs ys:Array Value) :
 Meets (Builtin.«zip.__new__» ⟨[.type "zip", .ref a, .ref b],[]⟩) (fun _ R s=>Sq t s.heap a xs /\ Sq u s.heap b ys /\ R (.ok (.ret (.ref (zH4 s.heap t u a b).objs.size))) { s with heap:=zH5 s.heap t u a b }) :=
 .of_wp fun prog w A R s h=>by
  obtain ⟨hp,g,d,tk,os⟩:=s;obtain ⟨ha,hb,h⟩:=h
  have hs:=sub_zip
  cases t <;> cases u
  ·have e1:Heap.IsList (Shared.heap ⟨hp,g,d,tk,os⟩) a xs:=ha
   have e2:Heap.IsList (Shared.heap ⟨hp.push { cls := .type "list_iterator",data := .fields #[.ref a, .int 0 0] },g,d,tk,os⟩) b ys:=Heap.IsList.push hb _
   wp_walk using wpAny_pyIter_list e1,wpAny_pyIter_list e2
   exact ⟨_,rfl,h⟩
  ·have e1:Heap.IsList (Shared.heap ⟨hp,g,d,tk,os⟩) a xs:=ha
   have e2:Heap.IsTuple (Shared.heap ⟨hp.push { cls := .type "list_iterator",data := .fields #[.ref a, .int 0 0] },g,d,tk,os⟩) b ys:=Heap.IsTuple.push hb _
   wp_walk using wpAny_pyIter_list e1,wpAny_pyIter_tuple e2
   exact ⟨_,rfl,h⟩
  ·have e1:Heap.IsTuple (Shared.heap ⟨hp,g,d,tk,os⟩) a xs:=ha
   have e2:Heap.IsList (Shared.heap ⟨hp.push { cls := .type "tuple_iterator",data := .fields #[.ref a, .int 0 0] },g,d,tk,os⟩) b ys:=Heap.IsList.push hb _
   wp_walk using wpAny_pyIter_tuple e1,wpAny_pyIter_list e2
   exact ⟨_,rfl,h⟩
  ·have e1:Heap.IsTuple (Shared.heap ⟨hp,g,d,tk,os⟩) a xs:=ha
   have e2:Heap.IsTuple (Shared.heap ⟨hp.push { cls := .type "tuple_iterator",data := .fields #[.ref a, .int 0 0] },g,d,tk,os⟩) b ys:=Heap.IsTuple.push hb _
   wp_walk using wpAny_pyIter_tuple e1,wpAny_pyIter_tuple e2
   exact ⟨_,rfl,h⟩
theorem at_new {t:Bool} {h:Heap} {i l:Addr} (e:h.get? i = some (itO t l)):At t h i l 0:=by
 cases t <;> exact ⟨_,e,rfl,rfl⟩
theorem call_zip {t u:Bool} {a b:Addr} {xs ys:Array Value} {Q:Value -> Shared -> Prop} (ha:Sq t s.heap a xs) (hb:Sq u s.heap b ys)
 (q:∀ h',IsZip h' (s.heap.objs.size + 4) (s.heap.objs.size + 2) (s.heap.objs.size + 3) .none -> IsPair h' (s.heap.objs.size + 2) (.ref s.heap.objs.size) (.ref (s.heap.objs.size + 1)) ->
   IsPair h' (s.heap.objs.size + 3) .none .none -> At t h' s.heap.objs.size a 0 -> At u h' (s.heap.objs.size + 1) b 0 -> h'.objs.size = s.heap.objs.size + 5 ->
   (∀ c o,s.heap.get? c = some o -> h'.get? c = some o) -> Q (.ref (s.heap.objs.size + 4)) { s with heap:=h' }) :
 wpAny (model prog w) A (call (.type "zip") [.ref a, .ref b]) Q E s:=by
 refine callType_new F.called_zip (by decide) (F.typeCall_zip_2 _ _) (F.newCall_zip_2 _ _) (fun obj=>F.args_object_init_3 obj _ _) F.entry_zip_new (oQ t u a b xs ys) ⟨ha,hb, ?_⟩
 have z1:(zH1 s.heap t a).objs.size = s.heap.objs.size + 1:=Heap.size_push ..
 have z2:(zH2 s.heap t u a b).objs.size = s.heap.objs.size + 2:=by unfold zH2;rw [Heap.size_push,z1]
 have z3:(zH3 s.heap t u a b).objs.size = s.heap.objs.size + 3:=by unfold zH3;rw [Heap.size_push,z2]
 have z4:(zH4 s.heap t u a b).objs.size = s.heap.objs.size + 4:=by unfold zH4;rw [Heap.size_push,z3]
 have z5:(zH5 s.heap t u a b).objs.size = s.heap.objs.size + 5:=by unfold zH5;rw [Heap.size_push,z4]
 have k5:∀ {c o},(zH4 s.heap t u a b).get? c = some o -> (zH5 s.heap t u a b).get? c = some o:=fun e=>Heap.get?_push_of_some _ e
 have k4:∀ {c o},(zH3 s.heap t u a b).get? c = some o -> (zH4 s.heap t u a b).get? c = some o:=fun e=>Heap.get?_push_of_some _ e
 have k3:∀ {c o},(zH2 s.heap t u a b).get? c = some o -> (zH3 s.heap t u a b).get? c = some o:=fun e=>Heap.get?_push_of_some _ e
 have k2:∀ {c o},(zH1 s.heap t a).get? c = some o -> (zH2 s.heap t u a b).get? c = some o:=fun e=>Heap.get?_push_of_some _ e
 have k1:∀ {c o},s.heap.get? c = some o -> (zH1 s.heap t a).get? c = some o:=fun e=>Heap.get?_push_of_some _ e
 have f:∀ t l,(itO t l).isFreed = false:=fun t l=>by cases t <;> rfl
 have g5:(zH5 s.heap t u a b).get? (zH4 s.heap t u a b).objs.size = some _:=Heap.get?_push_size _ rfl
 have g4:(zH5 s.heap t u a b).get? (zH3 s.heap t u a b).objs.size = some _:=k5 (Heap.get?_push_size _ rfl)
 have g3:(zH5 s.heap t u a b).get? (zH2 s.heap t u a b).objs.size = some _:=k5 (k4 (Heap.get?_push_size _ rfl))
 have g2:(zH5 s.heap t u a b).get? (zH1 s.heap t a).objs.size = some _:=k5 (k4 (k3 (Heap.get?_push_size _ (f u b))))
 have g1:(zH5 s.heap t u a b).get? s.heap.objs.size = some _:=k5 (k4 (k3 (k2 (Heap.get?_push_size _ (f t a)))))
 show _ /\ _
 rw [z2,z3,z4] at g5
 rw [z1,z2] at g3
 rw [z3] at g4
 rw [z1] at g2
 rw [z4]
 exact ⟨⟨_,g5,rfl⟩,q _ g5 g3 g4 (at_new g1) (at_new g2) z5 fun c o x=>k5 (k4 (k3 (k2 (k1 x))))⟩
end
end Zp
end L2
namespace L2
open PySem PySem.Spec PyProof.Rows
section
variable {X:Cx} {pins:List (Addr × Obj)} {σ:St} {H:Hp} {s:Shared} {h':Heap}
theorem Inv.turnedL {t':Nat} {fp:List Addr} (I:Inv X pins σ H s) (hf:∀ b ∈ fp,bU X pins H b) (k:∀ b o,b ∉ fp -> s.heap.get? b = some o -> h'.get? b = some o):Inv X pins σ H { s with heap:=h',toks:=t' }:=by
 have nit:∀ b u,H b = some u -> b ∉ fp:=fun b u e z=>by rw [(hf b z).1] at e;cases e
 refine I.step (g':=s.gens) (d':=s.drawn) (ch:=fp) (fun b hb => ?_) (fun b o _ _ hc e _=>k b o hc e) (fun b o _ _ hc e _=>⟨o.slots,k b o hc e⟩) (fun _ _ _ _ n=>n)
  (fun b o hc e=>⟨o,k b o hc e⟩) (fun _ _ e=>e) (fun _ _ _ e=>e) (fun b ps e=>⟨#[],by rw [e];simp⟩) (fun m hm => ?_) (fun b u e => ?_) I.bare
 ·obtain ⟨_,f1,_,f3,f4,f5⟩:=hf b hb
  exact ⟨f3,f1,f4,f5⟩
 ·obtain ⟨o,es,ep,ho,r⟩:=hm
  exact ⟨o,es,ep,k _ o (fun z=>(hf _ z).2.1 rfl) ho,r⟩
 ·refine (I.hok b u e).stay (fun c v hc q=>k c v ?_ q) (fun _ q=>q) fun _ _ q=>q
  rcases hc with z | z
  ·rw [z];exact nit b u e
  ·exact nit c _ z
end
noncomputable def SqV (K:PySem.W.Frag) (t:Bool) (H:Hp) (a:Addr) (xs:List V):Prop:=match t with | true=>SqT K H a xs | false=>SqL K H a xs
theorem Inv.sqv {X:Cx} {pins:List (Addr × Obj)} {σ:St} {H:Hp} {s:Shared} {t:Bool} {a:Addr} {xs:List V} (I:Inv X pins σ H s) (h:SqV X.K t H a xs):∃ its:List Value,Vals xs its /\ Zp.Sq t s.heap a its.toArray:=by
 cases t with
 | true=>obtain ⟨its,r,p,_⟩:=I.tuple h;exact ⟨its,r,p⟩
 | false=>obtain ⟨its,r,p,_⟩:=I.list h;exact ⟨its,r,p.isList⟩
theorem Inv.sqv_inj {X:Cx} {pins:List (Addr × Obj)} {σ:St} {H:Hp} {s:Shared} {t:Bool} {a:Addr} {xs ys:List V} (I:Inv X pins σ H s) (h:SqV X.K t H a xs) (h':SqV X.K t H a ys):xs = ys:=by
 cases t with
 | true=>exact I.tuple_inj h h'
 | false=>exact I.list_inj h h'
noncomputable def Itz (K:PySem.W.Frag) (t u:Bool) (a b:Addr):It :=
 ⟨fun i H => ∃ xs ys x y,SqV K t H a xs /\ SqV K u H b ys /\ xs[i]? = some x /\ ys[i]? = some y,
  fun i H v H' => ∃ p x y,H p = none /\ v = .ref p /\ H' = upd H p (.tup [x,y]) /\ ∀ xs ys,SqV K t H a xs -> SqV K u H b ys -> xs[i]? = some x /\ ys[i]? = some y,
  fun i H => ∃ xs ys,SqV K t H a xs /\ SqV K u H b ys /\ (xs.length <= i ∨ ys.length <= i)⟩
theorem qS {P:Program} {w:World} {K:PySem.W.Frag} {elts:List Expr} {cx} {pos:Pos} {t u:Bool} {z T O i j a b:Addr} (D:ZipApart z T O i j a b) :
 ee P w K (.Tuple elts cx pos) (Itz K t u a b) [z,T,O,i,j] z (fun k h=>IsZip h z T O .none /\ IsPair h T (.ref i) (.ref j) /\ (∃ p r,IsPair h O p r) /\ Zp.At t h i a k /\ Zp.At u h j b k) where
 mem:=by simp
 obj:=fun k h ⟨hz,hT,⟨p,r,hO⟩,hi,hj⟩ c hc=>by
  simp only [List.mem_cons,List.not_mem_nil,or_false] at hc
  rcases hc with rfl | rfl | rfl | rfl | rfl
  ·exact ⟨_,hz,fun v e=>by cases e⟩
  ·exact ⟨_,hT,fun v e=>by cases e⟩
  ·exact ⟨_,hO,fun v e=>by cases e⟩
  ·exact hi.lt
  ·exact hj.lt
 keep:=fun k h h' ⟨hz,hT,⟨p,r,hO⟩,hi,hj⟩ kk=>⟨kk z (by simp) _ hz,kk T (by simp) _ hT,⟨p,r,kk O (by simp) _ hO⟩,hi.up fun o e=>kk i (by simp) o e,hj.up fun o e=>kk j (by simp) o e⟩
 item:=by
  intro X hP hw hK hc k pins s σ H E I hf st hg
  subst hP hw hK
  obtain ⟨hz,hT,⟨p,r,hO⟩,hi,hj⟩:=st
  obtain ⟨xs,ys,x,y,qx,qy,ex,ey⟩:=hg
  obtain ⟨is,rx,px⟩:=I.sqv qx
  obtain ⟨js,ry,py⟩:=I.sqv qy
  obtain ⟨ux,hux,rux⟩:=rx.get ex
  obtain ⟨uy,huy,ruy⟩:=ry.get ey
  refine Zp.nxt_item D hz hT hO hi hj px py (by simpa using hux) (by simpa using huy) fun h1 z1 o1 i1 j1 p1 k1=>⟨_,rfl, ?_⟩
  refine wpAny_letOwnedTupleGo_zip (s := { s with heap:=h1 }) z1 fun h2 z2 s2 => ?_
  have lt:∀ {c o},s.heap.get? c = some o -> c ≠ s.heap.objs.size:=fun e=>Nat.ne_of_lt (Heap.lt_size e)
  have nz:s.heap.objs.size ≠ z:=(lt hz).symm
  have hi0:∃ o,s.heap.get? i = some o:=hi.lt.imp fun _ h=>h.1
  have hj0:∃ o,s.heap.get? j = some o:=hj.lt.imp fun _ h=>h.1
  have up:∀ c o,c ≠ z -> h1.get? c = some o -> h2.get? c = some o:=fun c o n e=>s2.extBut _ _ n e
  have IL:Inv X pins σ (upd H s.heap.objs.size (.tup [x,y])) { s with heap:=s.heap.push { cls := .type "tuple",data := .seq #[ux,uy] },toks:=s.toks } :=
   I.laid (fun b o e=>Heap.get?_push_of_some _ e) (Nat.le_refl _) ⟨by rw [sizeLine_eq];simp,[ux,uy], .cons rux (.cons ruy .nil),IsTup.new _ _⟩
  have fr:∀ c ∈ [z,T,O,i,j],c ≠ s.heap.objs.size:=fun c hc=>by
   simp only [List.mem_cons,List.not_mem_nil,or_false] at hc
   rcases hc with rfl | rfl | rfl | rfl | rfl
   ·exact lt hz
   ·exact lt hT
   ·exact lt hO
   ·obtain ⟨o,e⟩:=hi0;exact lt e
   ·obtain ⟨o,e⟩:=hj0;exact lt e
  have un:∀ c ∈ [z,T,O,i,j],upd H s.heap.objs.size (.tup [x,y]) c = none:=fun c hc=>by
   rw [aj (fr c hc)];exact (hf c hc).1
  have kk:∀ c o,c ∉ [z,T,O,i,j] -> (s.heap.push { cls := .type "tuple",data := .seq #[ux,uy] }).get? c = some o -> h2.get? c = some o:=fun c o hc e=>by
   simp only [List.mem_cons,List.not_mem_nil,or_false,not_or] at hc
   rcases Heap.get?_push_cases e with ⟨rfl,rfl⟩ | e
   ·exact up _ _ nz p1
   ·exact up _ _ hc.1 (k1 c o hc.1 hc.2.2.1 hc.2.2.2.1 hc.2.2.2.2 e)
  have I2:Inv X pins σ (upd H s.heap.objs.size (.tup [x,y])) { s with heap:=h2,toks:=s.toks } :=
   (Inv.turnedL (s := { s with heap:=s.heap.push { cls := .type "tuple",data := .seq #[ux,uy] },toks:=s.toks }) (h':=h2) (t':=s.toks) (fp := [z,T,O,i,j]) IL (fun c hc=>⟨un c hc,(hf c hc).2⟩) kk)
  refine ⟨.ref s.heap.objs.size,_,I2,rfl,⟨_,x,y,I.hok.fresh (Nat.le_refl _),rfl,rfl,fun xs' ys' q1 q2 => ?_⟩,⟨z2,up _ _ D.TIz (k1 _ _ D.TIz D.TITO D.TIi1 D.TIi2 hT),⟨_,_,up _ _ D.TOz o1⟩,i1.up fun o e=>up _ o D.i1z e,j1.up fun o e=>up _ o D.i2z e⟩,un⟩
  rw [I.sqv_inj q1 qx,I.sqv_inj q2 qy];exact ⟨ex,ey⟩
 done:=by
  intro X hP hw hK hc k pins s σ H E I hf st hg
  subst hP hw hK
  obtain ⟨hz,hT,⟨p,r,hO⟩,hi,hj⟩:=st
  obtain ⟨xs,ys,qx,qy,hend⟩:=hg
  obtain ⟨is,rx,px⟩:=I.sqv qx
  obtain ⟨js,ry,py⟩:=I.sqv qy
  have lx:=rx.length
  have ly:=ry.length
  refine Zp.nxt_end (I.ok.hd hc) D hz hT hO hi hj px py (hend.imp (fun e=>by simp;omega) (fun e=>by simp;omega)) fun h1 k1=>⟨rfl,I.turnedL (t':=s.toks) hf fun c o hc e => ?_⟩
  simp only [List.mem_cons,List.not_mem_nil,or_false,not_or] at hc
  exact k1 c o hc.1 hc.2.2.1 hc.2.2.2.1 hc.2.2.2.2 e
 self:=fun A k s Q E st h=>wpAny_pyIter_zip st.1 h
section
variable {X:Cx}
noncomputable def zD (K:PySem.W.Frag) (ta:TA):TI:=fun σ H R=>ta σ H fun vs H1 => ∃ a b t u xs ys,vs = [.ref a, .ref b] /\ SqV K t H1 a xs /\ SqV K u H1 b ys /\ R (Itz K t u a b) H1
theorem wG {elts:List Expr} {cx} {pos p pos':Pos} {a b:Expr} {ta:TA} (hg:Gl X "zip") (hm:X.mg "zip" = none) (ha:PA X [a,b] ta) (hs:starEach [a,b] X.env = [(false,eval a X.env),(false,eval b X.env)]) (hs2:starEach [b] X.env = [(false,eval b X.env)]) :
 PI X (.Tuple elts cx pos) (.Call (.Name "zip" p) [a,b] [] pos') (zD X.K ta):=by
 intro pins s σ H R I h
 refine Call_ (dv I hg hm (u := .type "zip") (by decide +kernel) (PyProof.Rows.callWith_type1 (thn (ha pos' pins s σ H _ I h) fun us s1 ⟨vs,H1,I1,r1,q1⟩ => ?_) (by rw [hs,hs2]) (by rw [hs2];rfl)))
 obtain ⟨a',b',t,u,xs,ys,rfl,qx,qy,q⟩:=q1
 cases r1 with
 | cons r rr =>
   cases rr with
   | cons r' rr =>
     cases rr
     cases r
     cases r'
     obtain ⟨is,rx,px⟩:=I1.sqv qx
     obtain ⟨js,ry,py⟩:=I1.sqv qy
     refine Zp.call_zip px py fun h1 z1 t1 o1 i1 j1 sz k1 => ?_
     refine wpAny_pyIter_zip z1 ?_
     have la:a' < s1.heap.objs.size:=by cases t <;> (obtain ⟨o,e,_⟩:=px;exact Heap.lt_size e)
     have lb:b' < s1.heap.objs.size:=by cases u <;> (obtain ⟨o,e,_⟩:=py;exact Heap.lt_size e)
     have D:ZipApart (s1.heap.objs.size + 4) (s1.heap.objs.size + 2) (s1.heap.objs.size + 3) s1.heap.objs.size (s1.heap.objs.size + 1) a' b':=by constructor <;> (intro e;subst_vars;first | omega | (simp only [Addr] at *;omega))
     refine ⟨_,_,_,_,H1,rfl,I1.kept (t':=s1.toks) k1,qS (t:=t) (u:=u) D,⟨z1,t1,⟨_,_,o1⟩,i1,j1⟩,fun c hc => ?_,q⟩
     have hle:s1.heap.objs.size <= c:=by
      simp only [List.mem_cons,List.not_mem_nil,or_false] at hc
      rcases hc with rfl | rfl | rfl | rfl | rfl <;> omega
     exact I1.fpOk hle (I1.hok.fresh hle)
end
end L2
namespace L2
namespace En
open PySem PySem.Spec PyProof.Rows
section
variable {prog:Program} {w:World} {A:Around} {E:Value -> Shared -> Prop} {s:Shared}
open Builtin.SmallTypes Zp in
theorem wH {z i a:Addr} {t:Bool} {k:Nat} {xs:Array Value} {x old:Value} {Q:Value -> Shared -> Prop} (hz:IsEnum s.heap z i k old) (hi:At t s.heap i a k) (ha:Sq t s.heap a xs) (hx:xs[k]? = some x) (hne:z ≠ i)
 (q:∀ h',IsEnumOut h' z i ((k:Int) + 1) x s.heap.objs.size -> At t h' i a (k + 1) -> h'.get? s.heap.objs.size = some { cls := .type "tuple",data := .seq #[.int k s.toks,x] } ->
   (∀ b o,b ≠ z -> b ≠ i -> s.heap.get? b = some o -> h'.get? b = some o) -> Q (.ref s.heap.objs.size) { s with heap:=h',toks:=s.toks + 1 }) :
 wpAny (model prog w) A (Builtin.«enumerate.__next__» ⟨[.ref z],[]⟩) (fun fin s' => ∃ v,fin = .done (.ret v) /\ Q v s') E s:=by
 obtain ⟨hp,g,d,tk,os⟩:=s
 refine wpAny_bind (m:=field (.ref z) 2) (wpAny_field hz rfl (x := .ref i) rfl (wpAny_bind (nx_item hi ha hx fun g1 i1 s1 => ?_)))
 have S1:Heap.SameBut i hp g1:=s1
 clear s1
 have Z1:IsEnum g1 z i k old:=(S1.2 z hne).trans hz
 refine wpAny_bind (m:=field (.ref z) 3) (wpAny_field (s:=⟨g1,g,d,tk,os⟩) Z1 rfl (x:=rawInt k) rfl ?_)
 refine wpAny_bind (m:=field (.ref z) 4) (wpAny_field (s:=⟨g1,g,d,tk,os⟩) Z1 rfl (x := .none) rfl ?_)
 refine wpAny_bind (m:=mkInt k) (wpAny_mkInt ?_)
 refine wpAny_bind (m:=setField (.ref z) 3 (rawInt ((k:Int) + 1))) (wpAny_setField_rec (s:=⟨g1,g,d,tk + 1,os⟩) Z1 (by simp) fun g2 z2 s2 => ?_)
 have S2:Heap.SameBut z g1 g2:=s2
 have Z2:IsEnum g2 z i ((k:Int) + 1) old:=z2
 clear s2 z2
 refine wpAny_bind (m:=setField (.ref z) 4 .none) (wpAny_setField_rec (s:=⟨g2,g,d,tk + 1,os⟩) Z2 (by simp) fun g3 z3 s3 => ?_)
 have S3:Heap.SameBut z g2 g3:=s3
 have Z3:IsEnum g3 z i ((k:Int) + 1) old:=z3
 clear s3 z3
 refine wpAny_bind (m:=newTuple [.int k tk,x]) (wpAny_newTuple ?_)
 have Z4:IsEnum (g3.push { cls := .type "tuple",data := .seq #[.int k tk,x] }) z i ((k:Int) + 1) old:=Heap.get?_push_of_some _ Z3
 have sz:g3.objs.size = hp.objs.size:=by rw [S3.1,S2.1,S1.1]
 have zl:z < hp.objs.size:=Heap.lt_size hz
 have T4:(g3.push { cls := .type "tuple",data := .seq #[.int k tk,x] }).get? hp.objs.size = some { cls := .type "tuple",data := .seq #[.int k tk,x] }:=by rw [<- sz];exact Heap.get?_push_size _ rfl
 have K4:∀ b o,b ≠ z -> b ≠ i -> hp.get? b = some o -> (g3.push { cls := .type "tuple",data := .seq #[.int k tk,x] }).get? b = some o:=fun b o bz bi e =>
  Heap.get?_push_of_some _ (S3.extBut b o bz (S2.extBut b o bz (S1.extBut b o bi e)))
 have I4:At t (g3.push { cls := .type "tuple",data := .seq #[.int k tk,x] }) i a (k + 1):=i1.up fun o e=>Heap.get?_push_of_some _ (S3.extBut i o hne.symm (S2.extBut i o hne.symm e))
 rw [sz]
 generalize g3.push { cls := .type "tuple",data := .seq #[.int k tk,x] } = g4 at Z4 T4 K4 I4
 refine wpAny_bind (m:=ownedTupleIsFree (.ref z)) ?_
 unfold ownedTupleIsFree
 refine wpAny_bind (wpAny_field (s:=⟨g4,g,d,tk + 1,os⟩) Z4 rfl (x := .none) rfl (wpAny_pure ?_))
 simp only [if_true]
 refine wpAny_bind (wpAny_rule (wpAny_bind (wpAny_field (s:=⟨g4,g,d,tk + 1,os⟩) Z4 rfl (x:=old) rfl (wpAny_bind (wpAny_setField_rec (s:=⟨g4,g,d,tk + 1,os⟩) Z4 (by simp) fun g5 z5 s5 => ?_)))))
 have S5:Heap.SameBut z g4 g5:=s5
 have Z5:IsEnum g5 z i ((k:Int) + 1) x:=z5
 clear s5 z5
 refine wpAny_bind (m:=ownedTupleHandOut (.ref z) (.ref hp.objs.size)) ?_
 unfold ownedTupleHandOut
 refine wpAny_bind (wpAny_setField_rec (s:=⟨g5,g,d,tk + 1,os⟩) Z5 (by simp) fun g6 z6 s6 => ?_)
 have S6:Heap.SameBut z g5 g6:=s6
 have Z6:IsEnumOut g6 z i ((k:Int) + 1) x hp.objs.size:=z6
 clear s6 z6
 refine wpAny_setField_rec (s:=⟨g6,g,d,tk + 1,os⟩) Z6 (by simp) fun g7 z7 s7 => ?_
 have S7:Heap.SameBut z g6 g7:=s7
 have Z7:IsEnumOut g7 z i ((k:Int) + 1) x hp.objs.size:=z7
 clear s7 z7
 have up:∀ b o,b ≠ z -> g4.get? b = some o -> g7.get? b = some o:=fun b o bz e=>S7.extBut b o bz (S6.extBut b o bz (S5.extBut b o bz e))
 exact wpAny_bind (wpAny_letGo (wpAny_pure ⟨_,rfl,q g7 Z7 (I4.up fun o e=>up i o hne.symm e) (up _ _ (Nat.ne_of_gt zl) T4) fun b o bz bi e=>up b o bz (K4 b o bz bi e)⟩))
theorem nxt_item {z i a:Addr} {t:Bool} {k:Nat} {xs:Array Value} {x old:Value} {Q:Option Value -> Shared -> Prop} (hz:IsEnum s.heap z i k old) (hi:Zp.At t s.heap i a k) (ha:Zp.Sq t s.heap a xs) (hx:xs[k]? = some x) (hne:z ≠ i)
 (q:∀ h',IsEnumOut h' z i ((k:Int) + 1) x s.heap.objs.size -> Zp.At t h' i a (k + 1) -> h'.get? s.heap.objs.size = some { cls := .type "tuple",data := .seq #[.int k s.toks,x] } ->
   (∀ b o,b ≠ z -> b ≠ i -> s.heap.get? b = some o -> h'.get? b = some o) -> Q (some (.ref s.heap.objs.size)) { s with heap:=h',toks:=s.toks + 1 }) :
 wpAny (model prog w) A (pyNext (.ref z)) Q E s:=by
 have ty:s.TypeIs (.ref z) "enumerate" := ⟨_,hz,rfl⟩
 unfold pyNext
 exact wpAny_bind (wpAny_attempt (wpAny_callSpecial?_slot (name:=Str.ofString "__next__") ty F.slot_enumerate_next (wpAny_call_entry F.slot_enumerate_next ty F.entry_enumerate_next
  (wH hz hi ha hx hne fun h' a1 a2 a3 a4=>wpAny_pure (q h' a1 a2 a3 a4)) (F.args_enumerate_next_1 _))))
theorem nxt_end {z i a:Addr} {t:Bool} {k:Nat} {xs:Array Value} {old:Value} {Q:Option Value -> Shared -> Prop} (hn:A.handled = none) (hz:IsEnum s.heap z i k old) (hi:Zp.At t s.heap i a k) (ha:Zp.Sq t s.heap a xs) (hx:xs[k]? = none)
 (q:∀ h',Heap.ExtBut i s.heap h' -> Q none { s with heap:=h' }):wpAny (model prog w) A (pyNext (.ref z)) Q E s:=by
 have ty:s.TypeIs (.ref z) "enumerate" := ⟨_,hz,rfl⟩
 unfold pyNext
 refine wpAny_bind (wpAny_attempt (wpAny_callSpecial?_slot (name:=Str.ofString "__next__") ty F.slot_enumerate_next (wpAny_call_entry F.slot_enumerate_next ty F.entry_enumerate_next ?_ (F.args_enumerate_next_1 _))))
 refine wpAny_bind (m:=field (.ref z) 2) (wpAny_field hz rfl (x := .ref i) rfl (wpAny_bind (Zp.nx_end hn hi ha hx fun h' x he hs => ?_)))
 obtain ⟨o,ho,hc⟩:=hs
 exact wpAny_bind (wpAny_isInstance (T := "StopIteration") (b:=true) ⟨o,ho,hc⟩ isSubtype_stop (wpAny_pure (q _ he)))
open AutoSeq1 (wpAny_loadPart') in
theorem uc (l:Addr) (items:Array Value) (n:Nat) (dct:Option Addr) (sl:Array (Option Value)) :
 Meets (Builtin.«enumerate.__new__» ⟨[.type "enumerate", .ref l],[]⟩) (fun _ R s=>s.heap.get? l = some { cls := .type "tuple",dict:=dct,data := .seq items n,slots:=sl } /\
  R (.ok (.ret (.ref (s.heap.push (Zp.itO true l)).objs.size))) { s with heap:=(s.heap.push (Zp.itO true l)).push { cls := .type "enumerate",data := .fields #[.none, .bool false, .ref s.heap.objs.size,rawInt 0, .none, .none] } }) :=
 .of_wp fun prog w A R s h=>by
  obtain ⟨hp,g,d,tk,os⟩:=s;obtain ⟨hl,h⟩:=h
  have hsub:=sub_enumerate
  have hT:Heap.IsTuple (Shared.heap ⟨hp,g,d,tk,os⟩) l items:=⟨_,hl,rfl,n,rfl⟩
  wp_walk using wpAny_loadPart' hl
  refine wpAny_stack_any fun st=>wpAny_pure ?_
  split
  ·rename_i c _ _ _ _ _
   cases (c == Value.type "enumerate") <;> (wp_walk using wpAny_loadPart' hl,wpAny_pyIter_tuple hT;exact ⟨_,rfl,h⟩)
  ·wp_walk using wpAny_loadPart' hl,wpAny_pyIter_tuple hT
   exact ⟨_,rfl,h⟩
theorem call_enum {t:Bool} {l:Addr} {items:Array Value} {Q:Value -> Shared -> Prop} (hL:Zp.Sq t s.heap l items)
 (q:∀ h',IsEnum h' (s.heap.objs.size + 1) s.heap.objs.size 0 .none -> Zp.At t h' s.heap.objs.size l 0 -> (∀ b o,s.heap.get? b = some o -> h'.get? b = some o) -> Q (.ref (s.heap.objs.size + 1)) { s with heap:=h' }) :
 wpAny (model prog w) A (call (.type "enumerate") [.ref l]) Q E s:=by
 cases t with
 | false=>exact call_enumerate_list hL fun h' a b _ k=>q h' a b k
 | true =>
   obtain ⟨⟨c,dct,dt,sl⟩,hl,hc,n,hd⟩:=hL
   have hc':c = .type "tuple" := hc
   have hd':dt = .seq items n:=hd
   subst hc' hd'
   refine callType_new F.called_enumerate (by decide) (F.typeCall_enumerate_1 _) (F.newCall_enumerate_1 _) (fun obj=>F.args_object_init_2 obj _) F.entry_enumerate_new (uc l items n dct sl) ⟨hl, ?_⟩
   have z1:(s.heap.push (Zp.itO true l)).objs.size = s.heap.objs.size + 1:=Heap.size_push ..
   have e:((s.heap.push (Zp.itO true l)).push { cls := .type "enumerate",data := .fields #[.none, .bool false, .ref s.heap.objs.size,rawInt 0, .none, .none] }).get? (s.heap.push (Zp.itO true l)).objs.size = some _:=Heap.get?_push_size _ rfl
   rw [z1] at e
   show _ /\ _
   rw [z1]
   exact ⟨⟨_,e,rfl⟩,q _ e (Zp.at_new (Heap.get?_push_of_some _ (Heap.get?_push_size _ rfl))) fun b o x=>Heap.get?_push_of_some _ (Heap.get?_push_of_some _ x)⟩
end
end En
open PySem PySem.Spec PyProof.Rows
noncomputable def Ite (K:PySem.W.Frag) (t:Bool) (a:Addr):It :=
 ⟨fun i H => ∃ xs x,SqV K t H a xs /\ xs[i]? = some x,
  fun i H v H' => ∃ p x,H p = none /\ v = .ref p /\ H' = upd H p (.tup [.int (i:Nat),x]) /\ ∀ xs,SqV K t H a xs -> xs[i]? = some x,
  fun i H => ∃ xs,SqV K t H a xs /\ xs.length <= i⟩
theorem oR {P:Program} {w:World} {K:PySem.W.Frag} {elts:List Expr} {cx} {pos:Pos} {t:Bool} {z i a:Addr} (hzi:z ≠ i) :
 ee P w K (.Tuple elts cx pos) (Ite K t a) [z,i] z (fun k h=>(∃ old,IsEnum h z i k old) /\ Zp.At t h i a k) where
 mem:=by simp
 obj:=fun k h ⟨⟨old,hz⟩,hi⟩ c hc=>by
  simp only [List.mem_cons,List.not_mem_nil,or_false] at hc
  rcases hc with rfl | rfl
  ·exact ⟨_,hz,fun v e=>by cases e⟩
  ·exact hi.lt
 keep:=fun k h h' ⟨⟨old,hz⟩,hi⟩ kk=>⟨⟨old,kk z (by simp) _ hz⟩,hi.up fun o e=>kk i (by simp) o e⟩
 item:=by
  intro X hP hw hK hc k pins s σ H E I hf st hg
  subst hP hw hK
  obtain ⟨⟨old,hz⟩,hi⟩:=st
  obtain ⟨xs,x,qx,ex⟩:=hg
  obtain ⟨is,rx,px⟩:=I.sqv qx
  obtain ⟨ux,hux,rux⟩:=rx.get ex
  refine En.nxt_item hz hi px (by simpa using hux) hzi fun h1 z1 i1 p1 k1=>⟨_,rfl, ?_⟩
  refine wpAny_letOwnedTupleGo_enum (s := { s with heap:=h1,toks:=s.toks + 1 }) z1 fun h2 z2 s2 => ?_
  have lt:∀ {c o},s.heap.get? c = some o -> c ≠ s.heap.objs.size:=fun e=>Nat.ne_of_lt (Heap.lt_size e)
  have nz:s.heap.objs.size ≠ z:=(lt hz).symm
  have hi0:∃ o,s.heap.get? i = some o:=hi.lt.imp fun _ h=>h.1
  have up:∀ c o,c ≠ z -> h1.get? c = some o -> h2.get? c = some o:=fun c o n e=>s2.extBut _ _ n e
  have IL:Inv X pins σ (upd H s.heap.objs.size (.tup [.int (k:Nat),x])) { s with heap:=s.heap.push { cls := .type "tuple",data := .seq #[.int k s.toks,ux] },toks:=s.toks + 1 } :=
   I.laid (fun b o e=>Heap.get?_push_of_some _ e) (Nat.le_refl _) ⟨by rw [sizeLine_eq];simp,[.int k s.toks,ux], .cons ⟨_,rfl⟩ (.cons rux .nil),IsTup.new _ _⟩
  have fr:∀ c ∈ [z,i],c ≠ s.heap.objs.size:=fun c hc=>by
   simp only [List.mem_cons,List.not_mem_nil,or_false] at hc
   rcases hc with rfl | rfl
   ·exact lt hz
   ·obtain ⟨o,e⟩:=hi0;exact lt e
  have un:∀ c ∈ [z,i],upd H s.heap.objs.size (.tup [.int (k:Nat),x]) c = none:=fun c hc=>by
   rw [aj (fr c hc)];exact (hf c hc).1
  have kk:∀ c o,c ∉ [z,i] -> (s.heap.push { cls := .type "tuple",data := .seq #[.int k s.toks,ux] }).get? c = some o -> h2.get? c = some o:=fun c o hc e=>by
   simp only [List.mem_cons,List.not_mem_nil,or_false,not_or] at hc
   rcases Heap.get?_push_cases e with ⟨rfl,rfl⟩ | e
   ·exact up _ _ nz p1
   ·exact up _ _ hc.1 (k1 c o hc.1 hc.2 e)
  have I2:Inv X pins σ (upd H s.heap.objs.size (.tup [.int (k:Nat),x])) { s with heap:=h2,toks:=s.toks + 1 } :=
   Inv.turnedL (s := { s with heap:=s.heap.push { cls := .type "tuple",data := .seq #[.int k s.toks,ux] },toks:=s.toks + 1 }) (h':=h2) (t':=s.toks + 1) (fp := [z,i]) IL (fun c hc=>⟨un c hc,(hf c hc).2⟩) kk
  refine ⟨.ref s.heap.objs.size,_,I2,rfl,⟨_,x,I.hok.fresh (Nat.le_refl _),rfl,rfl,fun xs' q1 => ?_⟩,⟨⟨ux,by simpa using z2⟩,i1.up fun o e=>up _ o hzi.symm e⟩,un⟩
  rw [I.sqv_inj q1 qx];exact ex
 done:=by
  intro X hP hw hK hc k pins s σ H E I hf st hg
  subst hP hw hK
  obtain ⟨⟨old,hz⟩,hi⟩:=st
  obtain ⟨xs,qx,hend⟩:=hg
  obtain ⟨is,rx,px⟩:=I.sqv qx
  have lx:=rx.length
  refine En.nxt_end (I.ok.hd hc) hz hi px (by simp;omega) fun h1 k1=>⟨rfl,I.turnedL (t':=s.toks) hf fun c o hc e => ?_⟩
  simp only [List.mem_cons,List.not_mem_nil,or_false,not_or] at hc
  exact k1 c o hc.2 e
 self:=fun A k s Q E ⟨⟨old,hz⟩,_⟩ h=>wpAny_pyIter_enum hz h
section
variable {X:Cx}
noncomputable def yt (K:PySem.W.Frag) (ta:TA):TI:=fun σ H R=>ta σ H fun vs H1 => ∃ a t xs,vs = [.ref a] /\ SqV K t H1 a xs /\ R (Ite K t a) H1
theorem ud {elts:List Expr} {cx} {pos p pos':Pos} {a:Expr} {ta:TA} (hg:Gl X "enumerate") (hm:X.mg "enumerate" = none) (ha:PA X [a] ta) (hs:starEach [a] X.env = [(false,eval a X.env)]) :
 PI X (.Tuple elts cx pos) (.Call (.Name "enumerate" p) [a] [] pos') (yt X.K ta):=by
 intro pins s σ H R I h
 refine Call_ (dv I hg hm (u := .type "enumerate") boot_enumerate (PyProof.Rows.callWith_type1 (thn (ha pos' pins s σ H _ I h) fun us s1 ⟨vs,H1,I1,r1,q1⟩ => ?_) hs rfl))
 obtain ⟨a',t,xs,rfl,qx,q⟩:=q1
 cases r1 with
 | cons r rr =>
   cases rr
   cases r
   obtain ⟨is,rx,px⟩:=I1.sqv qx
   refine En.call_enum px fun h1 z1 i1 k1 => ?_
   refine wpAny_pyIter_enum z1 ?_
   refine ⟨_,_,_,_,H1,rfl,I1.kept (t':=s1.toks) k1,oR (t:=t) (a:=a') (by simp),⟨⟨_,z1⟩,i1⟩,fun c hc => ?_,q⟩
   have hle:s1.heap.objs.size <= c:=by
    simp only [List.mem_cons,List.not_mem_nil,or_false] at hc
    rcases hc with rfl | rfl <;> omega
   exact I1.fpOk hle (I1.hok.fresh hle)
end
end L2
namespace L2
namespace Rv
open PySem PySem.Spec PyProof.Rows
noncomputable def rO (l:Addr) (i:Int):Obj := { cls := .type "list_reverseiterator",data := .fields #[.ref l,rawInt i] }
section
variable {prog:Program} {w:World} {A:Around} {E:Value -> Shared -> Prop} {s:Shared}
theorem slot_next:Slot "list_reverseiterator" "__next__" "list_reverseiterator.__next__" := .of (owner := "list_reverseiterator") (n := "__next__") (by rw [typeLookup_type,builtinLookup_eq_fast];kernel_rfl) (by decide +kernel) (by decide +kernel) (by decide +kernel) (.inl (by decide +kernel)) (by rw [isSubtype_type];kernel_rfl)
theorem iq:Slot "list_reverseiterator" "__iter__" "list_reverseiterator.__iter__" := .of (owner := "list_reverseiterator") (n := "__iter__") (by rw [typeLookup_type,builtinLookup_eq_fast];kernel_rfl) (by decide +kernel) (by decide +kernel) (by decide +kernel) (.inl (by decide +kernel)) (by rw [isSubtype_type];kernel_rfl)
theorem bE:entryFor table "list_reverseiterator.__next__" = some Builtin.«list_reverseiterator.__next__» := entryFor_of_tree (by kernel_rfl)
theorem mQ:entryFor table "list_reverseiterator.__iter__" = some Builtin.«dict_keyiterator.__iter__» :=
 entryFor_alias (id' := "dict_keyiterator.__iter__") (by kernel_rfl) (by first | rfl | decide +kernel | (unfold String.splitOn;simp +decide [String.splitOnAux])) (by decide +kernel) (by kernel_rfl)
theorem bP (a:Value):argsOk "list_reverseiterator.__next__" ⟨[a],[]⟩:=by unfold argsOk;kernel_rfl
theorem oS (a:Value):argsOk "list_reverseiterator.__iter__" ⟨[a],[]⟩:=by unfold argsOk;kernel_rfl
theorem aI:typeLookup (.type "list_reverseiterator") "__length_hint__" = pure (some (.builtin "list_reverseiterator.__length_hint__")):=by rw [typeLookup_type,builtinLookup_eq_fast];kernel_rfl
theorem nx_item {it l:Addr} {i:Nat} {xs:Array Value} {x:Value} {Q:Option Value -> Shared -> Prop} (hi:s.heap.get? it = some (rO l i)) (hl:s.heap.IsList l xs) (hx:xs[i]? = some x)
 (q:∀ h',h'.get? it = some (rO l ((i:Int) - 1)) -> Heap.SameBut it s.heap h' -> Q (some x) { s with heap:=h' }):wpAny (model prog w) A (pyNext (.ref it)) Q E s:=by
 have ty:s.TypeIs (.ref it) "list_reverseiterator" := ⟨_,hi,rfl⟩
 obtain ⟨oq,hoq,_,nq,hdq⟩:=hl
 unfold pyNext
 refine wpAny_bind (wpAny_attempt (wpAny_callSpecial?_slot (name:=Str.ofString "__next__") ty slot_next (wpAny_call_entry slot_next ty bE ?_ (bP _))))
 refine wpAny_bind (m:=field (.ref it) 1) (wpAny_field hi rfl (x := .int i 0) rfl ?_)
 dsimp only
 rw [if_neg (show ¬ ((i:Int) < 0) by omega)]
 refine wpAny_bind (m:=field (.ref it) 0) (wpAny_field hi rfl (x := .ref l) rfl ?_)
 refine wpAny_bind (m:=seqItems? (.ref l)) (wpAny_seqItems hoq hdq ?_)
 simp only [Int.toNat_natCast,hx]
 refine wpAny_bind (wpAny_setField_rec hi (by simp) fun h' e' s'=>wpAny_pure ⟨x,rfl,wpAny_pure (q h' e' s')⟩)
theorem nx_end {it l:Addr} {Q:Option Value -> Shared -> Prop} (hn:A.handled = none) (hi:s.heap.get? it = some (rO l (-1)))
 (q:∀ h',(∀ b o,s.heap.get? b = some o -> h'.get? b = some o) -> Q none { s with heap:=h' }):wpAny (model prog w) A (pyNext (.ref it)) Q E s:=by
 have ty:s.TypeIs (.ref it) "list_reverseiterator" := ⟨_,hi,rfl⟩
 unfold pyNext
 refine wpAny_bind (wpAny_attempt (wpAny_callSpecial?_slot (name:=Str.ofString "__next__") ty slot_next (wpAny_call_entry slot_next ty bE ?_ (bP _))))
 refine wpAny_bind (m:=field (.ref it) 1) (wpAny_field hi rfl (x := .int (-1) 0) rfl ?_)
 dsimp only
 rw [if_pos (show (-1:Int) < 0 by omega)]
 refine wpAny_bind (wpAny_rule (wpAny_bind ?_))
 unfold Builtin.SmallTypes.stopIteration
 refine wpAny_bind (m:=newExc (.type "StopIteration") []) ?_
 simp only [newExc,newTuple]
 refine wpAny_bind (wpAny_newObj_type ?_ (by size_fits))
 refine wpAny_bind (m:=firstArgMember _ _) (wpAny_of_eq (a:=Value.none) (by first | rfl | (simp only [firstArgMember];rfl)) (wpAny_newObj_type ?_ (by size_fits)))
 simp only [raiseNew]
 refine wpAny_bind (wpAny_handled ?_)
 first | rw [show A.in1.handled = none from hn] | rw [hn]
 refine wpAny_bind (wpAny_pure (wpAny_throw ?_))
 exact wpAny_bind (wpAny_isInstance (T := "StopIteration") (b:=true) ⟨_,Heap.get?_push_size _ rfl,rfl⟩ isSubtype_stop (wpAny_pure (q _ fun b o e=>Heap.get?_push_of_some _ (Heap.get?_push_of_some _ e))))
theorem ue {it l:Addr} {i:Int} {Q:Value -> Shared -> Prop} (hi:s.heap.get? it = some (rO l i)) (h:Q (.ref it) s):wpAny (model prog w) A (pyIter (.ref it)) Q E s:=by
 have ty:s.TypeIs (.ref it) "list_reverseiterator" := ⟨_,hi,rfl⟩
 refine wpAny_pyIter_slot ty iq (wpAny_call_entry iq ty mQ ?_ (oS _))
 exact wpAny_pure ⟨_,rfl, "list_reverseiterator",_,ty,slot_next.lookup,h⟩
theorem walk (hn:A.handled = none) (it l:Addr) (hne:l ≠ it) (xs:Array Value) :
 Walks prog w A it [it,l] [it] xs.size (fun i v=>xs[xs.size - 1 - i]? = some v) (fun i h=>h.get? it = some (rO l ((xs.size:Int) - 1 - i)) /\ h.IsList l xs) where
 sub:=fun b hb=>by simp at hb;simp [hb]
 frame:=fun _ _ _ st k=>⟨k it (by simp) _ st.1,st.2.at fun o e=>k l (by simp) o e⟩
 item:=fun i s Q E hi st q=>by
  have e:(xs.size:Int) - 1 - i = ((xs.size - 1 - i:Nat):Int):=by omega
  have e2:(xs.size:Int) - 1 - ((i + 1:Nat):Int) = ((xs.size - 1 - i:Nat):Int) - 1:=by omega
  refine nx_item (i:=xs.size - 1 - i) (x:=xs[xs.size - 1 - i]) (by rw [<- e];exact st.1) st.2 (by simp) fun h' e' s' => ?_
  exact q _ h' s.toks (by simp) ⟨by rw [e2];exact e',st.2.extBut s'.extBut hne⟩ fun b o hb x=>s'.extBut b o (fun z=>hb (by simp [z])) x
 done:=fun s Q E st q=>by
  have e:(xs.size:Int) - 1 - (xs.size:Nat) = -1:=by omega
  exact nx_end hn (by rw [<- e];exact st.1) fun h' k=>q h' s.toks fun b o _ x=>k b o x
 self:=fun i s Q E st q=>ue st.1 q
end
end Rv
open PySem PySem.Spec PyProof.Rows
section
variable {X:Cx}
end
end L2
namespace L2
namespace Mi
open PySem PySem.Spec PyProof.Rows
inductive D where
 | non | bl (b:Bool) | int (i:Int) | str (x:Str) | tup (ds:List D) | con (ds:List D) | ref (a:Addr)
inductive O where
 | lst (ds:List D)
 | dct (t:Bool) (kvs:List (D × D))
 | fdc (kvs:List (D × D))
noncomputable abbrev Mem:=Addr -> Option O
noncomputable def fz:Option O -> Bool
 | some (.lst _)=>false
 | some (.dct _ _)=>false
 | _=>true
noncomputable abbrev al:=List (Option D)
noncomputable def ak (M:Mem) (a:Addr) (o:O):Mem:=fun b=>if b = a then some o else M b
theorem ae {M:Mem} {a:Addr} {o:O}:ak M a o a = some o:=by unfold ak;rw [if_pos rfl]
theorem am {M:Mem} {a b:Addr} {o:O} (h:b ≠ a):ak M a o b = M b:=by unfold ak;rw [if_neg h]
noncomputable def SqF (K:PySem.W.Frag) (H:Hp) (a:Addr) (xs:List V):Prop :=
 (∃ o,H a = some (.frz o (.lst xs))) ∨
  ∃ (o:Obj) (its:Array Value) (n:Nat),K.lookup a = some o /\ o.cls = .type "list" /\ o.dict = none /\ o.data = .seq its n /\ its.size <= sizeLine /\ Vals xs its.toList
theorem SqF.sq {K:PySem.W.Frag} {H:Hp} {a:Addr} {xs:List V} (h:SqF K H a xs):SqL K H a xs:=by
 rcases h with ⟨o,h⟩ | h
 ·exact .inl (.inr ⟨o,h⟩)
 ·exact .inr h
mutual
noncomputable def RD (K:PySem.W.Frag) (H:Hp):D -> V -> Prop
 | .non,v=>v = .non
 | .bl b,v=>v = .bl b
 | .int i,v=>v = .int i
 | .str x,v=>v = .str x
 | .tup ds,v => ∃ a vs,v = .ref a /\ H a = some (.tup vs) /\ RDs K H ds vs
 | .con ds,v => ∃ a vs,v = .ref a /\ SqF K H a vs /\ RDs K H ds vs
 | .ref a,v=>v = .ref a
noncomputable def RDs (K:PySem.W.Frag) (H:Hp):List D -> List V -> Prop
 | [],vs=>vs = []
 | d :: ds,vs => ∃ v r,vs = v :: r /\ RD K H d v /\ RDs K H ds r
end
structure Stab (H H':Hp):Prop where
 tup:∀ a xs,H a = some (.tup xs) -> H' a = some (.tup xs)
 frz:∀ a o u,H a = some (.frz o u) -> H' a = some (.frz o u)
theorem Stab.sqF {K:PySem.W.Frag} {H H':Hp} (st:Stab H H') {a:Addr} {xs:List V} (h:SqF K H a xs):SqF K H' a xs:=by
 rcases h with ⟨o,h⟩ | h
 ·exact .inl ⟨o,st.frz _ _ _ h⟩
 ·exact .inr h
mutual
theorem RD.mono {K:PySem.W.Frag} {H H':Hp} (st:Stab H H'):∀ {d:D} {v:V},RD K H d v -> RD K H' d v
 | .non,_,h=>h
 | .bl _,_,h=>h
 | .int _,_,h=>h
 | .str _,_,h=>h
 | .tup ds,v,h=>by
  unfold RD at h ⊢
  obtain ⟨a,vs,e,q,r⟩:=h
  exact ⟨a,vs,e,st.tup _ _ q,RDs.mono st r⟩
 | .con ds,v,h=>by
  unfold RD at h ⊢
  obtain ⟨a,vs,e,q,r⟩:=h
  exact ⟨a,vs,e,st.sqF q,RDs.mono st r⟩
 | .ref _,_,h=>h
theorem RDs.mono {K:PySem.W.Frag} {H H':Hp} (st:Stab H H'):∀ {ds:List D} {vs:List V},RDs K H ds vs -> RDs K H' ds vs
 | [],_,h=>h
 | d :: ds,vs,h=>by
   unfold RDs at h ⊢
   obtain ⟨v,r,e,h1,h2⟩:=h
   exact ⟨v,r,e,RD.mono st h1,RDs.mono st h2⟩
end
section
variable {K:PySem.W.Frag} {H H':Hp}
theorem RD.int_iff {i:Int} {v:V}:RD K H (.int i) v ↔ v = .int i:=by unfold RD;exact Iff.rfl
theorem RD.bl_iff {b:Bool} {v:V}:RD K H (.bl b) v ↔ v = .bl b:=by unfold RD;exact Iff.rfl
theorem RD.non_iff {v:V}:RD K H .non v ↔ v = .non:=by unfold RD;exact Iff.rfl
theorem RD.str_iff {x:Str} {v:V}:RD K H (.str x) v ↔ v = .str x:=by unfold RD;exact Iff.rfl
theorem RD.ref_iff {a:Addr} {v:V}:RD K H (.ref a) v ↔ v = .ref a:=by unfold RD;exact Iff.rfl
theorem RD.tup_iff {ds:List D} {v:V}:RD K H (.tup ds) v ↔ ∃ a vs,v = .ref a /\ H a = some (.tup vs) /\ RDs K H ds vs:=by rw [RD]
theorem RD.con_iff {ds:List D} {v:V}:RD K H (.con ds) v ↔ ∃ a vs,v = .ref a /\ SqF K H a vs /\ RDs K H ds vs:=by rw [RD]
theorem RDs.nil_iff {vs:List V}:RDs K H [] vs ↔ vs = []:=by rw [RDs]
theorem RDs.cons_iff {d:D} {ds:List D} {vs:List V}:RDs K H (d :: ds) vs ↔ ∃ v r,vs = v :: r /\ RD K H d v /\ RDs K H ds r:=by rw [RDs]
theorem RDs.nil:RDs K H [] []:=RDs.nil_iff.mpr rfl
theorem RDs.cons {d:D} {ds:List D} {v:V} {vs:List V} (h:RD K H d v) (r:RDs K H ds vs):RDs K H (d :: ds) (v :: vs):=RDs.cons_iff.mpr ⟨v,vs,rfl,h,r⟩
theorem RDs.length:∀ {ds:List D} {vs:List V},RDs K H ds vs -> vs.length = ds.length
 | [],_,h=>by rw [RDs.nil_iff.mp h];rfl
 | d :: ds,_,h=>by
   obtain ⟨v,r,rfl,_,h2⟩:=RDs.cons_iff.mp h
   simp [RDs.length h2]
theorem RDs.get:∀ {ds:List D} {vs:List V} {i:Nat} {d:D},RDs K H ds vs -> ds[i]? = some d -> ∃ v,vs[i]? = some v /\ RD K H d v
 | [],_,_,_,_,e=>by simp at e
 | d :: ds,_,0,d',h,e=>by
   obtain ⟨v,r,rfl,h1,h2⟩:=RDs.cons_iff.mp h
   simp at e;subst e
   exact ⟨v,rfl,h1⟩
 | d :: ds,_,i + 1,d',h,e=>by
   obtain ⟨v,r,rfl,h1,h2⟩:=RDs.cons_iff.mp h
   obtain ⟨u,q1,q2⟩:=RDs.get (i:=i) (d:=d') h2 (by simpa using e)
   exact ⟨u,by simpa using q1,q2⟩
theorem RDs.getV {ds:List D} {vs:List V} {i:Nat} {v:V} (h:RDs K H ds vs) (e:vs[i]? = some v):∃ d,ds[i]? = some d /\ RD K H d v:=by
 have hl:=h.length
 have hi:i < vs.length:=(List.getElem?_eq_some_iff.mp e).1
 obtain ⟨d,hd⟩:∃ d,ds[i]? = some d:=⟨ds[i]'(by omega),List.getElem?_eq_getElem (by omega)⟩
 obtain ⟨u,q1,q2⟩:=h.get hd
 rw [e] at q1;cases q1
 exact ⟨d,hd,q2⟩
theorem RDs.append:∀ {ds es:List D} {vs us:List V},RDs K H ds vs -> RDs K H es us -> RDs K H (ds ++ es) (vs ++ us)
 | [],_,_,_,h,q=>by rw [RDs.nil_iff.mp h];exact q
 | d :: ds,_,_,_,h,q=>by
   obtain ⟨v,r,rfl,h1,h2⟩:=RDs.cons_iff.mp h
   exact RDs.cons h1 (RDs.append h2 q)
theorem RDs.take:∀ {ds:List D} {vs:List V} (n:Nat),RDs K H ds vs -> RDs K H (ds.take n) (vs.take n)
 | [],_,n,h=>by rw [RDs.nil_iff.mp h];simp;exact RDs.nil
 | _ :: _,_,0,h=>by simp;exact RDs.nil
 | d :: ds,_,n + 1,h=>by
   obtain ⟨v,r,rfl,h1,h2⟩:=RDs.cons_iff.mp h
   exact RDs.cons h1 (RDs.take n h2)
theorem RDs.drop:∀ {ds:List D} {vs:List V} (n:Nat),RDs K H ds vs -> RDs K H (ds.drop n) (vs.drop n)
 | [],_,n,h=>by rw [RDs.nil_iff.mp h];simp;exact RDs.nil
 | d :: ds,_,0,h=>h
 | d :: ds,_,n + 1,h=>by
   obtain ⟨v,r,rfl,h1,h2⟩:=RDs.cons_iff.mp h
   exact RDs.drop n h2
theorem RDs.set:∀ {ds:List D} {vs:List V} (n:Nat) {d:D} {v:V},RD K H d v -> RDs K H ds vs -> RDs K H (ds.set n d) (vs.set n v)
 | [],_,n,_,_,_,h=>by rw [RDs.nil_iff.mp h];exact RDs.nil
 | d :: ds,_,0,_,_,q,h=>by
   obtain ⟨v,r,rfl,h1,h2⟩:=RDs.cons_iff.mp h
   exact RDs.cons q h2
 | d :: ds,_,n + 1,_,_,q,h=>by
   obtain ⟨v,r,rfl,h1,h2⟩:=RDs.cons_iff.mp h
   exact RDs.cons h1 (RDs.set n q h2)
theorem RDs.reverse {ds:List D} {vs:List V} (h:RDs K H ds vs):RDs K H ds.reverse vs.reverse:=by
 induction ds generalizing vs with
 | nil=>rw [RDs.nil_iff.mp h];exact RDs.nil
 | cons d ds ih =>
   obtain ⟨v,r,rfl,h1,h2⟩:=RDs.cons_iff.mp h
   rw [List.reverse_cons,List.reverse_cons]
   exact (ih h2).append (RDs.cons h1 RDs.nil)
theorem RDs.rep {ds:List D} {vs:List V} (h:RDs K H ds vs):∀ k:Nat,RDs K H (List.replicate k ds).flatten (List.replicate k vs).flatten
 | 0=>RDs.nil
 | k + 1=>by
   rw [List.replicate_succ,List.replicate_succ,List.flatten_cons,List.flatten_cons]
   exact h.append (h.rep k)
theorem RDs.ints:∀ (ns:List Int),RDs K H (ns.map D.int) (ns.map V.int)
 | [] => RDs.nil
 | n :: ns=>RDs.cons (RD.int_iff.mpr rfl) (RDs.ints ns)
end
mutual
noncomputable def D.eqb:D -> D -> Bool
 | .non, .non=>true
 | .bl a, .bl b=>a == b
 | .int a, .int b=>decide (a = b)
 | .str a, .str b=>decide (a = b)
 | .tup a, .tup b=>D.eqbs a b
 | .con a, .con b=>D.eqbs a b
 | .ref a, .ref b=>decide (a = b)
 | _,_=>false
noncomputable def D.eqbs:List D -> List D -> Bool
 | [],[] => true
 | a :: r,b :: s=>D.eqb a b && D.eqbs r s
 | _,_=>false
end
mutual
theorem D.eqb_eq:∀ (a b:D),D.eqb a b = true -> a = b
 | .non, .non,_=>rfl
 | .bl a, .bl b,h=>by simp [D.eqb] at h;rw [h]
 | .int a, .int b,h=>by simp [D.eqb] at h;rw [h]
 | .str a, .str b,h=>by simp [D.eqb] at h;rw [h]
 | .tup a, .tup b,h=>by simp [D.eqb] at h;rw [D.eqbs_eq a b h]
 | .con a, .con b,h=>by simp [D.eqb] at h;rw [D.eqbs_eq a b h]
 | .ref a, .ref b,h=>by simp [D.eqb] at h;rw [h]
 | .non, .bl _,h=>by simp [D.eqb] at h
 | .non, .int _,h=>by simp [D.eqb] at h
 | .non, .str _,h=>by simp [D.eqb] at h
 | .non, .tup _,h=>by simp [D.eqb] at h
 | .non, .con _,h=>by simp [D.eqb] at h
 | .non, .ref _,h=>by simp [D.eqb] at h
 | .bl _, .non,h=>by simp [D.eqb] at h
 | .bl _, .int _,h=>by simp [D.eqb] at h
 | .bl _, .str _,h=>by simp [D.eqb] at h
 | .bl _, .tup _,h=>by simp [D.eqb] at h
 | .bl _, .con _,h=>by simp [D.eqb] at h
 | .bl _, .ref _,h=>by simp [D.eqb] at h
 | .int _, .non,h=>by simp [D.eqb] at h
 | .int _, .bl _,h=>by simp [D.eqb] at h
 | .int _, .str _,h=>by simp [D.eqb] at h
 | .int _, .tup _,h=>by simp [D.eqb] at h
 | .int _, .con _,h=>by simp [D.eqb] at h
 | .int _, .ref _,h=>by simp [D.eqb] at h
 | .str _, .non,h=>by simp [D.eqb] at h
 | .str _, .bl _,h=>by simp [D.eqb] at h
 | .str _, .int _,h=>by simp [D.eqb] at h
 | .str _, .tup _,h=>by simp [D.eqb] at h
 | .str _, .con _,h=>by simp [D.eqb] at h
 | .str _, .ref _,h=>by simp [D.eqb] at h
 | .tup _, .non,h=>by simp [D.eqb] at h
 | .tup _, .bl _,h=>by simp [D.eqb] at h
 | .tup _, .int _,h=>by simp [D.eqb] at h
 | .tup _, .str _,h=>by simp [D.eqb] at h
 | .tup _, .con _,h=>by simp [D.eqb] at h
 | .tup _, .ref _,h=>by simp [D.eqb] at h
 | .con _, .non,h=>by simp [D.eqb] at h
 | .con _, .bl _,h=>by simp [D.eqb] at h
 | .con _, .int _,h=>by simp [D.eqb] at h
 | .con _, .str _,h=>by simp [D.eqb] at h
 | .con _, .tup _,h=>by simp [D.eqb] at h
 | .con _, .ref _,h=>by simp [D.eqb] at h
 | .ref _, .non,h=>by simp [D.eqb] at h
 | .ref _, .bl _,h=>by simp [D.eqb] at h
 | .ref _, .int _,h=>by simp [D.eqb] at h
 | .ref _, .str _,h=>by simp [D.eqb] at h
 | .ref _, .tup _,h=>by simp [D.eqb] at h
 | .ref _, .con _,h=>by simp [D.eqb] at h
theorem D.eqbs_eq:∀ (a b:List D),D.eqbs a b = true -> a = b
 | [],[],_=>rfl
 | a :: r,b :: s,h=>by
   simp [D.eqbs] at h
   rw [D.eqb_eq a b h.1,D.eqbs_eq r s h.2]
 | [],_ :: _,h=>by simp [D.eqbs] at h
 | _ :: _,[],h=>by simp [D.eqbs] at h
end
mutual
theorem D.eqb_refl:∀ (a:D),D.eqb a a = true
 | .non=>rfl
 | .bl _=>by simp [D.eqb]
 | .int _=>by simp [D.eqb]
 | .str _=>by simp [D.eqb]
 | .tup a=>by simp [D.eqb,D.eqbs_refl a]
 | .con a=>by simp [D.eqb,D.eqbs_refl a]
 | .ref _=>by simp [D.eqb]
theorem D.eqbs_refl:∀ (a:List D),D.eqbs a a = true
 | [] => rfl
 | a :: r=>by simp [D.eqbs,D.eqb_refl a,D.eqbs_refl r]
end
noncomputable instance:DecidableEq D:=fun a b=>if h:D.eqb a b = true then isTrue (D.eqb_eq a b h) else isFalse fun e=>h (by rw [e];exact D.eqb_refl b)
noncomputable def RKey:D -> Key -> Prop
 | .int i,k=>k = .inl i
 | .str x,k=>k = .inr x
 | _,_=>False
noncomputable def RKeys:D -> List Key -> Prop
 | .tup ds,ks=>Paired RKey ds ks
 | _,_=>False
noncomputable def dget (kvs:List (D × D)) (k:D):Option D:=(kvs.find? fun p=>decide (p.1 = k)).map (·.2)
noncomputable def cb (kvs:List (D × D)) (k v:D):List (D × D):=if (kvs.any fun p=>decide (p.1 = k)) = true then kvs.map (fun p=>if p.1 = k then (p.1,v) else p) else kvs ++ [(k,v)]
noncomputable def dM:D -> Bool
 | .int _=>true
 | .str _=>true
 | _=>false
noncomputable def bX:D -> Bool
 | .tup ds=>ds.all dM
 | _=>false
noncomputable def gm (t:Bool) (k:D):Bool:=if t then bX k else dM k
theorem jt {k:D} (h:dM k = true):∃ q,RKey k q:=by
 cases k <;> first | (simp [dM] at h;done) | exact ⟨_,rfl⟩
theorem lp:∀ {ds:List D},ds.all dM = true -> ∃ ks,Paired RKey ds ks
 | [],_=>⟨[], .nil⟩
 | d :: ds,h=>by
   simp only [List.all_cons,Bool.and_eq_true] at h
   obtain ⟨k,hk⟩:=jt h.1
   obtain ⟨ks,hs⟩:=lp h.2
   exact ⟨k :: ks, .cons hk hs⟩
theorem gZ {k:D} (h:bX k = true):∃ q,RKeys k q:=by
 cases k <;> first | (simp [bX] at h;done) | exact lp h
noncomputable def RO (K:PySem.W.Frag) (H:Hp) (a:Addr):O -> Prop
 | .lst ds => ∃ vs,H a = some (.lst vs) /\ RDs K H ds vs
 | .dct false kvs => ∃ ps,H a = some (.dK ps) /\ Paired (fun (p:D × D) (q:Key × V)=>RKey p.1 q.1 /\ RD K H p.2 q.2) kvs ps
 | .dct true kvs => ∃ ps,H a = some (.dT ps) /\ Paired (fun (p:D × D) (q:List Key × V)=>RKeys p.1 q.1 /\ RD K H p.2 q.2) kvs ps
 | .fdc kvs => ∃ o ps,H a = some (.frz o (.dT ps)) /\ Paired (fun (p:D × D) (q:List Key × V)=>RKeys p.1 q.1 /\ RD K H p.2 q.2) kvs ps
noncomputable def RM (K:PySem.W.Frag) (M:Mem) (H:Hp):Prop := ∀ a o,M a = some o -> RO K H a o
noncomputable def RS (K:PySem.W.Frag) (H:Hp) (σ:St) (ρ:al):Prop := σ.length = ρ.length /\ ∀ (i:Nat) (d:D), ρ[i]? = some (some d) -> ∃ v, σ[i]? = some (some v) /\ RD K H d v
structure Ext (M:Mem) (H:Hp) (M':Mem) (H':Hp):Prop where
 kp:∀ a o,fz (M a) = true -> H a = some o -> H' a = some o
 nw:∀ a o,fz (M a) = true -> H a = some o -> M' a = M a
section
variable {K:PySem.W.Frag} {M M' M'':Mem} {H H' H'':Hp}
theorem Ext.keep (x:Ext M H M' H') (a:Addr) (o:HO) (n:M a = none) (e:H a = some o):H' a = some o:=x.kp a o (by rw [n];rfl) e
theorem Ext.new (x:Ext M H M' H') (a:Addr) (o:HO) (n:M a = none) (e:H a = some o):M' a = none:=(x.nw a o (by rw [n];rfl) e).trans n
theorem Ext.refl:Ext M H M H:=⟨fun _ _ _ h=>h,fun _ _ _ _=>rfl⟩
theorem Ext.trans (a:Ext M H M' H') (b:Ext M' H' M'' H''):Ext M H M'' H'' :=
 ⟨fun c o n h=>b.kp c o (by rw [a.nw c o n h];exact n) (a.kp c o n h),fun c o n h=>(b.nw c o (by rw [a.nw c o n h];exact n) (a.kp c o n h)).trans (a.nw c o n h)⟩
theorem RM.mut (r:RM K M H) {a:Addr} {o:O} (h:M a = some o):∃ ho,H a = some ho /\ (∀ xs,ho ≠ .tup xs) /\ (fz (some o) = false -> Mut (some ho) /\ ∀ ob u,ho ≠ .frz ob u):=by
 have q:=r a o h
 cases o with
 | lst ds =>
   obtain ⟨vs,e,_⟩:=q
   exact ⟨_,e,fun _ z=>(by cases z),fun _=>⟨trivial,fun _ _ z=>(by cases z)⟩⟩
 | dct t kvs =>
   cases t with
   | false=>obtain ⟨ps,e,_⟩:=q;exact ⟨_,e,fun _ z=>(by cases z),fun _=>⟨trivial,fun _ _ z=>(by cases z)⟩⟩
   | true=>obtain ⟨ps,e,_⟩:=q;exact ⟨_,e,fun _ z=>(by cases z),fun _=>⟨trivial,fun _ _ z=>(by cases z)⟩⟩
 | fdc kvs=>obtain ⟨ob,ps,e,_⟩:=q;exact ⟨_,e,fun _ z=>(by cases z),fun z=>(by cases z)⟩
theorem RM.fzT (r:RM K M H) {a:Addr} {xs:List V} (e:H a = some (.tup xs)):M a = none:=by
 cases q:M a with
 | none=>rfl
 | some o =>
   obtain ⟨ho,q1,q2,_⟩:=r.mut q
   rw [e] at q1;cases q1
   exact absurd rfl (q2 xs)
theorem RM.fzF (r:RM K M H) {a:Addr} {ob:Obj} {u:HO} (e:H a = some (.frz ob u)):fz (M a) = true:=by
 cases q:M a with
 | none=>rfl
 | some o =>
   obtain ⟨ho,q1,_,q2⟩:=r.mut q
   rw [e] at q1;cases q1
   cases z:fz (some o) with
   | true=>rfl
   | false=>exact absurd rfl ((q2 z).2 ob u)
theorem RM.out (r:RM K M H) {a:Addr} (h:H a = none):M a = none:=by
 cases e:M a with
 | none=>rfl
 | some o =>
   obtain ⟨ho,q,_⟩:=r.mut e
   rw [h] at q;cases q
theorem Ext.stab (r:RM K M H) (x:Ext M H M' H'):Stab H H' where
 tup:=fun a xs e=>x.keep a _ (r.fzT e) e
 frz:=fun a o u e=>x.kp a _ (r.fzF e) e
theorem RS.mono (st:Stab H H') {σ:St} {ρ:al} (h:RS K H σ ρ):RS K H' σ ρ :=
 ⟨h.1,fun i d e=>let ⟨v,q,r⟩:=h.2 i d e; ⟨v,q,r.mono st⟩⟩
theorem RS.set {σ:St} {ρ:al} (h:RS K H σ ρ) (i:Nat) {d:D} {v:V} (r:RD K H d v):RS K H (σ.set i (some v)) (ρ.set i (some d)):=by
 refine ⟨by simp [h.1],fun j e q => ?_⟩
 by_cases hij:i = j
 ·subst hij
  have hi:i < ρ.length:=by
   have:=(List.getElem?_eq_some_iff.mp q).1
   simpa using this
  rw [List.getElem?_set_self hi] at q
  cases q
  exact ⟨v,by rw [List.getElem?_set_self (by rw [h.1];exact hi)],r⟩
 ·rw [List.getElem?_set_ne hij] at q ⊢
  exact h.2 j e q
noncomputable def ju (fr:List (Option Nat)) (ρ:al):al:=fr.map fun o=>o.bind fun j=>(ρ[j]?).join
theorem RS.inh {σ:St} {ρ:al} (h:RS K H σ ρ) (fr:List (Option Nat)):RS K H (inh fr σ) (ju fr ρ):=by
 refine ⟨by simp [L2.inh,ju],fun i d e => ?_⟩
 unfold ju at e
 unfold L2.inh
 rw [List.getElem?_map] at e ⊢
 cases q:fr[i]? with
 | none=>rw [q] at e;cases e
 | some o =>
   rw [q] at e
   cases o with
   | none=>cases e
   | some j =>
     have e':some ((ρ[j]?).join) = some (some d):=e
     cases q' : ρ[j]? with
     | none=>rw [q'] at e';cases e'
     | some w =>
       rw [q'] at e'
       cases e'
       obtain ⟨v,v1,v2⟩:=h.2 j d q'
       exact ⟨v,by simp [v1],v2⟩
theorem RO.mono (st:Stab H H') {a:Addr} {o:O} (h:RO K H a o) (e:∀ ho,H a = some ho -> H' a = some ho):RO K H' a o:=by
 cases o with
 | lst ds=>obtain ⟨vs,q,r⟩:=h;exact ⟨vs,e _ q,r.mono st⟩
 | dct t kvs =>
   cases t with
   | false=>obtain ⟨ps,q,r⟩:=h;exact ⟨ps,e _ q,Paired.mapP r fun _ _ z=>⟨z.1,z.2.mono st⟩⟩
   | true=>obtain ⟨ps,q,r⟩:=h;exact ⟨ps,e _ q,Paired.mapP r fun _ _ z=>⟨z.1,z.2.mono st⟩⟩
 | fdc kvs=>obtain ⟨ob,ps,q,r⟩:=h;exact ⟨ob,ps,e _ q,Paired.mapP r fun _ _ z=>⟨z.1,z.2.mono st⟩⟩
theorem RM.new {p:Addr} {ho:HO} (r:RM K M H) (n:H p = none):RM K M (upd H p ho):=fun a o e=>by
 have ne:a ≠ p:=fun z=>by subst z;obtain ⟨_,q,_⟩:=r.mut e;rw [n] at q;cases q
 refine (r a o e).mono ⟨fun b xs q => ?_,fun b o u q => ?_⟩ fun ho' q=>by rw [aj ne];exact q
 ·rw [aj (aS q n)];exact q
 ·rw [aj (aS q n)];exact q
theorem Ext.new' {p:Addr} {ho:HO} (n:H p = none):Ext M H M (upd H p ho):=⟨fun a o _ e=>by rw [aj (aS e n)];exact e,fun _ _ _ _=>rfl⟩
theorem RM.lay {p:Addr} {ho:HO} {o:O} (r:RM K M H) (n:H p = none) (h:RO K (upd H p ho) p o):RM K (ak M p o) (upd H p ho):=fun a o' e=>by
 by_cases z:a = p
 ·subst z;rw [ae] at e;cases e;exact h
 ·rw [am z] at e;exact r.new n a o' e
theorem Ext.lay {p:Addr} {ho:HO} {o:O} (n:H p = none):Ext M H (ak M p o) (upd H p ho) :=
 ⟨fun a u _ e=>by rw [aj (aS e n)];exact e,fun a u m e=>by rw [am (aS e n)]⟩
theorem RM.put {p:Addr} {ho:HO} {o o0:O} (r:RM K M H) (m:M p = some o0) (h:RO K (upd H p ho) p o) (w:fz (some o0) = false:=by rfl):RM K (ak M p o) (upd H p ho):=fun a o' e=>by
 by_cases z:a = p
 ·subst z;rw [ae] at e;cases e;exact h
 ·rw [am z] at e
  obtain ⟨hp,q1,q2,q3⟩:=r.mut m
  refine (r a o' e).mono ⟨fun b xs q => ?_,fun b o u q => ?_⟩ fun ho' q=>by rw [aj z];exact q
  ·rw [aj (fun z=>by subst z;rw [q1] at q;cases q;exact q2 xs rfl)];exact q
  ·rw [aj (fun z=>by subst z;rw [q1] at q;cases q;exact (q3 w).2 o u rfl)];exact q
theorem Ext.put {p:Addr} {ho:HO} {o o0:O} (m:M p = some o0) (w:fz (some o0) = false:=by rfl):Ext M H (ak M p o) (upd H p ho) :=
 ⟨fun a u n e=>by rw [aj (fun z=>by subst z;rw [m,w] at n;cases n)];exact e,fun a u n e=>am (fun z=>by subst z;rw [m,w] at n;cases n)⟩
theorem RM.stabPut {p:Addr} {ho:HO} {o0:O} (r:RM K M H) (m:M p = some o0) (w:fz (some o0) = false:=by rfl):Stab H (upd H p ho):=(Ext.put (o:=o0) (ho:=ho) m w).stab r
end
noncomputable abbrev QD:=D -> Mem -> Prop
noncomputable abbrev TEd:=al -> Mem -> QD -> Prop
noncomputable abbrev TTd:=al -> Mem -> (Bool -> Mem -> Prop) -> Prop
noncomputable abbrev TAd:=al -> Mem -> (List D -> Mem -> Prop) -> Prop
structure aW where
 nx:al -> Mem -> Prop
 rt:QD
 bk:al -> Mem -> Prop:=fun _ _=>False
 ct:al -> Mem -> Prop:=fun _ _=>False
noncomputable abbrev TSd:=aW -> al -> Mem -> Prop
noncomputable def ad (T:TEd):Prop := ∀ ρ M Q Q',(∀ d M',Q d M' -> Q' d M') -> T ρ M Q -> T ρ M Q'
noncomputable def az (T:TTd):Prop := ∀ ρ M Q Q',(∀ d M',Q d M' -> Q' d M') -> T ρ M Q -> T ρ M Q'
noncomputable def bm (T:TAd):Prop := ∀ ρ M Q Q',(∀ d M',Q d M' -> Q' d M') -> T ρ M Q -> T ρ M Q'
structure LeD (a b:aW):Prop where
 nx:∀ ρ M,a.nx ρ M -> b.nx ρ M
 rt:∀ d M,a.rt d M -> b.rt d M
 bk:∀ ρ M,a.bk ρ M -> b.bk ρ M
 ct:∀ ρ M,a.ct ρ M -> b.ct ρ M
noncomputable def aB (T:TSd):Prop := ∀ a b ρ M,LeD a b -> T a ρ M -> T b ρ M
noncomputable def KE' (K:PySem.W.Frag) (M:Mem) (H:Hp) (Q:VK):QD:=fun d M' => ∀ v H',Ext M H M' H' -> RM K M' H' -> RD K H' d v -> Q v H'
noncomputable def KT' (K:PySem.W.Frag) (M:Mem) (H:Hp) (Q:Bool -> Hp -> Prop):Bool -> Mem -> Prop:=fun b M' => ∀ H',Ext M H M' H' -> RM K M' H' -> Q b H'
noncomputable def KA' (K:PySem.W.Frag) (M:Mem) (H:Hp) (Q:List V -> Hp -> Prop):List D -> Mem -> Prop:=fun ds M' => ∀ vs H',Ext M H M' H' -> RM K M' H' -> RDs K H' ds vs -> Q vs H'
noncomputable def lE (K:PySem.W.Frag) (T:TEd):TE:=fun σ H Q => ∃ ρ M,RS K H σ ρ /\ RM K M H /\ T ρ M (KE' K M H Q)
noncomputable def lT (K:PySem.W.Frag) (T:TTd):TT:=fun σ H Q => ∃ ρ M,RS K H σ ρ /\ RM K M H /\ T ρ M (KT' K M H Q)
noncomputable def lA (K:PySem.W.Frag) (T:TAd):TA:=fun σ H Q => ∃ ρ M,RS K H σ ρ /\ RM K M H /\ T ρ M (KA' K M H Q)
structure Link (K:PySem.W.Frag) (M:Mem) (H:Hp) (a:aW) (b:bD):Prop where
 nx:∀ ρ M' σ H',Ext M H M' H' -> RS K H' σ ρ -> RM K M' H' -> a.nx ρ M' -> b.nx σ H'
 rt:∀ d M' v H',Ext M H M' H' -> RM K M' H' -> RD K H' d v -> a.rt d M' -> b.rt v H'
 bk:∀ ρ M' σ H',Ext M H M' H' -> RS K H' σ ρ -> RM K M' H' -> a.bk ρ M' -> b.bk σ H'
 ct:∀ ρ M' σ H',Ext M H M' H' -> RS K H' σ ρ -> RM K M' H' -> a.ct ρ M' -> b.ct σ H'
noncomputable def lS (K:PySem.W.Frag) (T:TSd):TS:=fun D σ H => ∃ ρ M A,RS K H σ ρ /\ RM K M H /\ Link K M H A D /\ T A ρ M
theorem Link.ext {K:PySem.W.Frag} {M M':Mem} {H H':Hp} {a:aW} {b:bD} (l:Link K M H a b) (x:Ext M H M' H'):Link K M' H' a b :=
 ⟨fun ρ M2 σ H2 y=>l.nx ρ M2 σ H2 (x.trans y),fun d M2 v H2 y=>l.rt d M2 v H2 (x.trans y),fun ρ M2 σ H2 y=>l.bk ρ M2 σ H2 (x.trans y),fun ρ M2 σ H2 y=>l.ct ρ M2 σ H2 (x.trans y)⟩
theorem PE.imp {X:Cx} {e:Expr} {t t':TE} (h:PE X e t) (i:∀ σ H Q,t' σ H Q -> t σ H Q):PE X e t':=fun pins s σ H Q I q=>h pins s σ H Q I (i _ _ _ q)
theorem PT.imp {X:Cx} {e:Expr} {t t':TT} (h:PT X e t) (i:∀ σ H Q,t' σ H Q -> t σ H Q):PT X e t':=fun pins s σ H Q I q=>h pins s σ H Q I (i _ _ _ q)
theorem PW.imp {X:Cx} {e:Expr} {t t':TT} (h:PW X e t) (i:∀ σ H Q,t' σ H Q -> t σ H Q):PW X e t':=fun wh pins s σ H Q I q=>h wh pins s σ H Q I (i _ _ _ q)
theorem PA.imp {X:Cx} {e:List Expr} {t t':TA} (h:PA X e t) (i:∀ σ H Q,t' σ H Q -> t σ H Q):PA X e t':=fun p pins s σ H Q I q=>h p pins s σ H Q I (i _ _ _ q)
theorem PS.imp {X:Cx} {e:Stmt} {t t':TS} (h:PS X e t) (i:∀ D σ H,t' D σ H -> t D σ H):PS X e t':=fun pins s σ H D I q=>h pins s σ H D I (i _ _ _ q)
theorem PSs.imp {X:Cx} {e:List Stmt} {t t':TS} (h:PSs X e t) (i:∀ D σ H,t' D σ H -> t D σ H):PSs X e t':=fun pins s σ H D I q=>h pins s σ H D I (i _ _ _ q)
end Mi
end L2
namespace L2
namespace Mi
open PySem PySem.Spec PyProof.Rows
theorem KE'.ext {K:PySem.W.Frag} {M M2 M':Mem} {H H2:Hp} {Q:VK} {d:D} (x:Ext M H M2 H2) (h:KE' K M H Q d M'):KE' K M2 H2 Q d M':=fun v H' y=>h v H' (x.trans y)
theorem KT'.ext {K:PySem.W.Frag} {M M2 M':Mem} {H H2:Hp} {Q:Bool -> Hp -> Prop} {d:Bool} (x:Ext M H M2 H2) (h:KT' K M H Q d M'):KT' K M2 H2 Q d M':=fun H' y=>h H' (x.trans y)
theorem KA'.ext {K:PySem.W.Frag} {M M2 M':Mem} {H H2:Hp} {Q:List V -> Hp -> Prop} {d:List D} (x:Ext M H M2 H2) (h:KA' K M H Q d M'):KA' K M2 H2 Q d M':=fun v H' y=>h v H' (x.trans y)
noncomputable abbrev R2d:=D -> D -> Mem -> QD -> Prop
noncomputable abbrev R1d:=D -> Mem -> QD -> Prop
noncomputable abbrev RAd:=List D -> Mem -> QD -> Prop
noncomputable def aT (r:R2d):Prop := ∀ x y M Q Q',(∀ d M',Q d M' -> Q' d M') -> r x y M Q -> r x y M Q'
noncomputable def mR (r:R1d):Prop := ∀ x M Q Q',(∀ d M',Q d M' -> Q' d M') -> r x M Q -> r x M Q'
noncomputable def aU (r:RAd):Prop := ∀ x M Q Q',(∀ d M',Q d M' -> Q' d M') -> r x M Q -> r x M Q'
noncomputable def l2 (K:PySem.W.Frag) (rd:R2d):R2:=fun v u H Q => ∃ x y M,RM K M H /\ RD K H x v /\ RD K H y u /\ rd x y M (KE' K M H Q)
noncomputable def l1 (K:PySem.W.Frag) (rd:R1d):V -> Hp -> VK -> Prop:=fun v H Q => ∃ x M,RM K M H /\ RD K H x v /\ rd x M (KE' K M H Q)
noncomputable def lR (K:PySem.W.Frag) (rd:RAd):List V -> Hp -> VK -> Prop:=fun vs H Q => ∃ ds M,RM K M H /\ RDs K H ds vs /\ rd ds M (KE' K M H Q)
noncomputable def lMt (K:PySem.W.Frag) (rd:D -> List D -> Mem -> QD -> Prop):V -> List V -> Hp -> VK -> Prop:=fun v vs H Q => ∃ x ds M,RM K M H /\ RD K H x v /\ RDs K H ds vs /\ rd x ds M (KE' K M H Q)
noncomputable def br (i:Nat):TEd:=fun ρ M Q => ∃ d, ρ[i]? = some (some d) /\ Q d M
noncomputable def wC (d:D):TEd:=fun _ M Q=>Q d M
noncomputable def wOp (rd:R2d) (ta tb:TEd):TEd:=fun ρ M Q=>ta ρ M fun x M1=>tb ρ M1 fun y M2=>rd x y M2 Q
noncomputable def wUn (rd:R1d) (ta:TEd):TEd:=fun ρ M Q=>ta ρ M fun x M1=>rd x M1 Q
noncomputable def bO:TAd:=fun _ M Q=>Q [] M
noncomputable def aK (ta:TEd) (tr:TAd):TAd:=fun ρ M Q=>ta ρ M fun x M1=>tr ρ M1 fun xs M2=>Q (x :: xs) M2
noncomputable def wAr (rd:RAd) (t:TAd):TEd:=fun ρ M Q=>t ρ M fun ds M1=>rd ds M1 Q
theorem qT {i:Nat}:ad (br i):=fun _ _ _ _ h ⟨d,e,q⟩=>⟨d,e,h _ _ q⟩
theorem oT {d:D}:ad (wC d):=fun _ _ _ _ h q=>h _ _ q
theorem dz {rd:R2d} {ta tb:TEd} (hr:aT rd) (ha:ad ta) (hb:ad tb):ad (wOp rd ta tb):=fun ρ M Q Q' h q =>
 ha _ _ _ _ (fun x M1 q1=>hb _ _ _ _ (fun y M2 q2=>hr _ _ _ _ _ h q2) q1) q
theorem uf {rd:R1d} {ta:TEd} (hr:mR rd) (ha:ad ta):ad (wUn rd ta):=fun ρ M Q Q' h q=>ha _ _ _ _ (fun x M1 q1=>hr _ _ _ _ h q1) q
theorem aE:bm bO:=fun _ _ _ _ h q=>h _ _ q
theorem aC {ta:TEd} {tr:TAd} (ha:ad ta) (hr:bm tr):bm (aK ta tr):=fun ρ M Q Q' h q =>
 ha _ _ _ _ (fun x M1 q1=>hr _ _ _ _ (fun xs M2 q2=>h _ _ q2) q1) q
theorem fe {rd:RAd} {t:TAd} (hr:aU rd) (ht:bm t):ad (wAr rd t):=fun ρ M Q Q' h q=>ht _ _ _ _ (fun ds M1 q1=>hr _ _ _ _ h q1) q
section
variable {X:Cx} {a b:Expr} {ta tb:TEd} {pos:Pos}
theorem wJ {i:Nat} {x:Str} (hN:X.N[i]? = some x) (hv:Vis X.env.scope x) (hd:(x == ("__debug__":Str)) = false) (hcd:(x == ("__classdict__":Str)) = false):PE X (.Name x pos) (lE X.K (br i)):=by
 refine PE.imp (vS hN hv hd hcd) fun σ H Q h => ?_
 obtain ⟨ρ,M,rs,rm,d,e,q⟩:=h
 obtain ⟨v,hv,rd⟩:=rs.2 i d e
 exact ⟨v,hv,q v H Ext.refl rm rd⟩
theorem wK {i:Int} {j:Nat}:PE X (.Constant (.int i) j pos) (lE X.K (wC (.int i))) :=
 PE.imp vT fun σ H Q ⟨ρ,M,rs,rm,q⟩=>q _ H Ext.refl rm (RD.int_iff.mpr rfl)
theorem yu {i:Bool} {j:Nat}:PE X (.Constant (.bool i) j pos) (lE X.K (wC (.bl i))) :=
 PE.imp y9 fun σ H Q ⟨ρ,M,rs,rm,q⟩=>q _ H Ext.refl rm (RD.bl_iff.mpr rfl)
theorem ff {K:PySem.W.Frag} {rd:R2d} (hr:aT rd) (ma:ad ta) (mb:ad tb) (σ:St) (H:Hp) (Q:VK) (h:lE K (wOp rd ta tb) σ H Q):tOp (l2 K rd) (lE K ta) (lE K tb) σ H Q:=by
 obtain ⟨ρ,M,rs,rm,q⟩:=h
 refine ⟨ρ,M,rs,rm,ma _ _ _ _ (fun x M1 q1 v H1 x1 rm1 rd1 => ?_) q⟩
 refine ⟨ρ,M1,rs.mono (x1.stab rm),rm1,mb _ _ _ _ (fun y M2 q2 u H2 x2 rm2 rd2 => ?_) q1⟩
 exact ⟨x,y,M2,rm2,rd1.mono (x2.stab rm1),rd2,hr _ _ _ _ _ (fun d M' k=>k.ext (x1.trans x2)) q2⟩
theorem yv {op:Operator} {rd:R2d} (ho:OpR X (binaryOp op) (l2 X.K rd)) (hr:aT rd) (ma:ad ta) (mb:ad tb) (ha:PE X a (lE X.K ta)) (hb:PE X b (lE X.K tb)):PE X (.BinOp a op b pos) (lE X.K (wOp rd ta tb)) :=
 PE.imp (yg ho ha hb) (ff hr ma mb)
theorem wL {op:CmpOp} {rd:R2d} (ho:OpR X (compareOp op) (l2 X.K rd)) (hr:aT rd) (ma:ad ta) (mb:ad tb) (ha:PE X a (lE X.K ta)) (hb:PE X b (lE X.K tb)) (hm:behindInMarks op b = false) :
 PE X (.Compare a [op] [b] pos) (lE X.K (wOp rd ta tb)):=PE.imp (tZ ho ha hb hm) (ff hr ma mb)
noncomputable def hC (t:TEd):TTd:=fun ρ M Q=>t ρ M fun x M1 => ∃ k,x = .bl k /\ Q k M1
theorem qU {t:TEd} (h:ad t):az (hC t):=fun ρ M Q Q' i q=>h _ _ _ _ (fun x M1 ⟨k,e,q1⟩=>⟨k,e,i _ _ q1⟩) q
theorem qV {K:PySem.W.Frag} {t:TEd} (m:ad t) (σ:St) (H:Hp) (Q:Bool -> Hp -> Prop) (h:lT K (hC t) σ H Q):t3 (lE K t) σ H Q:=by
 obtain ⟨ρ,M,rs,rm,q⟩:=h
 refine ⟨ρ,M,rs,rm,m _ _ _ _ (fun x M1 ⟨k,e,q1⟩ v H1 x1 rm1 rd1 => ?_) q⟩
 subst e
 exact ⟨k,RD.bl_iff.mp rd1,q1 H1 x1 rm1⟩
theorem wM {op:CmpOp} {rd:R2d} (ho:OpR X (compareOp op) (l2 X.K rd)) (hr:aT rd) (ma:ad ta) (mb:ad tb) (ha:PE X a (lE X.K ta)) (hb:PE X b (lE X.K tb)) (hm:behindInMarks op b = false) :
 PT X (.Compare a [op] [b] pos) (lT X.K (hC (wOp rd ta tb))) :=
 PT.imp (u3 ho ha hb hm) fun σ H Q h=>by
  have h1:=qV (dz hr ma mb) σ H Q h
  exact ff hr ma mb σ H _ h1
theorem yw {op:UnaryOp} {rd:R1d} (ho:UnR X (unaryOp op) (l1 X.K rd)) (hr:mR rd) (ma:ad ta) (ha:PE X a (lE X.K ta)):PE X (.UnaryOp op a pos) (lE X.K (wUn rd ta)) :=
 PE.imp (yh ho ha) fun σ H Q ⟨ρ,M,rs,rm,q⟩=>⟨ρ,M,rs,rm,ma _ _ _ _ (fun x M1 q1 v H1 x1 rm1 rd1=>⟨x,M1,rm1,rd1,hr _ _ _ _ (fun d M' k=>k.ext x1) q1⟩) q⟩
theorem yz {rd:R2d} (ho:IxR X (l2 X.K rd)) (hr:aT rd) (ma:ad ta) (mb:ad tb) (ha:PE X a (lE X.K ta)) (hb:PE X b (lE X.K tb)) (hs:gW b):PE X (.Subscript a b pos) (lE X.K (wOp rd ta tb)) :=
 PE.imp (yo ho ha hb hs) (ff hr ma mb)
theorem dA:PA X [] (lA X.K bO):=PA.imp ga fun σ H Q ⟨ρ,M,rs,rm,q⟩=>q _ H Ext.refl rm RDs.nil
theorem oU {K:PySem.W.Frag} {tr:TAd} (ma:ad ta) (mr:bm tr) (σ:St) (H:Hp) (Q:List V -> Hp -> Prop) (h:lA K (aK ta tr) σ H Q):t4 (lE K ta) (lA K tr) σ H Q:=by
 obtain ⟨ρ,M,rs,rm,q⟩:=h
 refine ⟨ρ,M,rs,rm,ma _ _ _ _ (fun x M1 q1 v H1 x1 rm1 rd1 => ?_) q⟩
 refine ⟨ρ,M1,rs.mono (x1.stab rm),rm1,mr _ _ _ _ (fun xs M2 q2 vs H2 x2 rm2 rd2 => ?_) q1⟩
 exact q2 (v :: vs) H2 (x1.trans x2) rm2 (RDs.cons (rd1.mono (x2.stab rm1)) rd2)
theorem cg {e:Expr} {es:List Expr} {tr:TAd} (ma:ad ta) (mr:bm tr) (ha:PE X e (lE X.K ta)) (hr:PA X es (lA X.K tr)) (hs:starEach (e :: es) X.env = (false,eval e X.env) :: starEach es X.env) :
 PA X (e :: es) (lA X.K (aK ta tr)):=PA.imp (cq ha hr hs) (oU ma mr)
theorem bM {K:PySem.W.Frag} {rd:RAd} {t:TAd} (hr:aU rd) (mt:bm t) (σ:St) (H:Hp) (Q:VK) (h:lE K (wAr rd t) σ H Q):tCB (lR K rd) (lA K t) σ H Q:=by
 obtain ⟨ρ,M,rs,rm,q⟩:=h
 exact ⟨ρ,M,rs,rm,mt _ _ _ _ (fun ds M1 q1 vs H1 x1 rm1 rd1=>⟨ds,M1,rm1,rd1,hr _ _ _ _ (fun d M' k=>k.ext x1) q1⟩) q⟩
noncomputable def mU:RAd:=fun ds M Q=>ds.length <= sizeLine /\ Q (.tup ds) M
noncomputable def jv:RAd:=fun ds M Q=>ds.length <= sizeLine /\ ∀ p,M p = none -> Q (.ref p) (ak M p (.lst ds))
theorem oV:aU mU:=fun _ _ _ _ h ⟨z,q⟩=>⟨z,h _ _ q⟩
theorem oW:aU jv:=fun _ _ _ _ h ⟨z,q⟩=>⟨z,fun p n=>h _ _ (q p n)⟩
theorem cK {K:PySem.W.Frag} {M:Mem} {H:Hp} {Q:VK} {ds:List D} {vs:List V} {p:Addr} (rm:RM K M H) (rd:RDs K H ds vs) (q:KE' K M H Q (.tup ds) M) (n:H p = none):Q (.ref p) (upd H p (.tup vs)):=by
 have x:Ext M H M (upd H p (.tup vs)):=Ext.new' n
 exact q (.ref p) _ x (rm.new n) (RD.tup_iff.mpr ⟨p,vs,rfl,aq,rd.mono (x.stab rm)⟩)
theorem cL {K:PySem.W.Frag} {M:Mem} {H:Hp} {Q:VK} {ds:List D} {vs:List V} {p:Addr} (rm:RM K M H) (rd:RDs K H ds vs) (q:∀ p,M p = none -> KE' K M H Q (.ref p) (ak M p (.lst ds))) (n:H p = none):Q (.ref p) (upd H p (.lst vs)):=by
 have x:Ext M H (ak M p (.lst ds)) (upd H p (.lst vs)):=Ext.lay n
 have x0:Ext M H M (upd H p (.lst vs)):=Ext.new' n
 exact q p (rm.out n) (.ref p) _ x (rm.lay n ⟨vs,aq,rd.mono (x0.stab rm)⟩) (RD.ref_iff.mpr rfl)
theorem wN {es:List Expr} {t:TAd} {k:Nat} (mt:bm t) (h:PA X es (lA X.K t)):PE X (.Tuple es k pos) (lE X.K (wAr mU t)) :=
 PE.imp (oG h) fun σ H Q ⟨ρ,M,rs,rm,q⟩=>⟨ρ,M,rs,rm,mt _ _ _ _ (fun ds M1 ⟨z,q1⟩ vs H1 x1 rm1 rd1=>⟨by rw [rd1.length];exact z,fun p n=>cK rm1 rd1 (q1.ext x1) n⟩) q⟩
theorem wP {es:List Expr} {t:TAd} (mt:bm t) (h:PA X es (lA X.K t)):PE X (.List es pos) (lE X.K (wAr jv t)) :=
 PE.imp (wu h) fun σ H Q ⟨ρ,M,rs,rm,q⟩=>⟨ρ,M,rs,rm,mt _ _ _ _ (fun ds M1 ⟨z,q1⟩ vs H1 x1 rm1 rd1=>⟨by rw [rd1.length];exact z,fun p n=>cL rm1 rd1 (fun p' n'=>(q1 p' n').ext x1) n⟩) q⟩
end
end Mi
end L2
namespace L2
open PySem PySem.Spec PyProof.Rows
theorem fI:fillsNumberSlot (.type "tuple") "mul" = pure false :=
 PyProof.Rows.fillsNumberSlot_seq (id := "tuple.__mul__") (r:=some (.builtin "tuple.__rmul__")) F.slot_tuple_mul.lookup (by decide +kernel) F.slot_tuple_rmul.lookup (by decide +kernel)
theorem jw:seqRepeat? (.type "tuple") = pure (some (.builtin "tuple.__mul__")):=by
 unfold seqRepeat?
 rw [PyProof.Rows.seqSlot_of (T := "tuple") (name := "__mul__") (id := "tuple.__mul__") F.slot_tuple_mul.lookup (by decide +kernel),PyProof.Rows.seqSlot_of (T := "tuple") (name := "__rmul__") (id := "tuple.__rmul__") F.slot_tuple_rmul.lookup (by decide +kernel)]
 rfl
theorem hE (a:Int) (t:Tok) (l:Addr) (items:Array Value) (n:Nat) (d:Option Addr) (sl:Array (Option Value)) :
 Meets (Builtin.«int.__rmul__» ⟨[.int a t, .ref l],[]⟩) (fun _ R s=>s.heap.get? l = some { cls := .type "tuple",dict:=d,data := .seq items n,slots:=sl } /\ R (.ok (.ret Value.notImplemented)) s) :=
 .of_wp fun prog w A R s h=>by obtain ⟨hp,g,d,tk,os⟩:=s;obtain ⟨hl,h⟩:=h;wp_walk;exact ⟨_,rfl,h⟩
open AutoSeq1 (wpAny_loadPart') in
theorem oZ (l:Addr) (items:Array Value) (n:Nat) (dd:Option Addr) (sl:Array (Option Value)) (x:Int) (u:Tok) (h1 : -(2 ^ 63) <= x) (h2:x < 2 ^ 63) (hz:items.size * x.toNat <= sizeLine) :
 Meets (Builtin.«tuple.__mul__» ⟨[.ref l, .int x u],[]⟩) (fun _ R s=>s.heap.get? l = some { cls := .type "tuple",dict:=dd,data := .seq items n,slots:=sl } /\
  (if items.isEmpty || x == 1 then R (.ok (.ret (.ref l))) s else R (.ok (.ret (.ref s.heap.objs.size))) { s with heap:=s.heap.push { cls := .type "tuple",data := .seq ((List.replicate x.toNat items).foldl (· ++ ·) #[]) } })) :=
 .of_wp fun prog w A R s h=>by
  obtain ⟨hp,g,d,tk,os⟩:=s;obtain ⟨hl,h⟩:=h
  have f1:=AutoSeq1.idx_int
  have c0:(decide (x < -(2 ^ 63)) || decide (x ≥ 2 ^ 63)) = false:=by
   rw [decide_eq_false (by omega),decide_eq_false (by omega)];rfl
  wp_walk using wpAny_loadPart' hl
  refine wpAny_ite_false (decide_eq_false (by rw [c0];decide)) ?_
  dsimp only
  by_cases e1:(items.isEmpty || x == 1) = true
  ·rw [if_pos e1] at h
   wp_walk using wpAny_loadPart' hl
   exact ⟨_,rfl,h⟩
  ·rw [if_neg e1] at h
   wp_walk using wpAny_loadPart' hl
   simp only [Bool.or_eq_true,not_or] at e1
   by_cases e2:x <= 0
   ·have e3:(decide (x <= 0) || items.isEmpty) = true:=by rw [decide_eq_true e2];rfl
    rw [if_pos e3]
    have e4:x.toNat = 0:=by omega
    rw [e4] at h
    wp_walk
    exact ⟨_,rfl,h⟩
   ·have e3 : ¬ (decide (x <= 0) || items.isEmpty) = true:=by simp;exact ⟨by omega,by simpa using e1.1⟩
    rw [if_neg e3]
    have hx:((items.size:Nat):Int) * x = ((items.size * x.toNat:Nat):Int):=by
     rw [Int.natCast_mul,Int.toNat_of_nonneg (by omega)]
    have hs:sizeLine = 16777216:=sizeLine_eq
    have e5 : ¬ ((items.size:Nat):Int) * x > (2 ^ 63 - 1) / 8:=by rw [hx];omega
    rw [if_neg e5]
    have e6 : ¬ Builtin.Tuple.tupleTooMany (((items.size:Nat):Int) * x) = true:=by
     rw [hx];unfold Builtin.Tuple.tupleTooMany
     intro h6;have h7:=of_decide_eq_true h6;omega
    rw [if_neg e6]
    wp_walk
    have hsz:((List.replicate x.toNat items).foldl (· ++ ·) #[]).size <= sizeLine:=by
     have:∀ (k:Nat) (a:Array Value),((List.replicate k items).foldl (· ++ ·) a).size = a.size + items.size * k:=by
      intro k;induction k with
      | zero=>intro a;simp
      | succ k ih=>intro a;rw [List.replicate_succ,List.foldl_cons,ih,Array.size_append,Nat.mul_succ];omega
     rw [this];simpa using hz
    refine wpAny_ite_false (decide_eq_false (Nat.not_lt.mpr hsz)) ?_
    wp_walk
    exact ⟨_,rfl,h⟩
end L2
namespace L2
open PySem PySem.Spec PyProof.Rows
section
variable {X:Cx}
noncomputable def tq (K:PySem.W.Frag):R2:=fun x y H Q => ∃ l k xs,x = .ref l /\ y = .int k /\ SqT K H l xs /\ -(2 ^ 63) <= k /\ k < 2 ^ 63 /\ xs.length * k.toNat <= sizeLine /\
 ((xs = [] ∨ k = 1) -> Q (.ref l) H) /\ (¬ (xs = [] ∨ k = 1) -> ∀ p,H p = none -> Q (.ref p) (upd H p (.tup (List.replicate k.toNat xs).flatten)))
theorem ug:OpR X (binaryOp .Mult) (tq X.K):=by
 intro pins s σ H x y v u Q I rx ry h
 obtain ⟨l,k,xs,rfl,rfl,hH,h1,h2,hz,q1,q2⟩:=h
 cases rx
 obtain ⟨t,rfl⟩:=ry
 obtain ⟨its,r,p1,_⟩:=I.tuple hH
 have hl:=r.length
 obtain ⟨⟨cls,dd,dat,sl⟩,e,hc,n,hd⟩:=p1
 dsimp only at hc hd
 subst hc hd
 have hlen:its.toArray.size * k.toNat <= sizeLine:=by rw [List.size_toArray, <- hl];exact hz
 have f0:∀ m:Nat,List.foldl (fun x1 x2=>x1 ++ x2) #[] (List.replicate m its.toArray) = (List.replicate m its).flatten.toArray:=fun m=>by
  have:=et its m []
  rw [List.nil_append] at this
  exact this
 refine wpAny_binaryOp_repeat_ref (T := "tuple") (U := "int") (by decide) ⟨_,e,rfl⟩ (fun s'=>typeIs_int s' k t) fI F.fills_int_mul F.slot_int_rmul jw F.slot_int_index.lookup
  (call_meets F.slot_int_rmul (typeIs_int s k t) F.entry_int_rmul (F.args_int_rmul_2 _ _) (hE k t l its.toArray n dd sl)
    ⟨e,rfl,⟨_,e,rfl⟩,call_meets F.slot_tuple_mul ⟨_,e,rfl⟩ F.entry_tuple_mul (F.args_tuple_mul_2 _ _) (oZ l its.toArray n dd sl k t h1 h2 hlen) ⟨e, ?_⟩⟩)
 have hi:(its.toArray.isEmpty || k == 1) = true ↔ (xs = [] ∨ k = 1):=by
  rw [<- r.nil_iff];simp
 split
 ·next c=>exact ⟨.ref l,H,I,rfl,q1 (hi.mp c)⟩
 ·next c =>
  rw [f0]
  refine ⟨.ref s.heap.objs.size,_,I.laid (t':=s.toks) (o := .tup (List.replicate k.toNat xs).flatten) (fun b ob q=>Heap.get?_push_of_some _ q) (Nat.le_refl _) ?_,rfl,q2 (fun z=>c (hi.mpr z)) _ (I.hok.fresh (Nat.le_refl _))⟩
  exact ⟨by rw [ln,Nat.mul_comm];exact hz,_,r.rep k.toNat,IsTup.new _ _⟩
end
end L2
namespace L2
open PySem PySem.Spec PyProof.Rows
section
variable {X:Cx}
theorem uh:OpR X (binaryOp .Add) (fun x y H Q => ∃ a b ys,x = .ref a /\ y = .ref b /\ SqT X.K H a [] /\ SqT X.K H b ys /\ Q (.ref b) H):=by
 intro pins s σ H x y v u Q I rx ry h
 obtain ⟨a,b,ys,rfl,rfl,ha,hb,q⟩:=h
 cases rx
 cases ry
 obtain ⟨its,r1,p1,_⟩:=I.tuple ha
 obtain ⟨its2,r2,p2,_⟩:=I.tuple hb
 have e0:its = []:=r1.nil_iff.mpr rfl
 obtain ⟨⟨cls,dd,data,sl⟩,ho,hc,n,hd⟩:=id p1
 obtain ⟨⟨cls2,dd2,data2,sl2⟩,ho2,hc2,n2,hd2⟩:=id p2
 simp only at hc hd hc2 hd2
 subst hc hd hc2 hd2
 exact concat_meets ⟨_,ho,rfl⟩ ⟨_,ho2,rfl⟩ noFill_tuple_add seq_tuple_add PySem.F.slot_tuple_add PySem.F.entry_tuple_add (PySem.F.args_tuple_add_2 _ _)
  (tuple_addW0 a b its.toArray its2.toArray n n2 dd dd2 sl sl2 (by simp [e0])) ⟨ho,ho2,⟨.ref b,H,I,rfl,q⟩⟩
end
end L2
namespace L2
namespace Mi
open PySem PySem.Spec PyProof.Rows
section
variable {X:Cx}
noncomputable def yA (ta:TEd):TEd:=fun ρ M Q=>ta ρ M fun x M1 => ∃ a ds,x = .ref a /\ M1 a = some (.lst ds) /\ ∀ p,M1 p = none -> Q (.ref p) (ak M1 p (.lst ds.reverse))
end
end Mi
end L2
namespace L2
namespace Mi
open PySem PySem.Spec PyProof.Rows
noncomputable def MulOk (i j:Int):Prop:=(-(2 ^ 64) < i /\ i < 2 ^ 64) ∨ (-(2 ^ 64) < j /\ j < 2 ^ 64) ∨ (Builtin.Int.intBits i <= 2 ^ 20 /\ Builtin.Int.intBits j <= 2 ^ 20)
theorem MulOk.ok {i j:Int} (h:MulOk i j):IntMulOk i j:=by
 rcases h with h | h | h
 ·exact IntMulOk.of_left (intBits_le_64 h.1 h.2)
 ·exact IntMulOk.of_right (intBits_le_64 h.1 h.2)
 ·exact IntMulOk.of_bits h.1 h.2
noncomputable def fJ:R2d
 | .int i, .int j,M,Q=>Q (.int (i + j)) M
 | .tup a, .tup b,M,Q=>(a ≠ [] ∨ True) /\ a.length + b.length <= sizeLine /\ Q (.tup (a ++ b)) M
 | .ref a, .ref b,M,Q => ∃ xs ys,M a = some (.lst xs) /\ M b = some (.lst ys) /\ xs.length + ys.length <= sizeLine /\ ∀ p,M p = none -> Q (.ref p) (ak M p (.lst (xs ++ ys)))
 | .str x, .str y,M,Q=>x.length + y.length <= sizeLine /\ Q (.str (x ++ y)) M
 | _,_,_,_=>False
noncomputable def mV:R2d
 | .int i, .int j,M,Q=>Q (.int (i - j)) M
 | _,_,_,_=>False
noncomputable def eC:R2d
 | .int i, .int j,M,Q=>MulOk i j /\ Q (.int (i * j)) M
 | .ref a, .int k,M,Q => ∃ xs,M a = some (.lst xs) /\ -(2 ^ 63) <= k /\ k < 2 ^ 63 /\ xs.length * k.toNat <= sizeLine /\ ∀ p,M p = none -> Q (.ref p) (ak M p (.lst (List.replicate k.toNat xs).flatten))
 | .tup ds, .int k,M,Q => -(2 ^ 63) <= k /\ k < 2 ^ 63 /\ ds.length * k.toNat <= sizeLine /\ Q (.tup (List.replicate k.toNat ds).flatten) M
 | _,_,_,_=>False
noncomputable def gn:R2d
 | .int i, .int j,M,Q => 0 < j /\ j < 2 ^ 256 /\ Q (.int (i / j)) M
 | _,_,_,_=>False
noncomputable def jx:R2d
 | .int i, .int j,M,Q => 0 < j /\ Q (.int (i % j)) M
 | _,_,_,_=>False
noncomputable def mW:R2d
 | .int i, .int j,M,Q => 0 <= j /\ j <= 1000000 /\ i.natAbs < 2 ^ 64 /\ Q (.int (i ^ j.toNat)) M
 | _,_,_,_=>False
theorem qW:aT fJ:=by
 intro x y M Q Q' h q
 cases x <;> cases y <;> first
  | exact q.elim
  | exact h _ _ q
  | exact ⟨q.1,h _ _ q.2⟩
  | exact ⟨q.1,q.2.1,h _ _ q.2.2⟩
  | (obtain ⟨xs,ys,e1,e2,z,q⟩:=q;exact ⟨xs,ys,e1,e2,z,fun p n=>h _ _ (q p n)⟩)
theorem qX:aT mV:=by
 intro x y M Q Q' h q
 cases x <;> cases y <;> first | exact q.elim | exact h _ _ q
theorem qY:aT eC:=by
 intro x y M Q Q' h q
 cases x <;> cases y <;> first
  | exact q.elim
  | exact ⟨q.1,h _ _ q.2⟩
  | exact ⟨q.1,q.2.1,q.2.2.1,h _ _ q.2.2.2⟩
  | (obtain ⟨xs,e1,z1,z2,z3,q⟩:=q;exact ⟨xs,e1,z1,z2,z3,fun p n=>h _ _ (q p n)⟩)
theorem p7:aT gn:=by
 intro x y M Q Q' h q
 cases x <;> cases y <;> first | exact q.elim | exact ⟨q.1,q.2.1,h _ _ q.2.2⟩
theorem qZ:aT jx:=by
 intro x y M Q Q' h q
 cases x <;> cases y <;> first | exact q.elim | exact ⟨q.1,h _ _ q.2⟩
theorem r6:aT mW:=by
 intro x y M Q Q' h q
 cases x <;> cases y <;> first | exact q.elim | exact ⟨q.1,q.2.1,q.2.2.1,h _ _ q.2.2.2⟩
section
variable {X:Cx}
theorem OpR.of {f:Value -> Value -> Sem Value} {r r':R2} (h:OpR X f r) (i:∀ v u H Q,r' v u H Q -> r v u H Q):OpR X f r':=fun pins s σ H x y v u Q I rx ry q=>h pins s σ H x y v u Q I rx ry (i _ _ _ _ q)
theorem IxR.of {r r':R2} (h:IxR X r) (i:∀ v u H Q,r' v u H Q -> r v u H Q):IxR X r':=fun a b pins s σ H x y v u Q I rx ry q=>h a b pins s σ H x y v u Q I rx ry (i _ _ _ _ q)
theorem CallR.of {f:Value} {r r':List V -> Hp -> VK -> Prop} (h:CallR X f r) (i:∀ vs H Q,r' vs H Q -> r vs H Q):CallR X f r':=fun pins s σ H xs us Q I rx q=>h pins s σ H xs us Q I rx (i _ _ _ q)
theorem yB {K:PySem.W.Frag} {M:Mem} {H:Hp} {Q:VK} {a b:List D} {v u:V} (rm:RM K M H) (rx:RD K H (.tup a) v) (ry:RD K H (.tup b) u) (q:fJ (.tup a) (.tup b) M (KE' K M H Q)):t6 K v u H Q ∨ ∃ a b ys,v = .ref a /\ u = .ref b /\ SqT K H a [] /\ SqT K H b ys /\ Q (.ref b) H:=by
 obtain ⟨a',vs,rfl,ha,r1⟩:=RD.tup_iff.mp rx
 obtain ⟨b',us,rfl,hb,r2⟩:=RD.tup_iff.mp ry
 obtain ⟨_,z2,q⟩:=q
 have l1:=r1.length
 have l2:=r2.length
 by_cases z1:a = []
 ·subst z1
  have:vs = []:=RDs.nil_iff.mp r1
  subst this
  exact .inr ⟨a',b',us,rfl,rfl,SqT.of ha,SqT.of hb,q _ H Ext.refl rm ry⟩
 refine .inl ⟨a',b',vs,us,rfl,rfl,SqT.of ha,SqT.of hb,fun e=>z1 (List.length_eq_zero_iff.mp (by rw [<- l1,e];rfl)),by omega,fun e => ?_,fun _ p n=>cK rm (r1.append r2) q n⟩
 have eb:b = []:=List.length_eq_zero_iff.mp (by rw [<- l2,e];rfl)
 subst eb
 rw [List.append_nil] at q
 exact q _ H Ext.refl rm rx
theorem r8:OpR X (binaryOp .Add) (l2 X.K fJ):=by
 refine OpR.of (op_add.or ((op_catT.or uh).or (op_cat.or mH))) fun v u H Q h => ?_
 obtain ⟨x,y,M,rm,rx,ry,q⟩:=h
 cases x <;> cases y <;> first
  | exact q.elim
  | (cases RD.int_iff.mp rx;cases RD.int_iff.mp ry;exact .inl ⟨_,_,rfl,rfl,q _ H Ext.refl rm (RD.int_iff.mpr rfl)⟩)
  | exact .inr (.inl (yB rm rx ry q))
  | (cases RD.ref_iff.mp rx;cases RD.ref_iff.mp ry
     obtain ⟨xs,ys,e1,e2,z,q⟩:=q
     obtain ⟨vs,h1,r1⟩:=rm _ _ e1
     obtain ⟨us,h2,r2⟩:=rm _ _ e2
     have l1:=r1.length
     have l2:=r2.length
     refine .inr (.inr (.inl ⟨_,_,vs,us,rfl,rfl,h1,h2,by omega,fun p n=>cL rm (r1.append r2) q n⟩)))
  | (cases RD.str_iff.mp rx;cases RD.str_iff.mp ry;exact .inr (.inr (.inr ⟨_,_,rfl,rfl,q.1,q.2 _ H Ext.refl rm (RD.str_iff.mpr rfl)⟩)))
theorem r9:OpR X (binaryOp .Sub) (l2 X.K mV):=by
 refine OpR.of wl fun v u H Q h => ?_
 obtain ⟨x,y,M,rm,rx,ry,q⟩:=h
 cases x <;> cases y <;> first
  | exact q.elim
  | (cases RD.int_iff.mp rx;cases RD.int_iff.mp ry;exact ⟨_,_,rfl,rfl,q _ H Ext.refl rm (RD.int_iff.mpr rfl)⟩)
theorem op_mul_i:OpR X (binaryOp .Mult) (rI MulOk fun i j => .int (i * j)):=opI fun _ _ _ _ _ _ _ hc q=>mul_int q hc.ok
theorem yC {K:PySem.W.Frag} {M:Mem} {H:Hp} {Q:VK} {a:List D} {k:Int} {v u:V} (rm:RM K M H) (rx:RD K H (.tup a) v) (ry:RD K H (.int k) u) (q:eC (.tup a) (.int k) M (KE' K M H Q)):tq K v u H Q:=by
 obtain ⟨a',vs,rfl,ha,r1⟩:=RD.tup_iff.mp rx
 cases RD.int_iff.mp ry
 obtain ⟨z1,z2,z3,q⟩:=q
 have l1:=r1.length
 refine ⟨a',k,vs,rfl,rfl,SqT.of ha,z1,z2,by rw [l1];exact z3,fun e => ?_,fun _ p n=>cK rm (r1.rep _) q n⟩
 have ea:(List.replicate k.toNat a).flatten = a:=by
  rcases e with e | e
  ·have:a = []:=List.length_eq_zero_iff.mp (by rw [<- l1,e];rfl)
   subst this;simp
  ·subst e;simp
 rw [ea] at q
 exact q _ H Ext.refl rm rx
theorem rf:OpR X (binaryOp .Mult) (l2 X.K eC):=by
 refine OpR.of (op_mul_i.or (op_rep.or ug)) fun v u H Q h => ?_
 obtain ⟨x,y,M,rm,rx,ry,q⟩:=h
 cases x <;> cases y <;> first
  | exact q.elim
  | (cases RD.int_iff.mp rx;cases RD.int_iff.mp ry;exact .inl ⟨_,_,rfl,rfl,q.1,q.2 _ H Ext.refl rm (RD.int_iff.mpr rfl)⟩)
  | (cases RD.ref_iff.mp rx;cases RD.int_iff.mp ry
     obtain ⟨xs,e1,z1,z2,z3,q⟩:=q
     obtain ⟨vs,h1,r1⟩:=rm _ _ e1
     have l1:=r1.length
     exact .inr (.inl ⟨_,_,vs,rfl,rfl,h1,z1,z2,by rw [l1];exact z3,fun p n=>cL rm (r1.rep _) q n⟩))
  | exact .inr (.inr (yC rm rx ry q))
theorem rg:OpR X (binaryOp .FloorDiv) (rI (fun _ j => 0 < j /\ j < 2 ^ 256) fun i j => .int (i / j)):=L2.opI fun i j _ _ _ _ _ hc q=>by
 have h1:(0:Int) < j:=hc.1
 have h2:j < 2 ^ 256:=hc.2
 have h3:j.natAbs.log2 < 256:=(Nat.log2_lt (by omega)).mpr (by omega)
 exact floordiv_int (by omega) (by rw [Int.fdiv_eq_ediv_of_nonneg i (by omega)];exact q) (.inl (PyProof.noPylong_of_log2 (by omega)))
theorem p8:OpR X (binaryOp .FloorDiv) (l2 X.K gn):=by
 refine OpR.of rg fun v u H Q h => ?_
 obtain ⟨x,y,M,rm,rx,ry,q⟩:=h
 cases x <;> cases y <;> first
  | exact q.elim
  | (cases RD.int_iff.mp rx;cases RD.int_iff.mp ry;exact ⟨_,_,rfl,rfl,⟨q.1,q.2.1⟩,q.2.2 _ H Ext.refl rm (RD.int_iff.mpr rfl)⟩)
theorem rh:OpR X (binaryOp .Mod) (l2 X.K jx):=by
 refine OpR.of wm fun v u H Q h => ?_
 obtain ⟨x,y,M,rm,rx,ry,q⟩:=h
 cases x <;> cases y <;> first
  | exact q.elim
  | (cases RD.int_iff.mp rx;cases RD.int_iff.mp ry;exact ⟨_,_,rfl,rfl,q.1,q.2 _ H Ext.refl rm (RD.int_iff.mpr rfl)⟩)
theorem rj:OpR X (binaryOp .Pow) (l2 X.K mW):=by
 refine OpR.of wn fun v u H Q h => ?_
 obtain ⟨x,y,M,rm,rx,ry,q⟩:=h
 cases x <;> cases y <;> first
  | exact q.elim
  | (cases RD.int_iff.mp rx;cases RD.int_iff.mp ry;exact ⟨_,_,rfl,rfl,⟨q.1,q.2.1,q.2.2.1⟩,q.2.2.2 _ H Ext.refl rm (RD.int_iff.mpr rfl)⟩)
noncomputable def mX:R1d
 | .int i,M,Q=>Q (.int (-i)) M
 | _,_,_=>False
theorem jy:mR mX:=by
 intro x M Q Q' h q
 cases x <;> first | exact q.elim | exact h _ _ q
theorem UnR.of {f:Value -> Sem Value} {r r':V -> Hp -> VK -> Prop} (h:UnR X f r) (i:∀ v H Q,r' v H Q -> r v H Q):UnR X f r':=fun pins s σ H x v Q I rx q=>h pins s σ H x v Q I rx (i _ _ _ q)
theorem rl:UnR X (unaryOp .USub) (l1 X.K mX):=by
 refine UnR.of wo fun v H Q h => ?_
 obtain ⟨x,M,rm,rx,q⟩:=h
 cases x <;> first
  | exact q.elim
  | (cases RD.int_iff.mp rx;exact ⟨_,rfl,q _ H Ext.refl rm (RD.int_iff.mpr rfl)⟩)
noncomputable def aG {α β:Type} (f : α -> Option β):List α -> Option (List β)
 | [] => some []
 | x :: xs=>(f x).bind fun y=>(aG f xs).map (y :: ·)
noncomputable def rb:Nat -> Mem -> D -> Option PyData
 | _,_, .non=>some .none
 | _,_, .bl b=>some (.bool b)
 | _,_, .int i=>some (.int i)
 | _,_, .str x=>if PyData.strOk x = true then some (.str x) else none
 | n + 1,M, .tup ds=>(aG (rb n M) ds).map PyData.tuple
 | n + 1,M, .con ds=>(aG (rb n M) ds).map PyData.list
 | n + 1,M, .ref a=>match M a with
   | some (.lst ds)=>(aG (rb n M) ds).map PyData.list
   | _=>none
 | 0,_, .tup _=>none
 | 0,_, .con _=>none
 | 0,_, .ref _=>none
theorem cG {n:Nat} {M:Mem} (ih:∀ d p,rb n M d = some p -> p.depth <= n /\ p.canLay0 = true):∀ {ds:List D} {ps:List PyData},aG (rb n M) ds = some ps -> PyData.depthAll ps <= n /\ PyData.canLayAll0 ps = true
 | [],ps,h=>by
  simp [aG] at h;subst h
  exact ⟨Nat.zero_le _,rfl⟩
 | d :: ds,ps,h=>by
   simp only [aG] at h
   cases e1:rb n M d with
   | none=>rw [e1] at h;cases h
   | some p =>
     rw [e1] at h
     cases e2:aG (rb n M) ds with
     | none=>simp [e2] at h
     | some qs =>
       simp [e2] at h
       subst h
       obtain ⟨a1,a2⟩:=ih d p e1
       obtain ⟨b1,b2⟩:=cG ih e2
       refine ⟨?_, ?_⟩
       ·show max p.depth (PyData.depthAll qs) <= n
        omega
       ·show (p.canLay0 && PyData.canLayAll0 qs) = true
        rw [a2,b2];rfl
theorem cc {M:Mem}:∀ (n:Nat) (d:D) (p:PyData),rb n M d = some p -> p.depth <= n /\ p.canLay0 = true
 | n, .non,p,h=>by simp [rb] at h;subst h;exact ⟨Nat.zero_le _,rfl⟩
 | n, .bl b,p,h=>by simp [rb] at h;subst h;exact ⟨Nat.zero_le _,rfl⟩
 | n, .int b,p,h=>by simp [rb] at h;subst h;exact ⟨Nat.zero_le _,rfl⟩
 | n, .str x,p,h=>by
   simp [rb] at h
   obtain ⟨h1,h2⟩:=h
   subst h2;exact ⟨Nat.zero_le _,h1⟩
 | 0, .tup _,p,h=>by simp [rb] at h
 | 0, .con _,p,h=>by simp [rb] at h
 | 0, .ref _,p,h=>by simp [rb] at h
 | n + 1, .tup ds,p,h=>by
   simp only [rb] at h
   cases e:aG (rb n M) ds with
   | none=>rw [e] at h;cases h
   | some ps =>
     rw [e] at h;cases h
     obtain ⟨a,b⟩:=cG (cc n) e
     exact ⟨Nat.succ_le_succ a,b⟩
 | n + 1, .con ds,p,h=>by
   simp only [rb] at h
   cases e:aG (rb n M) ds with
   | none=>rw [e] at h;cases h
   | some ps =>
     rw [e] at h;cases h
     obtain ⟨a,b⟩:=cG (cc n) e
     exact ⟨Nat.succ_le_succ a,b⟩
 | n + 1, .ref a,p,h=>by
   simp only [rb] at h
   cases e0:M a with
   | none=>rw [e0] at h;cases h
   | some o =>
     rw [e0] at h
     cases o with
     | dct _ _=>cases h
     | fdc _=>cases h
     | lst ds =>
       simp only at h
       cases e:aG (rb n M) ds with
       | none=>rw [e] at h;cases h
       | some ps =>
         rw [e] at h;cases h
         obtain ⟨a,b⟩:=cG (cc n) e
         exact ⟨Nat.succ_le_succ a,b⟩
theorem cH {K:PySem.W.Frag} {H:Hp} {n:Nat} {M:Mem} {h:Heap} (ih:∀ d p v u,rb n M d = some p -> RD K H d v -> RelV v u -> ∃ as,Reads h u p as) :
 ∀ {ds:List D} {ps:List PyData} {vs:List V} {us:List Value},aG (rb n M) ds = some ps -> RDs K H ds vs -> Vals vs us -> ∃ as,ReadsAll h us ps as
 | [],ps,vs,us,hm,r,rv=>by
  simp [aG] at hm;subst hm
  rw [RDs.nil_iff.mp r] at rv
  cases rv
  exact ⟨_, .nil⟩
 | d :: ds,ps,vs,us,hm,r,rv=>by
   obtain ⟨v,vr,rfl,r1,r2⟩:=RDs.cons_iff.mp r
   cases rv with
   | cons q1 q2 =>
     simp only [aG] at hm
     cases e1:rb n M d with
     | none=>rw [e1] at hm;cases hm
     | some p =>
       rw [e1] at hm
       cases e2:aG (rb n M) ds with
       | none=>simp [e2] at hm
       | some qs =>
         simp [e2] at hm
         subst hm
         obtain ⟨as,ra⟩:=ih d p v _ e1 r1 q1
         obtain ⟨bs,rbs⟩:=cH ih e2 r2 q2
         exact ⟨_, .cons ra rbs⟩
theorem ce {pins:List (Addr × Obj)} {σ:St} {H:Hp} {s:Shared} {M:Mem} (I:Inv X pins σ H s) (rm:RM X.K M H):∀ (n:Nat) (d:D) (p:PyData) (v:V) (u:Value),rb n M d = some p -> RD X.K H d v -> RelV v u -> ∃ as,Reads s.heap u p as
 | n, .non,p,v,u,h,r,q=>by simp [rb] at h;subst h;cases RD.non_iff.mp r;cases q;exact ⟨_, .none⟩
 | n, .bl b,p,v,u,h,r,q=>by simp [rb] at h;subst h;cases RD.bl_iff.mp r;cases q;exact ⟨_, .bool b⟩
 | n, .int b,p,v,u,h,r,q=>by simp [rb] at h;subst h;cases RD.int_iff.mp r;obtain ⟨t,rfl⟩:=q;exact ⟨_, .int b t⟩
 | n, .str x,p,v,u,h,r,q=>by
   simp [rb] at h
   obtain ⟨_,h2⟩:=h
   subst h2;cases RD.str_iff.mp r;obtain ⟨t,rfl⟩:=q;exact ⟨_, .str x t⟩
 | 0, .tup _,p,_,_,h,_,_=>by simp [rb] at h
 | 0, .con _,p,_,_,h,_,_=>by simp [rb] at h
 | 0, .ref _,p,_,_,h,_,_=>by simp [rb] at h
 | n + 1, .tup ds,p,v,u,h,r,q=>by
   simp only [rb] at h
   cases e:aG (rb n M) ds with
   | none=>rw [e] at h;cases h
   | some ps =>
     rw [e] at h;cases h
     obtain ⟨a,vs,rfl,ha,rs⟩:=RD.tup_iff.mp r
     cases q
     obtain ⟨its,rv,⟨o,ho,hc,k,hd⟩,_⟩:=I.tuple (SqT.of ha)
     obtain ⟨as,ra⟩:=cH (ce I rm n) e rs rv
     exact ⟨_, .tuple ho hc hd (by simpa using ra)⟩
 | n + 1, .con ds,p,v,u,h,r,q=>by
   simp only [rb] at h
   cases e:aG (rb n M) ds with
   | none=>rw [e] at h;cases h
   | some ps =>
     rw [e] at h;cases h
     obtain ⟨a,vs,rfl,ha,rs⟩:=RD.con_iff.mp r
     cases q
     obtain ⟨its,rv,⟨o,k,ho,hc,_,hd⟩,_⟩:=I.list ha.sq
     obtain ⟨as,ra⟩:=cH (ce I rm n) e rs rv
     exact ⟨_, .list ho hc hd (by simpa using ra)⟩
 | n + 1, .ref a,p,v,u,h,r,q=>by
   simp only [rb] at h
   cases e0:M a with
   | none=>rw [e0] at h;cases h
   | some o =>
     rw [e0] at h
     cases o with
     | dct _ _=>cases h
     | fdc _=>cases h
     | lst ds =>
       simp only at h
       cases e:aG (rb n M) ds with
       | none=>rw [e] at h;cases h
       | some ps =>
         rw [e] at h;cases h
         cases RD.ref_iff.mp r
         cases q
         obtain ⟨vs,ha,rs⟩:=rm _ _ e0
         obtain ⟨its,rv,⟨o,k,ho,hc,_,hd⟩,_⟩:=I.list (SqL.of ha)
         obtain ⟨as,ra⟩:=cH (ce I rm n) e rs rv
         exact ⟨_, .list ho hc hd (by simpa using ra)⟩
noncomputable def wEq:R2d:=fun x y M Q => ∃ p q,rb 16 M x = some p /\ rb 16 M y = some q /\ Q (.bl (PyData.eqv p q)) M
noncomputable def wNe:R2d:=fun x y M Q => ∃ p q,rb 16 M x = some p /\ rb 16 M y = some q /\ Q (.bl (!PyData.eqv p q)) M
theorem ui:aT wEq:=fun _ _ _ _ _ h ⟨p,q,a,b,c⟩=>⟨p,q,a,b,h _ _ c⟩
theorem uj:aT wNe:=fun _ _ _ _ _ h ⟨p,q,a,b,c⟩=>⟨p,q,a,b,h _ _ c⟩
theorem uk (hu:X.A.units + 16 < cLine):OpR X (compareOp .Eq) (l2 X.K wEq):=by
 intro pins s σ H x y v u Q I rx ry h
 obtain ⟨d,e,M,rm,rd,re,p,q,hp,hq,k⟩:=h
 obtain ⟨as,ra⟩:=ce I rm _ _ _ _ _ hp rd rx
 obtain ⟨bs,rb'⟩:=ce I rm _ _ _ _ _ hq re ry
 obtain ⟨p1,p2⟩:=cc _ _ _ hp
 obtain ⟨q1,q2⟩:=cc _ _ _ hq
 exact SeqAt.compareEq_reads ra rb' p2 q2 (by omega) ⟨.bl _,H,I,rfl,k _ H Ext.refl rm (RD.bl_iff.mpr rfl)⟩
theorem ul (hu:X.A.units + 16 < cLine):OpR X (compareOp .NotEq) (l2 X.K wNe):=by
 intro pins s σ H x y v u Q I rx ry h
 obtain ⟨d,e,M,rm,rd,re,p,q,hp,hq,k⟩:=h
 obtain ⟨as,ra⟩:=ce I rm _ _ _ _ _ hp rd rx
 obtain ⟨bs,rb'⟩:=ce I rm _ _ _ _ _ hq re ry
 obtain ⟨p1,p2⟩:=cc _ _ _ hp
 obtain ⟨q1,q2⟩:=cc _ _ _ hq
 exact SeqAt.compareNe_reads ra rb' p2 q2 (by omega) ⟨.bl _,H,I,rfl,k _ H Ext.refl rm (RD.bl_iff.mpr rfl)⟩
noncomputable def wLt:R2d
 | .int i, .int j,M,Q=>Q (.bl (decide (i < j))) M
 | _,_,_,_=>False
noncomputable def wLe:R2d
 | .int i, .int j,M,Q=>Q (.bl (decide (i <= j))) M
 | _,_,_,_=>False
noncomputable def wGt:R2d
 | .int i, .int j,M,Q=>Q (.bl (decide (j < i))) M
 | _,_,_,_=>False
noncomputable def wGe:R2d
 | .int i, .int j,M,Q=>Q (.bl (decide (j <= i))) M
 | _,_,_,_=>False
theorem um:aT wLt:=by
 intro x y M Q Q' h q
 cases x <;> cases y <;> first | exact q.elim | exact h _ _ q
theorem uo:aT wGt:=by
 intro x y M Q Q' h q
 cases x <;> cases y <;> first | exact q.elim | exact h _ _ q
theorem uq:aT wGe:=by
 intro x y M Q Q' h q
 cases x <;> cases y <;> first | exact q.elim | exact h _ _ q
theorem ut:OpR X (compareOp .Lt) (l2 X.K wLt):=by
 refine OpR.of yi fun v u H Q h => ?_
 obtain ⟨x,y,M,rm,rx,ry,q⟩:=h
 cases x <;> cases y <;> first
  | exact q.elim
  | (cases RD.int_iff.mp rx;cases RD.int_iff.mp ry;exact ⟨_,_,rfl,rfl,q _ H Ext.refl rm (RD.bl_iff.mpr rfl)⟩)
theorem uu:OpR X (compareOp .Gt) (l2 X.K wGt):=by
 refine OpR.of yj fun v u H Q h => ?_
 obtain ⟨x,y,M,rm,rx,ry,q⟩:=h
 cases x <;> cases y <;> first
  | exact q.elim
  | (cases RD.int_iff.mp rx;cases RD.int_iff.mp ry;exact ⟨_,_,rfl,rfl,q _ H Ext.refl rm (RD.bl_iff.mpr rfl)⟩)
theorem uw:OpR X (compareOp .GtE) (l2 X.K wGe):=by
 refine OpR.of yk fun v u H Q h => ?_
 obtain ⟨x,y,M,rm,rx,ry,q⟩:=h
 cases x <;> cases y <;> first
  | exact q.elim
  | (cases RD.int_iff.mp rx;cases RD.int_iff.mp ry;exact ⟨_,_,rfl,rfl,q _ H Ext.refl rm (RD.bl_iff.mpr rfl)⟩)
end
end Mi
end L2
namespace L2
namespace Mi
open PySem PySem.Spec PyProof.Rows
noncomputable def wIx:R2d:=fun x y M Q=>match x with
 | .tup ds => ∃ i d,y = .int i /\ atI ds i = some d /\ Q d M
 | .con ds => ∃ i d,y = .int i /\ atI ds i = some d /\ Q d M
 | .ref a=>(∃ ds i d,M a = some (.lst ds) /\ y = .int i /\ atI ds i = some d /\ Q d M) ∨ (∃ t kvs d,M a = some (.dct t kvs) /\ gm t y = true /\ dget kvs y = some d /\ Q d M) ∨ ∃ kvs d,M a = some (.fdc kvs) /\ bX y = true /\ dget kvs y = some d /\ Q d M
 | _=>False
theorem lq:aT wIx:=by
 intro x y M Q Q' h q
 cases x with
 | tup ds=>obtain ⟨i,d,e,e2,q⟩:=q;exact ⟨i,d,e,e2,h _ _ q⟩
 | con ds=>obtain ⟨i,d,e,e2,q⟩:=q;exact ⟨i,d,e,e2,h _ _ q⟩
 | ref a =>
   rcases q with ⟨ds,i,d,e1,e2,e3,q⟩ | ⟨t,kvs,d,e1,e2,e3,q⟩ | ⟨kvs,d,e1,e2,e3,q⟩
   ·exact .inl ⟨ds,i,d,e1,e2,e3,h _ _ q⟩
   ·exact .inr (.inl ⟨t,kvs,d,e1,e2,e3,h _ _ q⟩)
   ·exact .inr (.inr ⟨kvs,d,e1,e2,e3,h _ _ q⟩)
 | _=>exact q.elim
theorem jz {K:PySem.W.Frag} {H:Hp} {ds:List D} {vs:List V} {i:Int} {d:D} (r:RDs K H ds vs) (e:atI ds i = some d):∃ v,atI vs i = some v /\ RD K H d v:=by
 unfold atI at e ⊢
 rw [r.length]
 cases q:ixN ds.length i with
 | none=>rw [q] at e;cases e
 | some j =>
   rw [q] at e
   exact r.get e
theorem hJ {K:PySem.W.Frag} {H:Hp} {k:D} {q:Key} {v:V} (r:RKey k q) (h:RD K H k v):v = kV q:=by
 cases k <;> first
  | exact r.elim
  | (cases (show q = _ from r);first | exact RD.int_iff.mp h | exact RD.str_iff.mp h)
theorem dN {K:PySem.W.Frag} {H:Hp}:∀ {ds:List D} {ks:List Key} {vs:List V},Paired RKey ds ks -> RDs K H ds vs -> vs = ks.map kV
 | _,_,vs, .nil,h=>by rw [RDs.nil_iff.mp h];rfl
 | _,_,vs, .cons r t,h=>by
   obtain ⟨v,vr,rfl,h1,h2⟩:=RDs.cons_iff.mp h
   rw [hJ r h1,dN t h2];rfl
theorem RKey.inj {d e:D} {k:Key} (a:RKey d k) (b:RKey e k):d = e:=by
 cases d <;> first
  | exact a.elim
  | (cases e <;> first | exact b.elim | (cases (show k = _ from a);injection (show _ = _ from b) with z;rw [z]) | (cases (show k = _ from a);cases (show _ = _ from b)))
theorem RKeysP.inj:∀ {d e:List D} {k:List Key},Paired RKey d k -> Paired RKey e k -> d = e
 | _,_,_, .nil, .nil=>rfl
 | _,_,_, .cons r t, .cons r' t'=>by rw [r.inj r',RKeysP.inj t t']
theorem RKeys.inj {d e:D} {k:List Key} (a:RKeys d k) (b:RKeys e k):d = e:=by
 cases d <;> first
  | exact a.elim
  | (cases e <;> first | exact b.elim | exact congrArg D.tup (RKeysP.inj a b))
theorem RKey.fun {d:D} {k k':Key} (a:RKey d k) (b:RKey d k'):k = k':=by
 cases d <;> first
  | exact a.elim
  | (cases (show k = _ from a);cases (show k' = _ from b);rfl)
theorem RKeysP.fun:∀ {d:List D} {k k':List Key},Paired RKey d k -> Paired RKey d k' -> k = k'
 | _,_,_, .nil, .nil=>rfl
 | _,_,_, .cons r t, .cons r' t'=>by rw [r.fun r',RKeysP.fun t t']
theorem RKeys.fun {d:D} {k k':List Key} (a:RKeys d k) (b:RKeys d k'):k = k':=by
 cases d <;> first
  | exact a.elim
  | exact RKeysP.fun a b
section
variable {κ:Type} [DecidableEq κ] {K:PySem.W.Frag} {H:Hp} {RK:D -> κ -> Prop} (inj:∀ {d e:D} {k : κ},RK d k -> RK e k -> d = e) (fn:∀ {d:D} {k k' : κ},RK d k -> RK d k' -> k = k')
include inj fn
theorem dO {k:D} {q : κ} (hk:RK k q):∀ {kvs:List (D × D)} {ps:List (κ × V)},Paired (fun p r=>RK p.1 r.1 /\ RD K H p.2 r.2) kvs ps ->
 (∀ d,dget kvs k = some d -> ∃ v,bN ps q = some v /\ RD K H d v) /\ (dget kvs k = none -> bN ps q = none)
 | _,_, .nil=>⟨fun d e=>by simp [dget] at e,fun _=>rfl⟩
 | _,_, .cons (a:=p) (b:=r) (l₂ := ps) hr t=>by
   obtain ⟨ih1,ih2⟩:=dO hk t
   by_cases e:p.1 = k
   ·have e':r.1 = q:=by
     have h1:=hr.1
     rw [e] at h1
     exact fn h1 hk
    refine ⟨fun d he => ?_,fun he => ?_⟩
    ·simp [dget,List.find?_cons,e] at he
     subst he
     exact ⟨r.2,dJ e',hr.2⟩
    ·simp [dget,List.find?_cons,e] at he
   ·have e' : ¬ r.1 = q:=fun z=>e (by
     have h1:=hr.1
     rw [z] at h1
     exact inj h1 hk)
    have eq1:∀ l:List (D × D),dget (p :: l) k = dget l k:=fun l=>by simp [dget,List.find?_cons,e]
    have eq2:bN (r :: ps) q = bN ps q:=dL e'
    refine ⟨fun d he => ?_,fun he => ?_⟩
    ·rw [eq1] at he
     rw [eq2]
     exact ih1 d he
    ·rw [eq1] at he
     rw [eq2]
     exact ih2 he
end
section
variable {X:Cx}
theorem p9 {K:PySem.W.Frag} {H:Hp} {a:Addr} {ps:List (List Key × V)} {kvs:List (D × D)} {k:D} {v:V} (hp:Rd H a (.dT ps)) (pr:Paired (fun (p:D × D) (q:List Key × V)=>RKeys p.1 q.1 /\ RD K H p.2 q.2) kvs ps) (ok:bX k = true) (rk:RD K H k v) :
 ∃ o,DGet H a v o /\ (∀ d,dget kvs k = some d -> ∃ w,o = some w /\ RD K H d w) /\ (dget kvs k = none -> o = none):=by
 obtain ⟨q,hq⟩:=gZ ok
 obtain ⟨g1,g2⟩:=dO (RK:=RKeys) RKeys.inj RKeys.fun hq pr
 refine ⟨bN ps q, ?_,g1,g2⟩
 cases k <;> first
  | exact hq.elim
  | (obtain ⟨b,us,rfl,hb,ru⟩:=RD.tup_iff.mp rk
     rw [dN hq ru] at hb
     exact .inr ⟨ps,q,b,hp,rfl,hb,rfl⟩)
theorem lr {K:PySem.W.Frag} {M:Mem} {H:Hp} {a:Addr} {t:Bool} {kvs:List (D × D)} {k:D} {v:V} (rm:RM K M H) (e:M a = some (.dct t kvs)) (ok:gm t k = true) (rk:RD K H k v) :
 ∃ o,DGet H a v o /\ (∀ d,dget kvs k = some d -> ∃ w,o = some w /\ RD K H d w) /\ (dget kvs k = none -> o = none):=by
 have ro:=rm a _ e
 cases t with
 | false =>
   obtain ⟨ps,hp,pr⟩:=ro
   obtain ⟨q,hq⟩:=jt (show dM k = true from ok)
   obtain ⟨g1,g2⟩:=dO (RK:=RKey) RKey.inj RKey.fun hq pr
   refine ⟨bN ps q, ?_,g1,g2⟩
   rw [hJ hq rk]
   exact DGet.k hp
 | true =>
   obtain ⟨ps,hp,pr⟩:=ro
   exact p9 (.inl hp) pr ok rk
theorem uz (hu:X.A.units + 1 < cLine):IxR X (fun x y H Q => ∃ a v,x = .ref a /\ DGet H a y (some v) /\ Q v H):=by
 intro value slice pins s σ H x y v u Q I rx ry h hs
 obtain ⟨a,w,rfl,g,q⟩:=h
 cases rx
 have hd:IsD H a:=by
  rcases g with ⟨kvs,k,e,_⟩ | ⟨kvs,k,b,e,_⟩
  ·exact .inl ⟨kvs,e⟩
  ·exact .inr ⟨kvs,e⟩
 obtain ⟨ht,_⟩:=jn I hd
 exact tail_any ht PySem.F.slot_dict_getitem.lookup (oM hu I g ry fun w' s' I' r'=>⟨w,H,I',r',q⟩) hs
theorem zE (hu:X.A.units + 1 < cLine):IxR X (l2 X.K wIx):=by
 refine IxR.of (ix_list.or (ix_tup.or (uz hu))) fun v u H Q h => ?_
 obtain ⟨x,y,M,rm,rx,ry,q⟩:=h
 cases x with
 | tup ds =>
   obtain ⟨i,d,rfl,e,q⟩:=q
   obtain ⟨a,vs,rfl,ha,rs⟩:=RD.tup_iff.mp rx
   cases RD.int_iff.mp ry
   obtain ⟨w,hw,rw'⟩:=jz rs e
   exact .inr (.inl ⟨a,vs,i,w,rfl,rfl,SqT.of ha,hw,q w H Ext.refl rm rw'⟩)
 | con ds =>
   obtain ⟨i,d,rfl,e,q⟩:=q
   obtain ⟨a,vs,rfl,ha,rs⟩:=RD.con_iff.mp rx
   cases RD.int_iff.mp ry
   obtain ⟨w,hw,rw'⟩:=jz rs e
   exact .inl ⟨a,vs,i,w,rfl,rfl,ha.sq,hw,q w H Ext.refl rm rw'⟩
 | ref a =>
   cases RD.ref_iff.mp rx
   rcases q with ⟨ds,i,d,e1,rfl,e3,q⟩ | ⟨t,kvs,d,e1,e2,e3,q⟩ | ⟨kvs,d,e1,e2,e3,q⟩
   ·cases RD.int_iff.mp ry
    obtain ⟨vs,ha,rs⟩:=rm _ _ e1
    obtain ⟨w,hw,rw'⟩:=jz rs e3
    exact .inl ⟨a,vs,i,w,rfl,rfl,SqL.of ha,hw,q w H Ext.refl rm rw'⟩
   ·obtain ⟨o,g,g1,_⟩:=lr rm e1 e2 ry
    obtain ⟨w,rfl,rw'⟩:=g1 d e3
    exact .inr (.inr ⟨a,w,rfl,g,q w H Ext.refl rm rw'⟩)
   ·obtain ⟨ob,ps,hp,pr⟩:=rm _ _ e1
    obtain ⟨o,g,g1,_⟩:=p9 (.inr ⟨ob,hp⟩) pr e2 ry
    obtain ⟨w,rfl,rw'⟩:=g1 d e3
    exact .inr (.inr ⟨a,w,rfl,g,q w H Ext.refl rm rw'⟩)
 | _=>exact q.elim
noncomputable def fK (M:Mem):D -> Option Nat
 | .tup ds=>some ds.length
 | .con ds=>some ds.length
 | .ref a=>match M a with
  | some (.lst ds)=>some ds.length
  | _=>none
 | _=>none
noncomputable def cS:RAd:=fun xs M Q => ∃ x n,xs = [x] /\ fK M x = some n /\ Q (.int n) M
theorem jA:aU cS:=fun _ _ _ _ h ⟨x,n,e,l,q⟩=>⟨x,n,e,l,h _ _ q⟩
theorem RDs.one {K:PySem.W.Frag} {H:Hp} {d:D} {vs:List V} (h:RDs K H [d] vs):∃ v,vs = [v] /\ RD K H d v:=by
 obtain ⟨v,r,rfl,h1,h2⟩:=RDs.cons_iff.mp h
 rw [RDs.nil_iff.mp h2]
 exact ⟨v,rfl,h1⟩
theorem RDs.two {K:PySem.W.Frag} {H:Hp} {d e:D} {vs:List V} (h:RDs K H [d,e] vs):∃ v u,vs = [v,u] /\ RD K H d v /\ RD K H e u:=by
 obtain ⟨v,r,rfl,h1,h2⟩:=RDs.cons_iff.mp h
 obtain ⟨u,rfl,h3⟩:=RDs.one h2
 exact ⟨v,u,rfl,h1,h3⟩
theorem mY:CallR X (.builtin "len") (lR X.K cS):=by
 refine CallR.of qG fun vs H Q h => ?_
 obtain ⟨ds,M,rm,rs,x,n,rfl,l,q⟩:=h
 obtain ⟨v,rfl,r⟩:=rs.one
 refine ⟨v,n,rfl, ?_,q _ H Ext.refl rm (RD.int_iff.mpr rfl)⟩
 cases x with
 | tup ds =>
   cases l
   obtain ⟨a,us,rfl,ha,ru⟩:=RD.tup_iff.mp r
   exact .inr ⟨us,SqT.of ha,ru.length.symm⟩
 | con ds =>
   cases l
   obtain ⟨a,us,rfl,ha,ru⟩:=RD.con_iff.mp r
   exact .inl ⟨us,ha.sq,ru.length.symm⟩
 | ref a =>
   cases RD.ref_iff.mp r
   simp only [fK] at l
   cases e:M a with
   | none=>rw [e] at l;cases l
   | some o =>
     rw [e] at l
     cases o with
     | dct _ _=>cases l
     | fdc _=>cases l
     | lst ds =>
       cases l
       obtain ⟨us,ha,ru⟩:=rm _ _ e
       exact .inl ⟨us,SqL.of ha,ru.length.symm⟩
 | _=>cases l
noncomputable def jB:RAd:=fun xs M Q => ∃ i,xs = [.int i] /\ Q (.int (if i < 0 then -i else i)) M
noncomputable def yD:RAd:=fun xs M Q => ∃ i j,xs = [.int i, .int j] /\ Q (.int (if j > i then j else i)) M
noncomputable def iW:RAd:=fun xs M Q => ∃ i j,xs = [.int i, .int j] /\ Q (.int (if j < i then j else i)) M
noncomputable def jC:RAd:=fun xs M Q=>(∃ i,xs = [.int i] /\ Q (.int i) M) ∨ ∃ k,xs = [.bl k] /\ Q (.int (if k then 1 else 0)) M
theorem jD:aU jB:=fun _ _ _ _ h ⟨i,e,q⟩=>⟨i,e,h _ _ q⟩
theorem ir:aU iW:=fun _ _ _ _ h ⟨i,j,e,q⟩=>⟨i,j,e,h _ _ q⟩
theorem jE:aU jC:=fun _ _ _ _ h q=>q.elim (fun ⟨i,e,q⟩ => .inl ⟨i,e,h _ _ q⟩) fun ⟨i,e,q⟩ => .inr ⟨i,e,h _ _ q⟩
theorem mZ:CallR X (.builtin "abs") (lR X.K jB):=by
 refine CallR.of qF fun vs H Q h => ?_
 obtain ⟨ds,M,rm,rs,i,rfl,q⟩:=h
 obtain ⟨v,rfl,r⟩:=rs.one
 cases RD.int_iff.mp r
 exact ⟨i,rfl,q _ H Ext.refl rm (RD.int_iff.mpr rfl)⟩
theorem kX (hc:X.calm = true):CallR X (.builtin "min") (lR X.K iW):=by
 refine CallR.of (oC hc) fun vs H Q h => ?_
 obtain ⟨ds,M,rm,rs,i,j,rfl,q⟩:=h
 obtain ⟨v,u,rfl,r1,r2⟩:=rs.two
 cases RD.int_iff.mp r1
 cases RD.int_iff.mp r2
 exact ⟨i,j,rfl,q _ H Ext.refl rm (RD.int_iff.mpr rfl)⟩
theorem n6:CallR X (.type "int") (lR X.K jC):=by
 refine CallR.of oD fun vs H Q h => ?_
 obtain ⟨ds,M,rm,rs,⟨i,rfl,q⟩ | ⟨i,rfl,q⟩⟩:=h
 ·obtain ⟨v,rfl,r⟩:=rs.one
  cases RD.int_iff.mp r
  exact .inl ⟨i,rfl,q _ H Ext.refl rm (RD.int_iff.mpr rfl)⟩
 ·obtain ⟨v,rfl,r⟩:=rs.one
  cases RD.bl_iff.mp r
  exact .inr ⟨i,rfl,q _ H Ext.refl rm (RD.int_iff.mpr rfl)⟩
noncomputable def av (M:Mem):D -> Option (List D)
 | .tup ds=>some ds
 | .con ds=>some ds
 | .ref a=>match M a with
  | some (.lst ds)=>some ds
  | _=>none
 | _=>none
theorem pc {K:PySem.W.Frag} {M:Mem} {H:Hp} {x:D} {ds:List D} {v:V} (rm:RM K M H) (r:RD K H x v) (e:av M x = some ds):∃ p vs,v = .ref p /\ (SqL K H p vs ∨ SqT K H p vs) /\ RDs K H ds vs:=by
 cases x with
 | tup es =>
   cases e
   obtain ⟨a,us,rfl,ha,ru⟩:=RD.tup_iff.mp r
   exact ⟨a,us,rfl, .inr (SqT.of ha),ru⟩
 | con es =>
   cases e
   obtain ⟨a,us,rfl,ha,ru⟩:=RD.con_iff.mp r
   exact ⟨a,us,rfl, .inl ha.sq,ru⟩
 | ref a =>
   cases RD.ref_iff.mp r
   simp only [av] at e
   cases e0:M a with
   | none=>rw [e0] at e;cases e
   | some o =>
     rw [e0] at e
     cases o with
     | dct _ _=>cases e
     | fdc _=>cases e
     | lst es =>
       cases e
       obtain ⟨us,ha,ru⟩:=rm _ _ e0
       exact ⟨a,us,rfl, .inl (SqL.of ha),ru⟩
 | _=>cases e
noncomputable def n8:RAd:=fun xs M Q => ∃ x ds,xs = [x] /\ av M x = some ds /\ ∀ p,M p = none -> Q (.ref p) (ak M p (.lst ds))
noncomputable def jF:RAd:=fun xs M Q => ∃ x ds,xs = [x] /\ av M x = some ds /\ Q (.tup ds) M
theorem iu:aU n8:=fun _ _ _ _ h ⟨x,ds,e,l,q⟩=>⟨x,ds,e,l,fun p n=>h _ _ (q p n)⟩
theorem gq:aU jF:=fun _ _ _ _ h ⟨x,ds,e,l,q⟩=>⟨x,ds,e,l,h _ _ q⟩
theorem kY:CallR X (.type "list") (lR X.K n8):=by
 refine CallR.of jj fun vs H Q h => ?_
 obtain ⟨ds,M,rm,rs,x,es,rfl,l,q⟩:=h
 obtain ⟨v,rfl,r⟩:=rs.one
 obtain ⟨p,us,rfl,sq,ru⟩:=pc rm r l
 exact ⟨p,us,rfl,sq,fun l' n=>cL rm ru q n⟩
theorem jG:CallR X (.type "tuple") (lR X.K jF):=by
 refine CallR.of iR fun vs H Q h => ?_
 obtain ⟨ds,M,rm,rs,x,es,rfl,l,q⟩:=h
 obtain ⟨v,rfl,r⟩:=rs.one
 cases x with
 | tup ds' =>
   cases l
   obtain ⟨a,us,rfl,ha,ru⟩:=RD.tup_iff.mp r
   exact ⟨a,us,rfl, .inr ⟨SqT.of ha,q _ H Ext.refl rm r⟩⟩
 | con ds' =>
   cases l
   obtain ⟨a,us,rfl,ha,ru⟩:=RD.con_iff.mp r
   exact ⟨a,us,rfl, .inl ⟨ha.sq,fun l' n=>cK rm ru q n⟩⟩
 | ref a =>
   cases RD.ref_iff.mp r
   simp only [av] at l
   cases e0:M a with
   | none=>rw [e0] at l;cases l
   | some o =>
     rw [e0] at l
     cases o with
     | dct _ _=>cases l
     | fdc _=>cases l
     | lst es' =>
       cases l
       obtain ⟨us,ha,ru⟩:=rm _ _ e0
       exact ⟨a,us,rfl, .inl ⟨SqL.of ha,fun l' n=>cK rm ru q n⟩⟩
 | _=>cases l
end
end Mi
end L2
namespace L2
namespace Mi
open PySem PySem.Spec PyProof.Rows
section
variable {X:Cx}
theorem RDs.ints_eq {K:PySem.W.Frag} {H:Hp}:∀ {ns:List Int} {vs:List V},RDs K H (ns.map D.int) vs -> vs = ns.map V.int
 | [],_,h=>RDs.nil_iff.mp h
 | n :: ns,_,h=>by
   obtain ⟨v,r,rfl,h1,h2⟩:=RDs.cons_iff.mp h
   rw [RD.int_iff.mp h1,RDs.ints_eq h2];rfl
noncomputable def rn (M:Mem):D -> Option Bool
 | .non=>some false
 | .bl b=>some b
 | .int i=>some (i != 0)
 | .tup ds=>some (!ds.isEmpty)
 | .con ds=>some (!ds.isEmpty)
 | .ref a=>match M a with
  | some (.lst ds)=>some (!ds.isEmpty)
  | _=>none
 | _=>none
noncomputable def n9 (t:TEd):TTd:=fun ρ M Q=>t ρ M fun x M1 => ∃ b,rn M1 x = some b /\ Q b M1
theorem rp {t:TEd} (h:ad t):az (n9 t):=fun ρ M Q Q' i q=>h _ _ _ _ (fun x M1 ⟨k,e,q1⟩=>⟨k,e,i _ _ q1⟩) q
theorem wQ {K:PySem.W.Frag} {M:Mem} {H:Hp} {x:D} {b:Bool} {v:V} (rm:RM K M H) (r:RD K H x v) (e:rn M x = some b):qD K v H b:=by
 have emp:∀ {ds:List D} {vs:List V},RDs K H ds vs -> (!ds.isEmpty) = !vs.isEmpty:=fun {ds vs} h=>by
  have l:=h.length
  cases ds <;> cases vs <;> first | rfl | (simp at l)
 cases x with
 | non=>cases e;cases RD.non_iff.mp r;rfl
 | bl k=>cases e;cases RD.bl_iff.mp r;rfl
 | int i=>cases e;cases RD.int_iff.mp r;rfl
 | tup ds =>
   cases e
   obtain ⟨a,vs,rfl,ha,rs⟩:=RD.tup_iff.mp r
   exact .inr (.inl ⟨vs,SqT.of ha,emp rs⟩)
 | con ds =>
   cases e
   obtain ⟨a,vs,rfl,ha,rs⟩:=RD.con_iff.mp r
   exact .inl ⟨vs,ha.sq,emp rs⟩
 | ref a =>
   cases RD.ref_iff.mp r
   simp only [rn] at e
   cases e0:M a with
   | none=>rw [e0] at e;cases e
   | some o =>
     rw [e0] at e
     cases o with
     | dct _ _=>cases e
     | fdc _=>cases e
     | lst ds =>
       cases e
       obtain ⟨vs,ha,rs⟩:=rm _ _ e0
       exact .inl ⟨vs,SqL.of ha,emp rs⟩
 | str _=>cases e
variable {a b:Expr} {ta tb:TEd} {pos:Pos}
theorem wR (m:ad ta) (ha:PE X a (lE X.K ta)) (he:∀ whole,isTrue a X.env whole = (do let v <- whole;standAt a.pos;holding [v] (truthy v))):PT X a (lT X.K (n9 ta)):=by
 refine PT.imp (qE ha he) fun σ H Q h => ?_
 obtain ⟨ρ,M,rs,rm,q⟩:=h
 exact ⟨ρ,M,rs,rm,m _ _ _ _ (fun x M1 ⟨k,e,q1⟩ v H1 x1 rm1 rd1=>⟨k,wQ rm1 rd1 e,q1 H1 x1 rm1⟩) q⟩
noncomputable def iX (t:TTd):TTd:=fun ρ M Q=>t ρ M fun c M1=>Q (!c) M1
theorem ph {t:TTd} (h:az t):az (iX t):=fun ρ M Q Q' i q=>h _ _ _ _ (fun c M1 q1=>i _ _ q1) q
theorem wU {tA:TTd} (m:az tA) (ha:PT X a (lT X.K tA)):PT X (.UnaryOp .Not a pos) (lT X.K (iX tA)):=by
 refine PT.imp (vX ha) fun σ H Q h => ?_
 obtain ⟨ρ,M,rs,rm,q⟩:=h
 exact ⟨ρ,M,rs,rm,m _ _ _ _ (fun c M1 q1=>q1) q⟩
noncomputable def iY (t u:TTd):TTd:=fun ρ M Q=>t ρ M fun c M1=>if c = true then u ρ M1 Q else Q false M1
noncomputable def nc (t u:TTd):TTd:=fun ρ M Q=>t ρ M fun c M1=>if c = true then Q true M1 else u ρ M1 Q
theorem pj {t u:TTd} (h:az t) (k:az u):az (iY t u):=fun ρ M Q Q' i q=>h _ _ _ _ (fun c M1 q1=>by
 cases c with
 | true=>rw [if_pos rfl] at q1 ⊢;exact k _ _ _ _ i q1
 | false=>rw [if_neg Bool.false_ne_true] at q1 ⊢;exact i _ _ q1) q
theorem rq {t u:TTd} (h:az t) (k:az u):az (nc t u):=fun ρ M Q Q' i q=>h _ _ _ _ (fun c M1 q1=>by
 cases c with
 | true=>rw [if_pos rfl] at q1 ⊢;exact i _ _ q1
 | false=>rw [if_neg Bool.false_ne_true] at q1 ⊢;exact k _ _ _ _ i q1) q
theorem uA {tA:TTd} (ha:PT X a (lT X.K tA)):PW X (.BoolOp .And [a] pos) (lT X.K tA):=tU ha
theorem wV {tA:TTd} (ha:PT X a (lT X.K tA)):PW X (.BoolOp .Or [a] pos) (lT X.K tA):=vU ha
theorem wW {tA tB:TTd} {rest:List Expr} (mA:az tA) (mB:az tB) (ha:PT X a (lT X.K tA)) (hb:PW X (.BoolOp .And (b :: rest) pos) (lT X.K tB)):PW X (.BoolOp .And (a :: b :: rest) pos) (lT X.K (iY tA tB)):=by
 refine PW.imp (vW ha hb) fun σ H Q h => ?_
 obtain ⟨ρ,M,rs,rm,q⟩:=h
 refine ⟨ρ,M,rs,rm,mA _ _ _ _ (fun c M1 q1 H1 x1 rm1 => ?_) q⟩
 cases c with
 | true=>rw [if_pos rfl] at q1 ⊢;exact ⟨ρ,M1,rs.mono (x1.stab rm),rm1,mB _ _ _ _ (fun d M2 k=>k.ext x1) q1⟩
 | false=>rw [if_neg Bool.false_ne_true] at q1 ⊢;exact q1 H1 x1 rm1
theorem yE {tA tB:TTd} {rest:List Expr} (mA:az tA) (mB:az tB) (ha:PT X a (lT X.K tA)) (hb:PW X (.BoolOp .Or (b :: rest) pos) (lT X.K tB)):PW X (.BoolOp .Or (a :: b :: rest) pos) (lT X.K (nc tA tB)):=by
 refine PW.imp (ya ha hb) fun σ H Q h => ?_
 obtain ⟨ρ,M,rs,rm,q⟩:=h
 refine ⟨ρ,M,rs,rm,mA _ _ _ _ (fun c M1 q1 H1 x1 rm1 => ?_) q⟩
 cases c with
 | true=>rw [if_pos rfl] at q1 ⊢;exact q1 H1 x1 rm1
 | false=>rw [if_neg Bool.false_ne_true] at q1 ⊢;exact ⟨ρ,M1,rs.mono (x1.stab rm),rm1,mB _ _ _ _ (fun d M2 k=>k.ext x1) q1⟩
noncomputable def iZ (ta tb:TEd):TEd:=fun ρ M Q=>ta ρ M fun x M1 => ∃ c,x = .bl c /\ if c = true then tb ρ M1 Q else Q (.bl false) M1
noncomputable def zF (ta tb:TEd):TEd:=fun ρ M Q=>ta ρ M fun x M1 => ∃ c,x = .bl c /\ if c = true then Q (.bl true) M1 else tb ρ M1 Q
noncomputable def j3 (ta:TEd):TEd:=fun ρ M Q=>ta ρ M fun x M1 => ∃ c,x = .bl c /\ Q (.bl (!c)) M1
theorem pv (h:ad ta) (k:ad tb):ad (iZ ta tb):=fun ρ M Q Q' i q=>h _ _ _ _ (fun x M1 ⟨c,e,q1⟩=>⟨c,e,by
 cases c with
 | true=>rw [if_pos rfl] at q1 ⊢;exact k _ _ _ _ i q1
 | false=>rw [if_neg Bool.false_ne_true] at q1 ⊢;exact i _ _ q1⟩) q
theorem pw (h:ad ta):ad (j3 ta):=fun ρ M Q Q' i q=>h _ _ _ _ (fun x M1 ⟨c,e,q1⟩=>⟨c,e,i _ _ q1⟩) q
theorem wX {op:BoolOp} {t:TEd} (h:PE X a (lE X.K t)):PE X (.BoolOp op [a] pos) (lE X.K t):=vY h
theorem wY {rest:List Expr} (ma:ad ta) (mb:ad tb) (ha:PE X a (lE X.K ta)) (hb:PE X (.BoolOp .And (b :: rest) pos) (lE X.K tb)):PE X (.BoolOp .And (a :: b :: rest) pos) (lE X.K (iZ ta tb)):=by
 refine PE.imp (vZ ha hb) fun σ H Q h => ?_
 obtain ⟨ρ,M,rs,rm,q⟩:=h
 refine ⟨ρ,M,rs,rm,ma _ _ _ _ (fun x M1 ⟨c,e,q1⟩ v H1 x1 rm1 rd1 => ?_) q⟩
 subst e
 refine ⟨c,RD.bl_iff.mp rd1, ?_⟩
 cases c with
 | true=>rw [if_pos rfl] at q1 ⊢;exact ⟨ρ,M1,rs.mono (x1.stab rm),rm1,mb _ _ _ _ (fun d M2 k=>k.ext x1) q1⟩
 | false=>rw [if_neg Bool.false_ne_true] at q1 ⊢;exact q1 _ H1 x1 rm1 (RD.bl_iff.mpr rfl)
theorem wZ (ma:ad ta) (ha:PE X a (lE X.K ta)):PE X (.UnaryOp .Not a pos) (lE X.K (j3 ta)):=by
 refine PE.imp (w4 ha) fun σ H Q h => ?_
 obtain ⟨ρ,M,rs,rm,q⟩:=h
 refine ⟨ρ,M,rs,rm,ma _ _ _ _ (fun x M1 ⟨c,e,q1⟩ v H1 x1 rm1 rd1 => ?_) q⟩
 subst e
 exact ⟨c,RD.bl_iff.mp rd1,q1 _ H1 x1 rm1 (RD.bl_iff.mpr rfl)⟩
noncomputable def wIf (t:TTd) (ta tb:TEd):TEd:=fun ρ M Q=>t ρ M fun c M1=>if c = true then ta ρ M1 Q else tb ρ M1 Q
theorem uB {t:TTd} (h:az t) (ha:ad ta) (hb:ad tb):ad (wIf t ta tb):=fun ρ M Q Q' i q=>h _ _ _ _ (fun c M1 q1=>by
 cases c with
 | true=>rw [if_pos rfl] at q1 ⊢;exact ha _ _ _ _ i q1
 | false=>rw [if_neg Bool.false_ne_true] at q1 ⊢;exact hb _ _ _ _ i q1) q
theorem yF {c:Expr} {t:TTd} (mt:az t) (ma:ad ta) (mb:ad tb) (hc:PT X c (lT X.K t)) (ha:PE X a (lE X.K ta)) (hb:PE X b (lE X.K tb)):PE X (.IfExp c a b pos) (lE X.K (wIf t ta tb)):=by
 refine PE.imp (qt hc ha hb) fun σ H Q h => ?_
 obtain ⟨ρ,M,rs,rm,q⟩:=h
 refine ⟨ρ,M,rs,rm,mt _ _ _ _ (fun x M1 q1 H1 x1 rm1 => ?_) q⟩
 cases x with
 | true=>rw [if_pos rfl] at q1 ⊢;exact ⟨ρ,M1,rs.mono (x1.stab rm),rm1,ma _ _ _ _ (fun d M2 k=>k.ext x1) q1⟩
 | false=>rw [if_neg Bool.false_ne_true] at q1 ⊢;exact ⟨ρ,M1,rs.mono (x1.stab rm),rm1,mb _ _ _ _ (fun d M2 k=>k.ext x1) q1⟩
noncomputable def jH (xs:List D) (lo hi:Option Int):List D:=(xs.drop (HT.sIx xs.length 0 lo)).take (HT.sIx xs.length xs.length hi - HT.sIx xs.length 0 lo)
theorem jI {K:PySem.W.Frag} {H:Hp} {ds:List D} {vs:List V} (r:RDs K H ds vs) (lo hi:Option Int):RDs K H (jH ds lo hi) (eh vs lo hi):=by
 unfold jH eh
 rw [r.length]
 exact (r.drop _).take _
noncomputable abbrev TOd:=al -> Mem -> (Option Int -> Mem -> Prop) -> Prop
noncomputable def dP (T:TOd):Prop := ∀ ρ M Q Q',(∀ d M',Q d M' -> Q' d M') -> T ρ M Q -> T ρ M Q'
noncomputable def fg:TOd:=fun _ M Q=>Q none M
noncomputable def j4 (t:TEd):TOd:=fun ρ M Q=>t ρ M fun x M1 => ∃ i,x = .int i /\ Q (some i) M1
theorem kZ:dP fg:=fun _ _ _ _ h q=>h _ _ q
theorem pA (h:ad ta):dP (j4 ta):=fun ρ M Q Q' i q=>h _ _ _ _ (fun x M1 ⟨c,e,q1⟩=>⟨c,e,i _ _ q1⟩) q
noncomputable def lO (K:PySem.W.Frag) (T:TOd):TO:=fun σ H Q => ∃ ρ M,RS K H σ ρ /\ RM K M H /\ T ρ M (fun o M' => ∀ H',Ext M H M' H' -> RM K M' H' -> Q o H')
theorem uC:PO X none (lO X.K fg):=fun pins s σ H Q I h=>by
 obtain ⟨ρ,M,rs,rm,q⟩:=h
 exact u7 pins s σ H Q I (q H Ext.refl rm)
theorem uD {e:Expr} (m:ad ta) (h:PE X e (lE X.K ta)):PO X (some e) (lO X.K (j4 ta)):=fun pins s σ H Q I hq=>by
 obtain ⟨ρ,M,rs,rm,q⟩:=hq
 refine u8 h pins s σ H Q I ⟨ρ,M,rs,rm,m _ _ _ _ (fun x M1 ⟨i,e,q1⟩ v H1 x1 rm1 rd1 => ?_) q⟩
 subst e
 exact ⟨i,RD.int_iff.mp rd1,q1 H1 x1 rm1⟩
noncomputable def gu:D -> Option Int -> Option Int -> Mem -> QD -> Prop:=fun x lo hi M Q=>match x with
 | .tup ds => ¬ (HT.sIx ds.length 0 lo = 0 /\ HT.sIx ds.length ds.length hi = ds.length) /\ Q (.tup (jH ds lo hi)) M
 | .ref a => ∃ ds,M a = some (.lst ds) /\ ∀ p,M p = none -> Q (.ref p) (ak M p (.lst (jH ds lo hi)))
 | .con ds => ∀ p,M p = none -> Q (.ref p) (ak M p (.lst (jH ds lo hi)))
 | _=>False
noncomputable def wSl (te:TEd) (tl th:TOd):TEd:=fun ρ M Q=>te ρ M fun x M1=>tl ρ M1 fun l M2=>th ρ M2 fun u M3=>gu x l u M3 Q
theorem ng {x:D} {lo hi:Option Int} {M:Mem} {Q Q':QD} (h:∀ d M',Q d M' -> Q' d M') (q:gu x lo hi M Q):gu x lo hi M Q':=by
 cases x with
 | tup ds=>exact ⟨q.1,h _ _ q.2⟩
 | ref a=>obtain ⟨ds,e,q⟩:=q;exact ⟨ds,e,fun p n=>h _ _ (q p n)⟩
 | con ds=>exact fun p n=>h _ _ (q p n)
 | _=>exact q.elim
theorem uE {tl th:TOd} (m:ad ta) (ml:dP tl) (mh:dP th):ad (wSl ta tl th):=fun ρ M Q Q' i q =>
 m _ _ _ _ (fun x M1 q1=>ml _ _ _ _ (fun l M2 q2=>mh _ _ _ _ (fun u M3 q3=>ng i q3) q2) q1) q
theorem yG {e:Expr} {lo hi:Option Expr} {tl th:TOd} {p2:Pos} (m:ad ta) (ml:dP tl) (mh:dP th) (he:PE X e (lE X.K ta)) (hl:PO X lo (lO X.K tl)) (hu:PO X hi (lO X.K th)) :
 PE X (.Subscript e (.Slice lo hi none p2) pos) (lE X.K (wSl ta tl th)):=by
 refine PE.imp (qJ (sl_tup.or u9) he hl hu) fun σ H Q h => ?_
 obtain ⟨ρ,M,rs,rm,q⟩:=h
 refine ⟨ρ,M,rs,rm,m _ _ _ _ (fun x M1 q1 v H1 x1 rm1 rd1 => ?_) q⟩
 refine ⟨ρ,M1,rs.mono (x1.stab rm),rm1,ml _ _ _ _ (fun l M2 q2 H2 x2 rm2 => ?_) q1⟩
 refine ⟨ρ,M2,(rs.mono (x1.stab rm)).mono (x2.stab rm1),rm2,mh _ _ _ _ (fun u M3 q3 H3 x3 rm3 => ?_) q2⟩
 have x13:=x1.trans (x2.trans x3)
 have rd3:=(rd1.mono (x2.stab rm1)).mono (x3.stab rm2)
 cases x with
 | tup ds =>
   obtain ⟨a,vs,rfl,ha,r⟩:=RD.tup_iff.mp rd3
   refine .inl ⟨a,vs,rfl,SqT.of ha,by rw [r.length];exact q3.1,fun p n=>cK rm3 (jI r l u) (q3.2.ext x13) n⟩
 | ref a =>
   cases RD.ref_iff.mp rd3
   obtain ⟨ds,e,q3⟩:=q3
   obtain ⟨vs,ha,r⟩:=rm3 _ _ e
   exact .inr ⟨a,vs,rfl,SqL.of ha,fun p n=>cL rm3 (jI r l u) (fun p' n'=>(q3 p' n').ext x13) n⟩
 | con ds =>
   obtain ⟨a,vs,rfl,ha,r⟩:=RD.con_iff.mp rd3
   exact .inr ⟨a,vs,rfl,ha.sq,fun p n=>cL rm3 (jI r l u) (fun p' n'=>(q3 p' n').ext x13) n⟩
 | _=>exact q3.elim
end
end Mi
end L2
namespace L2
namespace Mi
open PySem PySem.Spec PyProof.Rows
section
variable {X:Cx}
noncomputable def tyN (M:Mem):D -> Option String
 | .non=>some "NoneType"
 | .bl _=>some "bool"
 | .int _=>some "int"
 | .str _=>some "str"
 | .tup _=>some "tuple"
 | .ref a=>match M a with
  | some (.lst _)=>some "list"
  | some (.dct _ _)=>some "dict"
  | _=>none
 | .con _=>none
noncomputable def cT (T t:String):Bool:=t == T || (t == "bool" && T == "int")
theorem tu {K:PySem.W.Frag} {M:Mem} {H:Hp} {x:D} {t:String} {v:V} (rm:RM K M H) (r:RD K H x v) (e:tyN M x = some t):bV K H v (.type t):=by
 cases x with
 | non=>cases e;cases RD.non_iff.mp r;exact .non
 | bl k=>cases e;cases RD.bl_iff.mp r;exact .bl k
 | int i=>cases e;cases RD.int_iff.mp r;exact .int i
 | str i=>cases e;cases RD.str_iff.mp r;exact .str i
 | tup ds =>
   cases e
   obtain ⟨a,vs,rfl,ha,rs⟩:=RD.tup_iff.mp r
   exact .tup ha
 | con ds=>cases e
 | ref a =>
   cases RD.ref_iff.mp r
   simp only [tyN] at e
   cases e0:M a with
   | none=>rw [e0] at e;cases e
   | some o =>
     rw [e0] at e
     cases o with
     | lst ds =>
       cases e
       obtain ⟨vs,ha,rs⟩:=rm _ _ e0
       exact .lst ha
     | dct t kvs =>
       cases e
       have ro:=rm _ _ e0
       cases t with
       | false=>obtain ⟨ps,ha,_⟩:=ro;exact .dK ha
       | true=>obtain ⟨ps,ha,_⟩:=ro;exact .dT ha
     | fdc kvs=>cases e
noncomputable def ci:List String := ["NoneType", "bool", "int", "str", "tuple", "list", "dict"]
theorem hV (K:PySem.W.Frag):∀ T ∈ ["bool", "int", "str", "tuple", "list", "dict"], ∀ t ∈ ci,PySem.W.kitOne K (.type t) (.type T) = some (cT T t):=by
 intro T hT t ht
 simp only [ci,List.mem_cons,List.not_mem_nil,or_false] at hT ht
 rcases hT with rfl | rfl | rfl | rfl | rfl | rfl <;> rcases ht with rfl | rfl | rfl | rfl | rfl | rfl | rfl <;> rfl
noncomputable def j5 (T:String) (ta:TEd):TEd:=fun ρ M Q=>ta ρ M fun x M1 => ∃ t,tyN M1 x = some t /\ Q (.bl (cT T t)) M1
theorem pB {T:String} {ta:TEd} (h:ad ta):ad (j5 T ta):=fun ρ M Q Q' i q=>h _ _ _ _ (fun x M1 ⟨t,e,q1⟩=>⟨t,e,i _ _ q1⟩) q
theorem lu {M:Mem} {x:D} {t:String} (e:tyN M x = some t):t ∈ ci:=by
 cases x with
 | ref a =>
   simp only [tyN] at e
   cases e0:M a with
   | none=>rw [e0] at e;cases e
   | some o=>rw [e0] at e;cases o <;> cases e <;> simp [ci]
 | con _=>cases e
 | _=>cases e;simp [ci]
theorem pC (T:String) (hT:T ∈ ["bool", "int", "str", "tuple", "list", "dict"]):CallR X (.builtin "isinstance") (fun vs H Q => ∃ v t,vs = [v, .ty T] /\ bV X.K H v (.type t) /\ t ∈ ci /\ Q (.bl (cT T t)) H):=by
 intro pins s σ H xs us Q I r h
 obtain ⟨v,t,rfl,ty,ht,q⟩:=h
 obtain ⟨u,c,rfl,ru,rc⟩:=mJ r
 cases rc
 exact oF I ru ty (hV X.K T hT t ht) fun tk=>⟨.bl _,H,I.tok tk,rfl,q⟩
theorem uF {e:Expr} {ta:TEd} {T:String} {y:Str} {p p2 pos:Pos} (hT:T ∈ ["bool", "int", "str", "tuple", "list", "dict"]) (m:ad ta) (he:PE X e (lE X.K ta)) (hg:Gl X "isinstance") (hm:X.mg "isinstance" = none)
 (hg2:Gl X y) (hm2:X.mg y = none) (hv:bootBuiltins y = some (.type T)) (hn:y ≠ "__name__") (hdb:(y == ("__debug__":Str)) = false)
 (hs:starEach [e, .Name y p2] X.env = (false,eval e X.env) :: starEach [.Name y p2] X.env) (hpl:(backTo pos (starEach [.Name y p2] X.env)).any (·.1) = false) :
 PE X (.Call (.Name "isinstance" p) [e, .Name y p2] [] pos) (lE X.K (j5 T ta)):=by
 have h2:PE X (.Name y p2) (tC (.ty T)):=gT hg2 hm2 hv rfl hn hdb
 refine PE.imp (ca (pC T hT) hg hm (by decide +kernel) (cq he (cq h2 ga rfl) hs) (by decide) (by decide) hs hpl) fun σ H Q h => ?_
 obtain ⟨ρ,M,rs,rm,q⟩:=h
 exact ⟨ρ,M,rs,rm,m _ _ _ _ (fun x M1 ⟨t,e,q1⟩ v H1 x1 rm1 rd1=>⟨v,t,rfl,tu rm1 rd1 e,lu e,q1 _ H1 x1 rm1 (RD.bl_iff.mpr rfl)⟩) q⟩
noncomputable def wBM (rd:D -> List D -> Mem -> QD -> Prop) (to:TEd) (t:TAd):TEd:=fun ρ M Q=>to ρ M fun x M1=>(∃ a xs,x = .ref a /\ M1 a = some (.lst xs)) /\ t ρ M1 fun ds M2=>rd x ds M2 Q
noncomputable def j6 (rd:D -> List D -> Mem -> QD -> Prop):Prop := ∀ x ds M Q Q',(∀ d M',Q d M' -> Q' d M') -> rd x ds M Q -> rd x ds M Q'
theorem uG {rd:D -> List D -> Mem -> QD -> Prop} {to:TEd} {t:TAd} (hr:j6 rd) (mo:ad to) (mt:bm t):ad (wBM rd to t):=fun ρ M Q Q' i q =>
 mo _ _ _ _ (fun x M1 ⟨e,q1⟩=>⟨e,mt _ _ _ _ (fun ds M2 q2=>hr _ _ _ _ _ i q2) q1⟩) q
theorem yH {K:PySem.W.Frag} {M:Mem} {H:Hp} {x:D} {v:V} (rm:RM K M H) (r:RD K H x v) (h:∃ a xs,x = .ref a /\ M a = some (.lst xs)):tyV K "list" v H:=by
 obtain ⟨a,xs,rfl,e⟩:=h
 cases RD.ref_iff.mp r
 obtain ⟨vs,ha,_⟩:=rm _ _ e
 exact .inl ⟨rfl,vs,SqL.of ha⟩
theorem uH {K:PySem.W.Frag} {rd:D -> List D -> Mem -> QD -> Prop} {r:V -> List V -> Hp -> VK -> Prop} {to:TEd} {t:TAd} (hr:j6 rd) (mo:ad to) (mt:bm t)
 (hh:∀ v vs H Q,lMt K rd v vs H Q -> r v vs H Q) (σ:St) (H:Hp) (Q:VK) (h:lE K (wBM rd to t) σ H Q):tBM K "list" r (lE K to) (lA K t) σ H Q:=by
 obtain ⟨ρ,M,rs,rm,q⟩:=h
 refine ⟨ρ,M,rs,rm,mo _ _ _ _ (fun x M1 ⟨e,q1⟩ v H1 x1 rm1 rd1=>⟨yH rm1 rd1 e, ?_⟩) q⟩
 refine ⟨ρ,M1,rs.mono (x1.stab rm),rm1,mt _ _ _ _ (fun ds M2 q2 vs H2 x2 rm2 rd2 => ?_) q1⟩
 exact hh v vs H2 Q ⟨x,ds,M2,rm2,rd1.mono (x2.stab rm1),rd2,hr _ _ _ _ _ (fun d M' k=>k.ext (x1.trans x2)) q2⟩
noncomputable def hZ:D -> List D -> Mem -> QD -> Prop:=fun x ds M Q => ∃ a xs y,x = .ref a /\ ds = [y] /\ M a = some (.lst xs) /\ xs.length < sizeLine /\ Q .non (ak M a (.lst (xs ++ [y])))
noncomputable def xc:D -> List D -> Mem -> QD -> Prop:=fun x ds M Q => ∃ a xs,x = .ref a /\ ds = [] /\ M a = some (.lst xs) /\ Q .non (ak M a (.lst []))
noncomputable def rA:D -> List D -> Mem -> QD -> Prop:=fun x ds M Q => ∃ a xs,x = .ref a /\ ds = [] /\ M a = some (.lst xs) /\ Q .non (ak M a (.lst xs.reverse))
theorem fC:j6 hZ:=fun _ _ _ _ _ h ⟨a,xs,y,e1,e2,e3,z,q⟩=>⟨a,xs,y,e1,e2,e3,z,h _ _ q⟩
theorem uI {K:PySem.W.Frag} {M:Mem} {H:Hp} {Q:VK} {d:D} {v:V} {a:Addr} {o0:O} {ds:List D} {vs:List V} (rm:RM K M H) (m:M a = some o0) (rd:RDs K H ds vs) (r:RD K H d v) (q:KE' K M H Q d (ak M a (.lst ds))) (w:fz (some o0) = false:=by rfl) :
 Q v (upd H a (.lst vs)):=by
 have st:Stab H (upd H a (.lst vs)):=rm.stabPut m w
 exact q v _ (Ext.put m w) (rm.put m ⟨vs,aq,rd.mono st⟩ w) (r.mono st)
theorem rB {K:PySem.W.Frag} (v:V) (vs:List V) (H:Hp) (Q:VK) (h:lMt K hZ v vs H Q):lm v vs H Q:=by
 obtain ⟨x,ds,M,rm,rx,rs,a,xs,y,rfl,rfl,e,z,q⟩:=h
 cases RD.ref_iff.mp rx
 obtain ⟨w,rfl,rw'⟩:=rs.one
 obtain ⟨us,ha,ru⟩:=rm _ _ e
 exact ⟨a,us,w,rfl,rfl,ha,by rw [ru.length];exact z,uI rm e (ru.append (RDs.cons rw' RDs.nil)) (RD.non_iff.mpr rfl) q⟩
noncomputable abbrev BT:=D -> al -> Option al
noncomputable abbrev BTs:=List D -> al -> Option al
noncomputable def bv (i:Nat):BT:=fun d ρ => some (ρ.set i (some d))
noncomputable def fL:BTs:=fun ds ρ => match ds with | [] => some ρ | _=>none
noncomputable def bY (b:BT) (bs:BTs):BTs:=fun ds ρ => match ds with | d :: r=>(b d ρ).bind fun ρ'=>bs r ρ' | [] => none
noncomputable def nh (bs:BTs):BT:=fun d ρ => match d with | .tup ds=>bs ds ρ | _=>none
noncomputable def lG (K:PySem.W.Frag) (b:BT):TG:=fun v σ H Q => ∃ d ρ ρ',RD K H d v /\ RS K H σ ρ /\ b d ρ = some ρ' /\ ∀ σ',RS K H σ' ρ' -> Q σ' H
noncomputable def lGs (K:PySem.W.Frag) (b:BTs):TGs:=fun vs σ H Q => ∃ ds ρ ρ',RDs K H ds vs /\ RS K H σ ρ /\ b ds ρ = some ρ' /\ ∀ σ',RS K H σ' ρ' -> Q σ' H
theorem PG.imp {e:Expr} {t t':TG} (h:PG X e t) (i:∀ v σ H Q,t' v σ H Q -> t v σ H Q):PG X e t':=fun pins s σ H v u Q I r q=>h pins s σ H v u Q I r (i _ _ _ _ q)
theorem PGs.imp {e:List Expr} {t t':TGs} (h:PGs X e t) (i:∀ v σ H Q,t' v σ H Q -> t v σ H Q):PGs X e t':=fun pins s σ H v u Q I r q=>h pins s σ H v u Q I r (i _ _ _ _ q)
theorem uJ {i:Nat} {x:Str} {pos:Pos} (hN:X.N.Nodup) (hi:X.N[i]? = some x) (hx:Loc X.env.scope x) (hf:X.fn x = true ∨ X.env.scope.names.lookup x = some .local):PG X (.Name x pos) (lG X.K (bv i)) :=
 PG.imp (lh hN hi hx hf) fun v σ H Q ⟨d, ρ, ρ',r,rs,e,q⟩=>by
  cases e
  exact q _ (rs.set i r)
theorem uK:PGs X [] (lGs X.K fL):=PGs.imp tY fun vs σ H Q ⟨ds, ρ, ρ',r,rs,e,q⟩=>by
 cases ds with
 | nil=>cases e;exact ⟨RDs.nil_iff.mp r,q σ rs⟩
 | cons _ _=>cases e
theorem rC {e:Expr} {es:List Expr} {b:BT} {bs:BTs} (h1:PG X e (lG X.K b)) (h2:PGs X es (lGs X.K bs)) (hs:(assignEach (e :: es) X.env).map (·.2) = assign e X.env :: (assignEach es X.env).map (·.2)) :
 PGs X (e :: es) (lGs X.K (bY b bs)):=PGs.imp (qw h1 h2 hs) fun vs σ H Q ⟨ds, ρ, ρ',r,rs,e,q⟩=>by
 cases ds with
 | nil=>cases e
 | cons d ds =>
   obtain ⟨v,vr,rfl,r1,r2⟩:=RDs.cons_iff.mp r
   simp only [bY] at e
   cases e1:b d ρ with
   | none=>rw [e1] at e;cases e
   | some ρ1 =>
     rw [e1] at e
     exact ⟨v,vr,rfl,d, ρ, ρ1,r1,rs,e1,fun σ' rs'=>⟨ds, ρ1, ρ',r2,rs',e,q⟩⟩
theorem xf {es:List Expr} {k:Nat} {bs:BTs} {n:Nat} {pos:Pos} (hc:X.calm = true) (hlen:∀ ds ρ ρ',bs ds ρ = some ρ' -> ds.length = n) (h:PGs X es (lGs X.K bs)) (hn:(assignEach es X.env).length = n) (hst:(assignEach es X.env).findIdx? (·.1) = none) :
 PG X (.Tuple es k pos) (lG X.K (nh bs)):=PG.imp (wc hc h hn hst) fun v σ H Q ⟨d, ρ, ρ',r,rs,e,q⟩=>by
 cases d with
 | tup ds =>
   obtain ⟨a,vs,rfl,ha,rv⟩:=RD.tup_iff.mp r
   exact ⟨a,vs,rfl,SqT.of ha,by rw [rv.length];exact hlen _ _ _ e,ds, ρ, ρ',rv,rs,e,q⟩
 | _=>cases e
noncomputable abbrev TId:=al -> Mem -> (List D -> (Mem -> Prop) -> Mem -> Prop) -> Prop
noncomputable def bZ (T:TId):Prop := ∀ ρ M Q Q',(∀ xs c M',Q xs c M' -> Q' xs c M') -> T ρ M Q -> T ρ M Q'
noncomputable def Yl (H H':Hp):Prop:=H' = H ∨ ∃ q vs,H q = none /\ H' = upd H q (.tup vs)
noncomputable def eD (K:PySem.W.Frag) (H1:Hp) (xs:List D) (chk:Mem -> Prop) (J:It):Prop := ∀ M H,Stab H1 H -> RM K M H -> chk M -> ∀ i,(xs.length <= i -> J.stop i H) /\ (i < xs.length -> J.go i H /\
 ∀ x H',J.yld i H x H' -> Yl H H' /\ ∃ d,xs[i]? = some d /\ RD K H' d x)
noncomputable def lI (K:PySem.W.Frag) (T:TId):TI:=fun σ H R => ∃ ρ M,RS K H σ ρ /\ RM K M H /\ T ρ M (fun xs chk M1 => ∀ J H1,Ext M H M1 H1 -> RM K M1 H1 -> eD K H1 xs chk J -> R J H1)
theorem PI.imp {tg e:Expr} {t t':TI} (h:PI X tg e t) (i:∀ σ H Q,t' σ H Q -> t σ H Q):PI X tg e t':=fun pins s σ H Q I q=>h pins s σ H Q I (i _ _ _ q)
theorem Yl.ext {K:PySem.W.Frag} {M:Mem} {H H':Hp} (rm:RM K M H) (y:Yl H H'):Ext M H M H' /\ RM K M H':=by
 rcases y with rfl | ⟨q,vs,n,rfl⟩
 ·exact ⟨Ext.refl,rm⟩
 ·exact ⟨Ext.new' n,rm.new n⟩
noncomputable def zG (K:PySem.W.Frag) (tl:TE):TI:=fun σ H R=>tl σ H fun x H1 => ∃ a,x = .ref a /\ (((∃ xs,SqL K H1 a xs) /\ R (Itl K a) H1) ∨ ((∃ xs,SqT K H1 a xs) /\ R (Itt K a) H1))
theorem xg {tg l:Expr} {tl:TE} (hl:PE X l tl):PI X tg l (zG X.K tl):=by
 intro pins s σ H R I h
 refine thn (hl pins s σ H _ I h) fun v s1 ⟨x,H1,I1,r1,q1⟩ => ?_
 obtain ⟨a,e,q⟩:=q1
 subst e
 cases r1
 rcases q with ⟨⟨xs,hq⟩,q⟩ | ⟨⟨xs,hq⟩,q⟩
 ·obtain ⟨its,rv,p,hz⟩:=I1.list hq
  refine wpAny_pyIter_list p.isList ?_
  refine ⟨s1.heap.objs.size,[s1.heap.objs.size],_,_,H1,rfl,I1.kept (t':=s1.toks) fun b o e=>Heap.get?_push_of_some _ e,oz a _,⟨_,Heap.get?_push_size _ rfl,rfl,rfl⟩,fun b hb => ?_,q⟩
  have e:b = s1.heap.objs.size:=by simpa using hb
  subst e
  exact I1.fpOk (Nat.le_refl _) (I1.hok.fresh (Nat.le_refl _))
 ·obtain ⟨its,rv,p,hz⟩:=I1.tuple hq
  refine wpAny_pyIter_tuple (show s1.heap.IsTuple a its.toArray from p) ?_
  refine ⟨s1.heap.objs.size,[s1.heap.objs.size],_,_,H1,rfl,I1.kept (t':=s1.toks) fun b o e=>Heap.get?_push_of_some _ e,mD a _,⟨_,Heap.get?_push_size _ rfl,rfl,rfl⟩,fun b hb => ?_,q⟩
  have e:b = s1.heap.objs.size:=by simpa using hb
  subst e
  exact I1.fpOk (Nat.le_refl _) (I1.hok.fresh (Nat.le_refl _))
noncomputable def jJ (ta:TEd):TId:=fun ρ M R=>ta ρ M fun x M1 => ∃ ds,av M1 x = some ds /\ R ds (fun M=>av M x = some ds) M1
theorem rD {ta:TEd} (h:ad ta):bZ (jJ ta):=fun ρ M Q Q' i q=>h _ _ _ _ (fun x M1 ⟨ds,e,q1⟩=>⟨ds,e,i _ _ _ q1⟩) q
theorem pE {K:PySem.W.Frag} {H1:Hp} {a:Addr} {ds:List D} {chk:Mem -> Prop} (h:∀ M H,Stab H1 H -> RM K M H -> chk M -> ∃ vs,SqL K H a vs /\ RDs K H ds vs):eD K H1 ds chk (Itl K a):=fun M H st rm c i=>by
 obtain ⟨vs,sq,r⟩:=h M H st rm c
 have l:=r.length
 refine ⟨fun hi=>⟨vs,sq,by omega⟩,fun hi=>⟨⟨vs,vs[i]'(by omega),sq,List.getElem?_eq_getElem (by omega)⟩,fun x H' y => ?_⟩⟩
 obtain ⟨e,y⟩:=y
 subst e
 exact ⟨.inl rfl,r.getV (y vs sq)⟩
theorem xh {K:PySem.W.Frag} {H1:Hp} {a:Addr} {ds:List D} {chk:Mem -> Prop} (h:∀ M H,Stab H1 H -> RM K M H -> chk M -> ∃ vs,SqT K H a vs /\ RDs K H ds vs):eD K H1 ds chk (Itt K a):=fun M H st rm c i=>by
 obtain ⟨vs,sq,r⟩:=h M H st rm c
 have l:=r.length
 refine ⟨fun hi=>⟨vs,sq,by omega⟩,fun hi=>⟨⟨vs,vs[i]'(by omega),sq,List.getElem?_eq_getElem (by omega)⟩,fun x H' y => ?_⟩⟩
 obtain ⟨e,y⟩:=y
 subst e
 exact ⟨.inl rfl,r.getV (y vs sq)⟩
theorem xi {tg l:Expr} {ta:TEd} (m:ad ta) (hl:PE X l (lE X.K ta)):PI X tg l (lI X.K (jJ ta)):=by
 refine PI.imp (xg hl) fun σ H R h => ?_
 obtain ⟨ρ,M,rs,rm,q⟩:=h
 refine ⟨ρ,M,rs,rm,m _ _ _ _ (fun x M1 ⟨ds,e,q1⟩ v H1 x1 rm1 rd1 => ?_) q⟩
 cases x with
 | tup es =>
   cases e
   obtain ⟨a,vs,rfl,ha,rv⟩:=RD.tup_iff.mp rd1
   exact ⟨a,rfl, .inr ⟨⟨vs,SqT.of ha⟩,q1 _ H1 x1 rm1 (xh fun M' H' st _ _=>⟨vs,SqT.of (st.tup _ _ ha),rv.mono st⟩)⟩⟩
 | con es =>
   cases e
   obtain ⟨a,vs,rfl,ha,rv⟩:=RD.con_iff.mp rd1
   exact ⟨a,rfl, .inl ⟨⟨vs,ha.sq⟩,q1 _ H1 x1 rm1 (pE fun M' H' st _ _=>⟨vs,(st.sqF ha).sq,rv.mono st⟩)⟩⟩
 | ref a =>
   cases RD.ref_iff.mp rd1
   have get:∀ {M':Mem} {es:List D},av M' (.ref a) = some es -> M' a = some (.lst es):=fun {M' es} e=>by
    simp only [av] at e
    cases e0:M' a with
    | none=>rw [e0] at e;cases e
    | some o =>
      rw [e0] at e
      cases o with
      | dct _ _=>cases e
      | fdc _=>cases e
      | lst es'=>cases e;rfl
   obtain ⟨vs,ha,rv⟩:=rm1 _ _ (get e)
   exact ⟨a,rfl, .inl ⟨⟨vs,SqL.of ha⟩,q1 _ H1 x1 rm1 (pE fun M' H' st rm' c=>by
    obtain ⟨us,hb,ru⟩:=rm' _ _ (get c)
    exact ⟨us,SqL.of hb,ru⟩)⟩⟩
 | _=>cases e
noncomputable def bw (lo:Int) (n:Nat):List D:=(List.range n).map fun i => .int (lo + (i:Nat))
theorem xj {K:PySem.W.Frag} {H1:Hp} {lo:Int} {n:Nat}:eD K H1 (bw lo n) (fun _=>True) (Itr lo n):=fun M H st rm c i=>by
 have l:(bw lo n).length = n:=by simp [bw]
 refine ⟨fun hi=>by show n <= i;omega,fun hi=>⟨by show i < n;omega,fun x H' y => ?_⟩⟩
 obtain ⟨e,y⟩:=y
 subst e y
 refine ⟨.inl rfl, .int (lo + i), ?_,RD.int_iff.mpr rfl⟩
 simp only [bw,List.getElem?_map,List.getElem?_range (show i < n by omega),Option.map_some]
noncomputable def j7 (ta:TAd):TId:=fun ρ M R=>ta ρ M fun ds M1 => ∃ j:Int,ds = [.int j] /\ -(2 ^ 62) <= j /\ j < 2 ^ 62 /\ R (bw 0 j.toNat) (fun _=>True) M1
noncomputable def yI (ta:TAd):TId:=fun ρ M R=>ta ρ M fun ds M1 => ∃ i j:Int,ds = [.int i, .int j] /\ (-(2 ^ 62) <= i /\ i < 2 ^ 62 /\ -(2 ^ 62) <= j /\ j < 2 ^ 62) /\ R (bw i (j - i).toNat) (fun _=>True) M1
theorem pF {ta:TAd} (h:bm ta):bZ (j7 ta):=fun ρ M Q Q' i q=>h _ _ _ _ (fun x M1 ⟨j,e,a,b,q1⟩=>⟨j,e,a,b,i _ _ _ q1⟩) q
theorem uL {tg a:Expr} {ta:TAd} {p pos:Pos} (m:bm ta) (hg:Gl X "range") (hm:X.mg "range" = none) (ha:PA X [a] (lA X.K ta)) (hs:starEach [a] X.env = [(false,eval a X.env)]):PI X tg (.Call (.Name "range" p) [a] [] pos) (lI X.K (j7 ta)):=by
 refine PI.imp (oA hg hm ha hs) fun σ H R h => ?_
 obtain ⟨ρ,M,rs,rm,q⟩:=h
 refine ⟨ρ,M,rs,rm,m _ _ _ _ (fun ds M1 ⟨j,e,z1,z2,q1⟩ vs H1 x1 rm1 rd1 => ?_) q⟩
 subst e
 obtain ⟨v,rfl,r⟩:=rd1.one
 cases RD.int_iff.mp r
 exact ⟨j,rfl,z1,z2,q1 _ H1 x1 rm1 xj⟩
end
end Mi
end L2
namespace L2
namespace Mi
open PySem PySem.Spec PyProof.Rows
section
variable {X:Cx}
noncomputable def isT:D -> Bool | .tup _=>true | _=>false
theorem dB {K:PySem.W.Frag} {M:Mem} {H:Hp} {x:D} {ds:List D} {v:V} (rm:RM K M H) (r:RD K H x v) (e:av M x = some ds):∃ p vs,v = .ref p /\ SqV K (isT x) H p vs /\ RDs K H ds vs:=by
 cases x with
 | tup es =>
   cases e
   obtain ⟨a,vs,rfl,ha,rv⟩:=RD.tup_iff.mp r
   exact ⟨a,vs,rfl,SqT.of ha,rv⟩
 | con es =>
   cases e
   obtain ⟨a,vs,rfl,ha,rv⟩:=RD.con_iff.mp r
   exact ⟨a,vs,rfl,ha.sq,rv⟩
 | ref a =>
   cases RD.ref_iff.mp r
   simp only [av] at e
   cases e0:M a with
   | none=>rw [e0] at e;cases e
   | some o =>
     rw [e0] at e
     cases o with
     | dct _ _=>cases e
     | fdc _=>cases e
     | lst es =>
       cases e
       obtain ⟨vs,ha,rv⟩:=rm _ _ e0
       exact ⟨a,vs,rfl,SqL.of ha,rv⟩
 | _=>cases e
noncomputable def j8 (x y:D):D := .tup [x,y]
noncomputable def jK (ta tb:TEd):TId:=fun ρ M R=>aK ta (aK tb bO) ρ M fun ds M1 => ∃ x y xs ys,ds = [x,y] /\ av M1 x = some xs /\ av M1 y = some ys /\ R (List.zipWith j8 xs ys) (fun M=>av M x = some xs /\ av M y = some ys) M1
theorem rE {ta tb:TEd} (ha:ad ta) (hb:ad tb):bZ (jK ta tb):=fun ρ M Q Q' i q=>aC ha (aC hb aE) _ _ _ _ (fun ds M1 ⟨x,y,xs,ys,e,e1,e2,q1⟩=>⟨x,y,xs,ys,e,e1,e2,i _ _ _ q1⟩) q
theorem jL {H:Hp} {p:Addr} {o:HO} (n:H p = none):Stab H (upd H p o):=⟨fun a xs e=>by rw [aj (fun z=>by rw [z,n] at e;cases e)];exact e,fun a o u e=>by rw [aj (fun z=>by rw [z,n] at e;cases e)];exact e⟩
theorem xk {K:PySem.W.Frag} {H1:Hp} {x y:D} {xs ys:List D} {a b:Addr} (rx:RD K H1 x (.ref a)) (ry:RD K H1 y (.ref b)):eD K H1 (List.zipWith j8 xs ys) (fun M=>av M x = some xs /\ av M y = some ys) (Itz K (isT x) (isT y) a b):=fun M H st rm c i=>by
 obtain ⟨p1,vs,e1,q1,r1⟩:=dB rm (rx.mono st) c.1
 obtain ⟨p2,us,e2,q2,r2⟩:=dB rm (ry.mono st) c.2
 cases e1
 cases e2
 have l1:=r1.length
 have l2:=r2.length
 have lz:(List.zipWith j8 xs ys).length = min xs.length ys.length:=List.length_zipWith
 refine ⟨fun hi=>⟨vs,us,q1,q2,by omega⟩,fun hi=>⟨⟨vs,us,vs[i]'(by omega),us[i]'(by omega),q1,q2,List.getElem?_eq_getElem (by omega),List.getElem?_eq_getElem (by omega)⟩,fun v H' hy => ?_⟩⟩
 obtain ⟨p,v1,v2,n,rfl,rfl,g⟩:=hy
 obtain ⟨g1,g2⟩:=g vs us q1 q2
 obtain ⟨d1,hd1,rd1⟩:=r1.getV g1
 obtain ⟨d2,hd2,rd2⟩:=r2.getV g2
 have sb:=jL (o := .tup [v1,v2]) n
 refine ⟨.inr ⟨p,[v1,v2],n,rfl⟩, .tup [d1,d2], ?_,RD.tup_iff.mpr ⟨p,[v1,v2],rfl,aq,RDs.cons (rd1.mono sb) (RDs.cons (rd2.mono sb) RDs.nil)⟩⟩
 rw [List.getElem?_zipWith,hd1,hd2];rfl
theorem xm {elts:List Expr} {cx} {pos p pos':Pos} {a b:Expr} {ta tb:TEd} (ma:ad ta) (mb:ad tb) (hg:Gl X "zip") (hm:X.mg "zip" = none) (ha:PA X [a,b] (lA X.K (aK ta (aK tb bO)))) (hs:starEach [a,b] X.env = [(false,eval a X.env),(false,eval b X.env)]) (hs2:starEach [b] X.env = [(false,eval b X.env)]) :
 PI X (.Tuple elts cx pos) (.Call (.Name "zip" p) [a,b] [] pos') (lI X.K (jK ta tb)):=by
 refine PI.imp (wG hg hm ha hs hs2) fun σ H R h => ?_
 obtain ⟨ρ,M,rs,rm,q⟩:=h
 refine ⟨ρ,M,rs,rm,aC ma (aC mb aE) _ _ _ _ (fun ds M1 ⟨x,y,xs,ys,e,e1,e2,q1⟩ vs H1 x1 rm1 rd1 => ?_) q⟩
 subst e
 obtain ⟨v,u,rfl,r1,r2⟩:=rd1.two
 obtain ⟨p1,vs,rfl,s1,_⟩:=dB rm1 r1 e1
 obtain ⟨p2,us,rfl,s2,_⟩:=dB rm1 r2 e2
 exact ⟨p1,p2,isT x,isT y,vs,us,rfl,s1,s2,q1 _ H1 x1 rm1 (xk r1 r2)⟩
end
end Mi
end L2
namespace L2
namespace Mi
open PySem PySem.Spec PyProof.Rows
section
variable {X:Cx}
noncomputable def dQ (xs:List D):List D:=xs.mapIdx fun i x => .tup [.int (i:Nat),x]
noncomputable def j9 (ta:TEd):TId:=fun ρ M R=>ta ρ M fun x M1 => ∃ xs,av M1 x = some xs /\ R (dQ xs) (fun M=>av M x = some xs) M1
theorem pG {ta:TEd} (h:ad ta):bZ (j9 ta):=fun ρ M Q Q' i q=>h _ _ _ _ (fun x M1 ⟨ds,e,q1⟩=>⟨ds,e,i _ _ _ q1⟩) q
theorem xo {K:PySem.W.Frag} {H1:Hp} {x:D} {xs:List D} {a:Addr} (rx:RD K H1 x (.ref a)):eD K H1 (dQ xs) (fun M=>av M x = some xs) (Ite K (isT x) a):=fun M H st rm c i=>by
 obtain ⟨p1,vs,e1,q1,r1⟩:=dB rm (rx.mono st) c
 cases e1
 have l1:=r1.length
 have lz:(dQ xs).length = xs.length:=by simp [dQ]
 refine ⟨fun hi=>⟨vs,q1,by omega⟩,fun hi=>⟨⟨vs,vs[i]'(by omega),q1,List.getElem?_eq_getElem (by omega)⟩,fun v H' hy => ?_⟩⟩
 obtain ⟨p,v1,n,rfl,rfl,g⟩:=hy
 obtain ⟨d1,hd1,rd1⟩:=r1.getV (g vs q1)
 have sb:=jL (o := .tup [.int (i:Nat),v1]) n
 refine ⟨.inr ⟨p,[.int (i:Nat),v1],n,rfl⟩, .tup [.int (i:Nat),d1], ?_,RD.tup_iff.mpr ⟨p,[.int (i:Nat),v1],rfl,aq,RDs.cons (RD.int_iff.mpr rfl) (RDs.cons (rd1.mono sb) RDs.nil)⟩⟩
 simp [dQ,List.getElem?_mapIdx,hd1]
theorem uM {elts:List Expr} {cx} {pos p pos':Pos} {a:Expr} {ta:TEd} (ma:ad ta) (hg:Gl X "enumerate") (hm:X.mg "enumerate" = none) (ha:PA X [a] (lA X.K (aK ta bO))) (hs:starEach [a] X.env = [(false,eval a X.env)]) :
 PI X (.Tuple elts cx pos) (.Call (.Name "enumerate" p) [a] [] pos') (lI X.K (j9 ta)):=by
 refine PI.imp (ud hg hm ha hs) fun σ H R h => ?_
 obtain ⟨ρ,M,rs,rm,q⟩:=h
 refine ⟨ρ,M,rs,rm,ma _ _ _ _ (fun x M1 ⟨xs,e1,q1⟩ vs H1 x1 rm1 rd1 => ?_) q⟩
 obtain ⟨v,rfl,r1⟩:=rd1.one
 obtain ⟨p1,us,rfl,s1,_⟩:=dB rm1 r1 e1
 exact ⟨p1,isT x,us,rfl,s1,q1 _ H1 x1 rm1 (xo r1)⟩
end
end Mi
end L2
namespace L2
namespace Mi
open PySem PySem.Spec PyProof.Rows
noncomputable abbrev NC:=al -> Mem -> List D -> Prop
noncomputable abbrev TCd:=al -> Mem -> List D -> NC -> Prop
noncomputable def bT (T:TCd):Prop := ∀ ρ M acc N N',(∀ ρ' M' acc',N ρ' M' acc' -> N' ρ' M' acc') -> T ρ M acc N -> T ρ M acc N'
structure ExtP (p:Addr) (M:Mem) (H:Hp) (M':Mem) (H':Hp):Prop where
 kp:∀ a o,a ≠ p -> fz (M a) = true -> H a = some o -> H' a = some o
 nw:∀ a o,fz (M a) = true -> H a = some o -> M' a = M a
section
variable {K:PySem.W.Frag} {M M' M'':Mem} {H H' H'':Hp} {p:Addr}
theorem ExtP.new (x:ExtP p M H M' H') (a:Addr) (o:HO) (n:M a = none) (e:H a = some o):M' a = none:=(x.nw a o (by rw [n];rfl) e).trans n
theorem Ext.toP (x:Ext M H M' H'):ExtP p M H M' H':=⟨fun a o _=>x.kp a o,x.nw⟩
theorem ExtP.refl:ExtP p M H M H:=⟨fun _ _ _ _ h=>h,fun _ _ _ _=>rfl⟩
theorem ExtP.trans {vs:List V} (a:ExtP p M H M' H') (hp:H p = some (.lst vs)) (hp':∃ vs',H' p = some (.lst vs')) (b:ExtP p M' H' M'' H''):ExtP p M H M'' H'' :=
 ⟨fun c o ne n h=>b.kp c o ne (by rw [a.nw c o n h];exact n) (a.kp c o ne n h),fun c o n h=>by
   have n':fz (M' c) = true:=by rw [a.nw c o n h];exact n
   refine Eq.trans ?_ (a.nw c o n h)
   by_cases z:c = p
   ·subst z
    obtain ⟨vs',e⟩:=hp'
    exact b.nw c _ n' e
   ·exact b.nw c o n' (a.kp c o z n h)⟩
theorem ExtP.stab {vs:List V} (r:RM K M H) (hp:H p = some (.lst vs)) (x:ExtP p M H M' H'):Stab H H' where
 tup:=fun a xs e=>x.kp a _ (fun z=>by subst z;rw [hp] at e;cases e) (by rw [r.fzT e];rfl) e
 frz:=fun a o u e=>x.kp a _ (fun z=>by subst z;rw [hp] at e;cases e) (r.fzF e) e
theorem jM {vs:List V} {ho:HO} (hp:H p = some (.lst vs)):Stab H (upd H p ho) :=
 ⟨fun a xs e=>by rw [aj (fun z=>by subst z;rw [hp] at e;cases e)];exact e,fun a o u e=>by rw [aj (fun z=>by subst z;rw [hp] at e;cases e)];exact e⟩
theorem RM.side {vs:List V} {ho:HO} (r:RM K M H) (n:M p = none) (hp:H p = some (.lst vs)):RM K M (upd H p ho):=fun a o e=>by
 have ne:a ≠ p:=fun z=>by subst z;rw [n] at e;cases e
 exact (r a o e).mono (jM hp) fun ho' q=>by rw [aj ne];exact q
end
noncomputable def fh (K:PySem.W.Frag) (H:Hp) (p:Addr) (acc:List D):Prop := ∃ vs,H p = some (.lst vs) /\ RDs K H acc vs
noncomputable def KC (K:PySem.W.Frag) (p:Addr) (M:Mem) (H:Hp) (N:St -> Hp -> Prop):NC:=fun ρ' M' acc' => ∀ σ' H',ExtP p M H M' H' -> RS K H' σ' ρ' -> RM K M' H' -> fh K H' p acc' -> N σ' H'
noncomputable def lC (K:PySem.W.Frag) (p:Addr) (T:TCd):TC:=fun σ H N => ∃ ρ M acc,RS K H σ ρ /\ RM K M H /\ M p = none /\ fh K H p acc /\ T ρ M acc (KC K p M H N)
theorem KC.ext {K:PySem.W.Frag} {p:Addr} {M M2 M':Mem} {H H2:Hp} {N:St -> Hp -> Prop} {ρ:al} {acc:List D} {vs:List V} (hp:H p = some (.lst vs)) (hp':∃ vs',H2 p = some (.lst vs')) (x:ExtP p M H M2 H2) (h:KC K p M H N ρ M' acc):KC K p M2 H2 N ρ M' acc :=
 fun σ' H' y=>h σ' H' (x.trans hp hp' y)
noncomputable def ck (te:TEd):TCd:=fun ρ M acc N=>te ρ M fun x M1=>acc.length < sizeLine /\ N ρ M1 (acc ++ [x])
noncomputable def bx:List TTd -> TCd -> TCd
 | [],tb=>tb
 | t :: r,tb=>fun ρ M acc N=>t ρ M fun b M1=>if b = true then bx r tb ρ M1 acc N else N ρ M1 acc
noncomputable def bo (b:BT) (tb:TCd) (chk:Mem -> Prop) (N:NC):List D -> NC
 | [] => fun ρ M acc=>chk M /\ N ρ M acc
 | x :: xs=>fun ρ M acc=>chk M /\ ∃ ρ',b x ρ = some ρ' /\ tb ρ' M acc (bo b tb chk N xs)
noncomputable def cM (src:TId) (b:BT) (tb:TCd):TCd:=fun ρ M acc N=>src ρ M fun xs chk M1=>bo b tb chk N xs ρ M1 acc
noncomputable def gv (fr:List (Option Nat)) (src:TId) (b:BT) (tb:TCd):TEd:=fun ρ M Q=>src ρ M fun xs chk M1=>bo b tb chk (fun _ M' acc => ∀ p,M' p = none -> Q (.ref p) (ak M' p (.lst acc))) xs (ju fr ρ) M1 []
theorem bC {te:TEd} (h:ad te):bT (ck te):=fun ρ M acc N N' i q=>h _ _ _ _ (fun x M1 ⟨z,q1⟩=>⟨z,i _ _ _ q1⟩) q
theorem aH {tb:TCd} (hb:bT tb):∀ {ts:List TTd},(∀ t ∈ ts,az t) -> bT (bx ts tb)
 | [],_=>hb
 | t :: r,h=>fun ρ M acc N N' i q=>h t List.mem_cons_self _ _ _ _ (fun b M1 q1=>by
   cases b with
   | true=>rw [if_pos rfl] at q1 ⊢;exact aH hb (fun t' ht=>h t' (List.mem_cons_of_mem _ ht)) _ _ _ _ _ i q1
   | false=>rw [if_neg Bool.false_ne_true] at q1 ⊢;exact i _ _ _ q1) q
theorem eE {b:BT} {tb:TCd} (hb:bT tb) {chk:Mem -> Prop} {N N':NC} (i:∀ ρ' M' acc',N ρ' M' acc' -> N' ρ' M' acc'):∀ (xs:List D) (ρ:al) (M:Mem) (acc:List D),bo b tb chk N xs ρ M acc -> bo b tb chk N' xs ρ M acc
 | [], ρ,M,acc,h=>⟨h.1,i _ _ _ h.2⟩
 | x :: xs, ρ,M,acc,⟨c, ρ',e,q⟩=>⟨c, ρ',e,hb _ _ _ _ _ (fun ρ2 M2 acc2 q2=>eE hb i xs ρ2 M2 acc2 q2) q⟩
theorem fD {src:TId} {b:BT} {tb:TCd} (hs:bZ src) (hb:bT tb):bT (cM src b tb):=fun ρ M acc N N' i q=>hs _ _ _ _ (fun xs c M1 q1=>eE hb i xs _ _ _ q1) q
theorem iw {fr:List (Option Nat)} {src:TId} {b:BT} {tb:TCd} (hs:bZ src) (hb:bT tb):ad (gv fr src b tb):=fun ρ M Q Q' i q =>
 hs _ _ _ _ (fun xs c M1 q1=>eE hb (fun _ M' acc q2 p n=>i _ _ (q2 p n)) xs _ _ _ q1) q
section
variable {K:PySem.W.Frag} {p:Addr}
theorem eF {te:TEd} (m:ad te) (σ:St) (H:Hp) (N:St -> Hp -> Prop) (h:lC K p (ck te) σ H N):tm p (lE K te) σ H N:=by
 obtain ⟨ρ,M,acc,rs,rm,n,⟨vs,hp,ra⟩,q⟩:=h
 refine ⟨ρ,M,rs,rm,m _ _ _ _ (fun x M1 ⟨z,q1⟩ v H1 x1 rm1 rd1 => ?_) q⟩
 have hp1:=x1.keep p _ n hp
 have n1:=x1.new p _ n hp
 have st:=x1.stab rm
 have st2:Stab H1 (upd H1 p (.lst (vs ++ [v]))):=jM hp1
 refine ⟨vs,hp1,by rw [ra.length];exact z,q1 σ _ ⟨fun a o ne m' e => ?_,x1.nw⟩ ((rs.mono st).mono st2) (rm1.side n1 hp1) ⟨vs ++ [v],aq,((ra.mono st).mono st2).append (RDs.cons (rd1.mono st2) RDs.nil)⟩⟩
 rw [aj ne]
 exact x1.kp a o m' e
theorem gx {tb:TCd} (mb:bT tb):∀ {ts:List TTd},(∀ t ∈ ts,az t) -> ∀ (σ:St) (H:Hp) (N:St -> Hp -> Prop),lC K p (bx ts tb) σ H N -> gf (ts.map (lT K)) (lC K p tb) σ H N
 | [],_, σ,H,N,h=>h
 | t :: r,hm, σ,H,N,h=>by
   obtain ⟨ρ,M,acc,rs,rm,n,⟨vs,hp,ra⟩,q⟩:=h
   refine ⟨ρ,M,rs,rm,hm t List.mem_cons_self _ _ _ _ (fun b M1 q1 H1 x1 rm1 => ?_) q⟩
   have hp1:=x1.keep p _ n hp
   have n1:=x1.new p _ n hp
   have st:=x1.stab rm
   cases b with
   | false =>
     rw [if_neg Bool.false_ne_true] at q1
     dsimp only
     rw [if_neg Bool.false_ne_true]
     exact q1 σ H1 x1.toP (rs.mono st) rm1 ⟨vs,hp1,ra.mono st⟩
   | true =>
     rw [if_pos rfl] at q1
     dsimp only
     rw [if_pos rfl]
     exact gx mb (fun t' ht=>hm t' (List.mem_cons_of_mem _ ht)) σ H1 N ⟨ρ,M1,acc,rs.mono st,rm1,n1,⟨vs,hp1,ra.mono st⟩,
      aH mb (fun t' ht=>hm t' (List.mem_cons_of_mem _ ht)) _ _ _ _ _ (fun ρ' M' acc' k=>k.ext hp ⟨vs,hp1⟩ x1.toP) q1⟩
theorem iy {b:BT} {tb:TCd} (mb:bT tb) {xs:List D} {chk:Mem -> Prop} {J:It} {H1:Hp} {M1:Mem} {Nd:NC} {N:St -> Hp -> Prop} {σ:St} {ρ:al} {acc:List D} (it:eD K H1 xs chk J) (rs:RS K H1 σ ρ) (rm:RM K M1 H1) (n:M1 p = none)
 (ac:fh K H1 p acc) (q:bo b tb chk Nd xs ρ M1 acc) (hN:∀ ρ' M' acc' σ' H',ExtP p M1 H1 M' H' -> RS K H' σ' ρ' -> RM K M' H' -> fh K H' p acc' -> Nd ρ' M' acc' -> N σ' H') :
 di J (lG K b) (lC K p tb) N σ H1:=by
 obtain ⟨vs1,hp1,_⟩:=id ac
 refine ⟨fun i m σ H=>m = xs.length - i /\ i <= xs.length /\ ∃ ρ M acc,RS K H σ ρ /\ RM K M H /\ M p = none /\ fh K H p acc /\ ExtP p M1 H1 M H /\ bo b tb chk Nd (xs.drop i) ρ M acc,⟨xs.length,by simp,Nat.zero_le _, ρ,M1,acc,rs,rm,n,ac,ExtP.refl,q⟩, ?_⟩
 rintro i m σ H ⟨rfl,hi, ρ,M,acc,rs,rm2,n,ac,x,q⟩
 have st:=x.stab rm hp1
 obtain ⟨vs,hp,ra⟩:=id ac
 by_cases hlt:i < xs.length
 ·rw [List.drop_eq_getElem_cons hlt] at q
  obtain ⟨c, ρ',hb,q⟩:=q
  obtain ⟨go,yl⟩:=(it M H st rm2 c i).2 hlt
  refine .inr ⟨go,fun σ' H' => ∃ m',m' < xs.length - i /\ (m' = xs.length - (i + 1) /\ i + 1 <= xs.length /\ ∃ ρ M acc,RS K H' σ' ρ /\ RM K M H' /\ M p = none /\ fh K H' p acc /\ ExtP p M1 H1 M H' /\ bo b tb chk Nd (xs.drop (i + 1)) ρ M acc),fun σ' H' h=>h,fun x' H' y => ?_⟩
  obtain ⟨yy,d,hd,rd⟩:=yl x' H' y
  rw [List.getElem?_eq_getElem hlt] at hd
  cases hd
  obtain ⟨xy,rmy⟩:=yy.ext rm2
  have sty:=xy.stab rm2
  have hpy:=xy.keep p _ n hp
  refine ⟨_, ρ, ρ',rd,rs.mono sty,hb,fun σ2 rs2 => ?_⟩
  refine ⟨ρ',M,acc,rs2,rmy,n,⟨vs,hpy,ra.mono sty⟩,mb _ _ _ _ _ (fun ρ3 M3 acc3 q3 σ3 H3 x3 rs3 rm3 ac3 => ?_) q⟩
  have n3:M3 p = none:=x3.new p _ n hpy
  exact ⟨xs.length - (i + 1),by omega,rfl,hlt, ρ3,M3,acc3,rs3,rm3,n3,ac3,(x.trans hp1 ⟨vs,hp⟩ xy.toP).trans hp1 ⟨vs,hpy⟩ x3,q3⟩
 ·have e:i = xs.length:=by omega
  subst e
  rw [List.drop_length] at q
  exact .inl ⟨(it M H st rm2 q.1 _).1 (Nat.le_refl _),hN ρ M acc σ H x rs rm2 ac q.2⟩
theorem fE {src:TId} {b:BT} {tb:TCd} (ms:bZ src) (mb:bT tb) (σ:St) (H:Hp) (N:St -> Hp -> Prop) (h:lC K p (cM src b tb) σ H N):(lI K src) σ H fun J H1=>di J (lG K b) (lC K p tb) N σ H1:=by
 obtain ⟨ρ,M,acc,rs,rm,n,⟨vs,hp,ra⟩,q⟩:=h
 refine ⟨ρ,M,rs,rm,ms _ _ _ _ (fun xs chk M1 q1 J H1 x1 rm1 it => ?_) q⟩
 have hp1:=x1.keep p _ n hp
 have n1:=x1.new p _ n hp
 have st:=x1.stab rm
 exact iy mb it (rs.mono st) rm1 n1 ⟨vs,hp1,ra.mono st⟩ q1 fun ρ' M' acc' σ' H' x2 rs' rm' ac' k=>k σ' H' (x1.toP.trans hp ⟨vs,hp1⟩ x2) rs' rm' ac'
theorem dj {fr:List (Option Nat)} {src:TId} {b:BT} {tb:TCd} (ms:bZ src) (mb:bT tb) (σ:St) (H:Hp) (Q:VK) (h:lE K (gv fr src b tb) σ H Q):mP (lI K src) (lG K b) (fun p=>lC K p tb) fr σ H Q:=by
 obtain ⟨ρ,M,rs,rm,q⟩:=h
 refine ⟨ρ,M,rs,rm,ms _ _ _ _ (fun xs chk M1 q1 J H1 x1 rm1 it p n => ?_) q⟩
 have st:=x1.stab rm
 have xn:Ext M1 H1 M1 (upd H1 p (.lst [])):=Ext.new' n
 have stn:=xn.stab rm1
 have n1:M1 p = none:=rm1.out n
 refine iy (p:=p) mb (xs:=xs) (chk:=chk) (fun M' H' st'=>it M' H' ⟨fun a xs e=>st'.tup _ _ (stn.tup _ _ e),fun a o u e=>st'.frz _ _ _ (stn.frz _ _ _ e)⟩) (((rs.mono st).mono stn).inh fr) (rm1.new n) n1 ⟨[],aq,RDs.nil⟩ q1 fun ρ' M' acc' σ' H' x2 rs' rm' ac' k => ?_
 obtain ⟨vs,hp,ra⟩:=ac'
 have n':M' p = none:=x2.new p _ n1 aq
 refine k p n' (.ref p) H' ⟨fun a o m e => ?_,fun a o m e => ?_⟩ (fun a o e => ?_) (RD.ref_iff.mpr rfl)
 ·have e1:=x1.kp a o m e
  have ne:a ≠ p:=fun z=>by subst z;rw [n] at e1;cases e1
  exact x2.kp a o ne (by rw [x1.nw a o m e];exact m) (by rw [aj ne];exact e1)
 ·have e1:=x1.kp a o m e
  have ne:a ≠ p:=fun z=>by subst z;rw [n] at e1;cases e1
  rw [am ne]
  exact (x2.nw a o (by rw [x1.nw a o m e];exact m) (by rw [aj ne];exact e1)).trans (x1.nw a o m e)
 ·by_cases z:a = p
  ·subst z
   rw [ae] at e;cases e
   exact ⟨vs,hp,ra⟩
  ·rw [am z] at e
   exact rm' a o e
end
end Mi
end L2
namespace L2
namespace Mi
open PySem PySem.Spec PyProof.Rows
noncomputable def gy:TSd:=fun D ρ M=>D.nx ρ M
noncomputable def ni (t u:TSd):TSd:=fun D ρ M=>t { D with nx:=u D } ρ M
noncomputable def gA:TSd:=fun D ρ M=>D.bk ρ M
noncomputable def ja:TSd:=fun D ρ M=>D.ct ρ M
noncomputable def jb (te:TEd):TSd:=fun D ρ M=>te ρ M fun _ M1=>D.nx ρ M1
noncomputable def nj (te:TEd):TSd:=fun D ρ M=>te ρ M D.rt
noncomputable def sIf (c:TTd) (t u:TSd):TSd:=fun D ρ M=>c ρ M fun b M1=>if b = true then t D ρ M1 else u D ρ M1
noncomputable def i3 (te:TEd) (b:BT):TSd:=fun D ρ M=>te ρ M fun x M1 => ∃ ρ',b x ρ = some ρ' /\ D.nx ρ' M1
noncomputable def nk (ta:TAd) (bs:BTs):TSd:=fun D ρ M=>ta ρ M fun xs M1 => ∃ ρ',bs xs ρ = some ρ' /\ D.nx ρ' M1
noncomputable def bA (b:BT) (tb:TSd) (chk:Mem -> Prop) (D:aW):List Mi.D -> al -> Mem -> Prop
 | [] => fun ρ M=>chk M /\ D.nx ρ M
 | x :: xs=>fun ρ M=>chk M /\ ∃ ρ',b x ρ = some ρ' /\ tb { D with nx:=bA b tb chk D xs,ct:=bA b tb chk D xs,bk:=D.nx } ρ' M
noncomputable def nl (src:TId) (b:BT) (tb:TSd):TSd:=fun D ρ M=>src ρ M fun xs chk M1=>bA b tb chk D xs ρ M1
noncomputable def bf (c:TTd) (tb:TSd) (D:aW):Nat -> al -> Mem -> Prop
 | 0=>fun _ _=>False
 | n + 1=>fun ρ M=>c ρ M fun b M1=>if b = true then tb { D with nx:=bf c tb D n,ct:=bf c tb D n,bk:=D.nx } ρ M1 else D.nx ρ M1
noncomputable def gB (c:TTd) (tb:TSd):TSd:=fun D ρ M => ∃ n,bf c tb D n ρ M
theorem LeD.refl (a:aW):LeD a a:=⟨fun _ _ h=>h,fun _ _ h=>h,fun _ _ h=>h,fun _ _ h=>h⟩
theorem iz:aB gy:=fun _ _ _ _ h q=>h.nx _ _ q
theorem no:aB gA:=fun _ _ _ _ h q=>h.bk _ _ q
theorem pH:aB ja:=fun _ _ _ _ h q=>h.ct _ _ q
theorem pI {t u:TSd} (ht:aB t) (hu:aB u):aB (ni t u):=fun a b ρ M h q=>ht { a with nx:=u a } { b with nx:=u b } _ _ ⟨fun ρ' M' q'=>hu _ _ _ _ h q',h.rt,h.bk,h.ct⟩ q
theorem pJ {te:TEd} (h:ad te):aB (jb te):=fun a b ρ M i q=>h _ _ _ _ (fun _ M1 q1=>i.nx _ _ q1) q
theorem rF {te:TEd} (h:ad te):aB (nj te):=fun a b ρ M i q=>h _ _ _ _ (fun d M1 q1=>i.rt _ _ q1) q
theorem rG {c:TTd} {t u:TSd} (hc:az c) (ht:aB t) (hu:aB u):aB (sIf c t u):=fun a b ρ M i q=>hc _ _ _ _ (fun k M1 q1=>by
 cases k with
 | true=>rw [if_pos rfl] at q1 ⊢;exact ht _ _ _ _ i q1
 | false=>rw [if_neg Bool.false_ne_true] at q1 ⊢;exact hu _ _ _ _ i q1) q
theorem rH {te:TEd} {bt:BT} (h:ad te):aB (i3 te bt):=fun a b ρ M i q=>h _ _ _ _ (fun d M1 ⟨ρ',e,q1⟩=>⟨ρ',e,i.nx _ _ q1⟩) q
theorem rJ {ta:TAd} {bs:BTs} (h:bm ta):aB (nk ta bs):=fun a b ρ M i q=>h _ _ _ _ (fun d M1 ⟨ρ',e,q1⟩=>⟨ρ',e,i.nx _ _ q1⟩) q
theorem eG {bt:BT} {tb:TSd} (hb:aB tb) {chk:Mem -> Prop} {a b:aW} (i:LeD a b):∀ (xs:List D) (ρ:al) (M:Mem),bA bt tb chk a xs ρ M -> bA bt tb chk b xs ρ M
 | [], ρ,M,h=>⟨h.1,i.nx _ _ h.2⟩
 | x :: xs, ρ,M,⟨c, ρ',e,q⟩=>⟨c, ρ',e,hb { a with nx:=bA bt tb chk a xs,ct:=bA bt tb chk a xs,bk:=a.nx } { b with nx:=bA bt tb chk b xs,ct:=bA bt tb chk b xs,bk:=b.nx } _ _ ⟨fun ρ2 M2 q2=>eG hb i xs ρ2 M2 q2,i.rt,i.nx,fun ρ2 M2 q2=>eG hb i xs ρ2 M2 q2⟩ q⟩
theorem rK {src:TId} {bt:BT} {tb:TSd} (hs:bZ src) (hb:aB tb):aB (nl src bt tb):=fun a b ρ M i q=>hs _ _ _ _ (fun xs c M1 q1=>eG hb i xs _ _ q1) q
theorem dm {c:TTd} {tb:TSd} (hc:az c) (hb:aB tb) {a b:aW} (i:LeD a b):∀ (n:Nat) (ρ:al) (M:Mem),bf c tb a n ρ M -> bf c tb b n ρ M
 | 0, ρ,M,h=>h
 | n + 1, ρ,M,h=>hc _ _ _ _ (fun k M1 q1=>by
   cases k with
   | true=>rw [if_pos rfl] at q1 ⊢;exact hb { a with nx:=bf c tb a n,ct:=bf c tb a n,bk:=a.nx } { b with nx:=bf c tb b n,ct:=bf c tb b n,bk:=b.nx } _ _ ⟨fun ρ2 M2 q2=>dm hc hb i n ρ2 M2 q2,i.rt,i.nx,fun ρ2 M2 q2=>dm hc hb i n ρ2 M2 q2⟩ q1
   | false=>rw [if_neg Bool.false_ne_true] at q1 ⊢;exact i.nx _ _ q1) h
theorem nr {c:TTd} {tb:TSd} (hc:az c) (hb:aB tb):aB (gB c tb):=fun a b ρ M i ⟨n,q⟩=>⟨n,dm hc hb i n _ _ q⟩
section
variable {K:PySem.W.Frag}
theorem iA (D:bD) (σ:St) (H:Hp) (h:lS K gy D σ H):my D σ H:=by
 obtain ⟨ρ,M,A,rs,rm,l,q⟩:=h
 exact l.nx ρ M σ H Ext.refl rs rm q
theorem nv (D:bD) (σ:St) (H:Hp) (h:lS K gA D σ H):ou D σ H:=by
 obtain ⟨ρ,M,A,rs,rm,l,q⟩:=h
 exact l.bk ρ M σ H Ext.refl rs rm q
theorem pK (D:bD) (σ:St) (H:Hp) (h:lS K ja D σ H):sY D σ H:=by
 obtain ⟨ρ,M,A,rs,rm,l,q⟩:=h
 exact l.ct ρ M σ H Ext.refl rs rm q
theorem rL {t u:TSd} (mt:aB t) (mu:aB u) (D:bD) (σ:St) (H:Hp) (h:lS K (ni t u) D σ H):w8 (lS K t) (lS K u) D σ H:=by
 obtain ⟨ρ,M,A,rs,rm,l,q⟩:=h
 exact ⟨ρ,M, { A with nx:=u A },rs,rm,⟨fun ρ' M' σ' H' x rs' rm' q'=>⟨ρ',M',A,rs',rm',l.ext x,q'⟩,l.rt,l.bk,l.ct⟩,q⟩
theorem pL {te:TEd} (m:ad te) (D:bD) (σ:St) (H:Hp) (h:lS K (jb te) D σ H):sZ (lE K te) D σ H:=by
 obtain ⟨ρ,M,A,rs,rm,l,q⟩:=h
 exact ⟨ρ,M,rs,rm,m _ _ _ _ (fun d M1 q1 v H1 x1 rm1 rd1=>l.nx ρ M1 σ H1 x1 (rs.mono (x1.stab rm)) rm1 q1) q⟩
theorem rM {te:TEd} (m:ad te) (D:bD) (σ:St) (H:Hp) (h:lS K (nj te) D σ H):w9 (lE K te) D σ H:=by
 obtain ⟨ρ,M,A,rs,rm,l,q⟩:=h
 exact ⟨ρ,M,rs,rm,m _ _ _ _ (fun d M1 q1 v H1 x1 rm1 rd1=>l.rt d M1 v H1 x1 rm1 rd1 q1) q⟩
theorem uN {c:TTd} {t u:TSd} (mc:az c) (D:bD) (σ:St) (H:Hp) (h:lS K (sIf c t u) D σ H):wb (lT K c) (lS K t) (lS K u) D σ H:=by
 obtain ⟨ρ,M,A,rs,rm,l,q⟩:=h
 refine ⟨ρ,M,rs,rm,mc _ _ _ _ (fun k M1 q1 H1 x1 rm1 => ?_) q⟩
 cases k with
 | true=>rw [if_pos rfl] at q1 ⊢;exact ⟨ρ,M1,A,rs.mono (x1.stab rm),rm1,l.ext x1,q1⟩
 | false=>rw [if_neg Bool.false_ne_true] at q1 ⊢;exact ⟨ρ,M1,A,rs.mono (x1.stab rm),rm1,l.ext x1,q1⟩
theorem rN {te:TEd} {b:BT} (m:ad te) (D:bD) (σ:St) (H:Hp) (h:lS K (i3 te b) D σ H):mC (lE K te) (lG K b) D σ H:=by
 obtain ⟨ρ,M,A,rs,rm,l,q⟩:=h
 refine ⟨ρ,M,rs,rm,m _ _ _ _ (fun d M1 ⟨ρ',e,q1⟩ v H1 x1 rm1 rd1 => ?_) q⟩
 exact ⟨d, ρ, ρ',rd1,rs.mono (x1.stab rm),e,fun σ' rs'=>l.nx ρ' M1 σ' H1 x1 rs' rm1 q1⟩
theorem iB {te:TEd} {i:Nat} (m:ad te) (D:bD) (σ:St) (H:Hp) (h:lS K (i3 te (bv i)) D σ H):mC (lE K te) (fX i) D σ H:=by
 obtain ⟨ρ,M,A,rs,rm,l,q⟩:=h
 refine ⟨ρ,M,rs,rm,m _ _ _ _ (fun d M1 ⟨ρ',e,q1⟩ v H1 x1 rm1 rd1 => ?_) q⟩
 cases e
 exact l.nx _ M1 _ H1 x1 ((rs.mono (x1.stab rm)).set i rd1) rm1 q1
theorem rP {src:TId} {b:BT} {tb:TSd} (ms:bZ src) (mb:aB tb) (D:bD) (σ:St) (H:Hp) (h:lS K (nl src b tb) D σ H):wg (lI K src) (lG K b) (lS K tb) D σ H:=by
 obtain ⟨ρ,M,A,rs,rm,l,q⟩:=h
 refine ⟨ρ,M,rs,rm,ms _ _ _ _ (fun xs chk M1 q1 J H1 x1 rm1 it => ?_) q⟩
 refine ⟨fun i m σ H'=>m = xs.length - i /\ i <= xs.length /\ ∃ ρ M2,RS K H' σ ρ /\ RM K M2 H' /\ Ext M1 H1 M2 H' /\ bA b tb chk A (xs.drop i) ρ M2,⟨xs.length,by simp,Nat.zero_le _, ρ,M1,rs.mono (x1.stab rm),rm1,Ext.refl,q1⟩, ?_⟩
 rintro i m σ2 H2 ⟨rfl,hi, ρ2,M2,rs2,rm2,x2,q2⟩
 have st2:=x2.stab rm1
 by_cases hlt:i < xs.length
 ·rw [List.drop_eq_getElem_cons hlt] at q2
  obtain ⟨c, ρ',hb,q3⟩:=q2
  obtain ⟨go,yl⟩:=(it M2 H2 st2 rm2 c i).2 hlt
  refine .inr ⟨go,fun σ' H' => ∃ m',m' < xs.length - i /\ (m' = xs.length - (i + 1) /\ i + 1 <= xs.length /\ ∃ ρ M,RS K H' σ' ρ /\ RM K M H' /\ Ext M1 H1 M H' /\ bA b tb chk A (xs.drop (i + 1)) ρ M),fun σ' H' h=>h,fun x' H' y => ?_⟩
  obtain ⟨yy,d,hd,rd⟩:=yl x' H' y
  rw [List.getElem?_eq_getElem hlt] at hd
  cases hd
  obtain ⟨xy,rmy⟩:=yy.ext rm2
  have x12:=x1.trans (x2.trans xy)
  refine ⟨_, ρ2, ρ',rd,rs2.mono (xy.stab rm2),hb,fun σ3 rs3 => ?_⟩
  have nx:∀ ρ5 M5 σ5 H5,Ext M2 H' M5 H5 -> RS K H5 σ5 ρ5 -> RM K M5 H5 -> bA b tb chk A (xs.drop (i + 1)) ρ5 M5 -> ∃ m',m' < xs.length - i /\ (m' = xs.length - (i + 1) /\ i + 1 <= xs.length /\ ∃ ρ M,RS K H5 σ5 ρ /\ RM K M H5 /\ Ext M1 H1 M H5 /\ bA b tb chk A (xs.drop (i + 1)) ρ M) :=
   fun ρ5 M5 σ5 H5 x5 rs5 rm5 q5=>⟨xs.length - (i + 1),by omega,rfl,hlt, ρ5,M5,rs5,rm5,(x2.trans xy).trans x5,q5⟩
  refine ⟨ρ',M2, { A with nx:=bA b tb chk A (xs.drop (i + 1)),ct:=bA b tb chk A (xs.drop (i + 1)),bk:=A.nx },rs3,rmy,⟨nx,fun d M5 v H5 x5=>l.rt d M5 v H5 (x12.trans x5),fun ρ5 M5 σ5 H5 x5=>l.nx ρ5 M5 σ5 H5 (x12.trans x5),nx⟩,q3⟩
 ·have e:i = xs.length:=by omega
  subst e
  rw [List.drop_length] at q2
  exact .inl ⟨(it M2 H2 st2 rm2 q2.1 _).1 (Nat.le_refl _),l.nx ρ2 M2 σ2 H2 (x1.trans x2) rs2 rm2 q2.2⟩
theorem ny {c:TTd} {tb:TSd} (mc:az c) (mb:aB tb) (D:bD) (σ:St) (H:Hp) (h:lS K (gB c tb) D σ H):ox (lT K c) (lS K tb) D σ H:=by
 obtain ⟨ρ,M,A,rs,rm,l,n,q⟩:=h
 refine ⟨fun m σ' H' => ∃ ρ' M',RS K H' σ' ρ' /\ RM K M' H' /\ Ext M H M' H' /\ bf c tb A m ρ' M',⟨n, ρ,M,rs,rm,Ext.refl,q⟩, ?_⟩
 rintro m σ1 H1 ⟨ρ1,M1,rs1,rm1,x1,q1⟩
 cases m with
 | zero=>exact q1.elim
 | succ m =>
   refine ⟨ρ1,M1,rs1,rm1,mc _ _ _ _ (fun k M2 q2 H2 x2 rm2 => ?_) q1⟩
   have x12:=x1.trans x2
   have rs2:=rs1.mono (x2.stab rm1)
   cases k with
   | false=>rw [if_neg Bool.false_ne_true] at q2;dsimp only;rw [if_neg Bool.false_ne_true];exact l.nx ρ1 M2 σ1 H2 x12 rs2 rm2 q2
   | true =>
     rw [if_pos rfl] at q2
     dsimp only
     rw [if_pos rfl]
     refine ⟨fun σ' H' => ∃ ρ' M',RS K H' σ' ρ' /\ RM K M' H' /\ Ext M H M' H' /\ bf c tb A m ρ' M',fun σ' H' h=>⟨m,Nat.lt_succ_self m,h⟩, ρ1,M2, { A with nx:=bf c tb A m,ct:=bf c tb A m,bk:=A.nx },rs2,rm2,⟨?_,fun d M5 v H5 x5=>l.rt d M5 v H5 (x12.trans x5),fun ρ5 M5 σ5 H5 x5=>l.nx ρ5 M5 σ5 H5 (x12.trans x5), ?_⟩,q2⟩
     ·exact fun ρ5 M5 σ5 H5 x5 rs5 rm5 q5=>⟨ρ5,M5,rs5,rm5,x12.trans x5,q5⟩
     ·exact fun ρ5 M5 σ5 H5 x5 rs5 rm5 q5=>⟨ρ5,M5,rs5,rm5,x12.trans x5,q5⟩
end
noncomputable def dR:D -> D -> D -> Mem -> (Mem -> Prop) -> Prop:=fun o i v M Q => ∃ a,o = .ref a /\
 ((∃ xs k j,i = .int k /\ M a = some (.lst xs) /\ ixN xs.length k = some j /\ Q (ak M a (.lst (xs.set j v)))) ∨
  ∃ t kvs,M a = some (.dct t kvs) /\ gm t i = true /\ kvs.length < sizeLine /\ Q (ak M a (.dct t (cb kvs i v))))
noncomputable def nA (te to ti:TEd):TSd:=fun D ρ M=>te ρ M fun v M1=>to ρ M1 fun o M2=>ti ρ M2 fun i M3=>dR o i v M3 fun M4=>D.nx ρ M4
theorem pM {o i v:D} {M:Mem} {Q Q':Mem -> Prop} (h:∀ M',Q M' -> Q' M') (q:dR o i v M Q):dR o i v M Q':=by
 obtain ⟨a,e,⟨xs,k,j,e1,e2,e3,q⟩ | ⟨t,kvs,e1,e2,e3,q⟩⟩:=q
 ·exact ⟨a,e, .inl ⟨xs,k,j,e1,e2,e3,h _ q⟩⟩
 ·exact ⟨a,e, .inr ⟨t,kvs,e1,e2,e3,h _ q⟩⟩
theorem rQ {te to ti:TEd} (he:ad te) (ho:ad to) (hi:ad ti):aB (nA te to ti):=fun a b ρ M i q =>
 he _ _ _ _ (fun v M1 q1=>ho _ _ _ _ (fun o M2 q2=>hi _ _ _ _ (fun k M3 q3=>pM (fun M' q'=>i.nx _ _ q') q3) q2) q1) q
section
variable {X:Cx} {K:PySem.W.Frag}
theorem rR (hu:X.A.units + 1 < cLine):PSet X (fun o i v H Q => ∃ a H',o = .ref a /\ DPut H a i v H' /\ Q H'):=by
 intro pins s σ H o i v ov iv u Q I ro ri rv h
 obtain ⟨a,H',rfl,g,q⟩:=h
 cases ro
 exact oO hu I g ri rv fun s' I'=>⟨H',I',q⟩
theorem PSet.or {t t':mz} (h:PSet X t) (h':PSet X t'):PSet X (fun o i v H Q=>t o i v H Q ∨ t' o i v H Q):=by
 intro pins s σ H o i v ov iv u Q I ro ri rv q
 rcases q with q | q
 ·exact h pins s σ H o i v ov iv u Q I ro ri rv q
 ·exact h' pins s σ H o i v ov iv u Q I ro ri rv q
section
variable {κ:Type} [DecidableEq κ] {H:Hp} {RK:D -> κ -> Prop} (inj:∀ {d e:D} {k : κ},RK d k -> RK e k -> d = e) (fn:∀ {d:D} {k k' : κ},RK d k -> RK d k' -> k = k')
include inj fn
theorem lw {k:D} {q : κ} (hk:RK k q):∀ {kvs:List (D × D)} {ps:List (κ × V)},Paired (fun p r=>RK p.1 r.1 /\ RD K H p.2 r.2) kvs ps ->
 (kvs.any fun p=>decide (p.1 = k)) = (ps.any fun p=>decide (p.1 = q))
 | _,_, .nil=>rfl
 | _,_, .cons (a:=p) (b:=r) hr t=>by
   rw [List.any_cons,List.any_cons,lw hk t]
   congr 1
   by_cases e:p.1 = k
   ·have e':r.1 = q:=by have h1:=hr.1;rw [e] at h1;exact fn h1 hk
    rw [decide_eq_true e,decide_eq_true e']
   ·have e' : ¬ r.1 = q:=fun z=>e (by have h1:=hr.1;rw [z] at h1;exact inj h1 hk)
    rw [decide_eq_false e,decide_eq_false e']
theorem lB {k:D} {q : κ} (hk:RK k q) {d:D} {v:V} (hv:RD K H d v):∀ {kvs:List (D × D)} {ps:List (κ × V)},Paired (fun p r=>RK p.1 r.1 /\ RD K H p.2 r.2) kvs ps ->
 Paired (fun p r=>RK p.1 r.1 /\ RD K H p.2 r.2) (kvs.map fun p=>if p.1 = k then (p.1,d) else p) (ps.map fun p=>if p.1 = q then (p.1,v) else p)
 | _,_, .nil => .nil
 | _,_, .cons (a:=p) (b:=r) hr t=>by
   refine .cons ?_ (lB hk hv t)
   by_cases e:p.1 = k
   ·have e':r.1 = q:=by have h1:=hr.1;rw [e] at h1;exact fn h1 hk
    dsimp only
    rw [if_pos e,if_pos e']
    exact ⟨hr.1,hv⟩
   ·have e' : ¬ r.1 = q:=fun z=>e (by have h1:=hr.1;rw [z] at h1;exact inj h1 hk)
    dsimp only
    rw [if_neg e,if_neg e']
    exact hr
theorem fM {k:D} {q : κ} (hk:RK k q) {d:D} {v:V} (hv:RD K H d v) {kvs:List (D × D)} {ps:List (κ × V)} (r:Paired (fun p r=>RK p.1 r.1 /\ RD K H p.2 r.2) kvs ps) :
 Paired (fun p r=>RK p.1 r.1 /\ RD K H p.2 r.2) (cb kvs k d) (bg ps q v):=by
 unfold cb bg
 rw [lw (K:=K) (H:=H) (RK:=RK) inj fn hk r]
 by_cases e:(ps.any fun p=>decide (p.1 = q)) = true
 ·rw [if_pos e,if_pos e]
  exact lB (RK:=RK) inj fn hk hv r
 ·rw [if_neg e,if_neg e]
  exact r.snoc ⟨hk,hv⟩
end
theorem rS {M:Mem} {H:Hp} {o i v:D} {ov iv vv:V} {Qd:Mem -> Prop} {Q:Hp -> Prop} (rm:RM K M H) (ro:RD K H o ov) (ri:RD K H i iv) (rv:RD K H v vv) (h:dR o i v M Qd) (hQ:∀ M' H',Ext M H M' H' -> RM K M' H' -> Qd M' -> Q H') :
 t7 ov iv vv H Q ∨ ∃ a H',ov = .ref a /\ DPut H a iv vv H' /\ Q H':=by
 obtain ⟨a,rfl,⟨xs,k,j,rfl,e2,e3,q⟩ | ⟨t,kvs,e1,e2,e3,q⟩⟩:=h
 ·cases RD.ref_iff.mp ro
  cases RD.int_iff.mp ri
  obtain ⟨vs,ha,rs⟩:=rm _ _ e2
  have st:Stab H (upd H a (.lst (vs.set j vv))):=rm.stabPut e2
  exact .inl ⟨a,vs,k,j,rfl,rfl,ha,by rw [rs.length];exact e3,hQ _ _ (Ext.put e2) (rm.put (o := .lst (xs.set j v)) e2 ⟨_,aq,(rs.set j rv).mono st⟩) q⟩
 ·cases RD.ref_iff.mp ro
  have ro':=rm _ _ e1
  cases t with
  | false =>
    obtain ⟨ps,hp,pr⟩:=ro'
    obtain ⟨kq,hk⟩:=jt (show dM i = true from e2)
    have st:Stab H (upd H a (.dK (bg ps kq vv))):=rm.stabPut e1
    have pr2:=fM (RK:=RKey) RKey.inj RKey.fun hk rv pr
    rw [hJ hk ri]
    refine .inr ⟨a,_,rfl,DPut.k hp (by rw [<- Paired.length pr];exact e3),hQ _ _ (Ext.put e1) (rm.put (o := .dct false (cb kvs i v)) e1 ⟨_,aq,Paired.mapP pr2 fun _ _ z=>⟨z.1,z.2.mono st⟩⟩) q⟩
  | true =>
    obtain ⟨ps,hp,pr⟩:=ro'
    obtain ⟨kq,hk⟩:=gZ (show bX i = true from e2)
    have st:Stab H (upd H a (.dT (bg ps kq vv))):=rm.stabPut e1
    have pr2:=fM (RK:=RKeys) RKeys.inj RKeys.fun hk rv pr
    cases i <;> first
     | exact hk.elim
     | (obtain ⟨b,us,rfl,hb,ru⟩:=RD.tup_iff.mp ri
        rw [dN hk ru] at hb
        exact .inr ⟨a,_,rfl,DPut.t hp hb (by rw [<- Paired.length pr];exact e3),hQ _ _ (Ext.put e1) (rm.put (o := .dct true (cb kvs _ v)) e1 ⟨_,aq,Paired.mapP pr2 fun _ _ z=>⟨z.1,z.2.mono st⟩⟩) q⟩)
theorem xq {o i e:Expr} {te to ti:TEd} {pos tpos:Pos} (hu:X.A.units + 1 < cLine) (me:ad te) (mo:ad to) (mi:ad ti) (he:PE X e (lE X.K te)) (ho:PE X o (lE X.K to)) (hi:PE X i (lE X.K ti))
 (hs:swapsWithSole [.Subscript o i tpos] e pos.line X.env = pure false) (hw:swappedStores [.Subscript o i tpos] e X.env = pure none)
 (ha:∀ v,assign (.Subscript o i tpos) X.env v = (do
   let ov <- holding [v] (eval o X.env)
   let iv <- holding [v,ov] (eval i X.env)
   standAt tpos
   holding [v,ov,iv] (setItem ov iv v)
   release [v,ov,iv] [])):PS X (.Assign [.Subscript o i tpos] e pos) (lS X.K (nA te to ti)):=by
 refine PS.imp (ow he (wd ho hi (PSet.or qK (rR hu)) ha) hs hw rfl) fun D σ H h => ?_
 obtain ⟨ρ,M,A,rs,rm,l,q⟩:=h
 refine ⟨ρ,M,rs,rm,me _ _ _ _ (fun v M1 q1 vv H1 x1 rm1 rd1 => ?_) q⟩
 refine ⟨ρ,M1,rs.mono (x1.stab rm),rm1,mo _ _ _ _ (fun ov M2 q2 vo H2 x2 rm2 rd2 => ?_) q1⟩
 refine ⟨ρ,M2,(rs.mono (x1.stab rm)).mono (x2.stab rm1),rm2,mi _ _ _ _ (fun iv M3 q3 vi H3 x3 rm3 rd3 => ?_) q2⟩
 have x13:=x1.trans (x2.trans x3)
 exact rS rm3 (rd2.mono (x3.stab rm2)) rd3 ((rd1.mono (x2.stab rm1)).mono (x3.stab rm2)) q3 fun M' H' x4 rm4 q4=>l.nx ρ M' σ H' (x13.trans x4) (rs.mono ((x13.trans x4).stab rm)) rm4 q4
noncomputable def tw:R2d
 | .int i, .int j,M,Q=>Q (.int (i + j)) M
 | _,_,_,_=>False
noncomputable def tz:R2d
 | .int i, .int j,M,Q=>Q (.int (i - j)) M
 | _,_,_,_=>False
noncomputable def tD:R2d
 | .int i, .int j,M,Q=>MulOk i j /\ Q (.int (i * j)) M
 | _,_,_,_=>False
noncomputable def zH (i:Nat) (rd:R2d) (te:TEd):TSd:=fun D ρ M => ∃ x, ρ[i]? = some (some x) /\ te ρ M fun y M1=>rd x y M1 fun z M2=>D.nx (ρ.set i (some z)) M2
end
end Mi
end L2
namespace L2
open PySem PySem.Spec PyProof.Rows
section
variable {X:Cx} {pos:Pos}
end
namespace Mi
variable {K:PySem.W.Frag}
theorem pN {ta:TAd} {i j:Nat} (m:bm ta) (D:bD) (σ:St) (H:Hp) (h:lS K (nk ta (bY (bv i) (bY (bv j) fL))) D σ H):we i j (lA K ta) D σ H:=by
 obtain ⟨ρ,M,A,rs,rm,l,q⟩:=h
 refine ⟨ρ,M,rs,rm,m _ _ _ _ (fun ds M1 ⟨ρ',e,q1⟩ vs H1 x1 rm1 rd1 => ?_) q⟩
 match ds,e,rd1 with
 | [d1,d2],e,rd1 =>
  obtain ⟨v,u,rfl,r1,r2⟩:=rd1.two
  simp only [bY,bv,fL,Option.bind_some,Option.some.injEq] at e
  subst e
  exact ⟨v,u,rfl,l.nx _ M1 _ H1 x1 (((rs.mono (x1.stab rm)).set i r1).set j r2) rm1 q1⟩
end Mi
end L2
namespace L2
open PySem PySem.Spec PyProof.Rows
section
variable {X:Cx}
theorem aw:zq X (fun o i H Q => ∃ a xs k x,o = .ref a /\ i = .int k /\ SqL X.K H a xs /\ atI xs k = some x /\ Q x H):=by
 intro pins s σ H o i ov iv Q I ro ri h
 obtain ⟨a,xs,k,x,rfl,rfl,sq,he,q⟩:=h
 cases ro
 obtain ⟨t,rfl⟩:=ri
 obtain ⟨its,r,pl,hz⟩:=I.list sq
 obtain ⟨j,h1,h2,h3,h4,h5⟩:=gU he
 obtain ⟨w,ew,rw'⟩:=r.get h2
 have hl:=r.length
 have hn:=dw
 have fin:EP X pins σ Q w s:=⟨x,H,I,rw',q⟩
 by_cases h0 : 0 <= k
 ·have hj:k.toNat = j:=Option.some.inj (by rw [<- h1,seqIndex_of h0 h5])
  exact wpAny_getItem_list pl.isList h0 (by omega) (by rw [hj];simpa using ew) fin
 ·have hj:(k + (its.toArray.size:Int)).toNat = j:=by
   rw [List.size_toArray, <- hl]
   exact Option.some.inj (by rw [<- h1,seqIndex_neg (by omega) h4])
  exact wpAny_getItem_list_neg pl.isList (by omega) (by rw [List.size_toArray];omega) (by omega) (by rw [hj];simpa using ew) fin
end
namespace Mi
section
variable {X:Cx}
noncomputable def yJ:R2d:=fun x y M Q => ∃ a ds k d,x = .ref a /\ y = .int k /\ M a = some (.lst ds) /\ atI ds k = some d /\ Q d M
noncomputable def yK (to ti te:TEd) (rd:R2d):TSd:=fun D ρ M=>to ρ M fun o M1=>ti ρ M1 fun i M2=>yJ o i M2 fun x M3=>te ρ M3 fun y M4=>rd x y M4 fun z M5=>dR o i z M5 fun M6=>D.nx ρ M6
end
end Mi
end L2
namespace L2
namespace Mi
open PySem PySem.Spec PyProof.Rows
section
variable {X:Cx}
noncomputable def xr (r r':R2d) (ta tb tc:TEd):TEd:=fun ρ M Q=>ta ρ M fun x M1=>tb ρ M1 fun y M2=>r x y M2 fun z M3 => ∃ k,z = .bl k /\ (if k = true then tc ρ M3 fun w M4=>r' y w M4 Q else Q (.bl false) M3)
noncomputable def jN:D -> Option Bool
 | .bl b=>some b
 | .int i=>some (i != 0)
 | _=>none
noncomputable def nB:RAd:=fun xs M Q => ∃ x ds ts,xs = [x] /\ av M x = some ds /\ aG jN ds = some ts /\ Q (.bl (ts.all id)) M
theorem jO:aU nB:=fun _ _ _ _ h ⟨x,ds,ts,e,e1,e2,q⟩=>⟨x,ds,ts,e,e1,e2,h _ _ q⟩
theorem jP {α β:Type} {f : α -> Option β}:∀ {xs:List α} {ys:List β},aG f xs = some ys -> ys.length = xs.length /\ ∀ (i:Nat) x,xs[i]? = some x -> ∃ y,ys[i]? = some y /\ f x = some y
 | [],ys,h=>by cases h;exact ⟨rfl,fun i x e=>by simp at e⟩
 | x :: xs,ys,h=>by
   simp only [aG] at h
   cases e1:f x with
   | none=>rw [e1] at h;cases h
   | some y =>
     rw [e1] at h
     simp only [Option.bind_some] at h
     cases e2:aG f xs with
     | none=>rw [e2] at h;cases h
     | some r =>
       rw [e2] at h;cases h
       obtain ⟨l,g⟩:=jP e2
       refine ⟨by simp [l],fun i z e => ?_⟩
       cases i with
       | zero=>simp at e;subst e;exact ⟨y,rfl,e1⟩
       | succ i=>simp at e;simpa using g i z e
theorem uO {P:Program} {w:World} {A:Around} {E:Value -> Shared -> Prop} {s:Shared} {K:PySem.W.Frag} {H:Hp} {d:D} {v:V} {u:Value} {b:Bool} {Q:Bool -> Shared -> Prop} (e:jN d = some b) (rd:RD K H d v) (ru:RelV v u) (q:Q b s):wpAny (model P w) A (truthy u) Q E s:=by
 cases d with
 | bl c=>cases RD.bl_iff.mp rd;cases ru;cases e;exact wpAny_truthy_bool q
 | int i=>cases RD.int_iff.mp rd;obtain ⟨t,rfl⟩:=ru;cases e;exact PyProof.Rows.truthy_int q
 | _=>cases e
theorem range_all {ts:List Bool}:(List.range ts.length).all (fun i=>ts.getD i false) = ts.all id /\ (List.range ts.length).any (fun i=>ts.getD i false) = ts.any id:=by
 have e:(List.range ts.length).map (fun i=>ts.getD i false) = ts:=by
  apply List.ext_getElem
  ·simp
  ·intro i h1 h2;simp [List.getD_eq_getElem?_getD,List.getElem?_eq_getElem h2]
 constructor
 ·conv=>rhs;rw [<- e]
  rw [List.all_map];rfl
 ·conv=>rhs;rw [<- e]
  rw [List.any_map];rfl
theorem rT (hc:X.calm = true) {pins:List (Addr × Obj)} {s:Shared} {σ:St} {H:Hp} {M:Mem} {x:D} {ds:List D} {ts:List Bool} {v:V} {u:Value} {Q:Value -> Shared -> Prop} {g:List Bool -> Bool} (I:Inv X pins σ H s) (rm:RM X.K M H) (rd:RD X.K H x v) (ru:RelV v u) (e1:av M x = some ds) (e2:aG jN ds = some ts)
 (fin:∀ h' tk,Inv X pins σ H { s with heap:=h',toks:=tk } -> Q (.bool (g ts)) { s with heap:=h',toks:=tk })
 (gg:Nat -> (Nat -> Bool) -> Bool) (hg:gg ts.length (fun i=>ts.getD i false) = g ts) :
 wpAny (model X.prog X.w) X.A.in1 (pyIter u) (fun it s₂ => ∃ I fp wr n P St tr,it = .ref I /\ Walks X.prog X.w X.A.in1 I fp wr n P St /\ St 0 s₂.heap /\ TruthOf X.prog X.w X.A.in1 P tr /\
  ∀ h' tk,(∀ b o,b ∉ wr -> s₂.heap.get? b = some o -> h'.get? b = some o) -> Q (.bool (gg n tr)) { s₂ with heap:=h',toks:=tk }) X.xe s:=by
 obtain ⟨p,vs,rfl,sq,r2⟩:=pc rm rd e1
 cases ru
 obtain ⟨lt,get⟩:=jP e2
 have lv:=r2.length
 have tr:∀ (its:List Value),Vals vs its -> TruthOf X.prog X.w X.A.in1 (fun i w=>its.toArray[i]? = some w) (fun i=>ts.getD i false):=by
  intro its rv i w s' Q' E' hP hQ
  have hP':its[i]? = some w:=by simpa using hP
  have li:=rv.length
  have hi:i < its.length:=(List.getElem?_eq_some_iff.mp hP').1
  obtain ⟨d,hd⟩:∃ d,ds[i]? = some d:=⟨ds[i]'(by omega),List.getElem?_eq_getElem (by omega)⟩
  obtain ⟨v',hv',rd'⟩:=r2.get hd
  obtain ⟨u',hu',ru'⟩:=rv.get hv'
  rw [hP'] at hu';cases hu'
  obtain ⟨b,hb,eb⟩:=get i d hd
  have:ts.getD i false = b:=by rw [List.getD_eq_getElem?_getD,hb];rfl
  have hQ:Q' (ts.getD i false) s':=hQ
  rw [this] at hQ
  exact uO eb rd' ru' hQ
 rcases sq with sq | sq
 ·obtain ⟨its,rv,pl,hz⟩:=I.list sq
  have li:=rv.length
  have hlt:p < s.heap.objs.size:=by obtain ⟨o,n,e,_⟩:=pl;exact Heap.lt_size e
  refine wpAny_pyIter_list pl.isList ⟨s.heap.objs.size,_,_,_,_,_,_,rfl,Walks.list (by rw [Around.in1_handled];exact I.ok.hd hc) s.heap.objs.size p (Nat.ne_of_lt hlt) its.toArray,⟨⟨_,Heap.get?_push_size _ rfl,rfl,rfl⟩,pl.isList.at fun o e=>Heap.get?_push_of_some _ e⟩,tr its rv,fun h' tk k => ?_⟩
  have hn:its.toArray.size = ts.length:=by rw [List.size_toArray];omega
  rw [hn,hg]
  exact fin h' tk (I.kept (t':=tk) fun b o e=>k b o (by simp;exact Nat.ne_of_lt (Heap.lt_size e)) (Heap.get?_push_of_some _ e))
 ·obtain ⟨its,rv,pl,hz⟩:=I.tuple sq
  have li:=rv.length
  have hlt:p < s.heap.objs.size:=by obtain ⟨o,e,_⟩:=pl;exact Heap.lt_size e
  have pt:s.heap.IsTuple p its.toArray:=pl
  refine wpAny_pyIter_tuple pt ⟨s.heap.objs.size,_,_,_,_,_,_,rfl,Walks.tuple (by rw [Around.in1_handled];exact I.ok.hd hc) s.heap.objs.size p (Nat.ne_of_lt hlt) its.toArray,⟨⟨_,Heap.get?_push_size _ rfl,rfl,rfl⟩,pt.push _⟩,tr its rv,fun h' tk k => ?_⟩
  have hn:its.toArray.size = ts.length:=by rw [List.size_toArray];omega
  rw [hn,hg]
  exact fin h' tk (I.kept (t':=tk) fun b o e=>k b o (by simp;exact Nat.ne_of_lt (Heap.lt_size e)) (Heap.get?_push_of_some _ e))
theorem nC (hc:X.calm = true):CallR X (.builtin "all") (lR X.K nB):=by
 intro pins s σ H xs us Q I rv h
 obtain ⟨ds,M,rm,rs,x,es,ts,rfl,e1,e2,q⟩:=h
 obtain ⟨v,rfl,r⟩:=rs.one
 obtain ⟨u,rfl,ru⟩:=dg rv
 exact call_all_walk (rT hc I rm r ru e1 e2 (g:=fun ts=>ts.all id) (fun h' tk I'=>⟨.bl _,H,I',rfl,q _ H Ext.refl rm (RD.bl_iff.mpr rfl)⟩) (fun n tr=>(List.range n).all tr) range_all.1)
noncomputable def jc (t:Bool):TEd:=fun _ M Q => ∀ p,M p = none -> Q (.ref p) (ak M p (.dct t []))
theorem pO {t:Bool}:ad (jc t):=fun _ _ _ _ i q p n=>i _ _ (q p n)
theorem uP {t:Bool} {pos:Pos}:PE X (.Dict [] [] pos) (lE X.K (jc t)):=by
 cases t with
 | false =>
   refine PE.imp qN fun σ H Q ⟨ρ,M,rs,rm,q⟩ p n => ?_
   exact q p (rm.out n) (.ref p) _ (Ext.lay n) (rm.lay n ⟨[],aq, .nil⟩) (RD.ref_iff.mpr rfl)
 | true =>
   refine PE.imp qO fun σ H Q ⟨ρ,M,rs,rm,q⟩ p n => ?_
   exact q p (rm.out n) (.ref p) _ (Ext.lay n) (rm.lay n ⟨[],aq, .nil⟩) (RD.ref_iff.mpr rfl)
end
end Mi
end L2
namespace L2
namespace Srt
open PySem PySem.Spec PyProof.Rows
structure Cm (prog:Program) (w:World) (A:Around) (s:Shared) (kd:SortKind) (P:Keyed -> Prop) (lt:Keyed -> Keyed -> Bool):Prop where
 asym:∀ x y,lt x y = true -> lt y x = false
 neg:∀ x y z,lt x z = true -> lt x y = true ∨ lt y z = true
 run:∀ (x y:Keyed) (E:Value -> Shared -> Prop) (Q:Bool -> Shared -> Prop),P x -> P y -> Q (lt x y) s -> wpAny (PySem.model prog w) A (keyLt' kd x.1 y.1) Q E s
section
variable {prog:Program} {w:World} {A:Around} {E:Value -> Shared -> Prop} {s:Shared} {kd:SortKind} {P:Keyed -> Prop} {lt:Keyed -> Keyed -> Bool}
theorem aa {σ α:Type} {M:Model} {x : α} {st : σ} {Q : α -> σ -> Prop} (q:Q x st):wpS M A E s (pure x) Q st :=
 fun _ _ _=>⟨rfl,q⟩
theorem dS {σ:Type} {M:Model} {tag:String} {st : σ} {Q:Unit -> σ -> Prop} (q:Q () st):wpS M A E s (liftM (PySem.rule tag)) Q st :=
 wpS_lift (wpAny_rule ⟨rfl,q⟩)
theorem uQ {σ:Type} {M:Model} {st st' : σ} {Q:PUnit -> σ -> Prop} (q:Q PUnit.unit st'):wpS M A E s (set st') Q st :=
 fun _ _ _=>⟨rfl,q⟩
theorem jd (c:Cm prog w A s kd P lt) {x y:Keyed} {st:SortSt} {Q:Option Bool -> SortSt -> Prop} (hk:kindOf st = kd) (hx:P x) (hy:P y) (q:Q (some (lt x y)) st):wpS (PySem.model prog w) A E s (lt' x y) Q st:=by
 rw [lt'_eq]
 refine wpS_bind (wpS_get ?_)
 refine wpS_bind (wpS_lift ?_)
 rw [hk]
 intro Γ p hp
 rw [Sem.wp_attempt]
 exact c.run x y (fun e s'=>s' = s /\ wpS (PySem.model prog w) A E s (do modify fun s=>SortSt.mk' (kindOf s) (arrOf s) (pendingOf s) (gallopOf s) (some e);pure none) Q st) (fun b s'=>s' = s /\ wpS (PySem.model prog w) A E s (pure (some b)) Q st) hx hy ⟨rfl,aa q⟩ Γ p hp
theorem ay {arr:Array Keyed} {i:Nat} {x:Keyed} {st:SortSt} {Q:Keyed -> SortSt -> Prop} (h:arr[i]? = some x) (q:Q x st):wpS (PySem.model prog w) A E s (elem' arr i) Q st:=by
 rw [elem'_eq,h]
 exact aa q
theorem Cm.le_trans (c:Cm prog w A s kd P lt) {x y z:Keyed} (h:lt y x = false) (h2:lt z y = false):lt z x = false:=by
 cases e:lt z x with
 | false=>rfl
 | true=>rcases c.neg z y x e with q | q <;> simp_all
theorem bu {σ α:Type} {M:Model} {m:StateT σ Sem α} {st : σ} {Q Q' : α -> σ -> Prop} (h:wpS M A E s m Q st) (q:∀ a st',Q a st' -> Q' a st'):wpS M A E s m Q' st :=
 wpAny_mono h (fun a s' z=>⟨z.1,q _ _ z.2⟩) fun _ _ z=>z
end
noncomputable abbrev xt:=Bool -> Keyed -> Array Keyed -> Nat -> Nat -> Nat -> StateT SortSt Sem (Option Nat)
noncomputable abbrev xu:=Array Keyed -> Array Keyed -> StateT SortSt Sem (Array Keyed)
noncomputable def bey (lt:Keyed -> Keyed -> Bool) (left:Bool) (key x:Keyed):Bool:=if left = true then lt x key else !(lt key x)
structure Same (st st':SortSt):Prop where
 arr:arrOf st' = arrOf st
 kind:kindOf st' = kindOf st
 pend:pendingOf st' = pendingOf st
 fail:failedOf st' = failedOf st
noncomputable def fi (prog:Program) (w:World) (A:Around) (E:Value -> Shared -> Prop) (s:Shared) (kd:SortKind) (P:Keyed -> Prop) (lt:Keyed -> Keyed -> Bool) (g:xt):Prop :=
 ∀ (left:Bool) (key:Keyed) (arr:Array Keyed) (L xs R:List Keyed) (base n aI:Nat) (st:SortSt) (Q:Option Nat -> SortSt -> Prop),kindOf st = kd -> P key -> arr.toList = L ++ xs ++ R -> base = L.length -> n = xs.length -> (∀ x ∈ xs,P x) -> aI < n ->
  xs.Pairwise (fun x y=>lt y x = false) ->
  (∀ X Y,xs = X ++ Y -> (∀ x ∈ X,bey lt left key x = true) -> (∀ x ∈ Y,bey lt left key x = false) -> Q (some X.length) st) ->
  wpS (PySem.model prog w) A E s (g left key arr base n aI) Q st
noncomputable def fj (prog:Program) (w:World) (A:Around) (E:Value -> Shared -> Prop) (s:Shared) (kd:SortKind) (P:Keyed -> Prop) (lt:Keyed -> Keyed -> Bool) (m:xu):Prop :=
 ∀ (a b:Array Keyed) (st:SortSt) (Q:Array Keyed -> SortSt -> Prop),kindOf st = kd -> (∀ x ∈ a.toList,P x) -> (∀ x ∈ b.toList,P x) -> 0 < a.size -> 0 < b.size ->
  a.toList.Pairwise (fun x y=>lt y x = false) -> b.toList.Pairwise (fun x y=>lt y x = false) -> (∀ x y,a[0]? = some x -> b[0]? = some y -> lt x y = false) -> (∀ x y,a[a.size - 1]? = some x -> b[b.size - 1]? = some y -> lt x y = false) ->
  (∀ r st',r.toList.Perm (a.toList ++ b.toList) -> r.toList.Pairwise (fun x y=>lt y x = false) -> Same st st' -> Q r st') ->
  wpS (PySem.model prog w) A E s (m a b) Q st
section
variable {prog:Program} {w:World} {A:Around} {E:Value -> Shared -> Prop} {s:Shared} {kd:SortKind} {P:Keyed -> Prop} {lt:Keyed -> Keyed -> Bool}
theorem eI (c:Cm prog w A s kd P lt) {left:Bool} {key x:Keyed} {arr:Array Keyed} {j:Nat} {st:SortSt} {Q:Option Bool -> SortSt -> Prop} (hk:kindOf st = kd) (hx:P key) (hy:P x) (e:arr[j]? = some x) (q:Q (some (bey lt left key x)) st) :
 wpS (PySem.model prog w) A E s (do
  let x <- elem' arr j
  if left = true then lt' x key else do
   let r <- lt' key x
   pure (Option.map (fun x => !x) r)) Q st:=by
 refine wpS_bind (ay e ?_)
 cases left with
 | true=>exact jd c hk hy hx q
 | false=>exact wpS_bind (jd c hk hx hy (aa q))
theorem jQ (c:Cm prog w A s kd P lt) {left:Bool} {key x y:Keyed} (h:lt y x = false) (hb:bey lt left key y = true):bey lt left key x = true:=by
 unfold bey at hb ⊢
 cases left with
 | true =>
   rw [if_pos rfl] at hb ⊢
   rcases c.neg y x key hb with q | q
   ·rw [h] at q;cases q
   ·exact q
 | false =>
   simp at hb ⊢
   cases e:lt key x with
   | false=>rfl
   | true =>
     rcases c.neg key y x e with q | q
     ·rw [hb] at q;cases q
     ·rw [h] at q;cases q
structure Gal (lt:Keyed -> Keyed -> Bool) (left:Bool) (key:Keyed) (xs:List Keyed) (lo hi:Nat):Prop where
 le:lo <= hi
 len:hi <= xs.length
 up:∀ i x,i < lo -> xs[i]? = some x -> bey lt left key x = true
 dn:∀ i x,hi <= i -> xs[i]? = some x -> bey lt left key x = false
theorem eJ {xs:List Keyed} {R:Keyed -> Keyed -> Prop} (h:xs.Pairwise R) {i j:Nat} {x y:Keyed} (hij:i < j) (hx:xs[i]? = some x) (hy:xs[j]? = some y):R x y:=by
 obtain ⟨h1,e1⟩:=List.getElem?_eq_some_iff.mp hx
 obtain ⟨h2,e2⟩:=List.getElem?_eq_some_iff.mp hy
 rw [<- e1, <- e2]
 exact List.pairwise_iff_getElem.mp h i j h1 h2 hij
theorem gC (c:Cm prog w A s kd P lt) {left:Bool} {key:Keyed} {xs:List Keyed} (h:xs.Pairwise (fun x y=>lt y x = false)) {j:Nat} {y:Keyed} (hy:xs[j]? = some y) (hb:bey lt left key y = true):∀ i x,i < j + 1 -> xs[i]? = some x -> bey lt left key x = true:=by
 intro i x hi hx
 by_cases e:i = j
 ·subst e;rw [hx] at hy;cases hy;exact hb
 ·exact jQ c (eJ h (by omega) hx hy) hb
theorem gD (c:Cm prog w A s kd P lt) {left:Bool} {key:Keyed} {xs:List Keyed} (h:xs.Pairwise (fun x y=>lt y x = false)) {j:Nat} {y:Keyed} (hy:xs[j]? = some y) (hb:bey lt left key y = false):∀ i x,j <= i -> xs[i]? = some x -> bey lt left key x = false:=by
 intro i x hi hx
 by_cases e:i = j
 ·subst e;rw [hx] at hy;cases hy;exact hb
 ·cases q:bey lt left key x with
  | false=>rfl
  | true=>have:=jQ c (eJ h (by omega) hy hx) q;rw [hb] at this;cases this
theorem Gal.out {left:Bool} {key:Keyed} {xs:List Keyed} {k:Nat} (g:Gal lt left key xs k k):∃ X Y,xs = X ++ Y /\ X.length = k /\ (∀ x ∈ X,bey lt left key x = true) /\ (∀ x ∈ Y,bey lt left key x = false):=by
 refine ⟨xs.take k,xs.drop k,(List.take_append_drop k xs).symm,by rw [List.length_take];exact Nat.min_eq_left g.len,fun x hx => ?_,fun x hx => ?_⟩
 ·obtain ⟨i,hi,e⟩:=List.mem_iff_getElem.mp hx
  rw [List.length_take] at hi
  exact g.up i x (by omega) (by rw [List.getElem_take] at e;rw [<- e];exact List.getElem?_eq_getElem _)
 ·obtain ⟨i,hi,e⟩:=List.mem_iff_getElem.mp hx
  rw [List.length_drop] at hi
  refine g.dn (k + i) x (by omega) ?_
  rw [List.getElem_drop] at e
  rw [<- e];exact List.getElem?_eq_getElem _
noncomputable abbrev Ord (lt:Keyed -> Keyed -> Bool) (l:List Keyed):Prop:=l.Pairwise fun x y=>lt y x = false
theorem jR {out X A' B:List Keyed} (h1:Ord lt (out ++ (X ++ A'))) (h2:Ord lt (out ++ B)) (h:∀ x ∈ X, ∀ y ∈ B,lt y x = false):Ord lt ((out ++ X) ++ A') /\ Ord lt ((out ++ X) ++ B):=by
 refine ⟨by rw [List.append_assoc];exact h1, ?_⟩
 rw [List.append_assoc]
 obtain ⟨o1,o2,o3⟩:=List.pairwise_append.mp h1
 obtain ⟨p1,p2,p3⟩:=List.pairwise_append.mp h2
 obtain ⟨q1,q2,q3⟩:=List.pairwise_append.mp o2
 refine List.pairwise_append.mpr ⟨o1,List.pairwise_append.mpr ⟨q1,p2,h⟩,fun x hx y hy => ?_⟩
 rcases List.mem_append.mp hy with z | z
 ·exact o3 x hx y (List.mem_append_left _ z)
 ·exact p3 x hx y z
structure ML (lt:Keyed -> Keyed -> Bool) (la lb out:List Keyed) (ia ib:Nat):Prop where
 pa:Ord lt (out ++ la.drop ia)
 pb:Ord lt (out ++ lb.drop ib)
 pm:(out ++ (la.drop ia ++ lb.drop ib)).Perm (la ++ lb)
theorem lD (c:Cm prog w A s kd P lt) {l:List Keyed} {i:Nat} {x y:Keyed} (h:Ord lt (l.drop i)) (hy:l[i]? = some y) (hx:lt y x = false):∀ z ∈ l.drop i,lt z x = false:=by
 obtain ⟨hi,e⟩:=List.getElem?_eq_some_iff.mp hy
 rw [List.drop_eq_getElem_cons hi,e] at h ⊢
 intro z hz
 rcases List.mem_cons.mp hz with q | q
 ·rw [q];exact hx
 ·exact c.le_trans hx ((List.pairwise_cons.mp h).1 z q)
theorem cU {l X Y:List Keyed} {i:Nat} (e:l.drop i = X ++ Y):l.drop (i + X.length) = Y:=by
 rw [<- List.drop_drop,e,List.drop_left]
theorem ML.galA (c:Cm prog w A s kd P lt) {la lb out X Y:List Keyed} {ia ib:Nat} {y:Keyed} (m:ML lt la lb out ia ib) (e:la.drop ia = X ++ Y) (hy:lb[ib]? = some y) (h:∀ x ∈ X,lt y x = false):ML lt la lb (out ++ X) (ia + X.length) ib:=by
 have p2:=(List.pairwise_append.mp m.pb).2.1
 have q:=jR (X:=X) (A':=Y) (by rw [<- e];exact m.pa) m.pb fun x hx=>lD c p2 hy (h x hx)
 refine ⟨by rw [cU e];exact q.1,q.2, ?_⟩
 rw [cU e]
 refine List.Perm.trans (List.Perm.of_eq ?_) m.pm
 rw [e];simp
theorem ML.galB (c:Cm prog w A s kd P lt) {la lb out X Y:List Keyed} {ia ib:Nat} {y:Keyed} (m:ML lt la lb out ia ib) (e:lb.drop ib = X ++ Y) (hy:la[ia]? = some y) (h:∀ x ∈ X,lt y x = false):ML lt la lb (out ++ X) ia (ib + X.length):=by
 have p2:=(List.pairwise_append.mp m.pa).2.1
 have q:=jR (X:=X) (A':=Y) (by rw [<- e];exact m.pb) m.pa fun x hx=>lD c p2 hy (h x hx)
 refine ⟨q.2,by rw [cU e];exact q.1, ?_⟩
 rw [cU e]
 refine List.Perm.trans ?_ m.pm
 rw [e,List.append_assoc]
 refine List.Perm.append_left _ ?_
 rw [<- List.append_assoc, <- List.append_assoc]
 exact List.Perm.append_right _ List.perm_append_comm
theorem dU {l:List Keyed} {i:Nat} {x:Keyed} (h:l[i]? = some x):l.drop i = [x] ++ l.drop (i + 1):=by
 obtain ⟨hi,e⟩:=List.getElem?_eq_some_iff.mp h
 rw [List.drop_eq_getElem_cons hi,e];rfl
theorem ML.pushA (c:Cm prog w A s kd P lt) {la lb out:List Keyed} {ia ib:Nat} {x y:Keyed} (m:ML lt la lb out ia ib) (hx:la[ia]? = some x) (hy:lb[ib]? = some y) (h:lt y x = false):ML lt la lb (out ++ [x]) (ia + 1) ib :=
 m.galA c (dU hx) hy (by simpa using h)
theorem ML.pushB (c:Cm prog w A s kd P lt) {la lb out:List Keyed} {ia ib:Nat} {x y:Keyed} (m:ML lt la lb out ia ib) (hx:la[ia]? = some x) (hy:lb[ib]? = some y) (h:lt x y = false):ML lt la lb (out ++ [y]) ia (ib + 1) :=
 m.galB c (dU hy) hx (by simpa using h)
noncomputable def Res (lt:Keyed -> Keyed -> Bool) (la lb r:List Keyed):Prop:=r.Perm (la ++ lb) /\ Ord lt r
theorem ML.fin {la lb out:List Keyed} {ia ib:Nat} (m:ML lt la lb out ia ib) (h:lb.length <= ib):Res lt la lb (out ++ la.drop ia ++ lb.drop ib):=by
 rw [List.drop_eq_nil_of_le h,List.append_nil]
 refine ⟨?_,m.pa⟩
 have:=m.pm
 rw [List.drop_eq_nil_of_le h,List.append_nil] at this
 exact this
theorem ML.finE {la lb out:List Keyed} {ia ib:Nat} (m:ML lt la lb out ia ib) (h:la.length <= ia):Res lt la lb (out ++ la.drop ia ++ lb.drop ib):=by
 rw [List.drop_eq_nil_of_le h,List.append_nil]
 refine ⟨?_,m.pb⟩
 have:=m.pm
 rw [List.drop_eq_nil_of_le h,List.nil_append] at this
 exact this
theorem ML.finA {la lb out:List Keyed} {ia ib:Nat} (m:ML lt la lb out ia ib) (h:∀ x ∈ lb, ∀ y ∈ la.drop ia,lt y x = false):Res lt la lb (out ++ lb.drop ib ++ la.drop ia):=by
 refine ⟨?_, ?_⟩
 ·refine List.Perm.trans ?_ m.pm
  rw [List.append_assoc]
  exact List.Perm.append_left _ List.perm_append_comm
 ·obtain ⟨o1,o2,o3⟩:=List.pairwise_append.mp m.pa
  refine List.pairwise_append.mpr ⟨m.pb,o2,fun x hx y hy => ?_⟩
  rcases List.mem_append.mp hx with z | z
  ·exact o3 x z y hy
  ·exact h x (List.mem_of_mem_drop z) y hy
theorem ML.size {la lb out:List Keyed} {ia ib:Nat} (m:ML lt la lb out ia ib) (ha:ia <= la.length) (hb:ib <= lb.length):out.length = ia + ib:=by
 have:=m.pm.length_eq
 simp only [List.length_append,List.length_drop] at this
 omega
theorem aw {a:Array Keyed} {i:Nat} (h:i < a.size):∃ x,a[i]? = some x /\ a.toList[i]? = some x /\ x ∈ a.toList:=by
 refine ⟨a[i],Array.getElem?_eq_getElem h, ?_,Array.getElem_mem_toList h⟩
 rw [Array.getElem?_toList];exact Array.getElem?_eq_getElem h
theorem bF {a:Array Keyed} {i:Nat}:(a.extract i).toList = a.toList.drop i:=by
 rw [Array.toList_extract]
 simp only [List.extract]
 exact List.take_of_length_le (by simp)
theorem uR {a:Array Keyed} {i:Nat} {X Y:List Keyed} (e:a.toList.drop i = X ++ Y):(a.extract i (i + X.length)).toList = X:=by
 rw [Array.toList_extract]
 simp [List.extract,e]
theorem Same.refl {st:SortSt}:Same st st:=⟨rfl,rfl,rfl,rfl⟩
theorem Same.trans {a b c:SortSt} (h:Same a b) (g:Same b c):Same a c:=⟨g.arr.trans h.arr,g.kind.trans h.kind,g.pend.trans h.pend,g.fail.trans h.fail⟩
theorem iC {O Y A' B:List Keyed} (h1:Ord lt (A' ++ (Y ++ O))) (h2:Ord lt (B ++ O)) (h:∀ y ∈ Y, ∀ x ∈ B,lt y x = false):Ord lt (B ++ (Y ++ O)):=by
 obtain ⟨o1,o2,o3⟩:=List.pairwise_append.mp h1
 obtain ⟨p1,p2,p3⟩:=List.pairwise_append.mp h2
 refine List.pairwise_append.mpr ⟨p1,o2,fun x hx y hy => ?_⟩
 rcases List.mem_append.mp hy with z | z
 ·exact h y z x hx
 ·exact p3 x hx y z
structure MH (lt:Keyed -> Keyed -> Bool) (la lb out:List Keyed) (na nb:Nat):Prop where
 pa:Ord lt (la.take na ++ out.reverse)
 pb:Ord lt (lb.take nb ++ out.reverse)
 pm:(la.take na ++ lb.take nb ++ out.reverse).Perm (la ++ lb)
theorem lF (c:Cm prog w A s kd P lt) {l:List Keyed} {n:Nat} {x y:Keyed} (h:Ord lt (l.take n)) (hn : 0 < n) (hy:l[n - 1]? = some y) (hx:lt x y = false):∀ z ∈ l.take n,lt x z = false:=by
 intro z hz
 obtain ⟨i,hi,e⟩:=List.mem_iff_getElem.mp hz
 have hz':(l.take n)[i]? = some z:=by rw [<- e];exact List.getElem?_eq_getElem hi
 have hy':(l.take n)[n - 1]? = some y:=by rw [List.getElem?_take_of_lt (by omega)];exact hy
 rw [List.length_take] at hi
 by_cases hin:i = n - 1
 ·subst hin;rw [hy'] at hz';cases hz';exact hx
 ·exact c.le_trans (eJ h (by omega) hz' hy') hx
theorem cV {l X Y:List Keyed} {n:Nat} (e:l.take n = X ++ Y):l.take X.length = X:=by
 have h:X.length <= n:=by
  have:=congrArg List.length e
  simp only [List.length_take,List.length_append] at this;omega
 have h2:(l.take n).take X.length = X:=by rw [e,List.take_left]
 rw [List.take_take,Nat.min_eq_left h] at h2
 exact h2
theorem MH.galA (c:Cm prog w A s kd P lt) {la lb out X Y:List Keyed} {na nb:Nat} {y:Keyed} (m:MH lt la lb out na nb) (e:la.take na = X ++ Y) (hn : 0 < nb) (hy:lb[nb - 1]? = some y) (h:∀ x ∈ Y,lt x y = false):MH lt la lb (out ++ Y.reverse) X.length nb:=by
 have p2:=(List.pairwise_append.mp m.pb).1
 have h1:Ord lt (X ++ (Y ++ out.reverse)):=by rw [<- List.append_assoc, <- e];exact m.pa
 have q:=iC h1 m.pb fun x hx=>lF c p2 hn hy (h x hx)
 refine ⟨by rw [cV e];simpa using h1,by simpa using q, ?_⟩
 rw [cV e]
 refine List.Perm.trans ?_ m.pm
 rw [e]
 simp only [List.reverse_append,List.reverse_reverse,List.append_assoc]
 refine List.Perm.append_left _ ?_
 rw [<- List.append_assoc, <- List.append_assoc]
 exact List.Perm.append_right _ List.perm_append_comm
theorem MH.galB (c:Cm prog w A s kd P lt) {la lb out X Y:List Keyed} {na nb:Nat} {y:Keyed} (m:MH lt la lb out na nb) (e:lb.take nb = X ++ Y) (hn : 0 < na) (hy:la[na - 1]? = some y) (h:∀ x ∈ Y,lt x y = false):MH lt la lb (out ++ Y.reverse) na X.length:=by
 have p2:=(List.pairwise_append.mp m.pa).1
 have h1:Ord lt (X ++ (Y ++ out.reverse)):=by rw [<- List.append_assoc, <- e];exact m.pb
 have q:=iC h1 m.pa fun x hx=>lF c p2 hn hy (h x hx)
 refine ⟨by simpa using q,by rw [cV e];simpa using h1, ?_⟩
 rw [cV e]
 refine List.Perm.trans (List.Perm.of_eq ?_) m.pm
 rw [e];simp
theorem dW {l:List Keyed} {n:Nat} {x:Keyed} (hn : 0 < n) (h:l[n - 1]? = some x):l.take n = l.take (n - 1) ++ [x]:=by
 obtain ⟨k,rfl⟩:∃ k,n = k + 1:=⟨n - 1,by omega⟩
 rw [Nat.add_sub_cancel] at h ⊢
 rw [List.take_add_one,h];rfl
theorem lH {l:List Keyed} {n:Nat} {x:Keyed} (hn : 0 < n) (h:l[n - 1]? = some x):(l.take (n - 1)).length = n - 1:=by
 obtain ⟨hi,_⟩:=List.getElem?_eq_some_iff.mp h
 rw [List.length_take];omega
theorem MH.pushA (c:Cm prog w A s kd P lt) {la lb out:List Keyed} {na nb:Nat} {x y:Keyed} (m:MH lt la lb out na nb) (ha : 0 < na) (hb : 0 < nb) (hx:la[na - 1]? = some x) (hy:lb[nb - 1]? = some y) (h:lt x y = false):MH lt la lb (out ++ [x]) (na - 1) nb:=by
 have q:=m.galA c (dW ha hx) hb hy (by simpa using h)
 rw [lH ha hx] at q
 simpa using q
theorem MH.pushB (c:Cm prog w A s kd P lt) {la lb out:List Keyed} {na nb:Nat} {x y:Keyed} (m:MH lt la lb out na nb) (ha : 0 < na) (hb : 0 < nb) (hx:la[na - 1]? = some x) (hy:lb[nb - 1]? = some y) (h:lt y x = false):MH lt la lb (out ++ [y]) na (nb - 1):=by
 have q:=m.galB c (dW hb hy) ha hx (by simpa using h)
 rw [lH hb hy] at q
 simpa using q
theorem MH.fin {la lb out:List Keyed} {na nb:Nat} (m:MH lt la lb out na nb) (h:na = 0 ∨ nb = 0):Res lt la lb (la.take na ++ lb.take nb ++ out.reverse):=by
 refine ⟨m.pm, ?_⟩
 rcases h with rfl | rfl
 ·simpa using m.pb
 ·simpa using m.pa
theorem MH.finB {la lb out:List Keyed} {na nb:Nat} (m:MH lt la lb out na nb) (h:∀ x ∈ lb.take nb, ∀ y ∈ la,lt y x = false):Res lt la lb (lb.take nb ++ la.take na ++ out.reverse):=by
 refine ⟨List.Perm.trans (List.Perm.append_right _ List.perm_append_comm) m.pm, ?_⟩
 obtain ⟨o1,o2,o3⟩:=List.pairwise_append.mp m.pb
 rw [List.append_assoc]
 refine List.pairwise_append.mpr ⟨o1,m.pa,fun x hx y hy => ?_⟩
 rcases List.mem_append.mp hy with z | z
 ·exact h x hx y (List.mem_of_mem_take z)
 ·exact o3 x hx y z
theorem MH.size {la lb out:List Keyed} {na nb:Nat} (m:MH lt la lb out na nb) (ha:na <= la.length) (hb:nb <= lb.length):out.length + na + nb = la.length + lb.length:=by
 have:=m.pm.length_eq
 simp only [List.length_append,List.length_take,List.length_reverse] at this
 omega
theorem dk {a:Array Keyed}:a.toList.take a.size = a.toList:=List.take_of_length_le (by simp)
theorem bb {a:Array Keyed} {i:Nat}:(a.extract 0 i).toList = a.toList.take i:=by
 rw [Array.toList_extract];simp [List.extract]
theorem rV {a:Array Keyed} {n:Nat} {X Y:List Keyed} (e:a.toList.take n = X ++ Y):(a.extract X.length n).toList = Y:=by
 rw [Array.toList_extract]
 simp only [List.extract]
 rw [<- List.drop_take,e,List.drop_left]
theorem rW:∀ (m old L R:List Keyed) (a:Array Keyed),a.toList = L ++ old ++ R -> m.length = old.length -> (List.foldl (fun a x=>a.setIfInBounds (L.length + x.snd) x.fst) a m.zipIdx).toList = L ++ m ++ R:=by
 have g:∀ (m old L R:List Keyed) (k:Nat) (a:Array Keyed),a.toList = L ++ old ++ R -> m.length = old.length -> ∀ b:Nat,b + k = L.length -> (List.foldl (fun a x=>a.setIfInBounds (b + x.snd) x.fst) a (m.zipIdx k)).toList = L ++ m ++ R:=by
  intro m
  induction m with
  | nil =>
    intro old L R k a e h b hb
    have:old = []:=List.length_eq_zero_iff.mp h.symm
    subst this
    simpa using e
  | cons x m ih =>
    intro old L R k a e h b hb
    cases old with
    | nil=>simp at h
    | cons y old =>
      rw [List.zipIdx_cons,List.foldl_cons]
      have e2:(a.setIfInBounds (b + k) x).toList = (L ++ [x]) ++ old ++ R:=by
       rw [Array.toList_setIfInBounds,e,hb]
       simp
      have:=ih old (L ++ [x]) R (k + 1) _ e2 (by simpa using h) b (by simp;omega)
      rw [this];simp
 exact fun m old L R a e h=>g m old L R 0 a e h L.length (by omega)
theorem ag {σ α:Type} {M:Model} {p:Prop} [Decidable p] {m1 m2:StateT σ Sem α} {st : σ} {Q : α -> σ -> Prop} (h1:p -> wpS M A E s m1 Q st) (h2 : ¬p -> wpS M A E s m2 Q st):wpS M A E s (if p then m1 else m2) Q st:=by
 split
 ·next h=>exact h1 h
 ·next h=>exact h2 h
theorem ML.cut {a out:Array Keyed} {la lb X Y:List Keyed} {i j n:Nat} (m:ML lt la lb (out.toList ++ X) i j) (e:a.toList.drop n = X ++ Y):ML lt la lb (out ++ a.extract n (n + X.length)).toList i j:=by
 rw [Array.toList_append,uR e];exact m
theorem MH.cut {a out:Array Keyed} {la lb X Y:List Keyed} {i j n:Nat} (m:MH lt la lb (out.toList ++ Y.reverse) i j) (e:a.toList.take n = X ++ Y):MH lt la lb (out ++ (a.extract X.length n).reverse).toList i j:=by
 rw [Array.toList_append,Array.toList_reverse,rV e];exact m
theorem pP {σ α:Type} {M:Model} {m:StateT σ Sem α} {st : σ} {Q : α -> σ -> Prop} {P : σ -> Prop} (hp:P st) (h:∀ st',P st' -> wpS M A E s m Q st'):wpS M A E s m Q st:=h st hp
theorem tE {σ α:Type} {M:Model} {m:StateT σ Sem α} {st : σ} {Q : α -> σ -> Prop} (h:∀ Q' : α -> σ -> Prop,(∀ a st',Q a st' -> Q' a st') -> wpS M A E s m Q' st):wpS M A E s m Q st:=h Q fun _ _ h=>h
theorem tF {key x:Keyed} (h:bey lt false key x = true):lt key x = false:=by simpa [bey] using h
theorem pQ {key x:Keyed} (h:bey lt false key x = false):lt key x = true:=by simpa [bey] using h
theorem tG {key x:Keyed} (h:bey lt true key x = true):lt x key = true:=by simpa [bey] using h
theorem pR {key x:Keyed} (h:bey lt true key x = false):lt x key = false:=by simpa [bey] using h
theorem jS {l X Y:List Keyed} {i:Nat} {x:Keyed} (e:l.drop i = X ++ Y) (h:l[i + X.length]? = some x):x ∈ Y:=by
 rw [<- cU e,dU h];simp
theorem jT {l X Y:List Keyed} {n:Nat} {x:Keyed} (e:l.take n = X ++ Y) (h0 : 0 < X.length) (h:l[X.length - 1]? = some x):x ∈ X:=by
 have:=dW h0 h
 rw [cV e] at this
 rw [this];simp
theorem jU {a:Array Keyed} {X Y:List Keyed} {i:Nat} (e:a.toList.drop i = X ++ Y):X.length <= a.size - i:=by
 have:=congrArg List.length e
 simp at this;omega
theorem iD {a:Array Keyed} {X Y:List Keyed} {n:Nat} (e:a.toList.take n = X ++ Y) (h:n <= a.size):X.length + Y.length = n:=by
 have:=congrArg List.length e
 simp at this;omega
theorem dX {a:Array Keyed} {n:Nat} (h:n <= a.size):n = (a.toList.take n).length:=by simp;omega
theorem ML.finR {a b out:Array Keyed} {ia ib:Nat} (m:ML lt a.toList b.toList out.toList ia ib) (h:b.size <= ib):Res lt a.toList b.toList (out ++ a.extract ia ++ b.extract ib).toList:=by
 have:=m.fin (by simpa using h)
 simpa only [Array.toList_append,bF] using this
theorem ML.finS {a b out:Array Keyed} {ia ib:Nat} (m:ML lt a.toList b.toList out.toList ia ib) (h:a.size <= ia):Res lt a.toList b.toList (out ++ a.extract ia ++ b.extract ib).toList:=by
 have:=m.finE (by simpa using h)
 simpa only [Array.toList_append,bF] using this
theorem ML.finL {a b out:Array Keyed} {ia ib:Nat} (m:ML lt a.toList b.toList out.toList ia ib) (h:∀ x ∈ b.toList, ∀ y ∈ a.toList.drop ia,lt y x = false):Res lt a.toList b.toList (out ++ b.extract ib ++ a.extract ia).toList:=by
 have:=m.finA h
 simpa only [Array.toList_append,bF] using this
theorem MH.finR {a b out:Array Keyed} {na nb:Nat} (m:MH lt a.toList b.toList out.toList na nb) (h:∀ x ∈ b.toList.take nb, ∀ y ∈ a.toList,lt y x = false):Res lt a.toList b.toList (b.extract 0 nb ++ a.extract 0 na ++ out.reverse).toList:=by
 have:=m.finB h
 simpa only [Array.toList_append,Array.toList_reverse,bb] using this
theorem MH.finL {a b out:Array Keyed} {na nb:Nat} (m:MH lt a.toList b.toList out.toList na nb) (h:na = 0 ∨ nb = 0):Res lt a.toList b.toList (a.extract 0 na ++ b.extract 0 nb ++ out.reverse).toList:=by
 have:=m.fin h
 simpa only [Array.toList_append,Array.toList_reverse,bb] using this
theorem zM (c:Cm prog w A s kd P lt) :
 ∃ (g:xt) (lo hi:xu),(fi prog w A E s kd P lt g /\ (fi prog w A E s kd P lt g -> fj prog w A E s kd P lt lo) /\ (fi prog w A E s kd P lt g -> fj prog w A E s kd P lt hi)) /\ (fi prog w A E s kd P lt g -> fj prog w A E s kd P lt lo -> fj prog w A E s kd P lt hi ->
  ∀ (i sa na pa sb nb pb:Nat) (L r1 r2 R:List Keyed) (st:SortSt) (Q:Bool -> SortSt -> Prop),kindOf st = kd -> failedOf st = none -> (pendingOf st)[i]? = some (sa,na,pa) -> (pendingOf st)[i + 1]? = some (sb,nb,pb) ->
   (arrOf st).toList = L ++ (r1 ++ r2) ++ R -> sa = L.length -> na = r1.length -> sb = L.length + r1.length -> nb = r2.length -> r1 ≠ [] -> r2 ≠ [] -> (∀ x ∈ r1,P x) -> (∀ x ∈ r2,P x) -> Ord lt r1 -> Ord lt r2 ->
   (∀ m st',(arrOf st').toList = L ++ m ++ R -> m.Perm (r1 ++ r2) -> Ord lt m -> kindOf st' = kd -> failedOf st' = none -> pendingOf st' = ((pendingOf st).setIfInBounds i (sa,na + nb,pa)).eraseIdxIfInBounds (i + 1) -> Q true st') ->
   wpS (PySem.model prog w) A E s (mergeAt' i) Q st):=by
 apply Exists.intro
 apply Exists.intro
 apply Exists.intro
 apply And.intro
 rotate_left
 ·intro hg hlo hhi i sa na pa sb nb pb L r1 r2 R st Q hk hf h1 h2 harr hsa hna hsb hnb hr1 hr2 hP1 hP2 o1 o2 q
  unfold mergeAt'
  refine wpS_bind (wpS_get ?_)
  rw [h1,h2]
  dsimp only
  refine wpS_bind (uQ ?_)
  obtain ⟨y0,t2,rfl⟩:∃ y t,r2 = y :: t:=by cases r2 with | nil=>exact absurd rfl hr2 | cons y t=>exact ⟨y,t,rfl⟩
  have hz:(arrOf st)[sb]? = some y0:=by
   rw [<- Array.getElem?_toList,harr,hsb];simp
  refine wpS_bind (ay hz ?_)
  refine wpS_bind (hg false y0 (arrOf st) L r1 (y0 :: t2 ++ R) sa na 0 _ _ hk (hP2 _ (by simp)) (by rw [harr];simp) hsa hna hP1 (by rw [hna];exact List.length_pos_iff.mpr hr1) o1 fun X Y e hX hY => ?_)
  dsimp only
  have lX:∀ x ∈ X,lt y0 x = false:=fun x hx=>by have:=hX x hx;simpa [bey] using this
  have lY:∀ x ∈ Y,lt x y0 = false:=fun x hx=>c.asym _ _ (by have:=hY x hx;simpa [bey] using this)
  have hlen:na - X.length = Y.length:=by rw [hna,e];simp
  subst e
  obtain ⟨oX,oY,oXY⟩:=List.pairwise_append.mp o1
  have oy:=List.pairwise_cons.mp o2
  have lX2:∀ x ∈ X, ∀ z ∈ y0 :: t2,lt z x = false:=fun x hx z hz=>by
   rcases List.mem_cons.mp hz with h | h
   ·rw [h];exact lX x hx
   ·exact c.le_trans (lX x hx) (oy.1 z h)
  refine ag (fun h => ?_) (fun h => ?_)
  ·have hY0:Y = []:=List.length_eq_zero_iff.mp (by rw [<- hlen];simpa using h)
   subst hY0
   refine aa (q (X ++ (y0 :: t2)) _ (by simpa using harr) (by simp) ?_ hk hf rfl)
   exact List.pairwise_append.mpr ⟨oX,o2,lX2⟩
  ·have hY0 : 0 < Y.length:=by
    have:na - X.length ≠ 0:=by simpa using h
    omega
   obtain ⟨Y0,xl,rfl⟩:∃ Y0 xl,Y = Y0 ++ [xl]:=⟨Y.dropLast,Y.getLast (by intro z;rw [z] at hY0;simp at hY0),(List.dropLast_concat_getLast _).symm⟩
   have hz1:(arrOf st)[sa + X.length + (na - X.length) - 1]? = some xl:=by
    rw [<- Array.getElem?_toList,harr,hlen,hsa]
    simp only [List.append_assoc,List.length_append,List.length_singleton]
    rw [List.getElem?_append_right (by omega),List.getElem?_append_right (by omega),List.getElem?_append_right (by omega)]
    rw [show L.length + X.length + (Y0.length + 1) - 1 - L.length - X.length - Y0.length = 0 by omega];rfl
   refine wpS_bind (ay hz1 ?_)
   refine wpS_bind (hg true xl (arrOf st) (L ++ (X ++ (Y0 ++ [xl]))) (y0 :: t2) R sb nb (nb - 1) _ _ hk (hP1 _ (by simp)) (by rw [harr];simp) (by rw [hsb];simp) hnb hP2 (by rw [hnb];simp) o2 fun X2 Y2 e2 hX2 hY2 => ?_)
   dsimp only
   have lX3:∀ x ∈ X2,lt xl x = false:=fun x hx=>c.asym _ _ (by have:=hX2 x hx;simpa [bey] using this)
   have lY3:∀ x ∈ Y2,lt x xl = false:=fun x hx=>by have:=hY2 x hx;simpa [bey] using this
   have o2':Ord lt (X2 ++ Y2):=by rw [<- e2];exact o2
   obtain ⟨oX2,oY2,oXY2⟩:=List.pairwise_append.mp o2'
   obtain ⟨oY0,_,oYl⟩:=List.pairwise_append.mp oY
   have lYY:∀ x ∈ Y0 ++ [xl], ∀ z ∈ Y2,lt z x = false:=fun x hx z hz=>by
    rcases List.mem_append.mp hx with h | h
    ·exact c.le_trans (oYl x h xl (by simp)) (lY3 z hz)
    ·simp at h;subst h;exact lY3 z hz
   refine ag (fun h => ?_) (fun h => ?_)
   ·have hX0:X2 = []:=List.length_eq_zero_iff.mp (by simpa using h)
    subst hX0
    have e2:y0 :: t2 = Y2:=by simpa using e2
    refine aa (q (X ++ (Y0 ++ [xl]) ++ (y0 :: t2)) _ (by simpa using harr) (List.Perm.refl _) ?_ hk hf rfl)
    refine List.pairwise_append.mpr ⟨o1,o2,fun x hx z hz => ?_⟩
    rcases List.mem_append.mp hx with g | g
    ·exact lX2 x g z hz
    ·exact lYY x g z (by rw [<- e2];exact hz)
   ·have hX0:X2 ≠ []:=fun z=>h (by rw [z];rfl)
    have hx:((arrOf st).extract (sa + X.length) sb).toList = Y0 ++ [xl]:=by
     rw [Array.toList_extract,harr,hsa,hsb]
     simp only [List.extract]
     have e1:(L ++ (X ++ (Y0 ++ [xl]) ++ y0 :: t2) ++ R).drop (L.length + X.length) = (Y0 ++ [xl]) ++ (y0 :: t2 ++ R):=by
      rw [<- List.drop_drop];simp
     rw [e1,show L.length + (X ++ (Y0 ++ [xl])).length - (L.length + X.length) = (Y0 ++ [xl]).length by simp only [List.length_append];omega,List.take_left]
    have hy:((arrOf st).extract sb (sb + X2.length)).toList = X2:=by
     rw [Array.toList_extract,harr,hsb]
     simp only [List.extract]
     have e1:(L ++ (X ++ (Y0 ++ [xl]) ++ y0 :: t2) ++ R).drop (L.length + (X ++ (Y0 ++ [xl])).length) = (y0 :: t2) ++ R:=by
      rw [<- List.drop_drop];simp
     rw [e1,e2]
     simp
    have hfin:∀ (r:Array Keyed) (st2:SortSt),r.toList.Perm ((Y0 ++ [xl]) ++ X2) -> Ord lt r.toList -> Same (PyProof.Rows.SortSt.mk' (kindOf st) (arrOf st) (((pendingOf st).setIfInBounds i (sa,na + nb,pa)).eraseIdxIfInBounds (i + 1)) (gallopOf st) (failedOf st)) st2 -> ∀ st3:SortSt,arrOf st3 = List.foldl (fun a x=>a.setIfInBounds (sa + X.length + x.snd) x.fst) (arrOf st2) r.toList.zipIdx -> kindOf st3 = kindOf st2 -> failedOf st3 = failedOf st2 -> pendingOf st3 = pendingOf st2 -> Q (failedOf st3).isNone st3:=by
     intro r st2 hp ho hs st3 g1 g2 g3 g4
     have hfl:failedOf st3 = none:=g3.trans (hs.fail.trans hf)
     rw [hfl]
     refine q (X ++ r.toList ++ Y2) st3 ?_ ?_ ?_ (g2.trans (hs.kind.trans hk)) hfl (g4.trans hs.pend)
     ·rw [g1,hs.arr]
      have e3:(arrOf st).toList = (L ++ X) ++ ((Y0 ++ [xl]) ++ X2) ++ (Y2 ++ R):=by
       rw [harr,e2];simp
      rw [show sa + X.length = (L ++ X).length by rw [hsa];simp]
      rw [rW _ _ _ _ _ e3 (hp.length_eq)]
      simp
     ·rw [e2]
      refine List.Perm.trans (List.Perm.append_right _ (List.Perm.append_left _ hp)) ?_
      simp
     ·refine List.pairwise_append.mpr ⟨List.pairwise_append.mpr ⟨oX,ho,fun x hx z hz => ?_⟩,oY2,fun x hx z hz => ?_⟩
      ·rcases List.mem_append.mp (hp.mem_iff.mp hz) with g | g
       ·exact oXY x hx z g
       ·exact lX2 x hx z (by rw [e2];exact List.mem_append_left _ g)
      ·rcases List.mem_append.mp hx with g | g
       ·exact lX2 x g z (by rw [e2];exact List.mem_append_right _ hz)
       ·rcases List.mem_append.mp (hp.mem_iff.mp g) with g | g
        ·exact lYY x g z hz
        ·exact oXY2 x g z hz
    have pre0:∀ x y,((arrOf st).extract (sa + X.length) sb)[0]? = some x -> ((arrOf st).extract sb (sb + X2.length))[0]? = some y -> lt x y = false:=by
     intro x y hx0 hy0
     rw [<- Array.getElem?_toList,hx] at hx0
     rw [<- Array.getElem?_toList,hy] at hy0
     have hxm:=List.mem_of_getElem? hx0
     have:y = y0:=by
      cases X2 with
      | nil=>exact absurd rfl hX0
      | cons z t=>simp at e2 hy0;rw [<- hy0, <- e2.1]
     subst this
     exact lY x hxm
    have preL:∀ x y,((arrOf st).extract (sa + X.length) sb)[((arrOf st).extract (sa + X.length) sb).size - 1]? = some x -> ((arrOf st).extract sb (sb + X2.length))[((arrOf st).extract sb (sb + X2.length)).size - 1]? = some y -> lt x y = false:=by
     intro x y hx0 hy0
     rw [<- Array.getElem?_toList, <- Array.length_toList,hx] at hx0
     rw [<- Array.getElem?_toList, <- Array.length_toList,hy] at hy0
     have hym:=List.mem_of_getElem? hy0
     have:x = xl:=by simp at hx0;exact hx0.symm
     subst this
     exact lX3 y hym
    have sz1 : 0 < ((arrOf st).extract (sa + X.length) sb).size:=by rw [<- Array.length_toList,hx];simp
    have sz2 : 0 < ((arrOf st).extract sb (sb + X2.length)).size:=by rw [<- Array.length_toList,hy];exact List.length_pos_iff.mpr hX0
    have pa1:∀ x ∈ ((arrOf st).extract (sa + X.length) sb).toList,P x:=by rw [hx];exact fun x hx=>hP1 x (List.mem_append_right _ hx)
    have pa2:∀ x ∈ ((arrOf st).extract sb (sb + X2.length)).toList,P x:=by rw [hy];exact fun x hx=>hP2 x (by rw [e2];exact List.mem_append_left _ hx)
    have or1:Ord lt ((arrOf st).extract (sa + X.length) sb).toList:=by rw [hx];exact oY
    have or2:Ord lt ((arrOf st).extract sb (sb + X2.length)).toList:=by rw [hy];exact oX2
    refine ag (fun h => ?_) (fun h => ?_)
    ·refine wpS_bind (hlo _ _ _ _ hk pa1 pa2 sz1 sz2 or1 or2 pre0 preL fun r st2 hp ho hs => ?_)
     rw [hx,hy] at hp
     refine wpS_bind (wpS_modify ?_)
     refine wpS_bind (wpS_get ?_)
     exact aa (hfin r st2 hp ho hs _ rfl rfl rfl rfl)
    ·refine wpS_bind (hhi _ _ _ _ hk pa1 pa2 sz1 sz2 or1 or2 pre0 preL fun r st2 hp ho hs => ?_)
     rw [hx,hy] at hp
     refine wpS_bind (wpS_modify ?_)
     refine wpS_bind (wpS_get ?_)
     exact aa (hfin r st2 hp ho hs _ rfl rfl rfl rfl)
 apply And.intro
 ·intro left key arr L xs R base n aI st Q hk hkey harr hbase hn hP hh hs q
  subst hbase hn
  have at_:∀ i,i < xs.length -> ∃ x,xs[i]? = some x /\ arr[L.length + i]? = some x /\ P x:=by
   intro i hi
   refine ⟨xs[i],List.getElem?_eq_getElem hi, ?_,hP _ (List.getElem_mem _)⟩
   rw [<- Array.getElem?_toList,harr,List.append_assoc,List.getElem?_append_right (by omega),List.getElem?_append_left (by omega)]
   rw [show L.length + i - L.length = i by omega]
   exact List.getElem?_eq_getElem hi
  obtain ⟨x0,hx0,ha0,hp0⟩:=at_ aI hh
  refine wpS_bind (eI c hk hkey hp0 ha0 ?_)
  try dsimp only
  refine ag (fun hb => ?_) (fun hb => ?_)
  ·skip
   refine wpS_bind (bu (Q:=fun r st'=>st' = st /\ ∃ la ofs,r = (none,la,ofs) /\ aI + la < xs.length /\ la < ofs /\ (∀ j x,j < aI + la + 1 -> xs[j]? = some x -> bey lt left key x = true) /\ (xs.length <= aI + ofs ∨ ∀ j x,aI + ofs <= j -> xs[j]? = some x -> bey lt left key x = false))
    (wpS_forRange (fun i r st'=>st' = st /\ ∃ la ofs,r = (none,la,ofs) /\ aI + la < xs.length /\ la < ofs /\ i + 1 <= ofs /\ (∀ j x,j < aI + la + 1 -> xs[j]? = some x -> bey lt left key x = true)) ?_ ?_ ⟨rfl,0,1,rfl,hh,by omega,by omega,gC c hs hx0 hb⟩) ?_)
   ·rintro i r st' _ hi ⟨rfl,la,ofs,rfl,h1,h2,h3,h4⟩
    try dsimp only
    refine ag (fun hge => ?_) (fun hge => ?_)
    ·exact aa ⟨rfl,la,ofs,rfl,h1,h2,h4, .inl (by omega)⟩
    ·skip
     obtain ⟨x1,hx1,ha1,hp1⟩:=at_ (aI + ofs) (by omega)
     refine wpS_bind (eI c hk hkey hp1 ha1 ?_)
     try dsimp only
     refine ag (fun hf => ?_) (fun hf => ?_)
     ·exact aa ⟨rfl,la,ofs,rfl,h1,h2,h4, .inr (gD c hs hx1 (by simpa using hf))⟩
     ·exact aa ⟨rfl,ofs,2 * ofs + 1,rfl,by omega,by omega,by omega,gC c hs hx1 (by simpa using hf)⟩
   ·rintro r st' ⟨rfl,la,ofs,rfl,h1,h2,h3,h4⟩
    exact ⟨rfl,la,ofs,rfl,h1,h2,h4, .inl (by omega)⟩
   ·rintro r st' ⟨rfl,la,ofs,rfl,h1,h2,h3,h4⟩
    try dsimp only
    have hG:Gal lt left key xs (aI + la + 1) (aI + min ofs (xs.length - aI)):=by
     refine ⟨by omega,by omega,h3,fun i x hi hx => ?_⟩
     have hi2:i < xs.length:=(List.getElem?_eq_some_iff.mp hx).1
     rcases h4 with h4 | h4
     ·omega
     ·exact h4 i x (by omega) hx
    generalize aI + la + 1 = lo at hG
    generalize aI + min ofs (xs.length - aI) = hi at hG
    refine wpS_bind (bu (Q:=fun r st''=>st'' = st' /\ ∃ k,r = (none,k,k) /\ Gal lt left key xs k k)
     (wpS_forRange (fun i r st''=>st'' = st' /\ ∃ lo hi,r = (none,lo,hi) /\ Gal lt left key xs lo hi /\ hi - lo + i <= xs.length) ?_ ?_ ⟨rfl,lo,hi,rfl,hG,by have:=hG.len;omega⟩) ?_)
    ·rintro i r st'' _ hi ⟨rfl,lo,hi,rfl,hG,hm⟩
     try dsimp only
     have hl:=hG.le
     have hl2:=hG.len
     refine ag (fun hge => ?_) (fun hge => ?_)
     ·exact aa ⟨rfl,hi,by rw [show lo = hi by omega],by rw [show lo = hi by omega] at hG;exact hG⟩
     ·skip
      obtain ⟨x1,hx1,ha1,hp1⟩:=at_ (lo + (hi - lo) / 2) (by omega)
      refine wpS_bind (eI c hk hkey hp1 ha1 ?_)
      try dsimp only
      refine ag (fun hf => ?_) (fun hf => ?_)
      ·exact aa ⟨rfl,_,_,rfl,⟨by omega,hl2,gC c hs hx1 hf,hG.dn⟩,by omega⟩
      ·exact aa ⟨rfl,_,_,rfl,⟨by omega,by omega,hG.up,gD c hs hx1 (by simpa using hf)⟩,by omega⟩
    ·rintro r st'' ⟨rfl,lo,hi,rfl,hG,hm⟩
     have hl:=hG.le
     exact ⟨rfl,hi,by rw [show lo = hi by omega],by rw [show lo = hi by omega] at hG;exact hG⟩
    ·rintro r st'' ⟨rfl,k,rfl,hG⟩
     obtain ⟨X,Y,e,hl,hX,hY⟩:=hG.out
     subst hl
     exact aa (q X Y e hX hY)
  ·skip
   refine wpS_bind (bu (Q:=fun r st'=>st' = st /\ ∃ la ofs,r = (none,la,ofs) /\ la <= aI /\ la < ofs /\ (∀ j x,aI - la <= j -> xs[j]? = some x -> bey lt left key x = false) /\ (aI < ofs ∨ ∀ j x,j < aI - ofs + 1 -> xs[j]? = some x -> bey lt left key x = true))
    (wpS_forRange (fun i r st'=>st' = st /\ ∃ la ofs,r = (none,la,ofs) /\ la <= aI /\ la < ofs /\ i + 1 <= ofs /\ (∀ j x,aI - la <= j -> xs[j]? = some x -> bey lt left key x = false)) ?_ ?_ ⟨rfl,0,1,rfl,by omega,by omega,by omega,gD c hs hx0 (by simpa using hb)⟩) ?_)
   ·rintro i r st' _ hi ⟨rfl,la,ofs,rfl,h1,h2,h3,h4⟩
    try dsimp only
    refine ag (fun hge => ?_) (fun hge => ?_)
    ·exact aa ⟨rfl,la,ofs,rfl,h1,h2,h4, .inl (by omega)⟩
    ·skip
     obtain ⟨x1,hx1,ha1,hp1⟩:=at_ (aI - ofs) (by omega)
     refine wpS_bind (eI c hk hkey hp1 ha1 ?_)
     try dsimp only
     refine ag (fun hf => ?_) (fun hf => ?_)
     ·exact aa ⟨rfl,la,ofs,rfl,h1,h2,h4, .inr (gC c hs hx1 hf)⟩
     ·exact aa ⟨rfl,ofs,2 * ofs + 1,rfl,by omega,by omega,by omega,gD c hs hx1 (by simpa using hf)⟩
   ·rintro r st' ⟨rfl,la,ofs,rfl,h1,h2,h3,h4⟩
    exact ⟨rfl,la,ofs,rfl,h1,h2,h4, .inl (by omega)⟩
   ·rintro r st' ⟨rfl,la,ofs,rfl,h1,h2,h3,h4⟩
    try dsimp only
    have hG:Gal lt left key xs (aI + 1 - min ofs (aI + 1)) (aI - la):=by
     refine ⟨by omega,by omega,fun i x hi hx => ?_,h3⟩
     rcases h4 with h4 | h4
     ·omega
     ·exact h4 i x (by omega) hx
    generalize aI + 1 - min ofs (aI + 1) = lo at hG
    generalize aI - la = hi at hG
    refine wpS_bind (bu (Q:=fun r st''=>st'' = st' /\ ∃ k,r = (none,k,k) /\ Gal lt left key xs k k)
     (wpS_forRange (fun i r st''=>st'' = st' /\ ∃ lo hi,r = (none,lo,hi) /\ Gal lt left key xs lo hi /\ hi - lo + i <= xs.length) ?_ ?_ ⟨rfl,lo,hi,rfl,hG,by have:=hG.len;omega⟩) ?_)
    ·rintro i r st'' _ hi ⟨rfl,lo,hi,rfl,hG,hm⟩
     try dsimp only
     have hl:=hG.le
     have hl2:=hG.len
     refine ag (fun hge => ?_) (fun hge => ?_)
     ·exact aa ⟨rfl,hi,by rw [show lo = hi by omega],by rw [show lo = hi by omega] at hG;exact hG⟩
     ·skip
      obtain ⟨x1,hx1,ha1,hp1⟩:=at_ (lo + (hi - lo) / 2) (by omega)
      refine wpS_bind (eI c hk hkey hp1 ha1 ?_)
      try dsimp only
      refine ag (fun hf => ?_) (fun hf => ?_)
      ·exact aa ⟨rfl,_,_,rfl,⟨by omega,hl2,gC c hs hx1 hf,hG.dn⟩,by omega⟩
      ·exact aa ⟨rfl,_,_,rfl,⟨by omega,by omega,hG.up,gD c hs hx1 (by simpa using hf)⟩,by omega⟩
    ·rintro r st'' ⟨rfl,lo,hi,rfl,hG,hm⟩
     have hl:=hG.le
     exact ⟨rfl,hi,by rw [show lo = hi by omega],by rw [show lo = hi by omega] at hG;exact hG⟩
    ·rintro r st'' ⟨rfl,k,rfl,hG⟩
     obtain ⟨X,Y,e,hl,hX,hY⟩:=hG.out
     subst hl
     exact aa (q X Y e hX hY)
 apply And.intro
 ·intro hg a b st Q hk hPa hPb h0a h0b sa sb hfst hlst q
  refine wpS_bind (dS ?_)
  obtain ⟨b0,hb0,hb0',hb0m⟩:=aw h0b
  obtain ⟨a0,ha0,ha0',ha0m⟩:=aw h0a
  refine wpS_bind (ay hb0 ?_)
  have m0:ML lt a.toList b.toList [] 0 0:=⟨sa,sb,by simp⟩
  have m1:ML lt a.toList b.toList [b0] 0 1:=m0.pushB c ha0' hb0' (hfst a0 b0 ha0 hb0)
  have hlast:∀ x ∈ b.toList, ∀ (i:Nat),i + 1 = a.size -> ∀ y ∈ a.toList.drop i,lt y x = false:=by
   intro x hx i hi y hy
   obtain ⟨aL,haL,haL',_⟩:=aw (a:=a) (i:=i) (by omega)
   obtain ⟨bL,hbL,hbL',_⟩:=aw (a:=b) (i:=b.size - 1) (by omega)
   have e:a.toList.drop i = [aL]:=by
    rw [dU haL',List.drop_eq_nil_of_le (by simp;omega)];rfl
   rw [e] at hy
   simp at hy;subst hy
   have hl:=hlst y bL (by rw [show a.size - 1 = i by omega];exact haL) hbL
   obtain ⟨j,hj,e⟩:=List.mem_iff_getElem.mp hx
   have hj':b.toList[j]? = some x:=by rw [<- e];exact List.getElem?_eq_getElem hj
   by_cases hjb:j = b.size - 1
   ·subst hjb;rw [hbL'] at hj';cases hj';exact hl
   ·have:=eJ sb (show j < b.size - 1 by simp at hj;omega) hj' hbL'
    exact c.le_trans this hl
  try dsimp -zeta -zetaHave -zetaUnused only
  refine ag (fun h => ?_) (fun h => ?_)
  ·skip
   have h : 1 = b.size:=by simpa using h
   refine aa ?_
   have r:=m1.fin (by simp;omega)
   exact q _ _ (by simpa only [Array.toList_append,Array.toList_push,List.toList_toArray,bF] using r.1) (by simpa only [Array.toList_append,Array.toList_push,List.toList_toArray,bF] using r.2) Same.refl
  ·skip
   refine ag (fun h2 => ?_) (fun h2 => ?_)
   ·skip
    have h2 : 0 + 1 = a.size:=by simpa using h2
    refine aa ?_
    have r:=m1.finA (hlast · · 0 h2)
    exact q _ _ (by simpa only [Array.toList_append,Array.toList_push,List.toList_toArray,bF] using r.1) (by simpa only [Array.toList_append,Array.toList_push,List.toList_toArray,bF] using r.2) Same.refl
   ·skip
    have h : 1 ≠ b.size:=by simpa using h
    have h2 : 0 + 1 ≠ a.size:=by simpa using h2
    refine wpS_bind (wpS_get ?_)
    try dsimp -zeta -zetaHave -zetaUnused only
    refine wpS_bind (bu (Q:=fun r st'=>Same st st' /\ ∃ res t,r = (some res,t) /\ Res lt a.toList b.toList res.toList)
     (wpS_forRange (fun i r st'=>Same st st' /\ ∃ out ia ib mg,r = (none,out,ia,ib,mg) /\ ML lt a.toList b.toList out.toList ia ib /\ ia + 1 < a.size /\ ib < b.size /\ i + 1 <= out.size) ?_ ?_ ⟨Same.refl,_,_,_,_,rfl,m1,by omega,by omega,by simp⟩) ?_)
    ·rintro i r st1 _ hi ⟨sm,out,ia,ib,mg,rfl,m,hia,hib,hsz⟩
     try dsimp -zeta -zetaHave -zetaUnused only
     refine wpS_bind (bu (Q:=fun r st'=>st' = st1 /\ ((∃ out2 ia2 ib2 ac bc,r = (none,out2,ia2,ib2,ac,bc) /\ ML lt a.toList b.toList out2.toList ia2 ib2 /\ ia2 + 1 < a.size /\ ib2 < b.size /\ i + 2 <= out2.size) ∨ ∃ res t,r = (some res,t) /\ Res lt a.toList b.toList res.toList))
      (wpS_forRange (fun j r st'=>st' = st1 /\ ∃ out2 ia2 ib2 ac bc,r = (none,out2,ia2,ib2,ac,bc) /\ ML lt a.toList b.toList out2.toList ia2 ib2 /\ ia2 + 1 < a.size /\ ib2 < b.size /\ i + 1 + j <= out2.size) ?_ ?_ ⟨rfl,_,_,_,_,_,rfl,m,hia,hib,by omega⟩) ?_)
     ·rintro j r st2 _ hj ⟨rfl,out2,ia2,ib2,ac,bc,rfl,m2,h1,h2,h3⟩
      try dsimp only
      obtain ⟨y,hy,hy',hym⟩:=aw (a:=b) h2
      obtain ⟨x,hx,hx',hxm⟩:=aw (a:=a) (i:=ia2) (by omega)
      refine wpS_bind (ay hy (wpS_bind (ay hx (wpS_bind (jd c (sm.kind.trans hk) (hPb _ hym) (hPa _ hxm) ?_)))))
      try dsimp only
      refine ag (fun hl => ?_) (fun hl => ?_)
      ·skip
       refine wpS_bind (ay hy ?_)
       try dsimp only
       have m3:=m2.pushB c hx' hy' (c.asym _ _ hl)
       refine ag (fun h => ?_) (fun h => ?_)
       ·skip
        have h:ib2 + 1 = b.size:=by simpa using h
        exact aa ⟨rfl, .inr ⟨_,_,rfl,by simpa only [Array.toList_append,Array.toList_push,List.toList_toArray,bF] using m3.fin (by simp;omega)⟩⟩
       ·skip
        have h:ib2 + 1 ≠ b.size:=by simpa using h
        refine ag (fun _ => ?_) (fun _ => ?_)
        ·exact aa ⟨rfl, .inl ⟨_,_,_,_,_,rfl,by simpa only [Array.toList_append,Array.toList_push] using m3,h1,by omega,by simp;omega⟩⟩
        ·exact aa ⟨rfl,_,_,_,_,_,rfl,by simpa only [Array.toList_append,Array.toList_push] using m3,h1,by omega,by simp;omega⟩
      ·skip
       refine wpS_bind (ay hx ?_)
       try dsimp only
       have m3:=m2.pushA c hx' hy' (by simpa using hl)
       refine ag (fun h => ?_) (fun h => ?_)
       ·skip
        have h:ia2 + 1 + 1 = a.size:=by simpa using h
        exact aa ⟨rfl, .inr ⟨_,_,rfl,by simpa only [Array.toList_append,Array.toList_push,List.toList_toArray,bF] using m3.finA (hlast · · _ h)⟩⟩
       ·skip
        have h:ia2 + 1 + 1 ≠ a.size:=by simpa using h
        refine ag (fun _ => ?_) (fun _ => ?_)
        ·exact aa ⟨rfl, .inl ⟨_,_,_,_,_,rfl,by simpa only [Array.toList_append,Array.toList_push] using m3,by omega,h2,by simp;omega⟩⟩
        ·exact aa ⟨rfl,_,_,_,_,_,rfl,by simpa only [Array.toList_append,Array.toList_push] using m3,by omega,h2,by simp;omega⟩
     ·rintro r st2 ⟨rfl,out2,ia2,ib2,ac,bc,rfl,m2,h1,h2,h3⟩
      exact ⟨rfl, .inl ⟨_,_,_,_,_,rfl,m2,h1,h2,by omega⟩⟩
     ·rintro r st2 ⟨rfl,⟨out2,ia2,ib2,ac,bc,rfl,m2,h1,h2,h3⟩ | ⟨res,t,rfl,hres⟩⟩
      ·dsimp -zeta -zetaHave -zetaUnused only
       refine wpS_bind (dS ?_)
       refine wpS_bind (bu (Q:=fun r st'=>Same st st' /\ ((∃ out3 ia3 ib3 mg3 ac bc,r = (none,out3,ia3,ib3,mg3,ac,bc) /\ ML lt a.toList b.toList out3.toList ia3 ib3 /\ ia3 + 1 < a.size /\ ib3 < b.size /\ i + 2 <= out3.size) ∨ ∃ res t,r = (some res,t) /\ Res lt a.toList b.toList res.toList))
        (wpS_forRange (fun j r st'=>Same st st' /\ ∃ out3 ia3 ib3 mg3 ac bc,r = (none,out3,ia3,ib3,mg3,ac,bc) /\ ML lt a.toList b.toList out3.toList ia3 ib3 /\ ia3 + 1 < a.size /\ ib3 < b.size /\ i + 2 <= out3.size) ?_ ?_ ⟨sm,_,_,_,_,_,_,rfl,m2,h1,h2,h3⟩) ?_)
       ·rintro j r st3 _ hj ⟨sm3,out3,ia3,ib3,mg3,ac3,bc3,rfl,m3,h1,h2,h5⟩
        obtain ⟨y,hy,hy',hym⟩:=aw (a:=b) h2
        refine tE fun QQ hQ => ?_
        have hfin:∀ (st':SortSt) (res:Array Keyed) t,Same st st' -> Res lt a.toList b.toList res.toList -> QQ (.done (some res,t)) st':=fun st' res t hs hr=>hQ _ _ ⟨hs, .inr ⟨_,_,rfl,hr⟩⟩
        have hgo:∀ (st':SortSt) (out:Array Keyed) ia ib mg ac bc,Same st st' -> ML lt a.toList b.toList out.toList ia ib -> ia + 1 < a.size -> ib < b.size -> i + 2 <= out.size -> QQ (.done (none,out,ia,ib,mg,ac,bc)) st' /\ QQ (.yield (none,out,ia,ib,mg,ac,bc)) st':=fun st' out ia ib mg ac bc hs p1 p2 p3 p4=>⟨hQ _ _ ⟨hs, .inl ⟨_,_,_,_,_,_,rfl,p1,p2,p3,p4⟩⟩,hQ _ _ ⟨hs,_,_,_,_,_,_,rfl,p1,p2,p3,p4⟩⟩
        clear hQ hj
        extract_lets -underBinder s0 vout s1 via s2 vib s3 vmg s4 vac vbc jp vmx
        have hjp:∀ mg,wpS (PySem.model prog w) A E s (jp () mg) QQ st3:=by
         intro mg
         dsimp -zeta -zetaHave -zetaUnused only [jp,s0,vout,s1,via,s2,vib,s3,vmg,s4,vac,vbc]
         clear vmx jp vbc vac s4 vmg s3 vib s2 via s1 vout s0
         refine wpS_bind (wpS_modify ?_)
         refine pP (P:=Same st) (sm3.trans ⟨rfl,rfl,rfl,rfl⟩) fun st5 sm5 => ?_
         have hk5:=sm5.kind.trans hk
         refine wpS_bind (ay hy ?_)
         refine wpS_bind (hg false y a (a.toList.take ia3) (a.toList.drop ia3) [] _ _ _ _ _ hk5 (hPb _ hym) (by simp) (dX (by omega)) (by simp) (fun x hx=>hPa x (List.mem_of_mem_drop hx)) (by omega) ((List.pairwise_append.mp m3.pa).2.1) fun X Y e hX hY => ?_)
         dsimp -zeta -zetaHave -zetaUnused only
         have m4:=m3.galA c e hy' fun x hx=>tF (hX x hx)
         have hrel4:∀ x4,a.toList[ia3 + X.length]? = some x4 -> lt x4 y = false:=fun x4 hx4=>c.asym _ _ (pQ (hY x4 (jS e hx4)))
         have hlen1:=jU e
         extract_lets -underBinder +onlyGivenNames vac jp2
         clear_value vac
         have hjp2:∀ (out4:Array Keyed) (ia4:Nat),ML lt a.toList b.toList out4.toList ia4 ib3 -> (∀ x4,a.toList[ia4]? = some x4 -> lt x4 y = false) -> ia4 + 1 < a.size -> i + 2 <= out4.size -> wpS (PySem.model prog w) A E s (jp2 () out4 ia4) QQ st5:=by
          intro out4 ia4 m4' hrel4' hia4 hsz4
          dsimp -zeta -zetaHave -zetaUnused only [jp2]
          clear jp2 hlen1 hrel4 m4 hX hY
          obtain ⟨x4,hx4,hx4',hx4m⟩:=aw (a:=a) (i:=ia4) (by omega)
          refine wpS_bind (ay hy ?_)
          have m5:=m4'.pushB c hx4' hy' (hrel4' x4 hx4')
          rw [<- Array.toList_push] at m5
          have hsz5:i + 2 <= (out4.push y).size:=by rw [Array.size_push];omega
          try dsimp -zeta -zetaHave -zetaUnused only
          extract_lets -underBinder +onlyGivenNames vo5 vi5
          dsimp -zeta -zetaHave -zetaUnused only [vo5]
          clear vo5
          have e5:vi5 = ib3 + 1:=rfl
          clear_value vi5
          subst e5
          revert m5 hsz5
          generalize out4.push y = out5
          intro m5 hsz5
          refine ag (fun h => ?_) (fun h => ?_)
          ·exact aa (hfin _ _ _ sm5 (m5.finR (by have h:=eq_of_beq h;omega)))
          ·have h:ib3 + 1 ≠ b.size:=by simpa using h
           refine wpS_bind (ay hx4 ?_)
           refine wpS_bind (hg true x4 b (b.toList.take (ib3 + 1)) (b.toList.drop (ib3 + 1)) [] _ _ _ _ _ hk5 (hPa _ hx4m) (by simp) (dX (by omega)) (by simp) (fun x hx=>hPb x (List.mem_of_mem_drop hx)) (by omega) ((List.pairwise_append.mp m5.pb).2.1) fun X2 Y2 e2 hX2 hY2 => ?_)
           dsimp -zeta -zetaHave -zetaUnused only
           have m6:=m5.galB c e2 hx4' fun x hx=>c.asym _ _ (tG (hX2 x hx))
           have hrel6:∀ y6,b.toList[ib3 + 1 + X2.length]? = some y6 -> lt y6 x4 = false:=fun y6 hy6=>pR (hY2 y6 (jS e2 hy6))
           have hlen2:=jU e2
           extract_lets -underBinder +onlyGivenNames vbc jp3
           clear_value vbc
           have hjp3:∀ (out6:Array Keyed) (ib6:Nat),ML lt a.toList b.toList out6.toList ia4 ib6 -> (∀ y6,b.toList[ib6]? = some y6 -> lt y6 x4 = false) -> ib6 < b.size -> i + 2 <= out6.size -> wpS (PySem.model prog w) A E s (jp3 () out6 ib6) QQ st5:=by
            intro out6 ib6 m6' hrel6' hib6 hsz6
            dsimp -zeta -zetaHave -zetaUnused only [jp3]
            clear jp3 hlen2 hrel6 m6 hX2 hY2 m5 hsz5 hsz4 h5 h1 h2 hsz hib hia h3
            obtain ⟨y6,hy6,hy6',hy6m⟩:=aw (a:=b) (i:=ib6) hib6
            refine wpS_bind (ay hx4 ?_)
            have m7:=m6'.pushA c hx4' hy6' (hrel6' y6 hy6')
            rw [<- Array.toList_push] at m7
            dsimp only
            refine ag (fun h => ?_) (fun h => ?_)
            ·exact aa (hfin _ _ _ sm5 (m7.finL (hlast · · (ia4 + 1) (eq_of_beq h))))
            ·have h:ia4 + 1 + 1 ≠ a.size:=by simpa using h
             have:=hgo st5 (out6.push x4) (ia4 + 1) ib6 mg vac vbc sm5 m7 (by omega) hib6 (by rw [Array.size_push];omega)
             exact ag (fun _=>aa this.1) (fun _=>aa this.2)
           clear_value jp3
           refine ag (fun h0 => ?_) (fun h0 => ?_)
           ·dsimp only
            have m6:=m6.cut (a:=b) e2
            refine ag (fun h => ?_) (fun h => ?_)
            ·exact aa (hfin _ _ _ sm5 (m6.finR (by have h:=eq_of_beq h;omega)))
            ·have h:ib3 + 1 + X2.length ≠ b.size:=by simpa using h
             exact hjp3 _ _ m6 hrel6 (by omega) (by rw [Array.size_append];omega)
           ·have hX0:X2 = []:=List.length_eq_zero_iff.mp (by omega)
            subst hX0
            exact hjp3 _ _ m5 hrel6 (by omega) hsz5
         clear_value jp2
         refine ag (fun h0 => ?_) (fun h0 => ?_)
         ·dsimp only
          have m4:=m4.cut (a:=a) e
          refine ag (fun h => ?_) (fun h => ?_)
          ·exact aa (hfin _ _ _ sm5 (m4.finL (hlast · · _ (eq_of_beq h))))
          ·have h:ia3 + X.length + 1 ≠ a.size:=by simpa using h
           refine ag (fun h => ?_) (fun h9 => ?_)
           ·exact aa (hfin _ _ _ sm5 (m4.finS (by have h:=eq_of_beq h;omega)))
           ·have h9:ia3 + X.length ≠ a.size:=by simpa using h9
            exact hjp2 _ _ m4 hrel4 (by omega) (by rw [Array.size_append];omega)
         ·have hX0:X = []:=List.length_eq_zero_iff.mp (by omega)
          subst hX0
          exact hjp2 _ _ m3 hrel4 h1 h5
        clear_value jp
        exact ag (fun _=>hjp _) (fun _=>hjp _)
       ·rintro r st3 ⟨sm3,out3,ia3,ib3,mg3,ac3,bc3,rfl,m3,h1,h2,h5⟩
        exact ⟨sm3, .inl ⟨_,_,_,_,_,_,rfl,m3,h1,h2,h5⟩⟩
       ·rintro r st3 ⟨sm3,⟨out3,ia3,ib3,mg3,ac3,bc3,rfl,m3,h1,h2,h5⟩ | ⟨res,t,rfl,hres⟩⟩
        ·dsimp -zeta -zetaHave -zetaUnused only
         refine wpS_bind (wpS_modify ?_)
         exact aa ⟨sm3.trans ⟨rfl,rfl,rfl,rfl⟩,_,_,_,_,rfl,m3,h1,h2,by omega⟩
        ·exact aa ⟨sm3,_,_,rfl,hres⟩
      ·exact aa ⟨sm,_,_,rfl,hres⟩
    ·rintro r st1 ⟨sm,out,ia,ib,mg,rfl,m,hia,hib,hsz⟩
     have:=m.size (by simp;omega) (by simp;omega)
     simp at this
     omega
    ·rintro r st1 ⟨sm,res,t,rfl,hres⟩
     exact aa (q res st1 hres.1 hres.2 sm)
 ·intro hg a b st Q hk hPa hPb h0a h0b sa sb hfst hlst q
  refine wpS_bind (dS ?_)
  obtain ⟨bL,hbL,hbL',hbLm⟩:=aw (a:=b) (i:=b.size - 1) (by omega)
  obtain ⟨aL,haL,haL',haLm⟩:=aw (a:=a) (i:=a.size - 1) (by omega)
  refine wpS_bind (ay haL ?_)
  have m0:MH lt a.toList b.toList [] a.size b.size:=⟨by rw [dk];simpa using sa,by rw [dk];simpa using sb,by rw [dk,dk];simp⟩
  have m1:MH lt a.toList b.toList [aL] (a.size - 1) b.size:=m0.pushA c h0a h0b haL' hbL' (hlst aL bL haL hbL)
  have hfirst:∀ x ∈ b.toList.take 1, ∀ y ∈ a.toList,lt y x = false:=by
   intro x hx y hy
   obtain ⟨b0,hb0,hb0',_⟩:=aw h0b
   obtain ⟨a0,ha0,ha0',_⟩:=aw h0a
   have ex:x = b0:=by
    rw [dW (by omega) hb0'] at hx
    simpa using hx
   subst ex
   have h:=hfst a0 x ha0 hb0
   obtain ⟨j,hj,e⟩:=List.mem_iff_getElem.mp hy
   have hj':a.toList[j]? = some y:=by rw [<- e];exact List.getElem?_eq_getElem hj
   by_cases hj0:j = 0
   ·subst hj0;rw [ha0'] at hj';cases hj';exact h
   ·exact c.le_trans h (eJ sa (by omega) ha0' hj')
  try dsimp -zeta -zetaHave -zetaUnused only
  refine ag (fun h => ?_) (fun h => ?_)
  ·skip
   have h:a.size - 1 = 0:=by simpa using h
   refine aa ?_
   have r:=m1.fin (.inl h)
   exact q _ _ (by simpa only [Array.toList_append,Array.toList_push,Array.toList_reverse,List.toList_toArray,bb] using r.1) (by simpa only [Array.toList_append,Array.toList_push,Array.toList_reverse,List.toList_toArray,bb] using r.2) Same.refl
  ·skip
   refine ag (fun h2 => ?_) (fun h2 => ?_)
   ·skip
    have h2:b.size = 1:=by simpa using h2
    refine aa ?_
    have r:=m1.finB (by rw [h2];exact hfirst)
    exact q _ _ (by simpa only [Array.toList_append,Array.toList_push,Array.toList_reverse,List.toList_toArray,bb] using r.1) (by simpa only [Array.toList_append,Array.toList_push,Array.toList_reverse,List.toList_toArray,bb] using r.2) Same.refl
   ·skip
    have h:a.size - 1 ≠ 0:=by simpa using h
    have h2:b.size ≠ 1:=by simpa using h2
    refine wpS_bind (wpS_get ?_)
    try dsimp -zeta -zetaHave -zetaUnused only
    refine wpS_bind (bu (Q:=fun r st'=>Same st st' /\ ∃ res t,r = (some res,t) /\ Res lt a.toList b.toList res.toList)
     (wpS_forRange (fun i r st'=>Same st st' /\ ∃ na nb out mg,r = (none,na,nb,out,mg) /\ MH lt a.toList b.toList out.toList na nb /\ 0 < na /\ 1 < nb /\ na < a.size /\ nb <= b.size /\ i + 1 <= out.size) ?_ ?_ ⟨Same.refl,_,_,_,_,rfl,m1,by omega,by omega,by omega,by omega,by simp⟩) ?_)
    ·rintro i r st1 _ hi ⟨sm,na,nb,out,mg,rfl,m,hna,hnb,hna',hnb',hsz⟩
     try dsimp -zeta -zetaHave -zetaUnused only
     refine wpS_bind (bu (Q:=fun r st'=>st' = st1 /\ ((∃ na2 nb2 out2 ac bc,r = (none,na2,nb2,out2,ac,bc) /\ MH lt a.toList b.toList out2.toList na2 nb2 /\ 0 < na2 /\ 1 < nb2 /\ na2 < a.size /\ nb2 <= b.size /\ i + 2 <= out2.size) ∨ ∃ res t,r = (some res,t) /\ Res lt a.toList b.toList res.toList))
      (wpS_forRange (fun j r st'=>st' = st1 /\ ∃ na2 nb2 out2 ac bc,r = (none,na2,nb2,out2,ac,bc) /\ MH lt a.toList b.toList out2.toList na2 nb2 /\ 0 < na2 /\ 1 < nb2 /\ na2 < a.size /\ nb2 <= b.size /\ i + 1 + j <= out2.size) ?_ ?_ ⟨rfl,_,_,_,_,_,rfl,m,hna,hnb,hna',hnb',by omega⟩) ?_)
     ·rintro j r st2 _ hj ⟨rfl,na2,nb2,out2,ac,bc,rfl,m2,h1,h2,h1',h2',h3⟩
      try dsimp only
      obtain ⟨y,hy,hy',hym⟩:=aw (a:=b) (i:=nb2 - 1) (by omega)
      obtain ⟨x,hx,hx',hxm⟩:=aw (a:=a) (i:=na2 - 1) (by omega)
      refine wpS_bind (ay hy (wpS_bind (ay hx (wpS_bind (jd c (sm.kind.trans hk) (hPb _ hym) (hPa _ hxm) ?_)))))
      try dsimp only
      refine ag (fun hl => ?_) (fun hl => ?_)
      ·skip
       refine wpS_bind (ay hx ?_)
       try dsimp only
       have m3:=m2.pushA c h1 (by omega) hx' hy' (c.asym _ _ hl)
       refine ag (fun h => ?_) (fun h => ?_)
       ·skip
        have h:na2 - 1 = 0:=by simpa using h
        exact aa ⟨rfl, .inr ⟨_,_,rfl,by have r:=m3.fin (.inl h);simpa only [Array.toList_append,Array.toList_push,Array.toList_reverse,List.toList_toArray,bb] using r⟩⟩
       ·skip
        have h:na2 - 1 ≠ 0:=by simpa using h
        refine ag (fun _ => ?_) (fun _ => ?_)
        ·exact aa ⟨rfl, .inl ⟨_,_,_,_,_,rfl,by simpa only [Array.toList_append,Array.toList_push,Array.toList_reverse,List.toList_toArray,bb] using m3,by omega,h2,by omega,h2',by simp;omega⟩⟩
        ·exact aa ⟨rfl,_,_,_,_,_,rfl,by simpa only [Array.toList_append,Array.toList_push,Array.toList_reverse,List.toList_toArray,bb] using m3,by omega,h2,by omega,h2',by simp;omega⟩
      ·skip
       refine wpS_bind (ay hy ?_)
       try dsimp only
       have m3:=m2.pushB c h1 (by omega) hx' hy' (by simpa using hl)
       refine ag (fun h => ?_) (fun h => ?_)
       ·skip
        have h:nb2 - 1 = 1:=by simpa using h
        exact aa ⟨rfl, .inr ⟨_,_,rfl,by have r:=m3.finB (by rw [h];exact hfirst);simpa only [Array.toList_append,Array.toList_push,Array.toList_reverse,List.toList_toArray,bb] using r⟩⟩
       ·skip
        have h:nb2 - 1 ≠ 1:=by simpa using h
        refine ag (fun _ => ?_) (fun _ => ?_)
        ·exact aa ⟨rfl, .inl ⟨_,_,_,_,_,rfl,by simpa only [Array.toList_append,Array.toList_push,Array.toList_reverse,List.toList_toArray,bb] using m3,h1,by omega,h1',by omega,by simp;omega⟩⟩
        ·exact aa ⟨rfl,_,_,_,_,_,rfl,by simpa only [Array.toList_append,Array.toList_push,Array.toList_reverse,List.toList_toArray,bb] using m3,h1,by omega,h1',by omega,by simp;omega⟩
     ·rintro r st2 ⟨rfl,na2,nb2,out2,ac,bc,rfl,m2,h1,h2,h1',h2',h3⟩
      exact ⟨rfl, .inl ⟨_,_,_,_,_,rfl,m2,h1,h2,h1',h2',by omega⟩⟩
     ·rintro r st2 ⟨rfl,⟨na2,nb2,out2,ac,bc,rfl,m2,h1,h2,h1',h2',h3⟩ | ⟨res,t,rfl,hres⟩⟩
      ·try dsimp -zeta -zetaHave -zetaUnused only
       refine wpS_bind (dS ?_)
       refine wpS_bind (bu (Q:=fun r st'=>Same st st' /\ ((∃ na3 nb3 out3 mg3 ac bc,r = (none,na3,nb3,out3,mg3,ac,bc) /\ MH lt a.toList b.toList out3.toList na3 nb3 /\ 0 < na3 /\ 1 < nb3 /\ na3 < a.size /\ nb3 <= b.size /\ i + 2 <= out3.size) ∨ ∃ res t,r = (some res,t) /\ Res lt a.toList b.toList res.toList))
        (wpS_forRange (fun j r st'=>Same st st' /\ ∃ na3 nb3 out3 mg3 ac bc,r = (none,na3,nb3,out3,mg3,ac,bc) /\ MH lt a.toList b.toList out3.toList na3 nb3 /\ 0 < na3 /\ 1 < nb3 /\ na3 < a.size /\ nb3 <= b.size /\ i + 2 <= out3.size) ?_ ?_ ⟨sm,_,_,_,_,_,_,rfl,m2,h1,h2,h1',h2',h3⟩) ?_)
       ·rintro j r st3 _ hj ⟨sm3,na3,nb3,out3,mg3,ac3,bc3,rfl,m3,h1,h2,h1',h2',h5⟩
        obtain ⟨y,hy,hy',hym⟩:=aw (a:=b) (i:=nb3 - 1) (by omega)
        refine tE fun QQ hQ => ?_
        have hfin:∀ (st':SortSt) (res:Array Keyed) t,Same st st' -> Res lt a.toList b.toList res.toList -> QQ (.done (some res,t)) st':=fun st' res t hs hr=>hQ _ _ ⟨hs, .inr ⟨_,_,rfl,hr⟩⟩
        have hgo:∀ (st':SortSt) (out:Array Keyed) na nb mg ac bc,Same st st' -> MH lt a.toList b.toList out.toList na nb -> 0 < na -> 1 < nb -> na < a.size -> nb <= b.size -> i + 2 <= out.size -> QQ (.done (none,na,nb,out,mg,ac,bc)) st' /\ QQ (.yield (none,na,nb,out,mg,ac,bc)) st':=fun st' out ia ib mg ac bc hs p1 p2 p3 p4 p5 p6=>⟨hQ _ _ ⟨hs, .inl ⟨_,_,_,_,_,_,rfl,p1,p2,p3,p4,p5,p6⟩⟩,hQ _ _ ⟨hs,_,_,_,_,_,_,rfl,p1,p2,p3,p4,p5,p6⟩⟩
        clear hQ hj
        extract_lets -underBinder s0 vna s1 vnb s2 vout s3 vmg s4 vac vbc jp vmx
        have hjp:∀ mg,wpS (PySem.model prog w) A E s (jp () mg) QQ st3:=by
         intro mg
         dsimp -zeta -zetaHave -zetaUnused only [jp,s0,vna,s1,vnb,s2,vout,s3,vmg,s4,vac,vbc]
         clear vmx jp vbc vac s4 vmg s3 vout s2 vnb s1 vna s0
         refine wpS_bind (wpS_modify ?_)
         refine pP (P:=Same st) (sm3.trans ⟨rfl,rfl,rfl,rfl⟩) fun st5 sm5 => ?_
         have hk5:=sm5.kind.trans hk
         refine wpS_bind (ay hy ?_)
         refine wpS_bind (hg false y a [] (a.toList.take na3) (a.toList.drop na3) _ _ _ _ _ hk5 (hPb _ hym) (by simp) rfl (dX (by omega)) (fun x hx=>hPa x (List.mem_of_mem_take hx)) (by omega) ((List.pairwise_append.mp m3.pa).1) fun X Y e hX hY => ?_)
         dsimp -zeta -zetaHave -zetaUnused only
         have m4:=m3.galA c e (by omega) hy' fun x hx=>c.asym _ _ (pQ (hY x hx))
         have hrel4 : 0 < X.length -> ∀ x4,a.toList[X.length - 1]? = some x4 -> lt y x4 = false:=fun h0 x4 hx4=>tF (hX x4 (jT e h0 hx4))
         have hlen1:=iD e (by omega)
         extract_lets -underBinder +onlyGivenNames vk vac jp2
         clear_value vac
         have hjp2:∀ (na4:Nat) (out4:Array Keyed),MH lt a.toList b.toList out4.toList na4 nb3 -> (∀ x4,a.toList[na4 - 1]? = some x4 -> lt y x4 = false) -> 0 < na4 -> na4 < a.size -> i + 2 <= out4.size -> wpS (PySem.model prog w) A E s (jp2 () na4 out4) QQ st5:=by
          intro na4 out4 m4' hrel4' hna4 hna4' hsz4
          dsimp -zeta -zetaHave -zetaUnused only [jp2]
          clear jp2 vk hlen1 hrel4 m4 hX hY
          obtain ⟨x4,hx4,hx4',hx4m⟩:=aw (a:=a) (i:=na4 - 1) (by omega)
          refine wpS_bind (ay hy ?_)
          have m5:=m4'.pushB c hna4 (by omega) hx4' hy' (hrel4' x4 hx4')
          rw [<- Array.toList_push] at m5
          have hsz5:i + 2 <= (out4.push y).size:=by rw [Array.size_push];omega
          try dsimp -zeta -zetaHave -zetaUnused only
          extract_lets -underBinder +onlyGivenNames vo5
          dsimp -zeta -zetaHave -zetaUnused only [vo5]
          clear vo5
          revert m5 hsz5
          generalize out4.push y = out5
          intro m5 hsz5
          refine ag (fun h => ?_) (fun h => ?_)
          ·exact aa (hfin _ _ _ sm5 (m5.finR (by rw [eq_of_beq h];exact hfirst)))
          ·have h:nb3 - 1 ≠ 1:=by simpa using h
           refine wpS_bind (ay hx4 ?_)
           refine wpS_bind (hg true x4 b [] (b.toList.take (nb3 - 1)) (b.toList.drop (nb3 - 1)) _ _ _ _ _ hk5 (hPa _ hx4m) (by simp) rfl (dX (by omega)) (fun x hx=>hPb x (List.mem_of_mem_take hx)) (by omega) ((List.pairwise_append.mp m5.pb).1) fun X2 Y2 e2 hX2 hY2 => ?_)
           dsimp -zeta -zetaHave -zetaUnused only
           have m6:=m5.galB c e2 hna4 hx4' fun x hx=>pR (hY2 x hx)
           have hrel6 : 0 < X2.length -> ∀ y6,b.toList[X2.length - 1]? = some y6 -> lt x4 y6 = false:=fun h0 y6 hy6=>c.asym _ _ (tG (hX2 y6 (jT e2 h0 hy6)))
           have hlen2:=iD e2 (by omega)
           extract_lets -underBinder +onlyGivenNames vk vbc jp3
           clear_value vbc
           have hjp3:∀ (nb6:Nat) (out6:Array Keyed),MH lt a.toList b.toList out6.toList na4 nb6 -> (∀ y6,b.toList[nb6 - 1]? = some y6 -> lt x4 y6 = false) -> 1 < nb6 -> nb6 <= b.size -> i + 2 <= out6.size -> wpS (PySem.model prog w) A E s (jp3 () nb6 out6) QQ st5:=by
            intro nb6 out6 m6' hrel6' hnb6 hnb6' hsz6
            dsimp -zeta -zetaHave -zetaUnused only [jp3]
            clear jp3 vk hlen2 hrel6 m6 hX2 hY2 m5 hsz5 hsz4 h5 h1 h2 h1' h2' hsz hna hnb hna' hnb' h3
            obtain ⟨y6,hy6,hy6',hy6m⟩:=aw (a:=b) (i:=nb6 - 1) (by omega)
            refine wpS_bind (ay hx4 ?_)
            have m7:=m6'.pushA c hna4 (by omega) hx4' hy6' (hrel6' y6 hy6')
            rw [<- Array.toList_push] at m7
            dsimp only
            refine ag (fun h => ?_) (fun h => ?_)
            ·exact aa (hfin _ _ _ sm5 (m7.finL (.inl (eq_of_beq h))))
            ·have h:na4 - 1 ≠ 0:=by simpa using h
             have:=fun mg ac bc=>hgo st5 (out6.push x4) (na4 - 1) nb6 mg ac bc sm5 m7 (by omega) hnb6 (by omega) hnb6' (by rw [Array.size_push];omega)
             exact ag (fun _=>aa (this _ _ _).1) (fun _=>aa (this _ _ _).2)
           clear_value jp3
           refine ag (fun h0 => ?_) (fun h0 => ?_)
           ·dsimp only
            have m6:=m6.cut (a:=b) e2
            refine ag (fun h => ?_) (fun h => ?_)
            ·exact aa (hfin _ _ _ sm5 (m6.finR (by rw [eq_of_beq h];exact hfirst)))
            ·have h:X2.length ≠ 1:=by simpa using h
             refine ag (fun h9 => ?_) (fun h9 => ?_)
             ·exact aa (hfin _ _ _ sm5 (m6.finL (.inr (eq_of_beq h9))))
             ·have h9:X2.length ≠ 0:=by simpa using h9
              exact hjp3 _ _ m6 (hrel6 (by omega)) (by omega) (by omega) (by rw [Array.size_append];omega)
           ·have h0 : ¬ (nb3 - 1 - X2.length > 0):=h0
            have hl:X2.length = nb3 - 1:=by omega
            have hl2 : 0 < X2.length:=by omega
            have hr:=hrel6 hl2
            rw [hl] at hr
            exact hjp3 _ _ m5 hr (by omega) (by omega) hsz5
         clear_value jp2
         refine ag (fun h0 => ?_) (fun h0 => ?_)
         ·dsimp only
          have m4:=m4.cut (a:=a) e
          refine ag (fun h => ?_) (fun h => ?_)
          ·exact aa (hfin _ _ _ sm5 (m4.finL (.inl (eq_of_beq h))))
          ·have h:X.length ≠ 0:=by simpa using h
           exact hjp2 _ _ m4 (hrel4 (by omega)) (by omega) (by omega) (by rw [Array.size_append];omega)
         ·have h0 : ¬ (na3 - X.length > 0):=h0
          have hl:X.length = na3:=by omega
          have hr:=hrel4 (by omega)
          rw [hl] at hr
          exact hjp2 _ _ m3 hr h1 h1' h5
        clear_value jp
        exact ag (fun _=>hjp _) (fun _=>hjp _)
       ·rintro r st3 ⟨sm3,na3,nb3,out3,mg3,ac3,bc3,rfl,m3,h1,h2,h1',h2',h5⟩
        exact ⟨sm3, .inl ⟨_,_,_,_,_,_,rfl,m3,h1,h2,h1',h2',h5⟩⟩
       ·rintro r st3 ⟨sm3,⟨na3,nb3,out3,mg3,ac3,bc3,rfl,m3,h1,h2,h1',h2',h5⟩ | ⟨res,t,rfl,hres⟩⟩
        ·try dsimp -zeta -zetaHave -zetaUnused only
         refine wpS_bind (wpS_modify ?_)
         exact aa ⟨sm3.trans ⟨rfl,rfl,rfl,rfl⟩,_,_,_,_,rfl,m3,h1,h2,h1',h2',by omega⟩
        ·exact aa ⟨sm3,_,_,rfl,hres⟩
      ·exact aa ⟨sm,_,_,rfl,hres⟩
    ·rintro r st1 ⟨sm,na,nb,out,mg,rfl,m,hna,hnb,hna',hnb',hsz⟩
     have:=m.size (by simp;omega) (by simp;omega)
     simp at this
     omega
    ·rintro r st1 ⟨sm,res,t,rfl,hres⟩
     exact aa (q res st1 hres.1 hres.2 sm)
end
end Srt
end L2
namespace L2
namespace Srt
open PySem PySem.Spec PyProof.Rows
section
variable {prog:Program} {w:World} {A:Around} {E:Value -> Shared -> Prop} {s:Shared} {kd:SortKind} {P:Keyed -> Prop} {lt:Keyed -> Keyed -> Bool}
structure Kp (st st':SortSt):Prop where
 kind:kindOf st' = kindOf st
 pend:pendingOf st' = pendingOf st
 fail:failedOf st' = failedOf st
theorem Kp.refl {st:SortSt}:Kp st st:=⟨rfl,rfl,rfl⟩
theorem Kp.trans {a b c:SortSt} (h:Kp a b) (g:Kp b c):Kp a c:=⟨g.kind.trans h.kind,g.pend.trans h.pend,g.fail.trans h.fail⟩
end
end Srt
end L2
namespace L2
namespace Srt
open PySem PySem.Spec PyProof.Rows
section
variable {prog:Program} {w:World} {A:Around} {E:Value -> Shared -> Prop} {s:Shared} {kd:SortKind} {P:Keyed -> Prop} {lt:Keyed -> Keyed -> Bool}
noncomputable def Pd:Nat -> List (List Keyed) -> List (Nat × Nat × Nat) -> Prop
 | _,[],ps=>ps = []
 | s,r :: rs,ps => ∃ p t,ps = (s,r.length,p) :: t /\ Pd (s + r.length) rs t
theorem Pd.split:∀ {l t:List (List Keyed)} {s:Nat} {ps:List (Nat × Nat × Nat)},Pd s (l ++ t) ps -> ∃ pl pt,ps = pl ++ pt /\ pl.length = l.length /\ Pd s l pl /\ Pd (s + l.flatten.length) t pt
 | [],t,s,ps,h=>⟨[],ps,rfl,rfl,rfl,by simpa using h⟩
 | r :: l,t,s,ps,h=>by
   obtain ⟨p,q,e,h⟩:=h
   obtain ⟨pl,pt,e2,hl,h1,h2⟩:=Pd.split h
   refine ⟨(s,r.length,p) :: pl,pt,by rw [e,e2];rfl,by simp [hl],⟨p,pl,rfl,h1⟩, ?_⟩
   rw [List.flatten_cons,List.length_append, <- Nat.add_assoc];exact h2
theorem Pd.length:∀ {l:List (List Keyed)} {s:Nat} {ps:List (Nat × Nat × Nat)},Pd s l ps -> ps.length = l.length
 | [],_,_,h=>by rw [show _ = [] from h];rfl
 | r :: l,s,ps,h=>by
   obtain ⟨p,q,e,h⟩:=h
   rw [e];simp [h.length]
structure Rn (lt:Keyed -> Keyed -> Bool) (kd:SortKind) (a₀:List Keyed) (st:SortSt) (rs:List (List Keyed)) (R:List Keyed):Prop where
 arr:(arrOf st).toList = rs.flatten ++ R
 perm:(rs.flatten ++ R).Perm a₀
 ord:∀ r ∈ rs,r ≠ [] /\ Ord lt r
 pend:Pd 0 rs (pendingOf st).toList
 kind:kindOf st = kd
 fail:failedOf st = none
theorem Rn.size {a₀:List Keyed} {st:SortSt} {rs:List (List Keyed)} {R:List Keyed} (h:Rn lt kd a₀ st rs R):rs.flatten.length + R.length = a₀.length:=by
 have:=h.perm.length_eq
 rw [List.length_append] at this;exact this
end
end Srt
end L2
namespace L2
namespace Srt
open PySem PySem.Spec PyProof.Rows
inductive Ky where
 | int (i:Int)
 | tup (l:List Ky)
mutual
noncomputable def dq:Ky -> Ky -> Ordering
 | .int a, .int b=>if a < b then .lt else if a = b then .eq else .gt
 | .int _, .tup _ => .lt
 | .tup _, .int _ => .gt
 | .tup a, .tup b=>cmpKs a b
noncomputable def cmpKs:List Ky -> List Ky -> Ordering
 | [],[] => .eq
 | [],_ :: _ => .lt
 | _ :: _,[] => .gt
 | x :: xs,y :: ys=>(dq x y).then (cmpKs xs ys)
end
mutual
theorem iE:∀ a b,dq b a = (dq a b).swap
 | .int a, .int b=>by
  simp only [dq]
  by_cases h1:a < b
  ·rw [if_pos h1,if_neg (by omega),if_neg (by omega)];rfl
  ·by_cases h2:a = b
   ·rw [if_neg h1,if_pos h2,if_neg (by omega),if_pos h2.symm];rfl
   ·rw [if_neg h1,if_neg h2,if_pos (by omega)];rfl
 | .int _, .tup _=>by simp [dq]
 | .tup _, .int _=>by simp [dq]
 | .tup a, .tup b=>by simp only [dq];exact cmpKs_swap a b
theorem cmpKs_swap:∀ a b,cmpKs b a = (cmpKs a b).swap
 | [],[] => rfl
 | [],_ :: _=>rfl
 | _ :: _,[] => rfl
 | x :: xs,y :: ys=>by
   simp only [cmpKs]
   rw [iE x y,cmpKs_swap xs ys]
   cases dq x y <;> rfl
end
noncomputable def ltK (a b:Ky):Bool:=dq a b == .lt
theorem rX (a b:Ky) (h:ltK a b = true):ltK b a = false:=by
 unfold ltK at h ⊢
 rw [iE a b,(by simpa using h:dq a b = .lt)];rfl
mutual
noncomputable def toK:PyData -> Ky
 | .int i => .int i
 | .tuple xs => .tup (toKs xs)
 | _ => .int 0
noncomputable def toKs:List PyData -> List Ky
 | [] => []
 | x :: xs=>toK x :: toKs xs
end
inductive Cmpb:PyData -> PyData -> Prop where
 | int (a b:Int):Cmpb (.int a) (.int b)
 | nil (ys:List PyData):Cmpb (.tuple []) (.tuple ys)
 | nil' (xs:List PyData):Cmpb (.tuple xs) (.tuple [])
 | cons {x y:PyData} {xs ys:List PyData}:Cmpb x y -> Cmpb (.tuple xs) (.tuple ys) -> Cmpb (.tuple (x :: xs)) (.tuple (y :: ys))
section
variable {prog:Program} {w:World} {A:Around} {E:Value -> Shared -> Prop} {s:Shared}
noncomputable def di {α β:Type} (M:Model) (A:Around) (E:Value -> Shared -> Prop) (f : α -> β -> Sem (ForInStep β)) (Q : β -> Shared -> Prop):List α -> β -> Shared -> Prop
 | [],c,s=>Q c s
 | x :: xs,c,s=>wpAny M A (f x c) (fun r s'=>match r with | .done c'=>Q c' s' | .yield c'=>di M A E f Q xs c' s') E s
theorem Cmpb.dep {x y:PyData} (h:Cmpb x y):x.canLay0 = true ∨ True := .inr trivial
end
end Srt
end L2
namespace L2
namespace Srt
open PySem PySem.Spec PyProof.Rows
section
variable {prog:Program} {w:World} {A:Around} {E:Value -> Shared -> Prop} {s:Shared}
end
end Srt
end L2
namespace L2
namespace Srt
open PySem PySem.Spec PyProof.Rows
section
variable {prog:Program} {w:World} {A:Around} {E:Value -> Shared -> Prop} {s:Shared}
end
end Srt
end L2
namespace L2
namespace Srt
open PySem PySem.Spec PyProof.Rows
section
variable {prog:Program} {w:World} {A:Around} {E:Value -> Shared -> Prop} {s:Shared}
end
end Srt
end L2
namespace L2
namespace It
open PySem PySem.Spec PyProof.Rows
noncomputable def iO (f0:Value) (b:Bool) (d:Addr) (i n ep:Nat) (ok ov:Value):Obj := { cls := .type "dict_itemiterator",data := .fields #[f0, .bool b, .ref d, .int i 0, .int n 0, .int ep 0,ok,ov] }
theorem slot_next:Slot "dict_itemiterator" "__next__" "dict_itemiterator.__next__" := .of (owner := "dict_itemiterator") (n := "__next__") (by rw [typeLookup_type,builtinLookup_eq_fast];kernel_rfl) (by decide +kernel) (by decide +kernel) (by decide +kernel) (.inl (by decide +kernel)) (by rw [isSubtype_type];kernel_rfl)
theorem bE:entryFor table "dict_itemiterator.__next__" = some Builtin.«dict_itemiterator.__next__» := entryFor_of_tree (by kernel_rfl)
theorem bP (a:Value):argsOk "dict_itemiterator.__next__" ⟨[a],[]⟩:=by unfold argsOk;kernel_rfl
theorem pS:mroOf (.type "dict_itemiterator") = pure [.type "dict_itemiterator", .type "object"]:=by rw [mroOf_type];kernel_rfl
section
variable {prog:Program} {w:World} {A:Around} {E:Value -> Shared -> Prop} {s:Shared}
theorem jV {it:Addr} (ty:s.TypeIs (.ref it) "dict_itemiterator") {types:List String} {Q:Bool -> Shared -> Prop} (q:Q (types.any fun t => [Value.type "dict_itemiterator",Value.type "object"].contains (Value.type t)) s):wpAny (model prog w) A (Builtin.Dict_items.isOneOf (.ref it) types) Q E s:=by
 have hm:=pS
 unfold Builtin.Dict_items.isOneOf
 wp_walk
 exact q
theorem nx_end {it d:Addr} {f0:Value} {b:Bool} {ep:Nat} {ok ov cd:Value} {dd:Option Addr} {sl:Array (Option Value)} {es:Array DictEntry} {Q:Option Value -> Shared -> Prop} (hn:A.handled = none) (hi:s.heap.get? it = some (iO f0 b d es.size es.size ep ok ov)) (hd:s.heap.get? d = some { cls:=cd,dict:=dd,data := .dict es ep,slots:=sl })
 (q:∀ h',(∀ b o,b ≠ it -> s.heap.get? b = some o -> h'.get? b = some o) -> Q none { s with heap:=h' }):wpAny (model prog w) A (pyNext (.ref it)) Q E s:=by
 have ty:s.TypeIs (.ref it) "dict_itemiterator" := ⟨_,hi,rfl⟩
 unfold pyNext
 refine wpAny_bind (wpAny_attempt (wpAny_callSpecial?_slot (name:=Str.ofString "__next__") ty slot_next (wpAny_call_entry slot_next ty bE ?_ (bP _))))
 unfold Builtin.«dict_itemiterator.__next__»
 have hm:=pS
 wp_walk
 dsimp only
 rw [if_neg (by simp)]
 wp_walk
 have he:es[es.size]? = none:=Array.getElem?_eq_none (Nat.le_refl _)
 simp only [Int.toNat_natCast,he]
 refine wpAny_bind (wpAny_mono (Q:=fun n s'=>n = 2 /\ s' = s) ?_ (fun n s' hs => ?_) fun _ _ z=>z)
 ·wp_walk
  exact ⟨by kernel_rfl,rfl⟩
 obtain ⟨rfl,rfl⟩:=hs
 refine wpAny_bind (wpAny_setField_rec hi (by simp) fun h1 e1 s1 => ?_)
 refine wpAny_bind (m:=newExc (.type "StopIteration") []) ?_
 simp only [newExc,newTuple]
 refine wpAny_bind (wpAny_newObj_type ?_ (by size_fits))
 refine wpAny_bind (m:=firstArgMember _ _) (wpAny_of_eq (a:=Value.none) (by first | rfl | (simp only [firstArgMember];rfl)) (wpAny_newObj_type ?_ (by size_fits)))
 simp only [raiseNew]
 refine wpAny_bind (wpAny_handled ?_)
 first | rw [show A.in1.handled = none from hn] | rw [hn]
 refine wpAny_bind (wpAny_pure (wpAny_throw ?_))
 exact wpAny_bind (wpAny_isInstance (T := "StopIteration") (b:=true) ⟨_,Heap.get?_push_size _ rfl,rfl⟩ isSubtype_stop (wpAny_pure (q _ fun b o hb e=>Heap.get?_push_of_some _ (Heap.get?_push_of_some _ (s1.extBut b o hb e)))))
end
end It
end L2
namespace L2
namespace It
open PySem PySem.Spec PyProof.Rows
section
variable {prog:Program} {w:World} {A:Around} {E:Value -> Shared -> Prop} {s:Shared}
end
end It
end L2
namespace L2
namespace It
open PySem PySem.Spec PyProof.Rows
section
variable {prog:Program} {w:World} {A:Around} {E:Value -> Shared -> Prop} {s:Shared}
end
end It
end L2
namespace L2
open PySem PySem.Spec PyProof.Rows
section
variable {P:Program} {w:World} {H:Hp} {h:Heap} {a:Addr} {o:HO}
theorem ObjOk.there (x:ObjOk P w H h a o):∃ ob,h.get? a = some ob:=by
 cases o with
 | lst xs=>obtain ⟨_,_,_,_,e⟩:=x;exact ⟨_,e⟩
 | tup xs=>obtain ⟨_,_,_,_,e,_⟩:=x;exact ⟨_,e⟩
 | dK kvs=>obtain ⟨_,_,_,_,o,_,_,e,_⟩:=x;exact ⟨_,e⟩
 | dT kvs=>obtain ⟨_,_,_,_,o,_,_,e,_⟩:=x;exact ⟨_,e⟩
 | set S n=>obtain ⟨o,_,_,_,e,_⟩:=x;exact ⟨_,e⟩
 | ins C dx fs=>obtain ⟨_,_,_,e,_⟩:=x;exact ⟨_,e⟩
 | own y=>obtain ⟨_,e⟩:=x;exact ⟨_,e⟩
 | xd fs=>obtain ⟨_,⟨_,_,_,e,_⟩,_⟩:=x;exact ⟨_,e⟩
 | rng lo hi=>obtain ⟨_,_,_,e⟩:=x;exact ⟨_,e⟩
 | frz ob u=>obtain ⟨e,_⟩:=x;exact ⟨_,e⟩
 | tbl ps=>exact ⟨_,show h.get? a = some _ from x⟩
 | met f y=>exact ⟨_,show h.get? a = some _ from x⟩
 | ext φ => obtain ⟨_,⟨_,e⟩,_⟩:=x;exact ⟨_,e⟩
end
section
variable {X:Cx} {pins:List (Addr × Obj)} {σ:List (Option V)} {H:Hp} {s:Shared} {h':Heap} {N:Addr -> Option HO}
end
namespace Mi
open L2.Srt
inductive Sh where
 | int
 | tup (l:List Sh)
mutual
noncomputable def hs:Sh -> D -> Bool
 | .int, .int _=>true
 | .tup l, .tup ds=>hss l ds
 | _,_=>false
noncomputable def hss:List Sh -> List D -> Bool
 | [],[] => true
 | s :: l,d :: ds=>hs s d && hss l ds
 | _,_=>false
end
mutual
noncomputable def pd:D -> PyData
 | .int i => .int i
 | .tup ds => .tuple (pds ds)
 | _ => .none
noncomputable def pds:List D -> List PyData
 | [] => []
 | d :: ds=>pd d :: pds ds
end
mutual
noncomputable def dep:Sh -> Nat
 | .int => 0
 | .tup l=>deps l + 1
noncomputable def deps:List Sh -> Nat
 | [] => 0
 | s :: l=>max (dep s) (deps l)
end
noncomputable def zI:Sh -> Bool
 | .int=>true
 | .tup (.int :: l)=>decide (deps l <= 6)
 | .tup (.tup a :: l)=>decide (deps (.tup a :: l) <= 6)
 | .tup [] => false
noncomputable def kyD (d:D):Ky:=toK (pd d)
noncomputable def zJ (ys:List D):Prop:=ys.Pairwise fun a b=>ltK (kyD b) (kyD a) = false
section
variable {X:Cx}
end
end Mi
end L2
namespace L2
namespace Mi
open PySem PySem.Spec PyProof.Rows L2.Srt
noncomputable def kvD (kv:D × D):D := .tup [kv.1,kv.2]
noncomputable def xv (ta:TEd):TEd:=fun ρ M Q=>ta ρ M fun x M1 => ∃ a t kvs sh,x = .ref a /\ M1 a = some (.dct t kvs) /\ zI sh = true /\ (∀ kv ∈ kvs,hs sh (kvD kv) = true) /\ ∀ p ys,M1 p = none -> ys.Perm (kvs.map kvD) -> zJ ys -> Q (.ref p) (ak M1 p (.lst ys))
noncomputable def nD (K:PySem.W.Frag) (H:Hp) (kv:D × D) (e:DictEntry):Prop := ∃ kV vV,RD K H kv.1 kV /\ RelV kV e.key /\ RD K H kv.2 vV /\ RelV vV e.val
theorem uS {K:PySem.W.Frag} {H:Hp} {d:D} {k:Key} (h:RKey d k):RD K H d (kV k):=by
 cases d <;> first
  | exact h.elim
  | (cases h;first | exact RD.int_iff.mpr rfl | exact RD.str_iff.mpr rfl)
theorem iF {K:PySem.W.Frag} {H:Hp}:∀ {ds:List D} {ks:List Key},Paired RKey ds ks -> RDs K H ds (ks.map kV)
 | _,_, .nil=>RDs.nil
 | _,_, .cons r t=>RDs.cons (uS r) (iF t)
theorem tH {P:Program} {w:World} {K:PySem.W.Frag} {H:Hp}:∀ {kvs:List (D × D)} {ps:List (List Key × V)} {xs:List (List Key × Addr × Value)},Paired (fun (p:D × D) (q:List Key × V)=>RKeys p.1 q.1 /\ RD K H p.2 q.2) kvs ps -> Paired (fun (p:List Key × V) (q:List Key × Addr × Value)=>p.1 = q.1 /\ H q.2.1 = some (.tup (p.1.map kV)) /\ RelV p.2 q.2.2) ps xs -> Paired (nD K H) kvs (xs.map (entryOfKey (tupleKind (aD P w))))
 | _,_,_, .nil, .nil => .nil
 | kv :: _,_,_, .cons r1 t1, .cons r2 t2=>by
   refine .cons ?_ (tH t1 t2)
   obtain ⟨d,v⟩:=kv
   have r11:=r1.1
   cases d <;> first
    | exact r11.elim
    | exact ⟨.ref _,_,RD.tup_iff.mpr ⟨_,_,rfl,r2.2.1,iF r11⟩,rfl,r1.2,r2.2.2⟩
theorem bp {α β:Type} {R : α -> β -> Prop}:∀ {l:List α} {m:List β},Paired R l m -> l.length = m.length
 | _,_, .nil=>rfl
 | _,_, .cons _ t=>by simp [bp t]
noncomputable abbrev Rw:=Addr × (D × D) × V × V × DictEntry
theorem yL {K:PySem.W.Frag} {H:Hp} {G:Addr -> DictEntry -> Prop}:∀ {kvs:List (D × D)} {es:List DictEntry} {us:List Value},Paired (nD K H) kvs es -> us.length = es.length -> (∀ j,j < es.length -> ∃ t e,us[j]? = some (.ref t) /\ es[j]? = some e /\ G t e) ->
 ∃ L:List Rw,L.map (fun r=>Value.ref r.1) = us /\ L.map (fun r=>r.2.1) = kvs /\ ∀ r ∈ L,RD K H r.2.1.1 r.2.2.1 /\ RelV r.2.2.1 r.2.2.2.2.key /\ RD K H r.2.1.2 r.2.2.2.1 /\ RelV r.2.2.2.1 r.2.2.2.2.val /\ G r.1 r.2.2.2.2
 | _,_,us, .nil,hl,_=>⟨[],by simp at hl;simp [hl],rfl,fun _ h=>by simp at h⟩
 | kv :: kvs,e :: es,us, .cons r t,hl,h=>by
   cases us with
   | nil=>simp at hl
   | cons u us =>
     obtain ⟨L,h1,h2,h3⟩:=yL (us:=us) t (by simpa using hl) fun j hj=>by
      obtain ⟨t,e',e1,e2,e3⟩:=h (j + 1) (by simpa using hj)
      exact ⟨t,e',by simpa using e1,by simpa using e2,e3⟩
     obtain ⟨t0,e',e1,e2,e3⟩:=h 0 (by simp)
     simp at e1 e2
     subst e1 e2
     obtain ⟨kV,vV,g1,g2,g3,g4⟩:=r
     exact ⟨(t0,kv,kV,vV,e) :: L,by simp [h1],by simp [h2],fun r hr=>by
      rcases List.mem_cons.mp hr with z | z
      ·rw [z];exact ⟨g1,g2,g3,g4,e3⟩
      ·exact h3 r z⟩
section
variable {X:Cx}
theorem pT {H:Hp} {h:Heap} {P:Program} {w:World} {K:PySem.W.Frag} {a:Addr} {ps:List (List Key × V)} {kvs:List (D × D)} (ok:ObjOk P w H h a (.dT ps)) (pr:Paired (fun (p:D × D) (q:List Key × V)=>RKeys p.1 q.1 /\ RD K H p.2 q.2) kvs ps) :
 ∃ cd dd sl es ep,h.get? a = some { cls:=cd,dict:=dd,data := .dict es ep,slots:=sl } /\ es.size <= sizeLine /\ Paired (nD K H) kvs es.toList:=by
 obtain ⟨hl,hsm,xs,hkv,o,es,ep,h1,h2,h3,h4,h5⟩:=ok
 obtain ⟨cd,dd,dat,sl⟩:=o
 dsimp only at h3
 subst h3
 have pp:=tH (P:=P) (w:=w) pr hkv
 rw [<- h4] at pp
 refine ⟨cd,dd,sl,es,ep,h1, ?_,pp⟩
 have:=bp pp
 have:=bp pr
 simp at *;omega
end
end Mi
end L2
namespace L2
namespace Mi
open PySem PySem.Spec PyProof.Rows
noncomputable def je (to tk tx:TEd):TEd:=fun ρ M Q=>to ρ M fun x M1 => ∃ a t kvs,x = .ref a /\ M1 a = some (.dct t kvs) /\ tk ρ M1 fun k M2=>tx ρ M2 fun z M3 => ∃ t' kvs',M3 a = some (.dct t' kvs') /\ gm t' k = true /\ Q ((dget kvs' k).getD z) M3
theorem pU {to tk tx:TEd} (h1:ad to) (h2:ad tk) (h3:ad tx):ad (je to tk tx):=fun ρ M Q Q' i q=>h1 _ _ _ _ (fun x M1 ⟨a,t,kvs,e,e1,q1⟩=>⟨a,t,kvs,e,e1,h2 _ _ _ _ (fun k M2 q2=>h3 _ _ _ _ (fun z M3 ⟨t',kvs',e3,ok,q3⟩=>⟨t',kvs',e3,ok,i _ _ q3⟩) q2) q1⟩) q
section
variable {X:Cx}
theorem xw {K:PySem.W.Frag} {M:Mem} {H:Hp} (rm:RM K M H) {a:Addr} {t:Bool} {kvs:List (D × D)} (e:M a = some (.dct t kvs)):IsD H a:=by
 have ro:=rm a _ e
 cases t with
 | false=>obtain ⟨ps,hp,_⟩:=ro;exact .inl ⟨_,Rd.of hp⟩
 | true=>obtain ⟨ps,hp,_⟩:=ro;exact .inr ⟨_,Rd.of hp⟩
theorem uT {o e f:Expr} {to tk tx:TEd} {apos cpos:Pos} (hu:X.A.units + 1 < cLine) (mo:ad to) (mk:ad tk) (mx:ad tx) (ho:PE X o (lE X.K to)) (he:PE X e (lE X.K tk)) (hf:PE X f (lE X.K tx)) (m:M2 X o "get" apos e f cpos) :
 PE X (.Call (.Attribute o "get" apos) [e,f] [] cpos) (lE X.K (je to tk tx)):=by
 refine PE.imp (qP hu ho he hf m) fun σ H Q h => ?_
 obtain ⟨ρ,M,rs,rm,q⟩:=h
 refine ⟨ρ,M,rs,rm,mo _ _ _ _ (fun x M1 ⟨a,t,kvs,e,e1,q1⟩ v H1 x1 rm1 rd1 => ?_) q⟩
 subst e
 cases RD.ref_iff.mp rd1
 have rs1:=rs.mono (x1.stab rm)
 refine ⟨a,rfl,xw rm1 e1, ρ,M1,rs1,rm1,mk _ _ _ _ (fun k M2 q2 v2 H2 x2 rm2 rd2 => ?_) q1⟩
 have rs2:=rs1.mono (x2.stab rm1)
 refine ⟨ρ,M2,rs2,rm2,mx _ _ _ _ (fun z M3 ⟨t',kvs',e3,ok,q3⟩ v3 H3 x3 rm3 rd3 => ?_) q2⟩
 obtain ⟨w,g,g1,g2⟩:=lr rm3 e3 ok (rd2.mono (x3.stab rm2))
 refine ⟨w,g, ?_⟩
 refine q3 _ H3 (x1.trans (x2.trans x3)) rm3 ?_
 cases e4:dget kvs' k with
 | none=>rw [g2 e4];exact rd3
 | some d =>
   obtain ⟨w',e5,r5⟩:=g1 d e4
   rw [e5];exact r5
end
end Mi
end L2
namespace L2
open PySem PySem.Spec PyProof.Rows
section
variable {X:Cx}
end
namespace Mi
section
variable {X:Cx}
noncomputable def yM (ta:TEd):TId:=fun ρ M R=>ta ρ M fun x M1 => ∃ a ds,x = .ref a /\ M1 a = some (.lst ds) /\ R ds.reverse (fun M=>M a = some (.lst ds)) M1
end
end Mi
end L2
namespace L2
open PySem PySem.Spec PyProof.Rows
noncomputable def yN {α:Type} (xs:List α) (c p:Nat):List α := (List.range ((xs.length - c + p - 1) / p)).filterMap fun k=>xs[c + p * k]?
section
variable {X:Cx}
end
namespace Mi
section
variable {X:Cx}
noncomputable def yO (te:TEd) (tl ts:TOd):TEd:=fun ρ M Q=>te ρ M fun x M1=>tl ρ M1 fun l M2=>ts ρ M2 fun u M3 => ∃ a ds, ∃ c p:Nat,x = .ref a /\ M3 a = some (.lst ds) /\ l = some (c:Int) /\ u = some (p:Int) /\ 0 < p /\ ∀ q,M3 q = none -> Q (.ref q) (ak M3 q (.lst (yN ds c p)))
end
end Mi
end L2
namespace L2
open PySem PySem.Spec PyProof.Rows
section
variable {prog:Program} {w:World} {A:Around} {E:Value -> Shared -> Prop}
end
section
variable {X:Cx}
end
namespace Mi
section
variable {X:Cx} {K:PySem.W.Frag}
noncomputable def yP (te:TEd) (b:BTs):TSd:=fun D ρ M=>te ρ M fun x M1 => ∃ a ds ρ',x = .ref a /\ M1 a = some (.lst ds) /\ b ds ρ = some ρ' /\ D.nx ρ' M1
end
end Mi
end L2
namespace L2
open PySem PySem.Spec PyProof.Rows
section
variable {prog:Program} {w:World} {A:Around} {E:Value -> Shared -> Prop} {s:Shared}
theorem uU:typeLookup (.type "list") "keys" = pure none:=by rw [typeLookup_type,builtinLookup_eq_fast];kernel_rfl
theorem uV {l:Addr} {o:Obj} {xs:Array Value} {k:Nat} {Q:Option Value -> Shared -> Prop} (hn:A.handled = none) (ho:s.heap.get? l = some o) (hc:o.cls = .type "list") (hd:o.data = .seq xs k) (hdi:o.dict = none)
 (q:∀ h' tk,(∀ b o,s.heap.get? b = some o -> h'.get? b = some o) -> Q none { s with heap:=h',toks:=tk }):wpAny (model prog w) A (getAttr? (.ref l) "keys") Q E s:=by
 have ty:s.TypeIs (.ref l) "list" := ⟨_,ho,hc⟩
 unfold getAttr?
 unfold mkText
 refine wpAny_bind ?_
 refine wpAny_bind (wpAny_fresh ?_)
 refine wpAny_pure ?_
 unfold getAttrBy?
 refine wpAny_bind (wpAny_attempt ?_)
 unfold getAttrBy
 refine wpAny_holding ?_
 refine wpAny_bind (wpAny_typeOf (s := { s with toks:=s.toks + 1 }) ty ?_)
 refine wpAny_bind (wpAny_of_eq F.slot_list_getattribute.lookup ?_)
 refine wpAny_ite_false (by decide) ?_
 unfold getAttrByItsOwn hookBefore
 rw [if_neg (by decide)]
 refine wpAny_bind (wpAny_pure ?_)
 refine wpAny_bind (wpAny_attempt (wpAny_holding ?_))
 unfold callGetattribute boundAndCalled
 rw [if_neg (by decide)]
 refine wpAny_bind (wpAny_of_eq (F.slot_list_getattribute.bind _) ?_)
 dsimp only
 obtain ⟨cls,dd,dat,sl⟩:=o
 dsimp only at hc hd hdi
 subst hc hd hdi
 refine call_meetsIn F.slot_list_getattribute (s := { s with toks:=s.toks + 1 }) ty am_entry_list_getattribute (F.args_list_getattribute_2 _ _) ((meets_getattribute_miss_list l xs k sl "keys" s.toks uU (by decide) (by decide)).inModel prog w) ⟨ho,hn,fun h' tk a ne => ?_⟩
 ·have ne:s.heap.NewAttrErr h' a (.ref l) "keys" := ne
  obtain ⟨t,u,he⟩:=ne.there
  unfold getattributeRaised
  refine wpAny_bind (wpAny_isInstance (T := "AttributeError") (b:=true) ⟨_,he,rfl⟩ (by rw [isSubtype_type];kernel_rfl) ?_)
  rw [if_pos rfl]
  unfold hookBehind
  rw [if_neg (by decide)]
  refine wpAny_bind (wpAny_of_eq am_list_getattr_none ?_)
  unfold hookOrError attributeErrorLeaves
  dsimp only
  rw [if_pos (by decide)]
  refine wpAny_bind (wpAny_throw ?_)
  refine wpAny_bind (wpAny_isInstance (T := "AttributeError") (b:=true) ⟨_,he,rfl⟩ (by rw [isSubtype_type];kernel_rfl) ?_)
  rw [if_pos rfl]
  exact wpAny_pure (q h' tk ne.keeps)
end
end L2
namespace L2
open PySem PySem.Spec PyProof.Rows
theorem jW:entryFor table "dict.update.loop" = some Builtin.«dict.update.loop» := entryFor_of_tree (by kernel_rfl)
theorem jX:plainId "dict.update.loop" = true:=by decide +kernel
section
variable {X:Cx} {pins:List (Addr × Obj)} {σ:St} {H:Hp}
noncomputable def PrV (H:Hp) (v:V) (kv:List Key × V):Prop := ∃ t b,v = .ref t /\ H t = some (.tup [.ref b,kv.2]) /\ H b = some (.tup (kv.1.map kV))
noncomputable abbrev bJ (kvs:List (List Key × V)):List (List Key × V):=kvs.foldl (fun a kv=>bg a kv.1 kv.2) []
theorem nE (kvs:List (List Key × V)):(bJ kvs).length <= kvs.length:=by
 have g:∀ (r:List (List Key × V)) (a:List (List Key × V)),(r.foldl (fun a kv=>bg a kv.1 kv.2) a).length <= a.length + r.length:=by
  intro r
  induction r with
  | nil=>intro a;simp
  | cons x r ih =>
    intro a
    have h1:=ih (bg a x.1 x.2)
    have h2:=cv a x.1 x.2
    simp only [List.foldl_cons,List.length_cons]
    omega
 have:=g kvs []
 simpa using this
theorem gE {α β:Type} {R : α -> β -> Prop}:∀ {l:List α} {m:List β} {i:Nat} {x : α},Paired R l m -> l[i]? = some x -> ∃ y,m[i]? = some y /\ R x y
 | _,_,_,_, .nil,e=>by simp at e
 | _,_,0,_, .cons r _,e=>by simp at e;subst e;exact ⟨_,rfl,r⟩
 | _,_,i + 1,x, .cons _ t,e=>by
   simp at e
   obtain ⟨y,h1,h2⟩:=gE t e
   exact ⟨y,by simpa using h1,h2⟩
theorem uW {A:Around} (hu:A.units + 1 < cLine) (hn:A.handled = none) {l it p:Addr} {vs:List V} {kvs:List (List Key × V)} (hp:H p = none) (hl:H l = some (.lst vs)) (hpr:Paired (PrV H) vs kvs) (hz:vs.length < sizeLine) {R:Result -> Shared -> Prop} (hf:bU X pins H it) (hip:it ≠ p) :
 ∀ (k i:Nat) (s:Shared),vs.length - i = k -> i <= vs.length -> Inv X pins σ (upd H p (.dT (bJ (kvs.take i)))) s -> s.heap.IsListIter it l i ->
  (∀ s',Inv X pins σ (upd H p (.dT (bJ kvs))) s' -> R (.ok (.ret .none)) s') ->
  codeAny (model X.prog X.w) A (.builtin "dict.update.loop" ⟨[.ref p, .ref it,rawInt i, .none],[]⟩) R s:=by
 have hlp:l ≠ p:=fun z=>by rw [z,hp] at hl;cases hl
 have hlen:vs.length = kvs.length:=Paired.length hpr
 obtain ⟨f0,f1,f2,f3,f4,f5⟩:=hf
 intro k
 induction k with
 | zero =>
   intro i s hk hi I st q
   have hie:i = vs.length:=by omega
   obtain ⟨its,rv,pl,_⟩:=I.list (SqL.of (K:=X.K) ((aj hlp).trans hl))
   refine codeAny_builtin jW ?_
   unfold Builtin.«dict.update.loop»
   dsimp only
   refine wpAny_bind (wpAny_pyNext_list_end hn st pl.isList (by have:=rv.length;simp;omega) fun h' eb => ?_)
   refine wpAny_bind ?_
   unfold Builtin.Dict.addKeywords
   refine wpAny_bind ?_
   have I1:=I.turned (t':=s.toks) (h':=h') (fun b o hb e=>eb b o hb e) ((aj hip).trans f0) f1 f3 f4 f5
   rw [hie,hlen,List.take_length] at I1
   exact wpAny_pure (wpAny_pure (wpAny_pure (q _ I1)))
 | succ k ih =>
   intro i s hk hi I st q
   have hlt:i < vs.length:=by omega
   obtain ⟨its,rv,pl,_⟩:=I.list (SqL.of (K:=X.K) ((aj hlp).trans hl))
   obtain ⟨u,hu1,ru⟩:=rv.get (List.getElem?_eq_getElem hlt)
   obtain ⟨kv,hkv,t,b,hv,ht,hb⟩:=gE hpr (List.getElem?_eq_getElem hlt)
   rw [hv] at ru
   cases (show u = Value.ref t from ru)
   refine codeAny_builtin jW ?_
   rw [Around.under_plain (by rfl) (by rfl)]
   unfold Builtin.«dict.update.loop»
   dsimp only
   refine wpAny_bind (wpAny_pyNext_list_item st pl.isList (x := .ref t) (by simpa using hu1) fun h' st' sb => ?_)
   have I1:=I.turned (t':=s.toks) (h':=h') (fun b o hb e=>(sb.2 b hb).trans e) ((aj hip).trans f0) f1 f3 f4 f5
   dsimp only
   have htp:t ≠ p:=fun z=>by rw [z,hp] at ht;cases ht
   have hbp:b ≠ p:=fun z=>by rw [z,hp] at hb;cases hb
   obtain ⟨tits,rt,tt,_⟩:=I1.tuple (SqT.of (K:=X.K) ((aj htp).trans ht))
   obtain ⟨ob,hob,hoc,nt,hod⟩:=id tt
   cases rt with
   | cons r1 rt =>
     cases rt with
     | cons r2 rt =>
       cases rt
       cases (show _ = Value.ref b from r1)
       rename_i uv
       refine wpAny_bind (wpAny_holding ?_)
       refine wpAny_bind (wpAny_tryCatch ?_)
       unfold Builtin.Dict.pairItems
       refine wpAny_bind (wpAny_typeOf (T := "tuple") (s := { s with heap:=h' }) ⟨ob,hob,hoc⟩ ?_)
       rw [if_pos (by decide)]
       refine wpAny_bind (wpAny_seqItems (s := { s with heap:=h' }) hob hod ?_)
       refine wpAny_pure ?_
       refine wpAny_holding ?_
       obtain ⟨z,hd,xs,rel,dd⟩:=tj (a:=p) I1.hok aq
       have hzx:xs.length <= sizeLine:=by rw [<- Paired.length rel];exact z
       have hbH:upd H p (.dT (bJ (kvs.take i))) b = some (.tup (kv.1.map kV)):=(aj hbp).trans hb
       have hl2:(bg (bJ (kvs.take i)) kv.1 kv.2).length <= sizeLine:=by
        have h1:=cv (bJ (kvs.take i)) kv.1 kv.2
        have h2:=nE (kvs.take i)
        rw [List.length_take] at h2
        omega
       have etk:bg (bJ (kvs.take i)) kv.1 kv.2 = bJ (kvs.take (i + 1)):=by
        unfold bJ
        rw [List.take_succ,hkv,List.foldl_append];rfl
       refine wpAny_dictSet_heap (hsz:=hzx) (knd:=tupleKind (aD X.prog X.w)) (tupleKind_room_in1 hu) (eA I1.hok hbH) dd fun h2 dd' hs => ?_
       obtain ⟨q',es,ep,hq,g2,g3,g4,_,g5⟩:=dd'
       have I2:=gX (t':=s.toks + (tupleKind (aD X.prog X.w)).draws kv.1) I1 (a:=p) (ob := .dT (bg (bJ (kvs.take i)) kv.1 kv.2)) (by rw [aq];exact True.intro) hs ⟨q',hq⟩ ⟨hl2,hd,_,(rel.put kv.1 hbH r2).keeps fun c ys ec => ?_,q',es,ep,hq,g2,g3,g4,g5⟩
       ·rw [tR,etk] at I2
        refine wpAny_pure ⟨plainId_quiet jX _,ih (i + 1) _ (by omega) (by omega) I2 ?_ q⟩
        exact st'.at fun o e=>(hs.2 it hip).trans e
       ·rw [aj (sX ec aq (fun z=>nomatch z))]
        exact ec
end
section
variable {X:Cx}
theorem gF (hu:X.A.units + 16 < cLine) (hc:X.calm = true):CallR X (.type "dict") (fun xs H Q => ∃ l vs kvs,xs = [V.ref l] /\ H l = some (.lst vs) /\ Paired (PrV H) vs kvs /\ vs.length < sizeLine /\ ∀ p,H p = none -> Q (.ref p) (upd H p (.dT (bJ kvs)))):=by
 intro pins s σ H xs us Q I r h
 obtain ⟨l,vs,kvs,rfl,hl,hpr,hz,q⟩:=h
 cases r with
 | cons r1 rr =>
 cases rr
 cases (show _ = Value.ref l from r1)
 have hn:=I.ok.hd hc
 have hp:H s.heap.objs.size = none:=I.hok.fresh (Nat.le_refl _)
 have I1:=I.laid (a:=s.heap.objs.size) (o := .dT []) (t':=s.toks) (fun _ _ q=>Heap.get?_push_of_some _ q) (Nat.le_refl _) (jm s.heap I.big)
 have hlp:l ≠ s.heap.objs.size:=fun z=>by rw [z,hp] at hl;cases hl
 refine callType_codes (Q₁ := fun obj s₁ => obj = .ref s.heap.objs.size /\ s₁ = { s with heap:=s.heap.push { cls := .type "dict",data := .dict #[] } }) F.kt_called_dict (F.kt_typeCall_dict_1 _) F.entry_dict_init (kt_code_dict_new _ ⟨rfl,rfl⟩) fun obj s₁ h₁ => ?_
 obtain ⟨rfl,rfl⟩:=h₁
 refine ⟨⟨_,Heap.get?_push_size _ rfl,rfl⟩,F.args_dict_init_2 _ _, ?_⟩
 unfold Builtin.«dict.__init__»
 refine wpAny_bind ?_
 unfold Builtin.Dict.selfAndRest
 unfold Builtin.Dict.notOrdered
 rw [if_pos (by decide)]
 have tyd:Shared.TypeIs { s with heap:=s.heap.push { cls := .type "dict",data := .dict #[] } } (.ref s.heap.objs.size) "dict" := ⟨_,Heap.get?_push_size _ rfl,rfl⟩
 refine wpAny_bind (wpAny_bind (wpAny_typeOf tyd ?_))
 rw [if_neg (by decide)]
 refine wpAny_pure ?_
 refine wpAny_bind (wpAny_pure (wpAny_pure ?_))
 unfold Builtin.Dict.updateCommon Builtin.Dict.updateFrom
 dsimp only
 obtain ⟨its,rv,pl,_⟩:=I1.list (SqL.of (K:=X.K) ((aj hlp).trans hl))
 have il:=pl.isList
 refine wpAny_bind (wpAny_typeOf il.typeIs ?_)
 rw [if_pos (by decide)]
 obtain ⟨ob,nn,e1,hcl,hdc,hda⟩:=id pl
 refine wpAny_bind (uV hn e1 hcl hda hdc fun h1 tk kp => ?_)
 rw [if_pos (show (none:Option Value).isNone = true from rfl)]
 refine wpAny_bind (wpAny_rule ?_)
 have I2:=I1.kept (t':=tk) kp
 refine wpAny_bind (wpAny_pyIter_list (s := { s with heap:=h1,toks:=tk }) (PlainL.isList (⟨ob,nn,kp _ _ e1,hcl,hdc,hda⟩)) ?_)
 have I3:=I2.kept (t':=tk) (h':=h1.push { cls := .type "list_iterator",data := .fields #[.ref l, .int 0 0] }) fun b o e=>Heap.get?_push_of_some _ e
 refine wpAny_pure ⟨plainId_quiet jX _, ?_⟩
 have hle:s.heap.objs.size < h1.objs.size:=Heap.lt_size (kp _ _ (Heap.get?_push_size _ rfl))
 have hf:bU X pins H h1.objs.size:=by
  have:=I2.fpOk (H':=upd H s.heap.objs.size (.dT [])) (Nat.le_refl _) (I2.hok.fresh (Nat.le_refl _))
  exact ⟨by rw [<- this.1,aj (Nat.ne_of_gt hle)],this.2⟩
 refine uW (A:=X.A.in1) (X:=X) (pins:=pins) (σ := σ) (H:=H) (p:=s.heap.objs.size) (kvs:=kvs) (by have:X.A.in1.units = X.A.units + 1:=rfl;omega) hn hp hl hpr hz hf (Nat.ne_of_gt hle) vs.length 0 _ (by omega) (by omega) I3 ⟨_,Heap.get?_push_size _ rfl,rfl,rfl⟩ fun s' I' => ?_
 exact ⟨rfl, .ref s.heap.objs.size,_,I',rfl,q _ hp⟩
end
end L2
namespace L2
namespace Mi
open PySem PySem.Spec PyProof.Rows
section
variable {X:Cx}
noncomputable def nF (kvs:List (D × D)):List (D × D):=kvs.foldl (fun a kv=>cb a kv.1 kv.2) []
noncomputable def nG:RAd:=fun ds M Q => ∃ a kvs,ds = [.ref a] /\ M a = some (.lst (kvs.map fun kv:D × D => .tup [kv.1,kv.2])) /\ (∀ kv ∈ kvs,bX kv.1 = true) /\ kvs.length < sizeLine /\ ∀ p,M p = none -> Q (.ref p) (ak M p (.dct true (nF kvs)))
theorem iG:aU nG:=fun _ _ _ _ h ⟨a,kvs,e,e1,e2,e3,q⟩=>⟨a,kvs,e,e1,e2,e3,fun p n=>h _ _ (q p n)⟩
theorem jY {K:PySem.W.Frag} {H:Hp}:∀ {kvs:List (D × D)} {vs:List V},RDs K H (kvs.map fun kv:D × D => .tup [kv.1,kv.2]) vs -> (∀ kv ∈ kvs,bX kv.1 = true) ->
 ∃ ps:List (List Key × V),Paired (PrV H) vs ps /\ Paired (fun (p:D × D) (q:List Key × V)=>RKeys p.1 q.1 /\ RD K H p.2 q.2) kvs ps
 | [],vs,r,_=>by rw [RDs.nil_iff.mp r];exact ⟨[], .nil, .nil⟩
 | kv :: kvs,vs,r,h=>by
   rw [List.map_cons] at r
   obtain ⟨v,vr,rfl,r1,r2⟩:=RDs.cons_iff.mp r
   obtain ⟨ps,h1,h2⟩:=jY r2 fun x hx=>h x (List.mem_cons_of_mem _ hx)
   obtain ⟨t,us,rfl,ht,ru⟩:=RD.tup_iff.mp r1
   obtain ⟨u1,ur,rfl,q1,ru⟩:=RDs.cons_iff.mp ru
   obtain ⟨u2,ur2,rfl,q2,ru⟩:=RDs.cons_iff.mp ru
   rw [RDs.nil_iff.mp ru] at ht
   have hk:=h kv (List.mem_cons_self ..)
   obtain ⟨k,v⟩:=kv
   obtain ⟨ks,hks⟩:=gZ hk
   cases k <;> first
    | exact hks.elim
    | (obtain ⟨b,ws,rfl,hb,rw'⟩:=RD.tup_iff.mp q1
       rw [dN hks rw'] at hb
       exact ⟨(ks,u2) :: ps, .cons ⟨t,b,rfl,ht,hb⟩ h1, .cons ⟨hks,q2⟩ h2⟩)
theorem jZ {K:PySem.W.Frag} {H:Hp}:∀ {kvs:List (D × D)} {ps:List (List Key × V)} {a:List (D × D)} {b:List (List Key × V)},Paired (fun (p:D × D) (q:List Key × V)=>RKeys p.1 q.1 /\ RD K H p.2 q.2) kvs ps -> Paired (fun (p:D × D) (q:List Key × V)=>RKeys p.1 q.1 /\ RD K H p.2 q.2) a b ->
 Paired (fun (p:D × D) (q:List Key × V)=>RKeys p.1 q.1 /\ RD K H p.2 q.2) (kvs.foldl (fun a kv=>cb a kv.1 kv.2) a) (ps.foldl (fun a kv=>bg a kv.1 kv.2) b)
 | _,_,_,_, .nil,h=>h
 | _,_,_,_, .cons r t,h=>by
   have g:=jZ t (fM (RK:=RKeys) RKeys.inj RKeys.fun r.1 r.2 h)
   exact g
theorem lc (hu:X.A.units + 16 < cLine) (hc:X.calm = true):CallR X (.type "dict") (lR X.K nG):=by
 refine CallR.of (gF hu hc) fun vs H Q h => ?_
 obtain ⟨ds,M,rm,rs,a,kvs,rfl,e,hk,hz,q⟩:=h
 obtain ⟨v,rfl,r⟩:=rs.one
 cases RD.ref_iff.mp r
 obtain ⟨us,ha,ru⟩:=rm _ _ e
 obtain ⟨ps,h1,h2⟩:=jY ru hk
 refine ⟨a,us,ps,rfl,ha,h1,by rw [ru.length,List.length_map];exact hz,fun p n => ?_⟩
 have st:Stab H (upd H p (.dT (bJ ps))):=(Ext.new' (M:=M) n).stab rm
 exact q p (rm.out n) (.ref p) _ (Ext.lay n) (rm.lay n ⟨_,aq,Paired.mapP (jZ h2 .nil) fun _ _ z=>⟨z.1,z.2.mono st⟩⟩) (RD.ref_iff.mpr rfl)
end
end Mi
end L2
namespace L2
namespace Dk
open PySem PySem.Spec PyProof.Rows
section
variable {prog:Program} {w:World} {A:Around} {E:Value -> Shared -> Prop} {s:Shared}
noncomputable def kO (d:Addr) (i n ep:Nat):Obj := { cls := .type "dict_keyiterator",data := .fields #[.ref d, .int i 0, .int n 0, .int ep 0] }
theorem slot_next:Slot "dict_keyiterator" "__next__" "dict_keyiterator.__next__" := .of (owner := "dict_keyiterator") (n := "__next__") (by rw [typeLookup_type,builtinLookup_eq_fast];kernel_rfl) (by decide +kernel) (by decide +kernel) (by decide +kernel) (.inl (by decide +kernel)) (by rw [isSubtype_type];kernel_rfl)
theorem bE:entryFor table "dict_keyiterator.__next__" = some Builtin.«dict_keyiterator.__next__» := entryFor_of_tree (by kernel_rfl)
theorem bP (a:Value):argsOk "dict_keyiterator.__next__" ⟨[a],[]⟩:=by unfold argsOk;kernel_rfl
theorem jV {it:Addr} (ty:s.TypeIs (.ref it) "dict_keyiterator") {types:List String} {Q:Bool -> Shared -> Prop} (q:Q (types.any fun t => [Value.type "dict_keyiterator",Value.type "object"].contains (Value.type t)) s):wpAny (model prog w) A (Builtin.Dict_items.isOneOf (.ref it) types) Q E s:=by
 have hm:=mroOf_keyiter
 unfold Builtin.Dict_items.isOneOf
 wp_walk
 exact q
theorem nx_item {it d:Addr} {i ep:Nat} {cd:Value} {dd:Option Addr} {sl:Array (Option Value)} {es:Array DictEntry} {e:DictEntry} {Q:Option Value -> Shared -> Prop} (hi:s.heap.get? it = some (kO d i es.size ep)) (hd:s.heap.get? d = some { cls:=cd,dict:=dd,data := .dict es ep,slots:=sl }) (he:es[i]? = some e)
 (q:∀ h',h'.get? it = some (kO d (i + 1) es.size ep) -> Heap.SameBut it s.heap h' -> Q (some e.key) { s with heap:=h' }):wpAny (model prog w) A (pyNext (.ref it)) Q E s:=by
 have ty:s.TypeIs (.ref it) "dict_keyiterator" := ⟨_,hi,rfl⟩
 unfold pyNext
 refine wpAny_bind (wpAny_attempt (wpAny_callSpecial?_slot (name:=Str.ofString "__next__") ty slot_next (wpAny_call_entry slot_next ty bE ?_ (bP _))))
 unfold Builtin.«dict_keyiterator.__next__»
 have hm:=mroOf_keyiter
 wp_walk
 dsimp only
 rw [if_neg (by simp)]
 simp only [Int.toNat_natCast,he]
 refine wpAny_bind (wpAny_mono (Q:=fun n s'=>n = 0 /\ s' = s) ?_ (fun n s' hs => ?_) fun _ _ z=>z)
 ·wp_walk
  exact ⟨by kernel_rfl,rfl⟩
 obtain ⟨rfl,rfl⟩:=hs
 refine wpAny_bind (jV ty ?_)
 refine wpAny_bind (wpAny_setField_rec hi (by simp) fun h1 e1 s1 => ?_)
 rw [if_neg (by decide +kernel)] at e1
 have e1:h1.get? it = some (kO d (i + 1) es.size ep):=e1
 have ty1:Shared.TypeIs { s' with heap:=h1 } (.ref it) "dict_keyiterator" := ⟨_,e1,rfl⟩
 refine wpAny_bind (wpAny_holding ?_)
 refine wpAny_bind (jV ty1 ?_)
 refine wpAny_ite_true (by decide +kernel) ?_
 refine wpAny_pure (wpAny_pure ⟨_,rfl,wpAny_pure ?_⟩)
 exact q h1 e1 s1
theorem nx_end {it d:Addr} {ep:Nat} {cd:Value} {dd:Option Addr} {sl:Array (Option Value)} {es:Array DictEntry} {Q:Option Value -> Shared -> Prop} (hn:A.handled = none) (hi:s.heap.get? it = some (kO d es.size es.size ep)) (hd:s.heap.get? d = some { cls:=cd,dict:=dd,data := .dict es ep,slots:=sl })
 (q:∀ h',(∀ b o,b ≠ it -> s.heap.get? b = some o -> h'.get? b = some o) -> Q none { s with heap:=h' }):wpAny (model prog w) A (pyNext (.ref it)) Q E s:=by
 have ty:s.TypeIs (.ref it) "dict_keyiterator" := ⟨_,hi,rfl⟩
 unfold pyNext
 refine wpAny_bind (wpAny_attempt (wpAny_callSpecial?_slot (name:=Str.ofString "__next__") ty slot_next (wpAny_call_entry slot_next ty bE ?_ (bP _))))
 unfold Builtin.«dict_keyiterator.__next__»
 have hm:=mroOf_keyiter
 wp_walk
 dsimp only
 rw [if_neg (by simp)]
 have he:es[es.size]? = none:=Array.getElem?_eq_none (Nat.le_refl _)
 simp only [Int.toNat_natCast,he]
 refine wpAny_bind (wpAny_mono (Q:=fun n s'=>n = 0 /\ s' = s) ?_ (fun n s' hs => ?_) fun _ _ z=>z)
 ·wp_walk
  exact ⟨by kernel_rfl,rfl⟩
 obtain ⟨rfl,rfl⟩:=hs
 refine wpAny_bind (wpAny_setField_rec hi (by simp) fun h1 e1 s1 => ?_)
 refine wpAny_bind (m:=newExc (.type "StopIteration") []) ?_
 simp only [newExc,newTuple]
 refine wpAny_bind (wpAny_newObj_type ?_ (by size_fits))
 refine wpAny_bind (m:=firstArgMember _ _) (wpAny_of_eq (a:=Value.none) (by first | rfl | (simp only [firstArgMember];rfl)) (wpAny_newObj_type ?_ (by size_fits)))
 simp only [raiseNew]
 refine wpAny_bind (wpAny_handled ?_)
 first | rw [show A.in1.handled = none from hn] | rw [hn]
 refine wpAny_bind (wpAny_pure (wpAny_throw ?_))
 exact wpAny_bind (wpAny_isInstance (T := "StopIteration") (b:=true) ⟨_,Heap.get?_push_size _ rfl,rfl⟩ isSubtype_stop (wpAny_pure (q _ fun b o hb e=>Heap.get?_push_of_some _ (Heap.get?_push_of_some _ (s1.extBut b o hb e)))))
theorem it_dict {d:Addr} {es:Array DictEntry} {ep:Nat} {dd:Option Addr} {sl:Array (Option Value)} {Q:Value -> Shared -> Prop} (hsm:(d == sysModules) = false) (hd:s.heap.get? d = some { cls := .type "dict",dict:=dd,data := .dict es ep,slots:=sl })
 (q:Q (.ref s.heap.objs.size) { s with heap:=s.heap.push (kO d 0 es.size ep) }):wpAny (model prog w) A (pyIter (.ref d)) Q E s:=by
 have ty:s.TypeIs (.ref d) "dict" := ⟨_,hd,rfl⟩
 refine wpAny_pyIter_slot ty F.slot_dict_iter (wpAny_call_entry F.slot_dict_iter ty F.entry_dict_iter ?_ (F.args_dict_iter_1 _))
 unfold Builtin.«dict.__iter__»
 wp_walk
 exact ⟨_,rfl, "dict_keyiterator",_,⟨_,Heap.get?_push_size _ rfl,rfl⟩,slot_next.lookup,q⟩
theorem walk (hn:A.handled = none) (it d:Addr) (hne:d ≠ it) (es:Array DictEntry) (ep:Nat) :
 Walks prog w A it [it,d] [it] es.size (fun i v => ∃ e,es[i]? = some e /\ v = e.key) (fun i h=>h.get? it = some (kO d i es.size ep) /\ ∃ cd dd sl,h.get? d = some { cls:=cd,dict:=dd,data := .dict es ep,slots:=sl }) where
 sub:=fun b hb=>by simp at hb;simp [hb]
 frame:=fun _ _ _ st k=>⟨k it (by simp) _ st.1,by obtain ⟨cd,dd,sl,h⟩:=st.2;exact ⟨cd,dd,sl,k d (by simp) _ h⟩⟩
 item:=fun i s Q E hi st q=>by
  obtain ⟨h1,cd,dd,sl,h2⟩:=st
  refine nx_item (e:=es[i]) h1 h2 (Array.getElem?_eq_getElem hi) fun h' e' s' => ?_
  exact q _ h' s.toks ⟨_,Array.getElem?_eq_getElem hi,rfl⟩ ⟨e',cd,dd,sl,s'.extBut d _ hne h2⟩ fun b o hb x=>s'.extBut b o (fun z=>hb (by simp [z])) x
 done:=fun s Q E st q=>by
  obtain ⟨h1,cd,dd,sl,h2⟩:=st
  exact nx_end hn h1 h2 fun h' k=>q h' s.toks fun b o hb x=>k b o (fun z=>hb (by simp [z])) x
 self:=fun i s Q E st q=>wpAny_pyIter_keyiter ⟨_,st.1,rfl,rfl⟩ q
end
end Dk
end L2
namespace L2
namespace Mi
open PySem PySem.Spec PyProof.Rows L2.Srt
section
variable {X:Cx}
end
end Mi
end L2
namespace L2
open PySem PySem.Spec PyProof.Rows
section
variable {X:Cx} {pins:List (Addr × Obj)} {σ:St} {H:Hp} {s:Shared}
theorem uX {x:V} {u:Value} {t:String} (I:Inv X pins σ H s) (rx:RelV x u) (ty:bV X.K H x (.type t)):∃ P,PySem.W.KitX X.K u (.type t) P /\ P s.heap /\ u ≠ Value.builtin "__main__.__loader__#opaque" := by
 generalize hT:Value.type t = T at ty
 cases ty with
 | non=>cases (show u = Value.none from rx);exact ⟨_,PySem.W.kitx_none,True.intro,fun z=>nomatch z⟩
 | bl y=>cases (show u = Value.bool y from rx);exact ⟨_,PySem.W.kitx_bool,True.intro,fun z=>nomatch z⟩
 | int i=>obtain ⟨t,rfl⟩:=(show ∃ t,u = Value.int i t from rx);exact ⟨_,PySem.W.kitx_int,True.intro,fun z=>nomatch z⟩
 | str y=>obtain ⟨t,rfl⟩:=(show ∃ t,u = Value.str y t from rx);exact ⟨_,PySem.W.kitx_str,True.intro,fun z=>nomatch z⟩
 | flt y=>obtain ⟨t,rfl⟩:=(show ∃ t,u = Value.float y t from rx);exact ⟨_,PySem.W.kitx_float,True.intro,fun z=>nomatch z⟩
 | @lst a xs ea =>
  cases (show u = Value.ref a from rx)
  obtain ⟨_,_,n,_,h1⟩:=(show ObjOk X.prog X.w H s.heap a (.lst xs) from I.hok a _ ea)
  exact ⟨_,PySem.W.kitx_list,⟨_,h1,rfl⟩,fun z=>nomatch z⟩
 | @frz a ob xs ea =>
  cases (show u = Value.ref a from rx)
  obtain ⟨_,_,_,n,_,h1⟩:=(show ObjOk X.prog X.w H s.heap a (.frz ob (.lst xs)) from I.hok a _ ea)
  exact ⟨_,PySem.W.kitx_list,⟨_,h1,rfl⟩,fun z=>nomatch z⟩
 | @tup a xs ea =>
  cases (show u = Value.ref a from rx)
  obtain ⟨_,_,_,o,h1,h2,_⟩:=(show ObjOk X.prog X.w H s.heap a (.tup xs) from I.hok a _ ea)
  exact ⟨_,PySem.W.kitx_tuple,⟨o,h1,h2⟩,fun z=>nomatch z⟩
 | @dK a kvs ea =>
  cases (show u = Value.ref a from rx)
  obtain ⟨_,_,vs,_,o,es,ep,h1,h2,_⟩:=(show ObjOk X.prog X.w H s.heap a (.dK kvs) from I.hok a _ ea)
  exact ⟨_,PySem.W.kitx_dict,⟨o,h1,h2.1⟩,fun z=>nomatch z⟩
 | @dT a kvs ea =>
  cases (show u = Value.ref a from rx)
  obtain ⟨_,_,xs,_,o,es,ep,h1,h2,_⟩:=(show ObjOk X.prog X.w H s.heap a (.dT kvs) from I.hok a _ ea)
  exact ⟨_,PySem.W.kitx_dict,⟨o,h1,h2.1⟩,fun z=>nomatch z⟩
 | ins=>cases hT
end
namespace Mi
section
variable {X:Cx}
theorem uY (K:PySem.W.Frag) {T U:String} (hT:T ∈ ["bool", "int", "str", "tuple", "list", "dict"]) (hU:U ∈ ["bool", "int", "str", "tuple", "list", "dict"]) {t:String} (ht:t ∈ ci):PySem.W.kitAny K (.type t) [.type T, .type U] = some (cT T t || cT U t):=by
 have h1:=hV K T hT t ht
 have h2:=hV K U hU t ht
 unfold PySem.W.kitAny
 rw [h1]
 cases e1:cT T t with
 | true=>rfl
 | false =>
   dsimp only
   unfold PySem.W.kitAny
   rw [h2]
   cases cT U t <;> rfl
theorem nH {T U:String} (hT:T ∈ ["bool", "int", "str", "tuple", "list", "dict"]) (hU:U ∈ ["bool", "int", "str", "tuple", "list", "dict"]):CallR X (.builtin "isinstance") (fun vs H Q => ∃ v t p,vs = [v, .ref p] /\ H p = some (.tup [.ty T, .ty U]) /\ bV X.K H v (.type t) /\ t ∈ ci /\ Q (.bl (cT T t || cT U t)) H):=by
 intro pins s σ H xs us Q I r h
 obtain ⟨v,t,p,rfl,hp,ty,ht,q⟩:=h
 obtain ⟨u,c,rfl,ru,rc⟩:=mJ r
 cases (show c = Value.ref p from rc)
 obtain ⟨P,g1,g2,g3⟩:=uX I ru ty
 obtain ⟨_,its,rv,⟨cls,dd,dat,sl⟩,h1,h2,n,h3⟩:=(show ObjOk X.prog X.w H s.heap p (.tup [.ty T, .ty U]) from I.hok p _ hp)
 dsimp only at h2 h3
 subst h2 h3
 cases rv with
 | cons r1 rv =>
 cases rv with
 | cons r2 rv =>
 cases rv
 cases r1
 cases r2
 exact PySem.W.kia_tup g1 I.kIn g2 h1 (uY X.K hT hU ht) g3 fun tk=>⟨.bl _,H,I.tok tk,rfl,q⟩
noncomputable def gG (T U:String) (ta:TEd):TEd:=fun ρ M Q=>ta ρ M fun x M1 => ∃ t,tyN M1 x = some t /\ Q (.bl (cT T t || cT U t)) M1
theorem nI {T U:String} {ta:TEd} (h:ad ta):ad (gG T U ta):=fun ρ M Q Q' i q=>h _ _ _ _ (fun x M1 ⟨t,e,q1⟩=>⟨t,e,i _ _ q1⟩) q
theorem rY {e:Expr} {ta:TEd} {T U:String} {y z:Str} {k:Nat} {p p2 p3 p4 pos:Pos} (hT:T ∈ ["bool", "int", "str", "tuple", "list", "dict"]) (hU:U ∈ ["bool", "int", "str", "tuple", "list", "dict"]) (m:ad ta) (he:PE X e (lE X.K ta)) (hg:Gl X "isinstance") (hm:X.mg "isinstance" = none)
 (hg2:Gl X y) (hm2:X.mg y = none) (hv:bootBuiltins y = some (.type T)) (hn:y ≠ "__name__") (hdb:(y == ("__debug__":Str)) = false)
 (hg3:Gl X z) (hm3:X.mg z = none) (hv3:bootBuiltins z = some (.type U)) (hn3:z ≠ "__name__") (hdb3:(z == ("__debug__":Str)) = false)
 (hs:starEach [e, .Tuple [.Name y p2, .Name z p3] k p4] X.env = (false,eval e X.env) :: starEach [.Tuple [.Name y p2, .Name z p3] k p4] X.env) :
 PE X (.Call (.Name "isinstance" p) [e, .Tuple [.Name y p2, .Name z p3] k p4] [] pos) (lE X.K (gG T U ta)):=by
 have h2:PE X (.Name y p2) (tC (.ty T)):=gT hg2 hm2 hv rfl hn hdb
 have h3:PE X (.Name z p3) (tC (.ty U)):=gT hg3 hm3 hv3 rfl hn3 hdb3
 have h4:PE X (.Tuple [.Name y p2, .Name z p3] k p4) _:=oG (cq h2 (cq h3 ga rfl) rfl)
 refine PE.imp (ca (nH hT hU) hg hm (by decide +kernel) (cq he (cq h4 ga rfl) hs) (by decide) (by decide) hs rfl) fun σ H Q h => ?_
 obtain ⟨ρ,M,rs,rm,q⟩:=h
 refine ⟨ρ,M,rs,rm,m _ _ _ _ (fun x M1 ⟨t,e,q1⟩ v H1 x1 rm1 rd1 => ?_) q⟩
 refine ⟨by simp;decide,fun pp n => ?_⟩
 have st:=(Ext.new' (M:=M1) (ho := .tup [.ty T, .ty U]) n).stab rm1
 have rm2:=rm1.new (ho := .tup [.ty T, .ty U]) n
 exact ⟨v,t,pp,rfl,aq,tu rm2 (rd1.mono st) e,lu e,q1 _ _ (x1.trans (Ext.new' n)) rm2 (RD.bl_iff.mpr rfl)⟩
end
end Mi
end L2
namespace L2
namespace Mi
open PySem PySem.Spec PyProof.Rows
section
variable {X:Cx}
end
end Mi
end L2
namespace L2
open PySem PySem.Spec PyProof.Rows
section
variable {X:Cx} {pins:List (Addr × Obj)} {σ:St} {H:Hp} {s:Shared}
theorem Inv.freeze (I:Inv X pins σ H s) {a:Addr} {ps:List (List Key × V)} (e:H a = some (.dT ps)):∃ o,Inv X pins σ (upd H a (.frz o (.dT ps))) s:=by
 obtain ⟨hl,hsm,xs,pr,o,es,ep,h1,h2,h3,h4,h5⟩:=id (I.hok a _ e)
 have mu:Mut (H a):=by rw [e];exact True.intro
 have u:Un X.fs [] H (upd H a (.frz o (.dT ps))) s.heap s.heap:=Un.write mu (.inl rfl) (fun b u _ q=>q) ⟨_,h1⟩
 have ok:HOk X.prog X.w (upd H a (.frz o (.dT ps))) s.heap:=HOk.write I.hok mu (.inl rfl) (fun b u _ q=>q) ⟨_,h1⟩
  ⟨h1,(I.hok a _ e).stay (fun b u _ q=>q) (fun b q=>by rw [aj (fun z=>by subst z;rw [e] at q;cases q)];exact q) (fun b xs q=>by rw [aj (fun z=>by subst z;rw [e] at q;cases q)];exact q)⟩
 exact ⟨o,I.un (t':=s.toks) u ok⟩
end
noncomputable def Itk (n:Nat) (G:Hp -> Prop) (yl:Nat -> V -> Hp -> Prop):It:=⟨fun i H=>i < n /\ G H,fun i H x H'=>H' = H /\ yl i x H,fun i H=>n <= i /\ G H⟩
theorem pV {P:Program} {w:World} {K:PySem.W.Frag} {tg:Expr} (a it:Addr) {cd:Value} {dd:Option Addr} {sl:Array (Option Value)} {es:Array DictEntry} {ep:Nat} {G:Hp -> Prop} {yl:Nat -> V -> Hp -> Prop}
 (hG:∀ H,G H -> ∃ u,H a = some (.frz { cls:=cd,dict:=dd,data := .dict es ep,slots:=sl } u)) (hy:∀ i H h,HOk P w H h -> G H -> ∀ e,es[i]? = some e -> ∃ x,RelV x e.key /\ yl i x H) :
 ee P w K tg (Itk es.size G yl) [it] it (fun i h=>i <= es.size /\ h.get? it = some (Dk.kO a i es.size ep)) where
 mem:=by simp
 obj:=fun i h st b hb=>by
  have e:b = it:=by simpa using hb
  subst e
  exact ⟨_,st.2,fun v z=>by cases z⟩
 keep:=fun i h h' st k=>⟨st.1,k it (by simp) _ st.2⟩
 item:=by
  intro X hP hw hK hc i pins s σ H E I hf st hg
  subst hP hw hK
  obtain ⟨hi,hg⟩:=hg
  obtain ⟨u,ha⟩:=hG H hg
  obtain ⟨f0,f1,f2,f3,f4,f5⟩:=hf it (by simp)
  obtain ⟨x,rx,yx⟩:=hy i H s.heap I.hok hg es[i] (Array.getElem?_eq_getElem hi)
  refine Dk.nx_item (e:=es[i]) st.2 (I.hok a _ ha).1 (Array.getElem?_eq_getElem hi) fun h' st' sb => ?_
  have I1:Inv X pins σ H { s with heap:=h' }:=I.turned (t':=s.toks) (fun b o hb e=>(sb.2 b hb).trans e) f0 f1 f3 f4 f5
  exact ⟨_,rfl,iT (s := { s with heap:=h' }) (n := "dict_keyiterator") st' rfl rfl (by decide) ⟨x,H,I1,rx,⟨rfl,yx⟩,⟨hi,st'⟩,fun b hb=>(hf b hb).1⟩⟩
 done:=by
  intro X hP hw hK hc i pins s σ H E I hf st hg
  subst hP hw hK
  obtain ⟨hi,hg⟩:=hg
  obtain ⟨u,ha⟩:=hG H hg
  obtain ⟨f0,f1,f2,f3,f4,f5⟩:=hf it (by simp)
  have e:i = es.size:=by have:=st.1;omega
  subst e
  exact Dk.nx_end (I.ok.hd hc) st.2 (I.hok a _ ha).1 fun h' k=>⟨rfl,I.turned (t':=s.toks) (fun b o hb e=>k b o hb e) f0 f1 f3 f4 f5⟩
 self:=fun A i s Q E st h=>wpAny_pyIter_keyiter ⟨_,st.2,rfl,rfl⟩ h
namespace Mi
section
variable {X:Cx}
noncomputable def i4 (i:Nat) (t:TSd):TSd:=fun A ρ M => ∃ a kvs, ρ[i]? = some (some (.ref a)) /\ ((M a = some (.dct true kvs) /\ t A ρ (ak M a (.fdc kvs))) ∨ (M a = some (.fdc kvs) /\ t A ρ M))
theorem rZ {i:Nat} {t:TSd} (h:aB t):aB (i4 i t):=fun a b ρ M l ⟨p,kvs,e,q⟩=>⟨p,kvs,e,q.imp (fun q=>⟨q.1,h _ _ _ _ l q.2⟩) fun q=>⟨q.1,h _ _ _ _ l q.2⟩⟩
theorem xx {st:Stmt} {i:Nat} {t:TSd} (h:PS X st (lS X.K t)):PS X st (lS X.K (i4 i t)):=by
 intro pins s σ H D I ⟨ρ,M,A,rs,rm,lk,a,kvs,e,q⟩
 rcases q with ⟨m,q⟩ | ⟨m,q⟩
 ·obtain ⟨ps,hp,pr⟩:=rm a _ m
  obtain ⟨o,I'⟩:=I.freeze hp
  have sb:Stab H (upd H a (.frz o (.dT ps))):=rm.stabPut m
  exact h pins s σ _ D I' ⟨ρ,ak M a (.fdc kvs),A,rs.mono sb,rm.put m ⟨o,ps,aq,Paired.mapP pr fun _ _ z=>⟨z.1,z.2.mono sb⟩⟩,lk.ext (Ext.put m),q⟩
 ·exact h pins s σ H D I ⟨ρ,M,A,rs,rm,lk,q⟩
noncomputable def jf (ta:TEd):TId:=fun ρ M R=>ta ρ M fun x M1 => ∃ a kvs,x = .ref a /\ M1 a = some (.fdc kvs) /\ R (kvs.map (·.1)) (fun _=>True) M1
theorem pW {ta:TEd} (h:ad ta):bZ (jf ta):=fun ρ M Q Q' i q=>h _ _ _ _ (fun x M1 ⟨a,ds,e,e1,q1⟩=>⟨a,ds,e,e1,i _ _ _ q1⟩) q
theorem lJ {K:PySem.W.Frag} {H:Hp}:∀ {kvs:List (D × D)} {es:List DictEntry},Paired (nD K H) kvs es -> ∀ (i:Nat) (e:DictEntry),es[i]? = some e -> ∃ (kv:D × D) (v:V),kvs[i]? = some kv /\ RD K H kv.1 v /\ RelV v e.key
 | _,_, .nil,_,_,h=>by simp at h
 | _,_, .cons r t,0,_,h=>by
   simp at h;subst h
   obtain ⟨kV,vV,g1,g2,_,_⟩:=r
   exact ⟨_,kV,rfl,g1,g2⟩
 | _,_, .cons _ t,i + 1,e,h=>by
   obtain ⟨kv,v,h1,h2⟩:=lJ t i e (by simpa using h)
   exact ⟨kv,v,by simpa using h1,h2⟩
theorem uZ {tg e:Expr} {ta:TEd} (m:ad ta) (he:PE X e (lE X.K ta)):PI X tg e (lI X.K (jf ta)):=by
 intro pins s σ H R I h
 obtain ⟨ρ,M,rs,rm,q⟩:=h
 have hq:lE X.K ta σ H (fun v H1 => ∃ a kvs M1,v = .ref a /\ Ext M H M1 H1 /\ RM X.K M1 H1 /\ M1 a = some (.fdc kvs) /\ ∀ J,eD X.K H1 (kvs.map (·.1)) (fun _=>True) J -> R J H1) :=
  ⟨ρ,M,rs,rm,m _ _ _ _ (fun x M1 ⟨a,kvs,e,e1,q1⟩ v H1 x1 rm1 rd1=>by
    subst e
    cases RD.ref_iff.mp rd1
    exact ⟨a,kvs,M1,rfl,x1,rm1,e1,fun J ij=>q1 J H1 x1 rm1 ij⟩) q⟩
 refine thn (he pins s σ H _ I hq) fun u s1 ⟨x,H1,I1,r1,a,kvs,M1,e0,x1,rm1,e1,q1⟩ => ?_
 subst e0
 cases r1
 obtain ⟨o,ps,hp,pr⟩:=rm1 _ _ e1
 obtain ⟨g0,ok⟩:=I1.hok a _ hp
 obtain ⟨cd,dd,sl,es,ep,g1,g2,g3⟩:=pT ok pr
 obtain ⟨ty,_,hsm⟩:=jn I1 (.inr ⟨ps, .inr ⟨o,hp⟩⟩)
 rw [g0] at g1
 cases g1
 have hcd:cd = .type "dict" := by
  obtain ⟨o,h1,h2⟩:=ty
  rw [g0] at h1;cases h1;exact h2
 subst hcd
 have lz:kvs.length = es.size:=by have:=bp g3;simpa using this
 refine Dk.it_dict hsm g0 ?_
 refine ⟨s1.heap.objs.size,[s1.heap.objs.size],_,_,H1,rfl,I1.kept (t':=s1.toks) fun b o e=>Heap.get?_push_of_some _ e,pV (G:=fun H=>H a = some (.frz { cls := .type "dict",dict:=dd,data := .dict es ep,slots:=sl } (.dT ps)) /\ Paired (fun (p:D × D) (q:List Key × V)=>RKeys p.1 q.1 /\ RD X.K H p.2 q.2) kvs ps) (yl:=fun i x H => ∃ kv,kvs[i]? = some kv /\ RD X.K H kv.1 x) a _ (fun H h=>⟨_,h.1⟩) (fun i H h hok ⟨ha,pr'⟩ e he => ?_),⟨Nat.zero_le _,Heap.get?_push_size _ rfl⟩,fun b hb => ?_,q1 _ ?_⟩
 ·obtain ⟨z0,ok'⟩:=hok a _ ha
  obtain ⟨cd,dd,sl',es',ep',z1,_,z3⟩:=pT ok' pr'
  rw [z0] at z1
  cases z1
  obtain ⟨kv,v,y1,y2,y3⟩:=lJ z3 i e (by simpa using he)
  exact ⟨v,y3,kv,y1,y2⟩
 ·have e:b = s1.heap.objs.size:=by simpa using hb
  subst e
  exact I1.fpOk (Nat.le_refl _) (I1.hok.fresh (Nat.le_refl _))
 ·intro M' H' st rm' _ i
  have hp':=st.frz _ _ _ hp
  have pr':Paired (fun (p:D × D) (q:List Key × V)=>RKeys p.1 q.1 /\ RD X.K H' p.2 q.2) kvs ps:=Paired.mapP pr fun _ _ z=>⟨z.1,z.2.mono st⟩
  rw [List.length_map,lz]
  refine ⟨fun hi=>⟨hi,hp',pr'⟩,fun hi=>⟨⟨hi,hp',pr'⟩,fun x H'' y => ?_⟩⟩
  obtain ⟨e,kv,y1,y2⟩:=y
  subst e
  exact ⟨.inl rfl,kv.1,by rw [List.getElem?_map,y1];rfl,y2⟩
end
end Mi
end L2
namespace L2
open PySem PySem.Spec PyProof.Rows
section
variable {prog:Program} {w:World} {K:Type} [DecidableEq K] {knd:HeapKind prog w K} {A:Around} {E:Value -> Shared -> Prop} {s:Shared}
noncomputable def cB (ev:Value -> Value -> Bool) (xb:List (K × Addr × Value)) (x:K × Addr × Value):Bool:=match atKey xb x.1 with
 | some p=>ev x.2.2 p.2
 | none=>false
theorem xz {nm:String} {a b:Addr} {xa xb:List (K × Addr × Value)} {ev:Value -> Value -> Bool} {Q:Bool -> Shared -> Prop} (hu:knd.room A) (ha:(a == sysModules) = false) (hb:(b == sysModules) = false)
 (da:s.heap.DictOfH knd a xa) (db:s.heap.DictOfH knd b xb) (hev:∀ x ∈ xa, ∀ y ∈ xb,SeqAt.EqAt A s x.2.2 y.2.2 (ev x.2.2 y.2.2)) (h:Q (xa.length == xb.length && xa.all (cB ev xb)) s) :
 wpAny (model prog w) A (Builtin.Dict.samePairs nm a b) Q E s:=by
 obtain ⟨oa,es,ep,hoa,_,hda,hea,hia,hna⟩:=da
 obtain ⟨ob,es',ep',hob,_,hdb,heb,hib,hnb⟩:=db
 have hla:xa.length = es.size:=(size_of_entries hea).symm
 have hlb:xb.length = es'.size:=(size_of_entries heb).symm
 rw [hla,hlb] at h
 unfold Builtin.Dict.samePairs Builtin.Dict.showsAll
 rw [if_neg (show ¬ (a == sysModules) = true by rw [ha];exact Bool.false_ne_true),if_neg (show ¬ (b == sysModules) = true by rw [hb];exact Bool.false_ne_true)]
 refine wpAny_bind (wpAny_pure (wpAny_bind (wpAny_pure ?_)))
 refine wpAny_bind (wpAny_dictEntries hoa hda ?_)
 dsimp only
 refine wpAny_bind (wpAny_dictEntries hob hdb ?_)
 by_cases hsz:es.size = es'.size
 case neg =>
  rw [if_pos (by simpa using hsz)]
  have hbf:(es.size == es'.size) = false:=by simpa using hsz
  rw [hbf,Bool.false_and] at h
  exact wpAny_bind (wpAny_rule (wpAny_pure h))
 case pos =>
  have h':Q (xa.all (cB ev xb)) s:=by simpa [hsz] using h
  rw [if_neg (by rw [hsz];simp)]
  refine wpAny_bind (wpAny_dictEpoch hoa hda ?_)
  refine wpAny_bind ?_
  rw [Std.Legacy.Range.forIn_eq_forIn_range']
  simp only [Std.Legacy.Range.size,Nat.sub_zero,Nat.add_sub_cancel,Nat.div_one]
  refine wpAny_forIn_list _
   (fun rest q s'=>s' = s /\ q = (none,()) /\ ∃ i,rest = List.range' i (es.size - i) /\ i <= es.size /\ xa.all (cB ev xb) = (xa.drop i).all (cB ev xb))
   _ ?_ ?_ _ _ ⟨rfl,rfl,0,by simp,Nat.zero_le _,by simp⟩
  ·rintro x rest q s' ⟨rfl,rfl,i,hr,hi,hpre⟩
   have hlt:i < es.size:=by
    rcases Nat.lt_or_ge i es.size with h | h
    ·exact h
    ·rw [Nat.sub_eq_zero_of_le h] at hr;simp at hr
   obtain ⟨rfl,hrest⟩:x = i /\ rest = List.range' (i + 1) (es.size - (i + 1)):=by
    have e:es.size - i = (es.size - (i + 1)) + 1:=by omega
    rw [e,List.range'_succ] at hr
    injection hr with h1 h2
    exact ⟨h1,h2⟩
   have hlt':x < xa.length:=by rw [hla];exact hlt
   refine wpAny_bind (wpAny_dictEntries hoa hda ?_)
   rw [entry_at hea x,List.getElem?_eq_getElem hlt']
   have hdrop:xa.drop x = xa[x] :: xa.drop (x + 1):=List.drop_eq_getElem_cons hlt'
   have hmem:xa[x] ∈ xa:=List.getElem_mem hlt'
   rw [hdrop,List.all_cons] at hpre
   show wpAny _ _ (holding [_,_] _ >>= _) _ _ _
   refine wpAny_bind (wpAny_holding (wpAny_bind (wpAny_dictFind_heap (k:=xa[x].1) (a:=xa[x].2.1) hu (hia _ hmem) hob hdb heb hib hnb (fun hno => ?_) (fun j p hj => ?_))))
   ·have hn:cB ev xb xa[x] = false:=by unfold cB;rw [atKey_none_of_get hno]
    rw [hpre,hn,Bool.false_and] at h'
    refine wpAny_pure ?_
    show wpAny _ _ (if (!false) = true then _ else _) _ _ _
    rw [if_pos (by decide)]
    exact wpAny_pure (wpAny_pure h')
   ·have hn:cB ev xb xa[x] = ev xa[x].2.2 p.2:=by unfold cB;rw [atKey_of_get hnb hj]
    refine wpAny_bind (wpAny_dictEntries hob hdb ?_)
    rw [entry_at heb j,hj]
    refine wpAny_holding (hev _ hmem _ (List.mem_of_getElem? hj) prog w _ _ ?_)
    show wpAny _ _ (if (!(ev xa[x].2.2 p.2)) = true then _ else _) _ _ _
    rw [hn] at hpre
    cases e:ev xa[x].2.2 p.2 with
    | false =>
      rw [e,Bool.false_and] at hpre
      rw [hpre] at h'
      rw [if_pos (by decide)]
      exact wpAny_pure (wpAny_pure h')
    | true =>
      rw [e,Bool.true_and] at hpre
      rw [if_neg (by decide)]
      refine wpAny_bind (wpAny_dictEpoch hoa hda ?_)
      rw [if_neg (by simp)]
      exact wpAny_pure ⟨rfl,rfl,x + 1,hrest,hlt,hpre⟩
  ·rintro q s' ⟨rfl,rfl,i,hr,hi,hpre⟩
   have hin:i = es.size:=by
    rcases Nat.lt_or_ge i es.size with h | h
    ·have e:es.size - i = (es.size - (i + 1)) + 1:=by omega
     rw [e,List.range'_succ] at hr;exact nomatch hr
    ·exact Nat.le_antisymm hi h
   refine wpAny_pure ?_
   rw [hin, <- hla,List.drop_length] at hpre
   rw [hpre] at h'
   exact h'
theorem yQ {a b:Addr} {xa xb:List (K × Addr × Value)} {ev:Value -> Value -> Bool} {Q:Value -> Shared -> Prop} (hu:A.units < cLine) (hr:knd.room A.in1) (ha:(a == sysModules) = false) (hb:(b == sysModules) = false)
 (da:s.heap.DictOfH knd a xa) (db:s.heap.DictOfH knd b xb) (hev:∀ x ∈ xa, ∀ y ∈ xb,SeqAt.EqAt A.in1 s x.2.2 y.2.2 (ev x.2.2 y.2.2)) (h:Q (.bool (xa.length == xb.length && xa.all (cB ev xb))) s) :
 wpAny (model prog w) A (compareOp .Eq (.ref a) (.ref b)) Q E s:=by
 refine wpAny_richCompare_same_room (op := .Eq) da.typeIs db.typeIs PySem.F.slot_dict_eq (wpAny_call_entry PySem.F.slot_dict_eq da.typeIs PySem.F.entry_dict_eq ?_ (PySem.F.args_dict_eq_2 _ _)) hu
 show wpAny _ _ (Builtin.Dict.dictSlotArgs "__eq__" ⟨[.ref a, .ref b],[]⟩ >>= _) _ _ s
 refine wpAny_bind ?_
 unfold Builtin.Dict.dictSlotArgs
 refine wpAny_bind (wpAny_notOrdered_dict da.typeIs ?_)
 show wpAny _ _ (pure (Value.ref a,Value.ref b)) _ _ s
 refine wpAny_pure ?_
 refine wpAny_bind (wpAny_isInstance (T := "dict") db.typeIs PySem.F.sub_dict_dict ?_)
 simp only [Bool.not_true,Bool.false_eq_true,if_false]
 refine wpAny_bind (wpAny_pure (wpAny_bind (wpAny_pure ?_)))
 refine wpAny_bind (xz hr ha hb da db hev ?_)
 refine wpAny_pure ⟨_,rfl, ?_, ?_⟩
 ·exact fun x=>nomatch x
 ·simpa using h
end
namespace Mi
section
variable {X:Cx}
noncomputable def dI (M:Mem) (a:Addr) (kvs:List (D × D)):Prop:=(M a = some (.dct true kvs) ∨ M a = some (.fdc kvs)) /\ ∀ kv ∈ kvs, ∃ i,kv.2 = .int i
noncomputable def eqD (ps qs:List (D × D)):Bool:=ps.length == qs.length && ps.all fun kv=>decide (dget qs kv.1 = some kv.2)
noncomputable def s9:R2d:=fun x y M Q => ∃ a b ps qs,x = .ref a /\ y = .ref b /\ dI M a ps /\ dI M b qs /\ Q (.bl (eqD ps qs)) M
theorem sd:aT s9:=fun _ _ _ _ _ h ⟨a,b,ps,qs,e1,e2,e3,e4,q⟩=>⟨a,b,ps,qs,e1,e2,e3,e4,h _ _ q⟩
noncomputable def evI:Value -> Value -> Bool
 | .int i _, .int j _=>i == j
 | _,_=>false
theorem dI.at {K:PySem.W.Frag} {M:Mem} {H:Hp} {a:Addr} {kvs:List (D × D)} (rm:RM K M H) (h:dI M a kvs):∃ ps,Rd H a (.dT ps) /\ Paired (fun (p:D × D) (q:List Key × V)=>RKeys p.1 q.1 /\ RD K H p.2 q.2) kvs ps:=by
 rcases h.1 with e | e
 ·obtain ⟨ps,hp,pr⟩:=rm a _ e;exact ⟨ps, .inl hp,pr⟩
 ·obtain ⟨o,ps,hp,pr⟩:=rm a _ e;exact ⟨ps, .inr ⟨o,hp⟩,pr⟩
theorem ka {K:PySem.W.Frag} {H:Hp} {kvs:List (D × D)} {ps:List (List Key × V)} {xs:List (List Key × Addr × Value)} (pr:Paired (fun (p:D × D) (q:List Key × V)=>RKeys p.1 q.1 /\ RD K H p.2 q.2) kvs ps) (kt:KT H ps xs) (hi:∀ kv ∈ kvs, ∃ i,kv.2 = .int i):∀ x ∈ xs, ∃ i t,x.2.2 = .int i t:=by
 induction pr generalizing xs with
 | nil=>cases kt;intro x hx;exact nomatch hx
 | @cons p q ps qs h t ih =>
  cases kt with
  | cons g gt =>
    intro x hx
    rcases List.mem_cons.mp hx with e | hx
    ·subst e
     obtain ⟨i,ei⟩:=hi p (by simp)
     have:=h.2
     rw [ei] at this
     have z:=g.2.2
     rw [RD.int_iff.mp this] at z
     obtain ⟨t,ht⟩:=z
     exact ⟨i,t,ht⟩
    ·exact ih gt (fun kv hkv=>hi kv (by simp [hkv])) x hx
theorem xA {K:PySem.W.Frag} {H:Hp} {kvs:List (D × D)} {ps:List (List Key × V)} {xs:List (List Key × Addr × Value)} (pr:Paired (fun (p:D × D) (q:List Key × V)=>RKeys p.1 q.1 /\ RD K H p.2 q.2) kvs ps) (kt:KT H ps xs) (hi:∀ kv ∈ kvs, ∃ i,kv.2 = .int i)
 {k:D} {q:List Key} (hk:RKeys k q) (i:Int) (t:Tok) (b:Addr):cB evI xs (q,b, .int i t) = decide (dget kvs k = some (.int i)):=by
 obtain ⟨g1,g2⟩:=dO (RK:=RKeys) RKeys.inj RKeys.fun hk pr
 have hv:=KT.val kt q
 unfold cB
 dsimp only
 cases e:dget kvs k with
 | none =>
   rw [g2 e] at hv
   cases z:atKey xs q with
   | none=>simp
   | some p=>rw [z] at hv;exact hv.elim
 | some d =>
   obtain ⟨v,e1,e2⟩:=g1 d e
   rw [e1] at hv
   cases z:atKey xs q with
   | none=>rw [z] at hv;exact hv.elim
   | some p =>
     rw [z] at hv
     obtain ⟨j,ej⟩:∃ j,d = .int j:=by
      unfold dget at e
      obtain ⟨kv,h1,h2⟩:=Option.map_eq_some_iff.mp e
      obtain ⟨j,hj⟩:=hi kv (List.mem_of_find?_eq_some h1)
      exact ⟨j,by rw [<- h2];exact hj⟩
     subst ej
     cases RD.int_iff.mp e2
     obtain ⟨t',ht⟩:∃ t',p.2 = .int j t':=hv
     dsimp only
     rw [ht]
     show (i == j) = decide (some (D.int j) = some (D.int i))
     by_cases hij:i = j
     ·subst hij;simp
     ·have hji : ¬ j = i:=fun z=>hij z.symm
      simp [hij,hji]
theorem xB {K:PySem.W.Frag} {H:Hp} {kvs ls:List (D × D)} {ps us:List (List Key × V)} {xs ys:List (List Key × Addr × Value)} (pr:Paired (fun (p:D × D) (q:List Key × V)=>RKeys p.1 q.1 /\ RD K H p.2 q.2) kvs ps) (kt:KT H ps xs) (hi:∀ kv ∈ kvs, ∃ i,kv.2 = .int i)
 (pr':Paired (fun (p:D × D) (q:List Key × V)=>RKeys p.1 q.1 /\ RD K H p.2 q.2) ls us) (kt':KT H us ys) (hi':∀ kv ∈ ls, ∃ i,kv.2 = .int i) :
 (xs.length == ys.length && xs.all (cB evI ys)) = eqD kvs ls:=by
 have l1:xs.length = kvs.length:=by rw [bp pr,bp kt]
 have l2:ys.length = ls.length:=by rw [bp pr',bp kt']
 unfold eqD
 rw [l1,l2]
 congr 1
 clear l1 l2
 induction pr generalizing xs with
 | nil=>cases kt;rfl
 | @cons p q ps qs h t ih =>
  cases kt with
  | @cons _ x _ xs g gt =>
   rw [List.all_cons,List.all_cons,ih gt (fun kv hkv=>hi kv (by simp [hkv]))]
   congr 1
   obtain ⟨i,ei⟩:=hi p (by simp)
   have:=h.2
   rw [ei] at this
   have z:=g.2.2
   rw [RD.int_iff.mp this] at z
   obtain ⟨t,ht⟩:∃ t',x.2.2 = .int i t':=z
   obtain ⟨x1,x2,x3⟩:=x
   dsimp only at ht g
   subst ht
   rw [ei, <- g.1]
   exact xA pr' kt' hi' h.1 i t x2
theorem se {pins:List (Addr × Obj)} {σ:St} {H:Hp} {s:Shared} {M:Mem} {A:Around} {E:Value -> Shared -> Prop} {Q:Value -> Shared -> Prop} {ps qs:List (D × D)} {a b:Addr} (hu:A.units + 2 < cLine) (I:Inv X pins σ H s) (rm:RM X.K M H) (h1:dI M a ps) (h2:dI M b qs) (h:Q (.bool (eqD ps qs)) s):wpAny (model X.prog X.w) A (compareOp .Eq (.ref a) (.ref b)) Q E s:=by
 obtain ⟨us,hp,pr⟩:=h1.at rm
 obtain ⟨vs,hp',pr'⟩:=h2.at rm
 obtain ⟨_,sm,xs,kt,dd⟩:=fb I.hok hp
 obtain ⟨_,sm',ys,kt',dd'⟩:=fb I.hok hp'
 have i1:=ka pr kt h1.2
 have i2:=ka pr' kt' h2.2
 refine yQ (ev:=evI) (by omega) (tupleKind_room_in1 (by omega)) sm sm' dd dd' (fun x hx y hy => ?_) (by rw [xB pr kt h1.2 pr' kt' h2.2];exact h)
 obtain ⟨i,t,e⟩:=i1 x hx
 obtain ⟨j,u,e'⟩:=i2 y hy
 rw [e,e']
 exact SeqAt.EqAt.int_int i t j u
theorem sg (hu:X.A.units + 2 < cLine):OpR X (compareOp .Eq) (l2 X.K s9):=by
 intro pins s σ H x y v u Q I rx ry h
 obtain ⟨x',y',M,rm,rdx,rdy,a,b,ps,qs,rfl,rfl,h1,h2,q⟩:=h
 cases RD.ref_iff.mp rdx
 cases RD.ref_iff.mp rdy
 cases rx
 cases ry
 exact se hu I rm h1 h2 ⟨.bl (eqD ps qs),H,I,rfl,q _ H Ext.refl rm (RD.bl_iff.mpr rfl)⟩
end
end Mi
end L2
namespace L2
namespace Mi
open PySem PySem.Spec PyProof.Rows
section
variable {X:Cx}
noncomputable def nJ:RAd:=fun xs M Q => ∃ ns:List Int,xs = [.tup (ns.map .int)] /\ ns ≠ [] /\ ∀ i ∈ ns,(∀ j ∈ ns,j <= i) -> Q (.int i) M
theorem iH:aU nJ:=fun _ _ _ _ h ⟨ns,e,e2,q⟩=>⟨ns,e,e2,fun i hi hj=>h _ _ (q i hi hj)⟩
theorem ld (hc:X.calm = true):CallR X (.builtin "max") (lR X.K nJ):=by
 intro pins s σ H xs us Q I r h
 obtain ⟨ds,M,rm,rs,ns,rfl,hne,q⟩:=h
 obtain ⟨v,rfl,rv⟩:=rs.one
 obtain ⟨u,rfl,ru⟩:=dg r
 obtain ⟨a,vs,rfl,ha,ra⟩:=RD.tup_iff.mp rv
 rw [ra.ints_eq] at ha
 cases (show u = Value.ref a from ru)
 obtain ⟨its,r1,p1,hz⟩:=I.tuple (SqT.of ha)
 have hl:its.length = ns.length:=by have:=r1.length;simp at this;omega
 have hT:s.heap.IsTuple a its.toArray:=p1
 have lt:=Heap.lt_size hT.choose_spec.1
 have hpos : 0 < ns.length:=List.length_pos_iff.mpr hne
 have hval:∀ (i:Nat) (v:Value),its.toArray[i]? = some v -> ∃ t,v = .int ((ns[i]?).getD 0) t:=fun i v e=>by
  have e':its[i]? = some v:=by simpa using e
  have hi:i < ns.length:=by rw [<- hl];exact (List.getElem?_eq_some_iff.mp e').1
  obtain ⟨u,e1,e2⟩:=r1.get (i:=i) (x := .int ns[i]) (by rw [List.getElem?_map,List.getElem?_eq_getElem hi];rfl)
  rw [e'] at e1
  cases e1
  obtain ⟨t,ht⟩:=e2
  exact ⟨t,by rw [ht,List.getElem?_eq_getElem hi];rfl⟩
 have hn:X.A.in1.handled = none:=I.ok.hd hc
 refine call_max_walk (wpAny_pyIter_tuple hT ?_)
 refine ⟨_,[_,a],[_],_,_,_,_,rfl,Walks.tuple (A:=X.A.in1) hn _ a (Nat.ne_of_lt lt) its.toArray,⟨⟨_,Heap.get?_push_size _ rfl,rfl,rfl⟩,hT.push _⟩,fun d hd => ?_,by simpa [hl] using hpos,CmpOf.ints_gt (fun i=>(ns[i]?).getD 0) hval,fun v h' tk hP hk => ?_⟩
 ·rw [Heap.size_push]
  rcases List.mem_cons.mp hd with rfl | hd
  ·exact Nat.lt_succ_self _
  ·rcases List.mem_cons.mp hd with rfl | hd
   ·exact Nat.lt_succ_of_lt lt
   ·cases hd
 ·obtain ⟨g1,g2⟩:=argBest_gt (fun i=>(ns[i]?).getD 0) (its.toArray.size - 1)
  generalize argBest (fun i j=>decide ((fun i=>(ns[i]?).getD 0) i > (fun i=>(ns[i]?).getD 0) j)) (its.toArray.size - 1) = k at hP g1 g2
  obtain ⟨t,ht⟩:=hval k v hP
  have sz:its.toArray.size = ns.length:=by simp [hl]
  have hk':k < ns.length:=by omega
  have e0:ns[k]? = some ns[k]:=List.getElem?_eq_getElem hk'
  refine ⟨.int ns[k],H,I.kept (fun b o e=>hk b o (fun hm => ?_) (Heap.get?_push_of_some _ e)),⟨t,by rw [ht,e0];rfl⟩, ?_⟩
  ·rcases List.mem_cons.mp hm with e1 | hm
   ·exact absurd (e1 ▸ Heap.lt_size e) (Nat.lt_irrefl _)
   ·cases hm
  ·refine q _ (List.getElem_mem hk') (fun j hj => ?_) _ H Ext.refl rm (RD.int_iff.mpr rfl)
   obtain ⟨m,hm,rfl⟩:=List.getElem_of_mem hj
   have:=g2 m (by omega)
   simpa [e0,List.getElem?_eq_getElem hm] using this
end
end Mi
end L2
namespace L2
namespace Mi
open PySem PySem.Spec PyProof.Rows
inductive BOp where | add | sub | mul | fdiv | mod | pow
inductive COp where | eq | ne | lt | gt | ge | eqD
inductive BF where | len | abs | min2 | int | list | tuple | all | dict | maxT
inductive MF where | append
inductive MF0 where | clear | reverse
mutual
inductive MG where
 | name (i:Nat)
 | tup (gs:MGs)
inductive MGs where
 | nil
 | cons (g:MG) (r:MGs)
end
mutual
inductive ME where
 | var (i:Nat)
 | int (i:Int)
 | bl (b:Bool)
 | bin (op:BOp) (a b:ME)
 | neg (a:ME)
 | cmp (op:COp) (a b:ME)
 | and (es:MEs)
 | not (a:ME)
 | ite (c:MT) (a b:ME)
 | tup (es:MEs)
 | lst (es:MEs)
 | ix (a b:ME)
 | sl (a:ME) (lo hi:MO)
 | call (f:Nat) (es:MEs)
 | blt (f:BF) (es:MEs)
 | isin (a:ME) (T:String)
 | isin2 (a:ME) (T U:String)
 | dnew (t:Bool)
 | dget (o k x:ME)
 | meth (m:MF) (o a:ME)
 | comp (fr:List (Option Nat)) (N:List Str) (c:MC)
inductive MEs where
 | nil
 | cons (e:ME) (r:MEs)
inductive MO where
 | none
 | some (e:ME)
inductive MT where
 | tru (e:ME)
 | cmp (op:COp) (a b:ME)
 | and (ts:MTs)
 | or (ts:MTs)
 | not (t:MT)
inductive MTs where
 | nil
 | cons (t:MT) (r:MTs)
inductive MI where
 | seq (e:ME)
 | rng1 (a:ME)
 | zip (a b:ME)
 | enum (a:ME)
 | keys (a:ME)
inductive MC where
 | last (src:MI) (g:MG) (ifs:MTs) (elt:ME)
 | more (src:MI) (g:MG) (ifs:MTs) (rest:MC)
end
mutual
inductive MS where
 | asg (g:MG) (e:ME)
 | par (i j:Nat) (a b:ME)
 | put (o i e:ME)
 | drop (e:ME)
 | ret (e:ME)
 | ite (c:MT) (a b:MSs)
 | for (g:MG) (src:MI) (b:MSs)
 | while (c:MT) (b:MSs)
 | frz (i:Nat) (s:MS)
 | pass | brk | cnt
inductive MSs where
 | nil
 | cons (s:MS) (r:MSs)
end
noncomputable def opB:BOp -> R2d
 | .add=>fJ | .sub=>mV | .mul=>eC | .fdiv=>gn | .mod=>jx | .pow=>mW
noncomputable def opC:COp -> R2d
 | .eq=>wEq | .ne=>wNe | .lt=>wLt| .gt=>wGt | .ge=>wGe| .eqD=>s9
noncomputable def opF:BF -> RAd
 | .len=>cS | .abs=>jB| .min2=>iW | .int=>jC | .list=>n8 | .tuple=>jF| .all=>nB| .dict=>nG| .maxT=>nJ
noncomputable def opM:MF -> D -> List D -> Mem -> QD -> Prop
 | .append=>hZ
noncomputable def zK:MF0 -> D -> List D -> Mem -> QD -> Prop
 | .clear=>xc | .reverse=>rA
noncomputable def opI:BOp -> R2d
 | .add=>tw | .sub=>tz | .mul=>tD | _=>fun _ _ _ _=>False
theorem kb:∀ o,aT (opB o)
 | .add=>qW | .sub=>qX | .mul=>qY | .fdiv=>p7 | .mod=>qZ | .pow=>r6
theorem dY:∀ o,aT (opC o)
 | .eq=>ui | .ne=>uj | .lt=>um| .gt=>uo | .ge=>uq| .eqD=>sd
theorem si:∀ o,aU (opF o)
 | .len=>jA | .abs=>jD| .min2=>ir | .int=>jE | .list=>iu | .tuple=>gq| .all=>jO| .dict=>iG| .maxT=>iH
theorem sj:∀ o,j6 (opM o)
 | .append=>fC
noncomputable abbrev Phi:=Nat -> RAd
mutual
noncomputable def bG:MG -> BT
 | .name i=>bv i
 | .tup gs=>nh (bGs gs)
noncomputable def bGs:MGs -> BTs
 | .nil=>fL
 | .cons g r=>bY (bG g) (bGs r)
end
mutual
noncomputable def wE (Φ:Phi):ME -> TEd
 | .var i=>br i
 | .int i=>wC (.int i)
 | .bl b=>wC (.bl b)
 | .bin op a b=>wOp (opB op) (wE Φ a) (wE Φ b)
 | .neg a=>wUn mX (wE Φ a)
 | .cmp op a b=>wOp (opC op) (wE Φ a) (wE Φ b)
 | .and es=>wAnds Φ es
 | .not a=>j3 (wE Φ a)
 | .ite c a b=>wIf (wT Φ c) (wE Φ a) (wE Φ b)
 | .tup es=>wAr mU (wA Φ es)
 | .lst es=>wAr jv (wA Φ es)
 | .ix a b=>wOp wIx (wE Φ a) (wE Φ b)
 | .sl a lo hi=>wSl (wE Φ a) (wO Φ lo) (wO Φ hi)
 | .call f es=>wAr (Φ f) (wA Φ es)
 | .blt f es=>wAr (opF f) (wA Φ es)
 | .isin a T=>j5 T (wE Φ a)
 | .isin2 a T U=>gG T U (wE Φ a)
 | .dnew t=>jc t
 | .dget o k x=>je (wE Φ o) (wE Φ k) (wE Φ x)
 | .meth m o a=>wBM (opM m) (wE Φ o) (aK (wE Φ a) bO)
 | .comp fr _ c=>wCmp Φ fr c
noncomputable def wA (Φ:Phi):MEs -> TAd
 | .nil=>bO
 | .cons e r=>aK (wE Φ e) (wA Φ r)
noncomputable def wAnds (Φ:Phi):MEs -> TEd
 | .nil=>fun _ _ _=>False
 | .cons e .nil=>wE Φ e
 | .cons e (.cons f r)=>iZ (wE Φ e) (wAnds Φ (.cons f r))
noncomputable def wO (Φ:Phi):MO -> TOd
 | .none=>fg
 | .some e=>j4 (wE Φ e)
noncomputable def wT (Φ:Phi):MT -> TTd
 | .tru e=>n9 (wE Φ e)
 | .cmp op a b=>hC (wOp (opC op) (wE Φ a) (wE Φ b))
 | .and ts=>wAndTs Φ ts
 | .or ts=>wOrTs Φ ts
 | .not t=>iX (wT Φ t)
noncomputable def wAndTs (Φ:Phi):MTs -> TTd
 | .nil=>fun _ _ _=>False
 | .cons e .nil=>wT Φ e
 | .cons e (.cons f r)=>iY (wT Φ e) (wAndTs Φ (.cons f r))
noncomputable def wOrTs (Φ:Phi):MTs -> TTd
 | .nil=>fun _ _ _=>False
 | .cons e .nil=>wT Φ e
 | .cons e (.cons f r)=>nc (wT Φ e) (wOrTs Φ (.cons f r))
noncomputable def wTl (Φ:Phi):MTs -> List TTd
 | .nil => []
 | .cons t r=>wT Φ t :: wTl Φ r
noncomputable def wI (Φ:Phi):MI -> TId
 | .seq e=>jJ (wE Φ e)
 | .rng1 a=>j7 (aK (wE Φ a) bO)
 | .zip a b=>jK (wE Φ a) (wE Φ b)
 | .enum a=>j9 (wE Φ a)
 | .keys a=>jf (wE Φ a)
noncomputable def wCl (Φ:Phi):MC -> TCd
 | .last src g ifs elt=>cM (wI Φ src) (bG g) (bx (wTl Φ ifs) (ck (wE Φ elt)))
 | .more src g ifs rest=>cM (wI Φ src) (bG g) (bx (wTl Φ ifs) (wCl Φ rest))
noncomputable def wCmp (Φ:Phi) (fr:List (Option Nat)):MC -> TEd
 | .last src g ifs elt=>gv fr (wI Φ src) (bG g) (bx (wTl Φ ifs) (ck (wE Φ elt)))
 | .more src g ifs rest=>gv fr (wI Φ src) (bG g) (bx (wTl Φ ifs) (wCl Φ rest))
end
mutual
noncomputable def wS (Φ:Phi):MS -> TSd
 | .asg g e=>i3 (wE Φ e) (bG g)
 | .par i j a b=>nk (aK (wE Φ a) (aK (wE Φ b) bO)) (bY (bv i) (bY (bv j) fL))
 | .put o i e=>nA (wE Φ e) (wE Φ o) (wE Φ i)
 | .drop e=>jb (wE Φ e)
 | .ret e=>nj (wE Φ e)
 | .ite c a b=>sIf (wT Φ c) (wSs Φ a) (wSs Φ b)
 | .for g src b=>nl (wI Φ src) (bG g) (wSs Φ b)
 | .while c b=>gB (wT Φ c) (wSs Φ b)
 | .frz i s=>i4 i (wS Φ s)
 | .pass=>gy
 | .brk=>gA
 | .cnt=>ja
noncomputable def wSs (Φ:Phi):MSs -> TSd
 | .nil=>gy
 | .cons s r=>ni (wS Φ s) (wSs Φ r)
end
section
variable {Φ:Phi} (hΦ:∀ f,aU (Φ f))
include hΦ
mutual
theorem mE:∀ m,ad (wE Φ m)
 | .var _=>by rw [wE];exact qT
 | .int _=>by rw [wE];exact oT
 | .bl _=>by rw [wE];exact oT
 | .bin op a b=>by rw [wE];exact dz (kb op) (mE a) (mE b)
 | .neg a=>by rw [wE];exact uf jy (mE a)
 | .cmp op a b=>by rw [wE];exact dz (dY op) (mE a) (mE b)
 | .and es=>by rw [wE];exact mAnds es
 | .not a=>by rw [wE];exact pw (mE a)
 | .ite c a b=>by rw [wE];exact uB (mT c) (mE a) (mE b)
 | .tup es=>by rw [wE];exact fe oV (mA es)
 | .lst es=>by rw [wE];exact fe oW (mA es)
 | .ix a b=>by rw [wE];exact dz lq (mE a) (mE b)
 | .sl a lo hi=>by rw [wE];exact uE (mE a) (mO lo) (mO hi)
 | .call f es=>by rw [wE];exact fe (hΦ f) (mA es)
 | .blt f es=>by rw [wE];exact fe (si f) (mA es)
 | .isin a T=>by rw [wE];exact pB (mE a)
 | .isin2 a T U=>by rw [wE];exact nI (mE a)
 | .dnew _=>by rw [wE];exact pO
 | .dget o k x=>by rw [wE];exact pU (mE o) (mE k) (mE x)
 | .meth m o a=>by rw [wE];exact uG (sj m) (mE o) (aC (mE a) aE)
 | .comp fr _ c=>by rw [wE];exact mCmp fr c
theorem mA:∀ m,bm (wA Φ m)
 | .nil=>by rw [wA];exact aE
 | .cons e r=>by rw [wA];exact aC (mE e) (mA r)
theorem mAnds:∀ m,ad (wAnds Φ m)
 | .nil=>by rw [wAnds];exact fun _ _ _ _ _ q=>q.elim
 | .cons e .nil=>by rw [wAnds];exact mE e
 | .cons e (.cons f r)=>by rw [wAnds];exact pv (mE e) (mAnds (.cons f r))
theorem mO:∀ m,dP (wO Φ m)
 | .none=>by rw [wO];exact kZ
 | .some e=>by rw [wO];exact pA (mE e)
theorem mT:∀ m,az (wT Φ m)
 | .tru e=>by rw [wT];exact rp (mE e)
 | .cmp op a b=>by rw [wT];exact qU (dz (dY op) (mE a) (mE b))
 | .and ts=>by rw [wT];exact mAndTs ts
 | .or ts=>by rw [wT];exact mOrTs ts
 | .not t=>by rw [wT];exact ph (mT t)
theorem mAndTs:∀ m,az (wAndTs Φ m)
 | .nil=>by rw [wAndTs];exact fun _ _ _ _ _ q=>q.elim
 | .cons e .nil=>by rw [wAndTs];exact mT e
 | .cons e (.cons f r)=>by rw [wAndTs];exact pj (mT e) (mAndTs (.cons f r))
theorem mOrTs:∀ m,az (wOrTs Φ m)
 | .nil=>by rw [wOrTs];exact fun _ _ _ _ _ q=>q.elim
 | .cons e .nil=>by rw [wOrTs];exact mT e
 | .cons e (.cons f r)=>by rw [wOrTs];exact rq (mT e) (mOrTs (.cons f r))
theorem mTl:∀ m, ∀ t ∈ wTl Φ m,az t
 | .nil=>by rw [wTl];intro t ht;simp at ht
 | .cons t r=>by
  rw [wTl];intro t' ht
  rcases List.mem_cons.mp ht with e | e
  ·rw [e];exact mT t
  ·exact mTl r t' e
theorem mI:∀ m,bZ (wI Φ m)
 | .seq e=>by rw [wI];exact rD (mE e)
 | .rng1 a=>by rw [wI];exact pF (aC (mE a) aE)
 | .zip a b=>by rw [wI];exact rE (mE a) (mE b)
 | .enum a=>by rw [wI];exact pG (mE a)
 | .keys a=>by rw [wI];exact pW (mE a)
theorem mCl:∀ m,bT (wCl Φ m)
 | .last src g ifs elt=>by rw [wCl];exact fD (mI src) (aH (bC (mE elt)) (mTl ifs))
 | .more src g ifs rest=>by rw [wCl];exact fD (mI src) (aH (mCl rest) (mTl ifs))
theorem mCmp (fr:List (Option Nat)):∀ m,ad (wCmp Φ fr m)
 | .last src g ifs elt=>by rw [wCmp];exact iw (mI src) (aH (bC (mE elt)) (mTl ifs))
 | .more src g ifs rest=>by rw [wCmp];exact iw (mI src) (aH (mCl rest) (mTl ifs))
end
mutual
theorem mS:∀ m,aB (wS Φ m)
 | .asg g e=>by rw [wS];exact rH (mE hΦ e)
 | .par i j a b=>by rw [wS];exact rJ (aC (mE hΦ a) (aC (mE hΦ b) aE))
 | .put o i e=>by rw [wS];exact rQ (mE hΦ e) (mE hΦ o) (mE hΦ i)
 | .drop e=>by rw [wS];exact pJ (mE hΦ e)
 | .ret e=>by rw [wS];exact rF (mE hΦ e)
 | .ite c a b=>by rw [wS];exact rG (mT hΦ c) (mSs a) (mSs b)
 | .for g src b=>by rw [wS];exact rK (mI hΦ src) (mSs b)
 | .while c b=>by rw [wS];exact nr (mT hΦ c) (mSs b)
 | .frz i s=>by rw [wS];exact rZ (mS s)
 | .pass=>by rw [wS];exact iz
 | .brk=>by rw [wS];exact no
 | .cnt=>by rw [wS];exact pH
theorem mSs:∀ m,aB (wSs Φ m)
 | .nil=>by rw [wSs];exact iz
 | .cons s r=>by rw [wSs];exact pI (mS s) (mSs r)
end
end
end Mi
end L2
namespace L2
namespace Mi
open PySem PySem.Spec PyProof.Rows
structure Ctx where
 Γ:List Str
 N:List Str
 sc:Scope
 fn:List Str
 cs:List (Str × Int)
noncomputable def glB (sc:Scope) (x:Str):Bool:=sc.names.lookup x == some .globalImplicit
noncomputable def sk (sc:Scope) (x:Str):Bool:=sc.names.lookup x == some .local || sc.names.lookup x == some .cell || sc.names.lookup x == some .free
noncomputable def sn (sc:Scope) (x:Str):Bool:=sc.names.lookup x == some .local || sc.names.lookup x == some .cell
noncomputable def aM:Expr -> Bool
 | .Starred .. => false
 | _=>true
noncomputable def kc:Expr -> Bool
 | .Name .. | .Call .. | .Subscript .. | .Constant .. | .BinOp .. | .Attribute .. => true
 | _=>false
noncomputable def dC:Expr -> Bool
 | .Slice .. => false
 | _=>true
noncomputable def eL:Expr -> Bool
 | .ListComp .. | .SetComp .. | .DictComp .. => false
 | _=>true
noncomputable def gH:Expr -> Bool
 | .Set .. => false
 | _=>true
noncomputable def fk:Expr -> Bool
 | .Call .. => false
 | _=>true
noncomputable def opO:BOp -> Operator
 | .add => .Add | .sub => .Sub | .mul => .Mult | .fdiv => .FloorDiv | .mod => .Mod | .pow => .Pow
noncomputable def nK:COp -> CmpOp
 | .eq => .Eq | .ne => .NotEq | .lt => .Lt| .gt => .Gt | .ge => .GtE| .eqD => .Eq
noncomputable def ke:BF -> Str
 | .len => "len" | .abs => "abs"| .min2 => "min" | .int => "int" | .list => "list" | .tuple => "tuple"| .all => "all"| .dict => "dict"| .maxT => "max"
noncomputable def xC:MF -> Str
 | .append => "append"
noncomputable def fN:List Str := ["len", "abs", "max", "min", "int", "list", "tuple", "sum", "isinstance", "range", "bool", "str", "dict", "zip", "enumerate", "reversed", "sorted", "all", "any", "set"]
noncomputable def fO (sc osc:Scope):Scope :=
 { sc with names:=sc.names.map fun (n,k)=>if (k == .free && osc.kind == .function && osc.names.lookup n == some .cell) then (n, .cell) else (n,k) }
theorem lf (sc:Scope) (env:Env):relabel sc env = fO sc env.scope:=rfl
noncomputable def so (sc osc:Scope) (oN N':List Str) (fr:List (Option Nat)):Bool :=
 decide (sc.kind = .function) && decide ((sc.names.map (·.1)).Nodup) && decide (N'.Nodup)
  && sc.names.all (fun x => !(x.2 == .free) || osc.names.lookup x.1 == some .cell || osc.names.lookup x.1 == some .free)
  && decide (fr.length = N'.length)
  && (List.range N'.length).all fun i=>match fr[i]?,N'[i]? with
   | some (some j),some x=>decide (oN[j]? = some x) && sc.names.any (fun y=>decide (y = (x,NameKind.free)))
   | _,_=>true
mutual
noncomputable def okG:MG -> Ctx -> Expr -> Bool
 | .name i,C,e=>match e with
  | .Name x _=>decide (C.N[i]? = some x) && sn C.sc x && (C.sc.names.lookup x == some .local || C.fn.contains x)
  | _=>false
 | .tup gs,C,e=>match e with
  | .Tuple es _ _=>okGs gs C es
  | _=>false
noncomputable def okGs:MGs -> Ctx -> List Expr -> Bool
 | .nil,_,es=>es.isEmpty
 | .cons g r,C,es=>match es with
  | e :: es=>aM e && okG g C e && okGs r C es
  | [] => false
end
noncomputable def dr:Expr -> Option Str
 | .Name x _=>some x
 | _=>none
noncomputable def cI:Expr -> Option (List Expr)
 | .Tuple ts _ _=>some ts
 | _=>none
noncomputable def tI:Stmt -> Option (List Expr × Expr)
 | .Assign ts e _=>some (ts,e)
 | _=>none
theorem cN {e:Expr} {x:Str} (h:dr e = some x):∃ p,e = .Name x p:=by
 cases e <;> first
  | (cases h;exact ⟨_,rfl⟩)
  | cases h
theorem cW {e:Expr} {ts:List Expr} (h:cI e = some ts):∃ k p,e = .Tuple ts k p:=by
 cases e <;> first
  | (cases h;exact ⟨_,_,rfl⟩)
  | cases h
theorem sr {s:Stmt} {ts:List Expr} {e:Expr} (h:tI s = some (ts,e)):∃ p,s = .Assign ts e p:=by
 cases s <;> first
  | (cases h;exact ⟨_,rfl⟩)
  | cases h
noncomputable def cOf:Expr -> Option (Expr × List Expr × List Keyword × Pos)
 | .Call f xs ks p=>some (f,xs,ks,p)
 | _=>none
noncomputable def gI:Expr -> Option (Expr × Str × Pos)
 | .Attribute o n p=>some (o,n,p)
 | _=>none
noncomputable def gJ:Expr -> Option (Expr × Expr)
 | .Subscript x y _=>some (x,y)
 | _=>none
noncomputable def kf:Expr -> Option (Option Expr × Option Expr × Option Expr)
 | .Slice l u s _=>some (l,u,s)
 | _=>none
noncomputable def fo:Expr -> Option (Expr × List CmpOp × List Expr)
 | .Compare l os rs _=>some (l,os,rs)
 | _=>none
theorem pX {e f:Expr} {xs:List Expr} {ks:List Keyword} {p:Pos} (h:cOf e = some (f,xs,ks,p)):e = .Call f xs ks p:=by
 cases e <;> first
  | (cases h;rfl)
  | cases h
theorem su {e o:Expr} {n:Str} {p:Pos} (h:gI e = some (o,n,p)):e = .Attribute o n p:=by
 cases e <;> first
  | (cases h;rfl)
  | cases h
theorem sv {e x y:Expr} (h:gJ e = some (x,y)):∃ p,e = .Subscript x y p:=by
 cases e <;> first
  | (cases h;exact ⟨_,rfl⟩)
  | cases h
theorem v6 {e:Expr} {l u s:Option Expr} (h:kf e = some (l,u,s)):∃ p,e = .Slice l u s p:=by
 cases e <;> first
  | (cases h;exact ⟨_,rfl⟩)
  | cases h
theorem kg {e l:Expr} {os:List CmpOp} {rs:List Expr} (h:fo e = some (l,os,rs)):∃ p,e = .Compare l os rs p:=by
 cases e <;> first
  | (cases h;exact ⟨_,rfl⟩)
  | cases h
noncomputable def bK (e:Expr):Option (Str × List Expr):=match cOf e with
 | some (f,xs,[],_)=>match dr f with
   | some x=>some (x,xs)
   | none=>none
 | _=>none
noncomputable def cX (e:Expr):Option (Expr × Str × List Expr × Pos × Pos):=match cOf e with
 | some (f,xs,[],p)=>match gI f with
   | some (o,n,q)=>some (o,n,xs,q,p)
   | none=>none
 | _=>none
noncomputable def cO (e:Expr):Option (Expr × Option Expr × Option Expr × Option Expr):=match gJ e with
 | some (x,y)=>match kf y with
   | some (l,u,s)=>some (x,l,u,s)
   | none=>none
 | none=>none
theorem bQ {e:Expr} {x:Str} {xs:List Expr} (h:bK e = some (x,xs)):∃ p pos,e = .Call (.Name x p) xs [] pos:=by
 unfold bK at h
 split at h
 ·next f ys q h1 =>
  split at h
  ·next y h2 =>
   cases h
   obtain ⟨p,rfl⟩:=cN h2
   exact ⟨p,q,pX h1⟩
  ·cases h
 ·cases h
theorem iI {e o:Expr} {n:Str} {xs:List Expr} {q p:Pos} (h:cX e = some (o,n,xs,q,p)):e = .Call (.Attribute o n q) xs [] p:=by
 unfold cX at h
 split at h
 ·next f ys p' h1 =>
  split at h
  ·next o' n' q' h2 =>
   cases h
   rw [pX h1,su h2]
  ·cases h
 ·cases h
theorem nL {e x:Expr} {l u s:Option Expr} (h:cO e = some (x,l,u,s)):∃ p pos,e = .Subscript x (.Slice l u s p) pos:=by
 unfold cO at h
 split at h
 ·next x' y h1 =>
  split at h
  ·next l' u' s' h2 =>
   cases h
   obtain ⟨pos,rfl⟩:=sv h1
   obtain ⟨p,rfl⟩:=v6 h2
   exact ⟨p,pos,rfl⟩
  ·cases h
 ·cases h
mutual
noncomputable def okE:ME -> Ctx -> Expr -> Bool
 | .var i,C,e=>match e with
  | .Name x _=>decide (C.N[i]? = some x) && sk C.sc x && !(x == ("__debug__":Str)) && !(x == ("__classdict__":Str))
  | _=>false
 | .int i,_,e=>match e with
  | .Constant (.int j) _ _=>decide (i = j)
  | _=>false
 | .bl i,_,e=>match e with
  | .Constant (.bool j) _ _=>i == j
  | _=>false
 | .bin op a b,C,e=>match e with
  | .BinOp l o r _=>decide (o = opO op) && okE a C l && okE b C r
  | _=>false
 | .neg a,C,e=>match e with
  | .UnaryOp .USub x _=>okE a C x
  | _=>false
 | .cmp op a b,C,e=>match fo e with
  | some (l,[o],[r])=>decide (o = nK op) && okE a C l && okE b C r
  | _=>false
 | .and es,C,e=>match e with
  | .BoolOp .And xs _ => !xs.isEmpty && okEs es C xs
  | _=>false
 | .not a,C,e=>match e with
  | .UnaryOp .Not x _=>okE a C x
  | _=>false
 | .ite c a b,C,e=>match e with
  | .IfExp t x y _=>okT c C t && okE a C x && okE b C y
  | _=>false
 | .tup es,C,e=>match e with
  | .Tuple xs _ _=>okEs es C xs
  | _=>false
 | .lst es,C,e=>match e with
  | .List xs _=>okEs es C xs
  | _=>false
 | .ix a b,C,e=>match e with
  | .Subscript x y _=>dC y && okE a C x && okE b C y
  | _=>false
 | .sl a lo hi,C,e=>match cO e with
  | some (x,l,u,none)=>okE a C x && okO lo C l && okO hi C u
  | _=>false
 | .call f es,C,e=>match bK e with
  | some (x,xs)=>decide (C.Γ[f]? = some x) && glB C.sc x && !(x == ("__debug__":Str)) && okEs es C xs
  | _=>false
 | .blt f es,C,e=>match bK e with
  | some (x,xs)=>decide (x = ke f) && glB C.sc x && !xs.isEmpty && okEs es C xs
  | _=>false
 | .isin2 a T U,C,e=>match bK e with
  | some (x,[y,w])=>match cI w with
    | some [z',v'] => match dr z' with
      | some z=>match dr v' with
        | some v=>decide (x = "isinstance") && glB C.sc x && glB C.sc z && glB C.sc v && decide (z = Str.ofString T) && decide (v = Str.ofString U) && decide (T ∈ ["bool", "int", "str", "tuple", "list", "dict"]) && decide (U ∈ ["bool", "int", "str", "tuple", "list", "dict"]) && aM y && okE a C y
        | none=>false
      | none=>false
    | _=>false
  | _=>false
 | .isin a T,C,e=>match bK e with
  | some (x,[y,z'])=>match dr z' with
    | some z=>decide (x = "isinstance") && glB C.sc x && glB C.sc z && decide (z = Str.ofString T) && decide (T ∈ ["bool", "int", "str", "tuple", "list", "dict"]) && aM y && okE a C y
    | none=>false
  | _=>false
 | .dnew _,_,e=>match e with
  | .Dict [] [] _=>true
  | _=>false
 | .dget o k x,C,e=>match cX e with
  | some (y,n,[e1,e2],ap,cp)=>decide (n = "get") && fk y && (ap.endLine == cp.line) && aM e1 && aM e2 && okE o C y && okE k C e1 && okE x C e2
  | _=>false
 | .meth m o a,C,e=>match cX e with
  | some (x,n,[y],ap,cp)=>decide (n = xC m) && fk x && (ap.endLine == cp.line) && aM y && okE o C x && okE a C y
  | _=>false
 | .comp fr N' c,C,e=>match e with
  | .ListComp elt gens sc _=>so sc C.sc C.N N' fr && okC c C ⟨C.Γ,N',fO sc C.sc,(sc.names.filter (·.2 == .cell)).map (·.1),C.cs⟩ gens elt
  | _=>false
noncomputable def okEs:MEs -> Ctx -> List Expr -> Bool
 | .nil,_,es=>es.isEmpty
 | .cons m r,C,es=>match es with
  | e :: es=>aM e && okE m C e && okEs r C es
  | [] => false
noncomputable def okO:MO -> Ctx -> Option Expr -> Bool
 | .none,_,e=>e.isNone
 | .some m,C,e=>match e with
  | some e=>okE m C e
  | none=>false
noncomputable def okT:MT -> Ctx -> Expr -> Bool
 | .tru m,C,e=>kc e && okE m C e
 | .cmp op a b,C,e=>match fo e with
  | some (l,[o],[r])=>decide (o = nK op) && okE a C l && okE b C r
  | _=>false
 | .and ts,C,e=>match e with
  | .BoolOp .And xs _ => !xs.isEmpty && okTs ts C xs
  | _=>false
 | .or ts,C,e=>match e with
  | .BoolOp .Or xs _ => !xs.isEmpty && okTs ts C xs
  | _=>false
 | .not t,C,e=>match e with
  | .UnaryOp .Not x _=>okT t C x
  | _=>false
noncomputable def okTs:MTs -> Ctx -> List Expr -> Bool
 | .nil,_,es=>es.isEmpty
 | .cons m r,C,es=>match es with
  | e :: es=>okT m C e && okTs r C es
  | [] => false
noncomputable def okI:MI -> Ctx -> Expr -> Expr -> Bool
 | .seq m,C,_,e=>gH e && okE m C e
 | .keys m,C,_,e=>gH e && okE m C e
 | .rng1 a,C,_,e=>match bK e with
  | some (x,[y])=>decide (x = "range") && glB C.sc x && aM y && okE a C y
  | _=>false
 | .enum a,C,t,e=>match bK e with
  | some (x,[y])=>(cI t).isSome && decide (x = "enumerate") && glB C.sc x && aM y && okE a C y
  | _=>false
 | .zip a b,C,t,e=>match bK e with
  | some (x,[y,z])=>(cI t).isSome && decide (x = "zip") && glB C.sc x && aM y && aM z && okE a C y && okE b C z
  | _=>false
noncomputable def okC:MC -> Ctx -> Ctx -> List Comprehension -> Expr -> Bool
 | .last src g ifs m,Cs,C,gens,elt=>match gens with
  | [⟨t,it,fs,a⟩] => decide (a = 0) && okI src Cs t it && okG g C t && okTs ifs C fs && okE m C elt
  | _=>false
 | .more src g ifs rest,Cs,C,gens,elt=>match gens with
  | ⟨t,it,fs,a⟩ :: g2 :: gs=>decide (a = 0) && okI src Cs t it && okG g C t && okTs ifs C fs && okC rest C C (g2 :: gs) elt
  | _=>false
end
noncomputable def aX (sc:Scope) (ts:List Expr):List Str:=ts.filterMap fun
 | .Name id pos=>if sc.names.lookup id == some .local && pos.line == (ts.head?.map (·.pos.line)).getD 0 then some id else none
 | _=>none
noncomputable def nM (sc:Scope) (ts vs:List Expr):Bool := !(ts.length == 2 || ts.length == 3) || vs.length != ts.length || (aX sc ts).length != ts.length || (aX sc ts).eraseDups.length != (aX sc ts).length || vs.all (foldedForSure 8)
noncomputable def nN (C:Ctx) (i:Nat) (x:Str):Bool:=decide (C.N[i]? = some x) && decide (C.sc.names.lookup x = some .local)
noncomputable def nO (sc:Scope) (ts vs:List Expr) (ns:List Str):Bool := !(!(ts.length == 2 || ts.length == 3) || vs.length != ts.length) && !(vs.any fun | .Starred .. => true | _=>false) && decide (aX sc ts = ns) && !((aX sc ts).length != ts.length || (aX sc ts).eraseDups.length != (aX sc ts).length) && !(vs.all (foldedForSure 8)) && !(vs.all (constantsAlone 8))
noncomputable def gK (sc:Scope) (tg e:Expr):Bool:=match tg,e with
 | .Tuple ts _ _, .Tuple vs _ _=>nM sc ts vs
 | .Tuple ..,_=>true
 | .Name ..,_=>true
 | _,_=>false
noncomputable def nP (sc:Scope) (x:Str) (px:Pos) (e:Expr):Bool:=match e with
 | .ListComp _ _ s _=>sc.names.lookup x == some .local && px.line == e.pos.line && !(s.names.any fun (n,k)=>n == x && (k == .local || k == .cell))
 | _=>false
noncomputable def nQ (s:Stmt):Option (List Expr × List Expr):=match tI s with
 | some ([t],e)=>match cI t with
   | some ts=>match cI e with
     | some es=>some (ts,es)
     | none=>none
   | none=>none
 | _=>none
theorem sx {s:Stmt} {ts es:List Expr} (h:nQ s = some (ts,es)):∃ k p k' p' pos,s = .Assign [.Tuple ts k p] (.Tuple es k' p') pos:=by
 unfold nQ at h
 split at h
 ·next t e h1 =>
  split at h
  ·next ts' h2 =>
   split at h
   ·next es' h3 =>
    cases h
    obtain ⟨k,p,rfl⟩:=cW h2
    obtain ⟨k',p',rfl⟩:=cW h3
    obtain ⟨pos,rfl⟩:=sr h1
    exact ⟨k,p,k',p',pos,rfl⟩
   ·cases h
  ·cases h
 ·cases h
mutual
noncomputable def okS:MS -> Ctx -> Stmt -> Bool
 | .asg g m,C,s=>match s with
  | .Assign [tg] e _=>okG g C tg && okE m C e && gK C.sc tg e && (match tg with | .Name x px=>true | _=>eL e)
  | _=>false
 | .par i j a b,C,s=>match nQ s with
  | some ([t,u],[e,f])=>match dr t with
    | some x=>match dr u with
      | some y=>nN C i x && nN C j y && decide (i ≠ j) && aM e && aM f && okE a C e && okE b C f && nO C.sc [t,u] [e,f] [x,y]
      | none=>false
    | none=>false
  | _=>false
 | .put o i m,C,s=>match s with
  | .Assign [.Subscript x y _] e _=>dC y && eL e && okE o C x && okE i C y && okE m C e
  | _=>false
 | .drop m,C,s=>match s with
  | .Expr e _=>eL e && okE m C e
  | _=>false
 | .ret m,C,s=>match s with
  | .Return (some e) _=>okE m C e
  | _=>false
 | .ite c a b,C,s=>match s with
  | .If t x y _=>okT c C t && okSs a C x && okSs b C y
  | _=>false
 | .for g src b,C,s=>match s with
  | .For tg it body [] _=>gH it && okG g C tg && okI src C tg it && okSs b C body
  | _=>false
 | .while c b,C,s=>match s with
  | .While t body [] _=>okT c C t && okSs b C body
  | _=>false
 | .frz _ m,C,s=>okS m C s
 | .pass,_,s=>match s with
  | .Pass _=>true
  | _=>false
 | .brk,_,s=>match s with
  | .Break _=>true
  | _=>false
 | .cnt,_,s=>match s with
  | .Continue _=>true
  | _=>false
noncomputable def okSs:MSs -> Ctx -> List Stmt -> Bool
 | .nil,_,ss=>ss.isEmpty
 | .cons m r,C,ss=>match ss with
  | s :: ss=>okS m C s && okSs r C ss
  | [] => false
end
theorem ao {e:Expr} {es:List Expr} {env:Env} (h:aM e = true):starEach (e :: es) env = (false,eval e env) :: starEach es env:=by
 cases e <;> first | rfl | (simp [aM] at h;done)
theorem iJ {e:Expr} {es:List Expr} {env:Env} (h:aM e = true):assignEach (e :: es) env = (false,assign e env) :: assignEach es env:=by
 cases e <;> first | rfl | (simp [aM] at h;done)
theorem nR {e:Expr} {env:Env} (h:kc e = true):∀ whole,isTrue e env whole = (do let v <- whole;standAt e.pos;holding [v] (truthy v)):=by
 intro w
 cases e <;> first | rfl | (simp [kc] at h;done)
theorem sy {e:Expr} (h:dC e = true):gW e:=by
 intro o i
 cases e <;> first | rfl | (simp [dC] at h;done)
theorem kh {e:Expr} {env:Env} (h:gH e = true):∀ x,foldedSetIterable e env x = pure x:=by
 intro x
 cases e <;> first | rfl | (simp [gH] at h;done)
theorem ki {e:Expr} {n:Str} {env:Env} (h:fk e = true):attributeBase e n env (eval e env) = eval e env:=by
 cases e <;> first | rfl | (simp [fk] at h;done)
theorem i5 {e:Expr} {t:Option Expr} {l:Nat} {env:Env} (h:eL e = true):swapsWith e t l env = pure false:=by
 cases e <;> first | rfl | (simp [eL] at h;done)
end Mi
end L2
namespace L2
namespace Mi
open PySem PySem.Spec PyProof.Rows
noncomputable def lSp (K:PySem.W.Frag) (r:RAd):Sp:=fun vs H Q _=>lR K r vs H Q
structure Good (C:Ctx) (Φ:Phi) (k:Nat) (X:Cx):Prop where
 hx:∀ e s,X.xe e s -> False
 calm:X.calm = true
 N:X.N = C.N
 sc:X.env.scope = C.sc
 nd:X.N.Nodup
 fn:∀ x ∈ C.fn,X.fn x = true
 room:Room k X.A
 mgB:∀ x ∈ fN,X.mg x = none
 fns:∀ (i:Nat) (x:Str),C.Γ[i]? = some x -> ∃ f fd ps,X.mg x = some (.ref f) /\ PySem.W.keepIn X.K (.ref f) = true /\ Binds X.K fd ps [] /\ FnOk X.prog X.w X.K X.mg X.base CX0 k f fd ps (lSp X.K (Φ i))
 mono:∀ f,aU (Φ f)
 cs:∀ x i,(x,i) ∈ C.cs -> ∃ t,X.mg x = some (.int i t)
section
variable {C:Ctx} {Φ:Phi} {k:Nat} {X:Cx}
theorem Good.units (G:Good C Φ k X):X.A.units + 64 < cLine:=G.room.units
theorem Good.gl (G:Good C Φ k X) {x:Str} (h:glB C.sc x = true):Gl X x:=by
 show X.env.scope.names.lookup x = _
 rw [G.sc]
 simpa [glB] using h
theorem Good.vis (G:Good C Φ k X) {x:Str} (h:sk C.sc x = true):Vis X.env.scope x:=by
 unfold Vis
 rw [G.sc]
 simp [sk] at h
 rcases h with (h | h) | h
 ·exact .inl h
 ·exact .inr (.inl h)
 ·exact .inr (.inr h)
theorem Good.loc (G:Good C Φ k X) {x:Str} (h:sn C.sc x = true):Loc X.env.scope x:=by
 unfold Loc
 rw [G.sc]
 simpa [sn] using h
theorem Good.own (G:Good C Φ k X) {x:Str} (h:(C.sc.names.lookup x == some .local || C.fn.contains x) = true):X.fn x = true ∨ X.env.scope.names.lookup x = some .local:=by
 rw [G.sc]
 simp at h
 rcases h with h | h
 ·exact .inr h
 ·exact .inl (G.fn x h)
theorem xD (G:Good C Φ k X):∀ o:BOp,OpR X (binaryOp (opO o)) (l2 X.K (opB o))
 | .add=>r8 | .sub=>r9 | .mul=>rf | .fdiv=>p8 | .mod=>rh | .pow=>rj
theorem lK (G:Good C Φ k X):∀ o:COp,OpR X (compareOp (nK o)) (l2 X.K (opC o))
 | .eq=>uk (by have:=G.units;omega) | .ne=>ul (by have:=G.units;omega) | .lt=>ut| .gt=>uu | .ge=>uw| .eqD=>sg (by have:=G.units;omega)
theorem gL (o:COp) (b:Expr):behindInMarks (nK o) b = false:=wp b (by cases o <;> decide) (by cases o <;> decide)
theorem xE (G:Good C Φ k X) {f:BF} {e:Expr} {es:List Expr} {t:TAd} {p pos:Pos} (mt:bm t) (hg:Gl X (ke f)) (ha:PA X (e :: es) (lA X.K t))
 (he:starEach (e :: es) X.env = (false,eval e X.env) :: starEach es X.env) (hpl:(backTo pos (starEach es X.env)).any (·.1) = false):PE X (.Call (.Name (ke f) p) (e :: es) [] pos) (lE X.K (wAr (opF f) t)):=by
 cases f with
 | len=>exact PE.imp (ca mY hg (G.mgB _ (by decide)) PySem.boot_len ha (by decide) (by decide) he hpl) (bM jA mt)
 | abs=>exact PE.imp (ca mZ hg (G.mgB _ (by decide)) (by decide +kernel) ha (by decide) (by decide) he hpl) (bM jD mt)
 | maxT=>exact PE.imp (ca (ld G.calm) hg (G.mgB _ (by decide)) (by decide +kernel) ha (by decide) (by decide) he hpl) (bM iH mt)
 | min2=>exact PE.imp (ca (kX G.calm) hg (G.mgB _ (by decide)) (by decide +kernel) ha (by decide) (by decide) he hpl) (bM ir mt)
 | int=>exact PE.imp (dh n6 hg (G.mgB _ (by decide)) (by decide +kernel) ha (by decide) (by decide) he hpl) (bM jE mt)
 | list=>exact PE.imp (dh kY hg (G.mgB _ (by decide)) (by decide +kernel) ha (by decide) (by decide) he hpl) (bM iu mt)
 | tuple=>exact PE.imp (dh jG hg (G.mgB _ (by decide)) (by decide +kernel) ha (by decide) (by decide) he hpl) (bM gq mt)
 | all=>exact PE.imp (ca (nC G.calm) hg (G.mgB _ (by decide)) (by decide +kernel) ha (by decide) (by decide) he hpl) (bM jO mt)
 | dict=>exact PE.imp (dh (lc (by have:=G.units;omega) G.calm) hg (G.mgB _ (by decide)) (by decide +kernel) ha (by decide) (by decide) he hpl) (bM iG mt)
theorem v7 (G:Good C Φ k X) {f:Nat} {x:Str} {e:Expr} {es:List Expr} {t:TAd} {p pos:Pos} (mt:bm t) (hf:C.Γ[f]? = some x) (hg:Gl X x) (hdb:(x == ("__debug__":Str)) = false) (ha:PA X (e :: es) (lA X.K t))
 (he:starEach (e :: es) X.env = (false,eval e X.env) :: starEach es X.env) (hpl:(backTo pos (starEach es X.env)).any (·.1) = false):PE X (.Call (.Name x p) (e :: es) [] pos) (lE X.K (wAr (Φ f) t)):=by
 obtain ⟨a,fd,ps,hm,hk,hb,F⟩:=G.fns f x hf
 refine PE.imp (u5 F G.room hg hm hk hb .nil t8 ha hdb he hpl) fun σ H Q h => ?_
 have h2:=bM (G.mono f) mt σ H Q h
 have:(fun vs H1=>lSp X.K (Φ f) (vs ++ []) H1 Q E0) = fun vs H1=>lR X.K (Φ f) vs H1 Q:=by
  funext vs H1;rw [List.append_nil];rfl
 show (lA X.K t) σ H _
 rw [this]
 exact h2
theorem sB (G:Good C Φ k X) {f:Nat} {x:Str} {p pos:Pos} (hf:C.Γ[f]? = some x) (hg:Gl X x) (hdb:(x == ("__debug__":Str)) = false):PE X (.Call (.Name x p) [] [] pos) (lE X.K (wAr (Φ f) bO)):=by
 obtain ⟨a,fd,ps,hm,hk,hb,F⟩:=G.fns f x hf
 refine PE.imp (qH F G.room hg hm hk hb .nil t8 hdb) fun σ H Q h => ?_
 obtain ⟨ρ,M,rs,rm,q⟩:=h
 exact ⟨[],M,rm,RDs.nil,q⟩
theorem fP {env:Env} {pos:Pos}:∀ {es:List Expr},es.all aM = true -> (backTo pos (starEach es env)).any (·.1) = false
 | [],_=>rfl
 | e :: es,h=>by
   simp only [List.all_cons,Bool.and_eq_true] at h
   rw [ao h.1]
   show (false || (backTo pos (starEach es env)).any (·.1)) = false
   rw [fP h.2];rfl
theorem eM:∀ {ms:MEs} {es:List Expr},okEs ms C es = true -> es.all aM = true
 | .nil,[],_=>rfl
 | .nil,_ :: _,h=>by simp [okEs] at h
 | .cons m r,[],h=>by simp [okEs] at h
 | .cons m r,e :: es,h=>by
  simp only [okEs,Bool.and_eq_true] at h
  simp only [List.all_cons,Bool.and_eq_true]
  exact ⟨h.1.1,eM h.2⟩
theorem lL:∀ {gs:MGs} {es:List Expr},okGs gs C es = true -> ∀ ds ρ ρ',bGs gs ds ρ = some ρ' -> ds.length = es.length
 | .nil,es,h,ds, ρ, ρ',e=>by
  simp [okGs] at h;subst h
  rw [bGs] at e
  cases ds with
  | nil=>rfl
  | cons _ _=>cases e
 | .cons g r,[],h,_,_,_,_=>by simp [okGs] at h
 | .cons g r,x :: es,h,ds, ρ, ρ',e=>by
  simp only [okGs,Bool.and_eq_true] at h
  rw [bGs] at e
  cases ds with
  | nil=>cases e
  | cons d ds =>
    simp only [bY] at e
    cases e1:bG g d ρ with
    | none=>rw [e1] at e;cases e
    | some ρ1 =>
      rw [e1] at e
      simp [lL h.2 ds ρ1 ρ' e]
theorem kj {env:Env}:∀ {gs:MGs} {es:List Expr},okGs gs C es = true -> (assignEach es env).length = es.length /\ (assignEach es env).findIdx? (·.1) = none
 | .nil,es,h=>by simp [okGs] at h;subst h;exact ⟨rfl,rfl⟩
 | .cons g r,[],h=>by simp [okGs] at h
 | .cons g r,x :: es,h=>by
  simp only [okGs,Bool.and_eq_true] at h
  obtain ⟨a,b⟩:=kj (env:=env) h.2
  rw [iJ h.1.1]
  refine ⟨by simp [a], ?_⟩
  rw [List.findIdx?_cons]
  simp [b]
mutual
theorem sG (G:Good C Φ k X):∀ (m:MG) (e:Expr),okG m C e = true -> PG X e (lG X.K (bG m))
 | .name i,e,h=>by
  simp only [okG] at h
  split at h
  ·simp only [Bool.and_eq_true] at h
   rw [bG]
   exact uJ G.nd (by rw [G.N];exact of_decide_eq_true h.1.1) (G.loc h.1.2) (G.own h.2)
  ·cases h
 | .tup gs,e,h=>by
  simp only [okG] at h
  split at h
  ·rw [bG]
   obtain ⟨a,b⟩:=kj (env:=X.env) h
   exact xf G.calm (lL h) (sGs G gs _ h) a b
  ·cases h
theorem sGs (G:Good C Φ k X):∀ (m:MGs) (es:List Expr),okGs m C es = true -> PGs X es (lGs X.K (bGs m))
 | .nil,es,h=>by
  simp [okGs] at h;subst h
  rw [bGs];exact uK
 | .cons g r,[],h=>by simp [okGs] at h
 | .cons g r,e :: es,h=>by
  simp only [okGs,Bool.and_eq_true] at h
  rw [bGs]
  exact rC (sG G g e h.1.2) (sGs G r es h.2) (by rw [iJ h.1.1];rfl)
end
theorem PB.imp {F:Sem Fin -> Sem Fin} {t t':TC} (h:PB X F t) (i:∀ σ H N,t' σ H N -> t σ H N):PB X F t':=fun pins s σ H N k Q E I q hk=>h pins s σ H N k Q E I (i _ _ _ q) hk
theorem gM {sc osc:Scope} {oN N':List Str} {fr:List (Option Nat)} (h:so sc osc oN N' fr = true):aZ sc osc oN N' fr:=by
 simp only [so,Bool.and_eq_true,decide_eq_true_eq] at h
 obtain ⟨⟨⟨⟨⟨h1,h2⟩,h3⟩,h4⟩,h5⟩,h6⟩:=h
 refine ⟨h1,h2,h3,fun x hx e => ?_,h5,fun i j x hi hf => ?_⟩
 ·have h4':=List.all_eq_true.mp h4 x hx
  rw [e] at h4'
  simpa using h4'
 ·have hlt:i < N'.length:=(List.getElem?_eq_some_iff.mp hi).1
  have h6':=List.all_eq_true.mp h6 i (List.mem_range.mpr hlt)
  rw [hf,hi] at h6'
  simp only [Bool.and_eq_true,decide_eq_true_eq,List.any_eq_true] at h6'
  obtain ⟨a,y,hy,e⟩:=h6'
  exact ⟨a,by rw [<- e];exact hy⟩
theorem Good.blk (G:Good C Φ k X) {sc:Scope} {N':List Str} {fr:List (Option Nat)} (B:aZ sc C.sc C.N N' fr) (s:Shared) (H:Hp) (fp:List Addr) :
 Good ⟨C.Γ,N',fO sc C.sc,(sc.names.filter (·.2 == .cell)).map (·.1),C.cs⟩ Φ k (aA X sc N' s H fp):=by
 refine ⟨fun _ _ h=>h,G.calm,rfl, ?_,B.ndN,fun x hx => ?_,G.room,G.mgB,G.fns,G.mono,G.cs⟩
 ·show relabel sc X.env = _
  rw [lf,G.sc]
 ·obtain ⟨y,hy,e⟩:=List.mem_map.mp hx
  obtain ⟨h1,h2⟩:=List.mem_filter.mp hy
  obtain ⟨n,kd⟩:=y
  have h2':kd = .cell:=by simpa using h2
  subst h2'
  have e':n = x:=e
  subst e'
  show (sc.names.lookup n == some .cell) = true
  rw [aO B.nd h1]
  rfl
end
end Mi
end L2
namespace L2
namespace Mi
open PySem PySem.Spec PyProof.Rows
section
variable {Φ:Phi} {k:Nat}
theorem cP {C:Ctx} {X:Cx} (G:Good C Φ k X) {F:Sem Fin -> Sem Fin} {p:Addr} {tb:TCd} {ifs:List Expr} {ts:List TTd} (mb:bT tb) (mt:∀ t ∈ ts,az t) (hb:PB X F (lC X.K p tb)) (hp:Paired (fun c t=>PT X c t) ifs (ts.map (lT X.K))) :
 PB X (fun k=>bh ifs X.env >>= fun ok=>if ok = true then F k else k) (lC X.K p (bx ts tb)) :=
 PB.imp (qQ G.hx hb hp) (gx mb mt)
theorem eN {m:MC} {Cs C:Ctx} {g2:Comprehension} {gs:List Comprehension} {elt:Expr} (h:okC m Cs C (g2 :: gs) elt = true):g2.is_async = 0:=by
 obtain ⟨t,i,f,a⟩:=g2
 cases m with
 | last src g ifs m =>
   cases gs with
   | nil=>simp only [okC,Bool.and_eq_true,decide_eq_true_eq] at h;exact h.1.1.1.1
   | cons _ _=>simp [okC] at h
 | more src g ifs rest =>
   cases gs with
   | nil=>simp [okC] at h
   | cons _ _=>simp only [okC,Bool.and_eq_true,decide_eq_true_eq] at h;exact h.1.1.1.1
theorem fQ {C:Ctx} {X:Cx} (G:Good C Φ k X):∀ T ∈ ["bool", "int", "str", "tuple", "list", "dict"],X.mg (Str.ofString T) = none /\ bootBuiltins (Str.ofString T) = some (.type T) /\ Str.ofString T ≠ "__name__" /\ (Str.ofString T == ("__debug__":Str)) = false:=by
 intro T hT
 simp only [List.mem_cons,List.not_mem_nil,or_false] at hT
 rcases hT with rfl | rfl | rfl | rfl | rfl | rfl
 all_goals exact ⟨G.mgB _ (by decide),by decide +kernel,by decide,by decide⟩
mutual
theorem sE:∀ (m:ME) {C:Ctx} {X:Cx} (G:Good C Φ k X) (e:Expr),okE m C e = true -> PE X e (lE X.K (wE Φ m))
 | .var i,C,X,G,e,h=>by
  simp only [okE] at h
  split at h
  ·simp only [Bool.and_eq_true,Bool.not_eq_true',decide_eq_true_eq] at h
   rw [wE]
   exact wJ (by rw [G.N];exact h.1.1.1) (G.vis h.1.1.2) h.1.2 h.2
  ·cases h
 | .int i,C,X,G,e,h=>by
  simp only [okE] at h
  split at h
  ·rw [of_decide_eq_true h,wE];exact wK
  ·cases h
 | .bl i,C,X,G,e,h=>by
  simp only [okE] at h
  split at h
  ·rw [eq_of_beq h,wE];exact yu
  ·cases h
 | .bin op a b,C,X,G,e,h=>by
  simp only [okE] at h
  split at h
  ·simp only [Bool.and_eq_true,decide_eq_true_eq] at h
   rw [wE,h.1.1]
   exact yv (xD G op) (kb op) (mE G.mono a) (mE G.mono b) (sE a G _ h.1.2) (sE b G _ h.2)
  ·cases h
 | .neg a,C,X,G,e,h=>by
  simp only [okE] at h
  split at h
  ·rw [wE];exact yw rl jy (mE G.mono a) (sE a G _ h)
  ·cases h
 | .cmp op a b,C,X,G,e,h=>by
  simp only [okE] at h
  split at h
  ·next l o r hc =>
   obtain ⟨pos,rfl⟩:=kg hc
   simp only [Bool.and_eq_true,decide_eq_true_eq] at h
   rw [wE,h.1.1]
   exact wL (lK G op) (dY op) (mE G.mono a) (mE G.mono b) (sE a G _ h.1.2) (sE b G _ h.2) (gL op _)
  ·cases h
 | .and es,C,X,G,e,h=>by
  simp only [okE] at h
  split at h
  ·simp only [Bool.and_eq_true] at h
   rw [wE];exact sAnds es G _ _ h.2 (by intro z;rw [z] at h;simp at h)
  ·cases h
 | .not a,C,X,G,e,h=>by
  simp only [okE] at h
  split at h
  ·rw [wE];exact wZ (mE G.mono a) (sE a G _ h)
  ·cases h
 | .ite c a b,C,X,G,e,h=>by
  simp only [okE] at h
  split at h
  ·simp only [Bool.and_eq_true] at h
   rw [wE];exact yF (mT G.mono c) (mE G.mono a) (mE G.mono b) (sT c G _ h.1.1) (sE a G _ h.1.2) (sE b G _ h.2)
  ·cases h
 | .tup es,C,X,G,e,h=>by
  simp only [okE] at h
  split at h
  ·rw [wE];exact wN (mA G.mono es) (sA es G _ h)
  ·cases h
 | .lst es,C,X,G,e,h=>by
  simp only [okE] at h
  split at h
  ·rw [wE];exact wP (mA G.mono es) (sA es G _ h)
  ·cases h
 | .ix a b,C,X,G,e,h=>by
  simp only [okE] at h
  split at h
  ·simp only [Bool.and_eq_true] at h
   rw [wE]
   exact yz (zE (by have:=G.units;omega)) lq (mE G.mono a) (mE G.mono b) (sE a G _ h.1.2) (sE b G _ h.2) (sy h.1.1)
  ·cases h
 | .sl a lo hi,C,X,G,e,h=>by
  simp only [okE] at h
  split at h
  ·next x l u hc =>
   obtain ⟨p,pos,rfl⟩:=nL hc
   simp only [Bool.and_eq_true] at h
   rw [wE];exact yG (mE G.mono a) (mO G.mono lo) (mO G.mono hi) (sE a G _ h.1.1) (sO lo G _ h.1.2) (sO hi G _ h.2)
  ·cases h
 | .call f es,C,X,G,e,h=>by
  simp only [okE] at h
  split at h
  ·next x xs hc =>
   obtain ⟨p,pos,rfl⟩:=bQ hc
   simp only [Bool.and_eq_true,decide_eq_true_eq,Bool.not_eq_true'] at h
   rw [wE]
   have hA:=sA es G _ h.2
   have hst:=eM h.2
   cases xs with
   | nil =>
     cases es with
     | nil=>rw [wA];exact sB G h.1.1.1 (G.gl h.1.1.2) h.1.2
     | cons _ _=>simp [okEs] at h
   | cons y ys =>
     simp only [List.all_cons,Bool.and_eq_true] at hst
     exact v7 G (mA G.mono es) h.1.1.1 (G.gl h.1.1.2) h.1.2 hA (ao hst.1) (fP hst.2)
  ·cases h
 | .blt f es,C,X,G,e,h=>by
  simp only [okE] at h
  split at h
  ·next x xs hc =>
   obtain ⟨p,pos,rfl⟩:=bQ hc
   simp only [Bool.and_eq_true,decide_eq_true_eq,Bool.not_eq_true'] at h
   rw [wE]
   have hA:=sA es G _ h.2
   have hst:=eM h.2
   obtain ⟨⟨⟨rfl,hg⟩,hne⟩,_⟩:=h
   cases xs with
   | nil=>simp at hne
   | cons y ys =>
     simp only [List.all_cons,Bool.and_eq_true] at hst
     exact xE G (mA G.mono es) (G.gl hg) hA (ao hst.1) (fP hst.2)
  ·cases h
 | .dnew t,C,X,G,e,h=>by
  simp only [okE] at h
  split at h
  ·rw [wE];exact uP
  ·cases h
 | .dget o k' x,C,X,G,e,h=>by
  simp only [okE] at h
  split at h
  ·next y n e1 e2 ap cp hc =>
   cases iI hc
   simp only [Bool.and_eq_true,decide_eq_true_eq] at h
   obtain ⟨⟨⟨⟨⟨⟨⟨rfl,hsu⟩,hl⟩,hs1⟩,hs2⟩,ho⟩,hk⟩,hx⟩:=h
   rw [wE]
   have st:starEach [e1,e2] X.env = [(false,eval e1 X.env),(false,eval e2 X.env)]:=by
    rw [ao hs1,ao hs2];rfl
   refine uT (by have:=G.units;omega) (mE G.mono o) (mE G.mono k') (mE G.mono x) (sE o G _ ho) (sE k' G _ hk) (sE x G _ hx) ⟨ki hsu, ?_,hl, ?_⟩
   ·rw [st];rfl
   ·rw [st];rfl
  ·cases h
 | .isin2 a T U,C,X,G,e,h=>by
  simp only [okE] at h
  split at h
  ·next x y w hc =>
   obtain ⟨p,pos,rfl⟩:=bQ hc
   split at h
   ·next z' v' ht =>
    obtain ⟨k1,p1,rfl⟩:=cW ht
    split at h
    ·next z hz0 =>
     obtain ⟨p2,rfl⟩:=cN hz0
     split at h
     ·next v hv0 =>
      obtain ⟨p3,rfl⟩:=cN hv0
      simp only [Bool.and_eq_true,decide_eq_true_eq] at h
      obtain ⟨⟨⟨⟨⟨⟨⟨⟨⟨rfl,hg⟩,hg2⟩,hg3⟩,hz⟩,hy⟩,hT⟩,hU⟩,hs⟩,ha⟩:=h
      rw [wE]
      obtain ⟨n1,n2,n3,n4⟩:=fQ G T hT
      obtain ⟨m1,m2,m3,m4⟩:=fQ G U hU
      subst hz hy
      exact rY hT hU (mE G.mono a) (sE a G _ ha) (G.gl hg) (G.mgB _ (by decide)) (G.gl hg2) n1 n2 n3 n4 (G.gl hg3) m1 m2 m3 m4 (ao hs)
     ·cases h
    ·cases h
   ·cases h
  ·cases h
 | .isin a T,C,X,G,e,h=>by
  simp only [okE] at h
  split at h
  ·next x y z' hc =>
   obtain ⟨p,pos,rfl⟩:=bQ hc
   split at h
   ·next z hz0 =>
    obtain ⟨p2,rfl⟩:=cN hz0
    simp only [Bool.and_eq_true,decide_eq_true_eq] at h
    obtain ⟨⟨⟨⟨⟨⟨rfl,hg⟩,hg2⟩,hz⟩,hT⟩,hs⟩,ha⟩:=h
    rw [wE]
    obtain ⟨n1,n2,n3,n4⟩:=fQ G T hT
    subst hz
    exact uF hT (mE G.mono a) (sE a G _ ha) (G.gl hg) (G.mgB _ (by decide)) (G.gl hg2) n1 n2 n3 n4 (ao hs) rfl
   ·cases h
  ·cases h
 | .meth m o a,C,X,G,e,h=>by
  simp only [okE] at h
  split at h
  ·next x n y ap cp hc =>
   cases iI hc
   simp only [Bool.and_eq_true,decide_eq_true_eq] at h
   obtain ⟨⟨⟨⟨⟨hn,hsu⟩,hl⟩,hs⟩,ho⟩,ha⟩:=h
   rw [wE]
   subst hn
   have pa:PA X [y] (lA X.K (aK (wE Φ a) bO)):=cg (mE G.mono a) aE (sE a G _ ha) dA (ao hs)
   have few:((backTo cp (starEach [y] X.env)).all (fun x => !x.1) && (backToKw cp (keywordEach [] X.env)).all (fun x=>x.1.isSome) && decide (([y]:List Expr).length + ([]:List Keyword).length + (if ([]:List Keyword).isEmpty then 0 else 1) < 30)) = true:=by
    rw [ao hs];rfl
   cases m with
   | append=>exact PE.imp (yp PySem.F.plainAttrs_list PySem.F.slot_list_append PySem.F.type_list_append ie (sE o G _ ho) pa (ki hsu) few hl (ao hs) rfl) (uH fC (mE G.mono o) (aC (mE G.mono a) aE) rB)
  ·cases h
 | .comp fr N' c,C,X,G,e,h=>by
  simp only [okE] at h
  split at h
  ·rename_i elt gens sc pos
   simp only [Bool.and_eq_true] at h
   have B:aZ sc X.env.scope X.N N' fr:=by rw [G.sc,G.N];exact gM h.1
   have B':aZ sc C.sc C.N N' fr:=gM h.1
   rw [wE]
   cases c with
   | last src g ifs m =>
     have h2:=h.2
     simp only [okC] at h2
     split at h2
     ·rename_i t it fs a
      simp only [Bool.and_eq_true,decide_eq_true_eq] at h2
      obtain ⟨⟨⟨⟨rfl,hi⟩,hg⟩,ht⟩,he⟩:=h2
      rw [wCmp]
      refine PE.imp (fB G.calm G.hx B (fun g' z=>by simp at z) (sI src G _ t hi).1 (fun s H fp=>sG (G.blk B' s H fp) g t hg) (tb:=fun p=>lC X.K p (bx (wTl Φ ifs) (ck (wE Φ m)))) (fun s H fp p => ?_) (sI src G _ t hi).2) (dj (mI G.mono src) (aH (bC (mE G.mono m)) (mTl G.mono ifs)))
      have G':=G.blk B' s H fp
      exact cP (p:=p) G' (bC (mE G.mono m)) (mTl G.mono ifs) (PB.imp (gY G'.hx (sE m G' elt he) rfl) (eF (mE G.mono m))) (sTl ifs G' fs ht)
     ·cases h2
   | more src g ifs rest =>
     have h2:=h.2
     simp only [okC] at h2
     split at h2
     ·rename_i t it fs a g2 gs
      simp only [Bool.and_eq_true,decide_eq_true_eq] at h2
      obtain ⟨⟨⟨⟨rfl,hi⟩,hg⟩,ht⟩,he⟩:=h2
      rw [wCmp]
      have as0:∀ g',(g2 :: gs)[0]? = some g' -> g'.is_async = 0:=fun g' z=>by
       have z':g2 = g':=by simpa using z
       subst z'
       exact eN he
      refine PE.imp (fB G.calm G.hx B as0 (sI src G _ t hi).1 (fun s H fp=>sG (G.blk B' s H fp) g t hg) (tb:=fun p=>lC X.K p (bx (wTl Φ ifs) (wCl Φ rest))) (fun s H fp p => ?_) (sI src G _ t hi).2) (dj (mI G.mono src) (aH (mCl G.mono rest) (mTl G.mono ifs)))
      have G':=G.blk B' s H fp
      exact cP (p:=p) G' (mCl G.mono rest) (mTl G.mono ifs) (sCl rest G' elt (⟨t,it,fs,0⟩ :: g2 :: gs) sc pos 0 (.inl rfl) p he) (sTl ifs G' fs ht)
     ·cases h2
  ·cases h
theorem sA:∀ (m:MEs) {C:Ctx} {X:Cx} (G:Good C Φ k X) (es:List Expr),okEs m C es = true -> PA X es (lA X.K (wA Φ m))
 | .nil,C,X,G,es,h=>by
  simp [okEs] at h;subst h
  rw [wA];exact dA
 | .cons m r,C,X,G,[],h=>by simp [okEs] at h
 | .cons m r,C,X,G,e :: es,h=>by
  simp only [okEs,Bool.and_eq_true] at h
  rw [wA]
  exact cg (mE G.mono m) (mA G.mono r) (sE m G e h.1.2) (sA r G es h.2) (ao h.1.1)
theorem sAnds:∀ (m:MEs) {C:Ctx} {X:Cx} (G:Good C Φ k X) (es:List Expr) (pos:Pos),okEs m C es = true -> es ≠ [] -> PE X (.BoolOp .And es pos) (lE X.K (wAnds Φ m))
 | .nil,C,X,G,es,pos,h,hne=>by simp [okEs] at h;exact absurd h hne
 | .cons m r,C,X,G,[],pos,h,hne=>absurd rfl hne
 | .cons m .nil,C,X,G,e :: es,pos,h,_=>by
  simp only [okEs,Bool.and_eq_true] at h
  obtain ⟨h1,h2⟩:=h
  simp at h2;subst h2
  rw [wAnds]
  exact wX (sE m G e h1.2)
 | .cons m (.cons m2 r),C,X,G,e :: es,pos,h,_=>by
  simp only [okEs,Bool.and_eq_true] at h
  obtain ⟨h1,h2⟩:=h
  cases es with
  | nil=>simp at h2
  | cons f fs =>
    rw [wAnds]
    exact wY (mE G.mono m) (mAnds G.mono _) (sE m G e h1.2) (sAnds (.cons m2 r) G (f :: fs) pos (by simpa only [okEs,Bool.and_eq_true] using h2) (by simp))
theorem sO:∀ (m:MO) {C:Ctx} {X:Cx} (G:Good C Φ k X) (e:Option Expr),okO m C e = true -> PO X e (lO X.K (wO Φ m))
 | .none,C,X,G,e,h=>by
  simp [okO] at h;subst h
  rw [wO];exact uC
 | .some m,C,X,G,none,h=>by simp [okO] at h
 | .some m,C,X,G,some e,h=>by
  simp only [okO] at h
  rw [wO];exact uD (mE G.mono m) (sE m G e h)
theorem sT:∀ (m:MT) {C:Ctx} {X:Cx} (G:Good C Φ k X) (e:Expr),okT m C e = true -> PT X e (lT X.K (wT Φ m))
 | .tru m,C,X,G,e,h=>by
  simp only [okT,Bool.and_eq_true] at h
  rw [wT];exact wR (mE G.mono m) (sE m G e h.2) (nR h.1)
 | .cmp op a b,C,X,G,e,h=>by
  simp only [okT] at h
  split at h
  ·next l o r hc =>
   obtain ⟨pos,rfl⟩:=kg hc
   simp only [Bool.and_eq_true,decide_eq_true_eq] at h
   rw [wT,h.1.1]
   exact wM (lK G op) (dY op) (mE G.mono a) (mE G.mono b) (sE a G _ h.1.2) (sE b G _ h.2) (gL op _)
  ·cases h
 | .and ts,C,X,G,e,h=>by
  simp only [okT] at h
  split at h
  ·simp only [Bool.and_eq_true] at h
   rw [wT];exact (sAndTs ts G _ _ h.2 (by intro z;rw [z] at h;simp at h)).pt
  ·cases h
 | .or ts,C,X,G,e,h=>by
  simp only [okT] at h
  split at h
  ·simp only [Bool.and_eq_true] at h
   rw [wT];exact (sOrTs ts G _ _ h.2 (by intro z;rw [z] at h;simp at h)).pt
  ·cases h
 | .not t,C,X,G,e,h=>by
  simp only [okT] at h
  split at h
  ·rw [wT];exact wU (mT G.mono t) (sT t G _ h)
  ·cases h
theorem sAndTs:∀ (m:MTs) {C:Ctx} {X:Cx} (G:Good C Φ k X) (es:List Expr) (pos:Pos),okTs m C es = true -> es ≠ [] -> PW X (.BoolOp .And es pos) (lT X.K (wAndTs Φ m))
 | .nil,C,X,G,es,pos,h,hne=>by simp [okTs] at h;exact absurd h hne
 | .cons m r,C,X,G,[],pos,h,hne=>absurd rfl hne
 | .cons m .nil,C,X,G,e :: es,pos,h,_=>by
  simp only [okTs,Bool.and_eq_true] at h
  obtain ⟨h1,h2⟩:=h
  simp at h2;subst h2
  rw [wAndTs]
  exact uA (sT m G e h1)
 | .cons m (.cons m2 r),C,X,G,e :: es,pos,h,_=>by
  simp only [okTs,Bool.and_eq_true] at h
  obtain ⟨h1,h2⟩:=h
  cases es with
  | nil=>simp at h2
  | cons f fs =>
    rw [wAndTs]
    exact wW (mT G.mono m) (mAndTs G.mono _) (sT m G e h1) (sAndTs (.cons m2 r) G (f :: fs) pos (by simpa only [okTs,Bool.and_eq_true] using h2) (by simp))
theorem sOrTs:∀ (m:MTs) {C:Ctx} {X:Cx} (G:Good C Φ k X) (es:List Expr) (pos:Pos),okTs m C es = true -> es ≠ [] -> PW X (.BoolOp .Or es pos) (lT X.K (wOrTs Φ m))
 | .nil,C,X,G,es,pos,h,hne=>by simp [okTs] at h;exact absurd h hne
 | .cons m r,C,X,G,[],pos,h,hne=>absurd rfl hne
 | .cons m .nil,C,X,G,e :: es,pos,h,_=>by
  simp only [okTs,Bool.and_eq_true] at h
  obtain ⟨h1,h2⟩:=h
  simp at h2;subst h2
  rw [wOrTs]
  exact wV (sT m G e h1)
 | .cons m (.cons m2 r),C,X,G,e :: es,pos,h,_=>by
  simp only [okTs,Bool.and_eq_true] at h
  obtain ⟨h1,h2⟩:=h
  cases es with
  | nil=>simp at h2
  | cons f fs =>
    rw [wOrTs]
    exact yE (mT G.mono m) (mOrTs G.mono _) (sT m G e h1) (sOrTs (.cons m2 r) G (f :: fs) pos (by simpa only [okTs,Bool.and_eq_true] using h2) (by simp))
theorem sTl:∀ (m:MTs) {C:Ctx} {X:Cx} (G:Good C Φ k X) (es:List Expr),okTs m C es = true -> Paired (fun c t=>PT X c t) es ((wTl Φ m).map (lT X.K))
 | .nil,C,X,G,es,h=>by
  simp [okTs] at h;subst h
  rw [wTl];exact .nil
 | .cons m r,C,X,G,[],h=>by simp [okTs] at h
 | .cons m r,C,X,G,e :: es,h=>by
  simp only [okTs,Bool.and_eq_true] at h
  rw [wTl]
  exact .cons (sT m G e h.1) (sTl r G es h.2)
theorem sI:∀ (m:MI) {C:Ctx} {X:Cx} (G:Good C Φ k X) (e tg:Expr),okI m C tg e = true -> PI X tg e (lI X.K (wI Φ m)) /\ ∀ x,foldedSetIterable e X.env x = pure x
 | .seq m,C,X,G,e,tg,h=>by
  simp only [okI,Bool.and_eq_true] at h
  rw [wI];exact ⟨xi (mE G.mono m) (sE m G e h.2),kh h.1⟩
 | .keys m,C,X,G,e,tg,h=>by
  simp only [okI,Bool.and_eq_true] at h
  rw [wI];exact ⟨uZ (mE G.mono m) (sE m G e h.2),kh h.1⟩
 | .rng1 a,C,X,G,e,tg,h=>by
  simp only [okI] at h
  split at h
  ·next x y hc =>
   obtain ⟨p,pos,rfl⟩:=bQ hc
   simp only [Bool.and_eq_true,decide_eq_true_eq] at h
   obtain ⟨⟨⟨rfl,hg⟩,hs⟩,ha⟩:=h
   rw [wI]
   exact ⟨uL (aC (mE G.mono a) aE) (G.gl hg) (G.mgB _ (by decide)) (cg (mE G.mono a) aE (sE a G _ ha) dA (ao hs)) (ao hs),fun x=>rfl⟩
  ·cases h
 | .enum a,C,X,G,e,tg,h=>by
  simp only [okI] at h
  split at h
  ·next x y hc =>
   obtain ⟨p,pos,rfl⟩:=bQ hc
   simp only [Bool.and_eq_true,decide_eq_true_eq] at h
   obtain ⟨⟨⟨⟨ht,rfl⟩,hg⟩,hs⟩,ha⟩:=h
   obtain ⟨ts,ht⟩:=Option.isSome_iff_exists.mp ht
   obtain ⟨kt,pt,rfl⟩:=cW ht
   rw [wI]
   exact ⟨uM (mE G.mono a) (G.gl hg) (G.mgB _ (by decide)) (cg (mE G.mono a) aE (sE a G _ ha) dA (ao hs)) (ao hs),fun x=>rfl⟩
  ·cases h
 | .zip a b,C,X,G,e,tg,h=>by
  simp only [okI] at h
  split at h
  ·next x y z hc =>
   obtain ⟨p,pos,rfl⟩:=bQ hc
   simp only [Bool.and_eq_true,decide_eq_true_eq] at h
   obtain ⟨⟨⟨⟨⟨⟨ht,rfl⟩,hg⟩,hs⟩,hs2⟩,ha⟩,hb⟩:=h
   obtain ⟨ts,ht⟩:=Option.isSome_iff_exists.mp ht
   obtain ⟨kt,pt,rfl⟩:=cW ht
   rw [wI]
   exact ⟨xm (mE G.mono a) (mE G.mono b) (G.gl hg) (G.mgB _ (by decide)) (cg (mE G.mono a) (aC (mE G.mono b) aE) (sE a G _ ha) (cg (mE G.mono b) aE (sE b G _ hb) dA (ao hs2)) (ao hs)) (by rw [ao hs,ao hs2];rfl) (ao hs2),fun x=>rfl⟩
  ·cases h
theorem sCl:∀ (m:MC) {C:Ctx} {X:Cx} (G:Good C Φ k X) (elt:Expr) (gens:List Comprehension) (sc:Scope) (pos:Pos) (d:Nat) (_:d = 0 ∨ d = d) (p:Addr),okC m C C (gens.drop (d + 1)) elt = true ->
 PB X (aY elt gens sc pos d (.ref p) X.env) (lC X.K p (wCl Φ m))
 | .last src g ifs m,C,X,G,elt,gens,sc,pos,d,_,p,h=>by
  simp only [okC] at h
  split at h
  ·rename_i t it fs a hd
   simp only [Bool.and_eq_true,decide_eq_true_eq] at h
   obtain ⟨⟨⟨⟨rfl,hi⟩,hg⟩,ht⟩,he⟩:=h
   have e1:gens[d + 1]? = some ⟨t,it,fs,0⟩:=by
    have z:(gens.drop (d + 1))[0]? = some ⟨t,it,fs,0⟩:=by rw [hd];rfl
    rw [List.getElem?_drop] at z;simpa using z
   have e2:gens[d + 1 + 1]? = none:=by
    have z:(gens.drop (d + 1))[1]? = none:=by rw [hd];rfl
    rw [List.getElem?_drop] at z;simpa using z
   rw [wCl]
   refine PB.imp (im G.hx G.calm e1 (fun g' z=>by rw [e2] at z;cases z) (sI src G _ t hi).1 (sG G g t hg) (cP (p:=p) G (bC (mE G.mono m)) (mTl G.mono ifs) (PB.imp (gY G.hx (sE m G elt he) e2) (eF (mE G.mono m))) (sTl ifs G fs ht)) (sI src G _ t hi).2) (fE (mI G.mono src) (aH (bC (mE G.mono m)) (mTl G.mono ifs)))
  ·cases h
 | .more src g ifs rest,C,X,G,elt,gens,sc,pos,d,_,p,h=>by
  simp only [okC] at h
  split at h
  ·rename_i t it fs a g2 gs hd
   simp only [Bool.and_eq_true,decide_eq_true_eq] at h
   obtain ⟨⟨⟨⟨rfl,hi⟩,hg⟩,ht⟩,he⟩:=h
   have e1:gens[d + 1]? = some ⟨t,it,fs,0⟩:=by
    have z:(gens.drop (d + 1))[0]? = some ⟨t,it,fs,0⟩:=by rw [hd];rfl
    rw [List.getElem?_drop] at z;simpa using z
   have e2:gens[d + 1 + 1]? = some g2:=by
    have z:(gens.drop (d + 1))[1]? = some g2:=by rw [hd];rfl
    rw [List.getElem?_drop] at z;simpa using z
   have e3:gens.drop (d + 1 + 1) = g2 :: gs:=by
    have z:(gens.drop (d + 1)).drop 1 = g2 :: gs:=by rw [hd];rfl
    rw [List.drop_drop] at z;simpa using z
   have as0:∀ g',gens[d + 1 + 1]? = some g' -> g'.is_async = 0:=fun g' z=>by
    rw [e2] at z;cases z
    exact eN he
   rw [wCl]
   refine PB.imp (im G.hx G.calm e1 as0 (sI src G _ t hi).1 (sG G g t hg) (cP (p:=p) G (mCl G.mono rest) (mTl G.mono ifs) (sCl rest G elt gens sc pos (d + 1) (.inr rfl) p (by rw [e3];exact he)) (sTl ifs G fs ht)) (sI src G _ t hi).2) (fE (mI G.mono src) (aH (mCl G.mono rest) (mTl G.mono ifs)))
  ·cases h
end
end
end Mi
end L2
namespace L2
namespace Mi
open PySem PySem.Spec PyProof.Rows
section
variable {Φ:Phi} {k:Nat} {C:Ctx} {X:Cx}
theorem sC {sc:Scope} {ts vs:List Expr} {kk k2:Nat} {pp p2:Pos} {env:Env} (hs:env.scope = sc) (hk:sc.kind = .function) (h:nM sc ts vs = true):swappedStores [.Tuple ts kk pp] (.Tuple vs k2 p2) env = pure none:=by
 have hb:env.blockKind = .function:=by unfold Env.blockKind;rw [hs,hk];rfl
 have h':nM sc ts vs = true:=h
 unfold swappedStores
 dsimp only
 rw [hb]
 by_cases c1:(!(ts.length == 2 || ts.length == 3) || vs.length != ts.length) = true
 ·simp only [c1,Bool.true_or,if_true]
 ·simp only [Bool.not_eq_true] at c1
  rw [c1]
  simp only [Bool.false_or,bne_self_eq_false,Bool.false_eq_true,if_false]
  split
  ·rfl
  ·
    generalize hL:List.filterMap _ ts = L
    obtain rfl:L = aX sc ts:=by
     rw [<- hL]
     unfold aX
     congr 1
     funext x
     cases x <;> first | rfl | (unfold Env.kindOf;rw [hs])
    unfold nM at h'
    rw [c1] at h'
    simp only [Bool.false_or,Bool.or_eq_true] at h'
    by_cases c3:((aX sc ts).length != ts.length || (aX sc ts).eraseDups.length != (aX sc ts).length) = true
    ·rw [if_pos c3]
    ·rw [if_neg c3]
     have c4:vs.all (foldedForSure 8) = true:=by
      rcases h' with h' | h'
      ·exact absurd (Bool.or_eq_true _ _ |>.mpr h') c3
      ·exact h'
     rw [if_pos c4]
theorem v8 {sc:Scope} {ts vs:List Expr} {ns:List Str} {kk k2:Nat} {pp p2:Pos} {env:Env} (hs:env.scope = sc) (hk:sc.kind = .function) (h:nO sc ts vs ns = true):swappedStores [.Tuple ts kk pp] (.Tuple vs k2 p2) env = pure (some ns):=by
 have hb:env.blockKind = .function:=by unfold Env.blockKind;rw [hs,hk];rfl
 simp only [nO,Bool.and_eq_true,Bool.not_eq_true',decide_eq_true_eq] at h
 obtain ⟨⟨⟨⟨⟨c1,c2⟩,c3⟩,c4⟩,c5⟩,c6⟩:=h
 unfold swappedStores
 dsimp only
 rw [hb,c1]
 simp only [Bool.false_or,bne_self_eq_false,Bool.false_eq_true,if_false]
 split
 ·next z=>exact absurd z (by rw [Bool.not_eq_true];exact c2)
 ·generalize hL:List.filterMap _ ts = L
  obtain rfl:L = aX sc ts:=by
   rw [<- hL]
   unfold aX
   congr 1
   funext x
   cases x <;> first | rfl | (unfold Env.kindOf;rw [hs])
  rw [c4,c5,c6,c3]
  rfl
theorem lM {C:Ctx} {i:Nat} {x:Str} (h:nN C i x = true):C.N[i]? = some x /\ C.sc.names.lookup x = some .local:=by
 simpa [nN] using h
theorem dD {tg e:Expr} {l:Nat} {env:Env} {b:Bool} (h:swapsWith e (some tg) l env = pure b):swapsWithSole [tg] e l env = pure b:=by
 unfold swapsWithSole
 exact h
theorem v9 {sc:Scope} {tg e:Expr} {env:Env} (hs:env.scope = sc) (hk:sc.kind = .function) (h:gK sc tg e = true):swappedStores [tg] e env = pure none:=by
 cases tg with
 | Tuple ts kk pp =>
   cases e with
   | Tuple vs k2 p2=>exact sC hs hk h
   | _=>rfl
 | _=>first | rfl | (simp [gK] at h;done)
theorem kl {elt:Expr} {gens:List Comprehension} {s sc:Scope} {pos px:Pos} {x:Str} {l:Nat} {env:Env} (hs:env.scope = sc) (hk:sc.kind = .function) :
 swapsWith (.ListComp elt gens s pos) (some (.Name x px)) l env = pure (nP sc x px (.ListComp elt gens s pos)):=by
 have hb:env.blockKind = .function:=by unfold Env.blockKind;rw [hs,hk];rfl
 unfold swapsWith
 dsimp only
 rw [hb]
 unfold nP Env.kindOf
 rw [hs]
 rfl
mutual
theorem sS:∀ (m:MS) (G:Good C Φ k X) (hk:C.sc.kind = .function) (s:Stmt),okS m C s = true -> PS X s (lS X.K (wS Φ m))
 | .asg g m,G,hk,s,h=>by
  simp only [okS] at h
  split at h
  ·rename_i tg e pos
   simp only [Bool.and_eq_true] at h
   obtain ⟨⟨⟨hg,he⟩,ha⟩,hc⟩:=h
   rw [wS]
   have hw:=v9 G.sc hk ha
   have pg:=sG G g tg hg
   have plain:swapsWithSole [tg] e pos.line X.env = pure false -> PS X (.Assign [tg] e pos) (lS X.K (i3 (wE Φ m) (bG g))):=fun hs =>
    PS.imp (ow (sE m G e he) pg hs hw (by cases tg <;> first | rfl | (simp [gK] at ha;done))) (rN (mE G.mono m))
   cases tg with
   | Tuple ts a b=>exact plain (dD (i5 hc))
   | Name x px =>
     cases e with
     | ListComp elt gens sc cpos =>
       by_cases sw:nP C.sc x px (.ListComp elt gens sc cpos) = true
       ·cases g with
        | tup gs=>simp [okG] at hg
        | name i =>
          cases m with
          | comp fr N' c =>
            simp only [okE,Bool.and_eq_true] at he
            have B:aZ sc X.env.scope X.N N' fr:=by rw [G.sc,G.N];exact gM he.1
            have B':aZ sc C.sc C.N N' fr:=gM he.1
            have hgx:PG X (.Name x px) (fX i):=by
             simp only [okG,Bool.and_eq_true] at hg
             exact lh G.nd (by rw [G.N];exact of_decide_eq_true hg.1.1) (G.loc hg.1.2) (G.own hg.2)
            have hsw:∀ l,swapsWith (.ListComp elt gens sc cpos) (some (.Name x px)) l X.env = pure true:=fun l=>by rw [kl G.sc hk,sw]
            rw [wE,bG]
            have mc:=mCmp G.mono fr c
            cases c with
            | last src g ifs m =>
              have h2:=he.2
              simp only [okC] at h2
              split at h2
              ·rename_i t it fs a
               simp only [Bool.and_eq_true,decide_eq_true_eq] at h2
               obtain ⟨⟨⟨⟨rfl,hi⟩,hg'⟩,ht⟩,hel⟩:=h2
               rw [wCmp] at mc ⊢
               refine PS.imp (gk (i:=i) (g:=lG X.K (bG g)) (wi:=lI X.K (wI Φ src)) G.calm G.hx B (fun g' z=>by simp at z) (sI src G _ t hi).1 (fun s H fp=>sG (G.blk B' s H fp) g t hg') (tb:=fun p=>lC X.K p (bx (wTl Φ ifs) (ck (wE Φ m)))) (fun s H fp p => ?_) (sI src G _ t hi).2 hgx (hsw _)) fun D σ H h => ?_
               ·have G':=G.blk B' s H fp
                exact cP (p:=p) G' (bC (mE G.mono m)) (mTl G.mono ifs) (PB.imp (gY G'.hx (sE m G' elt hel) rfl) (eF (mE G.mono m))) (sTl ifs G' fs ht)
               ·exact dj (mI G.mono src) (aH (bC (mE G.mono m)) (mTl G.mono ifs)) σ H _ (iB mc D σ H h)
              ·cases h2
            | more src g ifs rest =>
              have h2:=he.2
              simp only [okC] at h2
              split at h2
              ·rename_i t it fs a g2 gs
               simp only [Bool.and_eq_true,decide_eq_true_eq] at h2
               obtain ⟨⟨⟨⟨rfl,hi⟩,hg'⟩,ht⟩,hel⟩:=h2
               rw [wCmp] at mc ⊢
               have as0:∀ g',(g2 :: gs)[0]? = some g' -> g'.is_async = 0:=fun g' z=>by
                have z':g2 = g':=by simpa using z
                subst z'
                exact eN hel
               refine PS.imp (gk (i:=i) (g:=lG X.K (bG g)) (wi:=lI X.K (wI Φ src)) G.calm G.hx B as0 (sI src G _ t hi).1 (fun s H fp=>sG (G.blk B' s H fp) g t hg') (tb:=fun p=>lC X.K p (bx (wTl Φ ifs) (wCl Φ rest))) (fun s H fp p => ?_) (sI src G _ t hi).2 hgx (hsw _)) fun D σ H h => ?_
               ·have G':=G.blk B' s H fp
                exact cP (p:=p) G' (mCl G.mono rest) (mTl G.mono ifs) (sCl rest G' elt (⟨t,it,fs,0⟩ :: g2 :: gs) sc cpos 0 (.inl rfl) p hel) (sTl ifs G' fs ht)
               ·exact dj (mI G.mono src) (aH (mCl G.mono rest) (mTl G.mono ifs)) σ H _ (iB mc D σ H h)
              ·cases h2
          | _=>simp [okE,dr,cI,cOf,gI,gJ,kf,fo,bK,cX,cO] at he
       ·refine plain ?_
        simp only [Bool.not_eq_true] at sw
        refine dD ?_
        rw [kl G.sc hk,sw]
     | SetComp _ _ _ _=>cases m <;> simp [okE,dr,cI,cOf,gI,gJ,kf,fo,bK,cX,cO] at he
     | DictComp _ _ _ _ _=>cases m <;> simp [okE,dr,cI,cOf,gI,gJ,kf,fo,bK,cX,cO] at he
     | _=>exact plain (dD rfl)
   | _=>simp [gK] at ha
  ·cases h
 | .par i j a b,G,hk,s,h=>by
  simp only [okS] at h
  split at h
  ·next t u e f hp =>
   split at h
   ·next x hx =>
    split at h
    ·next y hy =>
     obtain ⟨k,p,k',p',pos,rfl⟩:=sx hp
     obtain ⟨px,rfl⟩:=cN hx
     obtain ⟨py,rfl⟩:=cN hy
     simp only [Bool.and_eq_true,decide_eq_true_eq] at h
     obtain ⟨⟨⟨⟨⟨⟨⟨hi,hj⟩,hij⟩,n1⟩,n2⟩,ha⟩,hb⟩,hw⟩:=h
     obtain ⟨i1,i2⟩:=lM hi
     obtain ⟨j1,j2⟩:=lM hj
     rw [wS]
     exact PS.imp (wf G.calm G.nd (by rw [G.N];exact i1) (by rw [G.N];exact j1) hij (by rw [G.sc];exact i2) (by rw [G.sc];exact j2) (cg (mE G.mono a) (aC (mE G.mono b) aE) (sE a G _ ha) (cg (mE G.mono b) aE (sE b G _ hb) dA (ao n2)) (ao n1)) (v8 G.sc hk hw) (dD rfl)) (pN (aC (mE G.mono a) (aC (mE G.mono b) aE)))
    ·cases h
   ·cases h
  ·cases h
 | .put o i m,G,hk,s,h=>by
  simp only [okS] at h
  split at h
  ·rename_i x y tp e pos
   simp only [Bool.and_eq_true] at h
   obtain ⟨⟨⟨⟨hsl,hc⟩,ho⟩,hi⟩,he⟩:=h
   rw [wS]
   exact xq (by have:=G.units;omega) (mE G.mono m) (mE G.mono o) (mE G.mono i) (sE m G e he) (sE o G x ho) (sE i G y hi) (dD (i5 hc)) rfl (fun v=>by cases y <;> first | rfl | (simp [dC] at hsl;done))
  ·cases h
 | .drop m,G,hk,s,h=>by
  simp only [okS] at h
  split at h
  ·simp only [Bool.and_eq_true] at h
   rw [wS]
   exact PS.imp (tX (sE m G _ h.2) (i5 h.1)) (pL (mE G.mono m))
  ·cases h
 | .ret m,G,hk,s,h=>by
  simp only [okS] at h
  split at h
  ·rw [wS]
   exact PS.imp (wa (sE m G _ h)) (rM (mE G.mono m))
  ·cases h
 | .ite c a b,G,hk,s,h=>by
  simp only [okS] at h
  split at h
  ·simp only [Bool.and_eq_true] at h
   rw [wS]
   exact PS.imp (yd (sT c G _ h.1.1) (sSs a G hk _ h.1.2) (sSs b G hk _ h.2)) (uN (mT G.mono c))
  ·cases h
 | .for g src b,G,hk,s,h=>by
  simp only [okS] at h
  split at h
  ·simp only [Bool.and_eq_true] at h
   obtain ⟨⟨⟨hs,hg⟩,hi⟩,hb⟩:=h
   rw [wS]
   exact PS.imp (wj (fun e s z=>(G.hx e s z).elim) G.calm (sI src G _ _ hi).1 (sG G g _ hg) (sSs b G hk _ hb) (kh hs)) (rP (mI G.mono src) (mSs G.mono b))
  ·cases h
 | .while c b,G,hk,s,h=>by
  simp only [okS] at h
  split at h
  ·simp only [Bool.and_eq_true] at h
   rw [wS]
   exact PS.imp (qz (fun e s z=>(G.hx e s z).elim) (sT c G _ h.1) (sSs b G hk _ h.2)) (ny (mT G.mono c) (mSs G.mono b))
  ·cases h
 | .frz i m,G,hk,s,h=>by
  simp only [okS] at h
  rw [wS]
  exact xx (sS m G hk s h)
 | .pass,G,hk,s,h=>by
  simp only [okS] at h
  split at h
  ·rw [wS];exact PS.imp tW iA
  ·cases h
 | .brk,G,hk,s,h=>by
  simp only [okS] at h
  split at h
  ·rw [wS];exact PS.imp qv nv
  ·cases h
 | .cnt,G,hk,s,h=>by
  simp only [okS] at h
  split at h
  ·rw [wS];exact PS.imp kW pK
  ·cases h
theorem sSs:∀ (m:MSs) (G:Good C Φ k X) (hk:C.sc.kind = .function) (s:List Stmt),okSs m C s = true -> PSs X s (lS X.K (wSs Φ m))
 | .nil,G,hk,s,h=>by
  simp [okSs] at h;subst h
  rw [wSs];exact PSs.imp tV iA
 | .cons m r,G,hk,[],h=>by simp [okSs] at h
 | .cons m r,G,hk,s :: ss,h=>by
  simp only [okSs,Bool.and_eq_true] at h
  rw [wSs]
  exact PSs.imp (qu (sS m G hk s h.1) (sSs r G hk ss h.2)) (rL (mS G.mono m) (mSs G.mono r))
end
end
end Mi
end L2
namespace L2
namespace Mi
open PySem PySem.Spec PyProof.Rows
structure FD where
 name:Str
 st:Stmt
 N:List Str
 np:Nat
 body:MSs
noncomputable def dE (N:List Str) (ds:List D):al:=ds.map some ++ List.replicate (N.length - ds.length) none
noncomputable def phi (T:List FD):Nat -> Phi
 | 0=>fun _ _ _ _=>False
 | k + 1=>fun f ds M Q => ∃ d,T[f]? = some d /\ ds.length = d.np /\ wSs (phi T k) d.body { nx:=fun _ M'=>Q .non M',rt:=Q } (dE d.N ds) M
theorem fR (T:List FD):∀ k f,aU (phi T k f)
 | 0,f=>fun _ _ _ _ _ q=>q.elim
 | k + 1,f=>fun ds M Q Q' h ⟨d,e,l,q⟩=>⟨d,e,l,mSs (fR T k) d.body { nx:=fun _ M'=>Q .non M',rt:=Q } { nx:=fun _ M'=>Q' .non M',rt:=Q' } _ _ ⟨fun _ M' q'=>h _ _ q',h,fun _ _ z=>z,fun _ _ z=>z⟩ q⟩
noncomputable def nS (Γ:List Str) (cs:List (Str × Int)) (d:FD):Bool :=
 decide ((ai d.st).kind = .function) && !(ai d.st).isCoroutine && !(ai d.st).isGenerator && decide (d.N.Nodup) && decide (d.np <= d.N.length)
  && (d.N.take d.np).all (fun x=>(ai d.st).names.lookup x == some .local || (ai d.st).names.lookup x == some .cell)
  && (ai d.st).names.all (fun y => !(y.2 == .free)) && okSs d.body ⟨Γ,d.N,ai d.st,d.N,cs⟩ (au d.st)
theorem sD {Γ:List Str} {cs:List (Str × Int)} {d:FD} (h:nS Γ cs d = true):eZ d.N (d.N.take d.np) (ai d.st) /\ (d.N.take d.np).length = d.np /\ okSs d.body ⟨Γ,d.N,ai d.st,d.N,cs⟩ (au d.st) = true:=by
 simp only [nS,Bool.and_eq_true,decide_eq_true_eq,Bool.not_eq_true'] at h
 obtain ⟨⟨⟨⟨⟨⟨⟨h1,h2⟩,h3⟩,h4⟩,h5⟩,h6⟩,h7⟩,h8⟩:=h
 have hl:(d.N.take d.np).length = d.np:=by rw [List.length_take];omega
 refine ⟨⟨h1,h2,h3,h4,by rw [hl],fun x hx => ?_,fun y hy e => ?_⟩,hl,h8⟩
 ·have z:=List.all_eq_true.mp h6 x hx
  simpa using z
 ·have z:=List.all_eq_true.mp h7 y hy
  rw [e] at z
  simp at z
section
variable {P:Program} {w:World} {K:PySem.W.Frag} {mg:Str -> Option Value} {base:Heap}
structure tJ (K:PySem.W.Frag) (mg:Str -> Option Value) (T:List FD) (cs:List (Str × Int)):Prop where
 blt:∀ x ∈ fN,mg x = none
 fns:∀ (i:Nat) (d:FD),T[i]? = some d -> ∃ f fd,Fun K d.name d.name d.st f fd /\ mg d.name = some (.ref f) /\ Binds K fd (d.N.take d.np) []
 ok:∀ d ∈ T,nS (T.map (·.name)) cs d = true
 cst:∀ x i,(x,i) ∈ cs -> ∃ t,mg x = some (.int i t)
theorem pY {T:List FD} {cs:List (Str × Int)} (O:tJ K mg T cs):∀ (k i:Nat) (d:FD) (f:Addr) (fd:FuncData),T[i]? = some d -> Fun K d.name d.name d.st f fd -> FnOk P w K mg base CX0 k f fd (d.N.take d.np) (lSp K (phi T k i))
 | 0,i,d,f,fd,e,F=>⟨fun vs H Q E h=>by obtain ⟨ds,M,_,_,q⟩:=h;exact q.elim,fun A outer s H args us vs Q E _ _ _ _ h=>by obtain ⟨ds,M,_,_,q⟩:=h;exact q.elim⟩
 | k + 1,i,d,f,fd,e,F=>by
   obtain ⟨S,hl,hb⟩:=sD (O.ok d (List.mem_of_getElem? e))
   refine F.ok S (fun vs H Q E h => ?_) fun cdv A outer s H vs Q E hr h => ?_
   ·obtain ⟨ds,M,rm,rs,d',e',l,q⟩:=h
    rw [e] at e';cases e'
    rw [rs.length,l,hl]
   ·obtain ⟨ds,M,rm,rs,d',e',l,q⟩:=h
    rw [e] at e';cases e'
    have G:Good ⟨T.map (·.name),d.N,ai d.st,d.N,cs⟩ (phi T k) k ((fG CX0 P w K mg base d.N d.name (ai d.st) f cdv A outer s H E).nox):=by
     refine ⟨fun _ _ z=>z,rfl,rfl,rfl,S.nd,fun _ _=>rfl,hr,O.blt,fun j x hx => ?_,fR T k,O.cst⟩
     have hx':(T.map (·.name))[j]? = some x:=hx
     rw [List.getElem?_map] at hx'
     cases e2:T[j]? with
     | none=>rw [e2] at hx';cases hx'
     | some d2 =>
       rw [e2] at hx';cases hx'
       obtain ⟨f2,fd2,F2,m2,b2⟩:=O.fns j d2 e2
       exact ⟨f2,fd2,_,m2,F2.kp,b2,pY O k j d2 f2 fd2 e2 F2⟩
    refine ⟨_,sSs d.body G S.kind _ hb,dE d.N ds,M, { nx:=fun _ M'=>KE' K M H Q .non M',rt:=KE' K M H Q }, ?_,rm,⟨fun ρ M' σ H' x rs' rm' q' => ?_,fun d M' v H' x rm' rd' q'=>q' v H' x rm' rd',fun _ _ _ _ _ _ _ z=>z,fun _ _ _ _ _ _ _ z=>z⟩,q⟩
    ·refine ⟨by simp [cu,dE,rs.length],fun j dd hj => ?_⟩
     unfold dE at hj
     unfold cu
     by_cases hlt:j < ds.length
     ·rw [List.getElem?_append_left (by simpa using hlt),List.getElem?_map] at hj
      cases e3:ds[j]? with
      | none=>rw [e3] at hj;cases hj
      | some z =>
        rw [e3] at hj;cases hj
        obtain ⟨v,hv,rv⟩:=rs.get e3
        refine ⟨v, ?_,rv⟩
        rw [List.getElem?_append_left (by rw [List.length_map,rs.length];exact hlt),List.getElem?_map,hv];rfl
     ·rw [List.getElem?_append_right (by simpa using hlt),List.getElem?_replicate] at hj
      split at hj <;> cases hj
    ·exact q' .non H' x rm' (RD.non_iff.mpr rfl)
theorem xF {T:List FD} {k i:Nat} {H:Hp} {a:Addr} {ns:List Int} (hO:mN H) (hS:SqL K H a (ns.map V.int)) (h:phi T k i [.con (ns.map D.int)] (fun _=>none) fun d _=>d = .bl true) :
 lSp K (phi T k i) [.ref a] H (fun v _=>v = .bl true) fun _ _ _=>False:=by
 have rm0:RM K (fun _=>none) H:=fun _ _ z=>by cases z
 refine ⟨[.con (ns.map D.int)],fun _=>none,rm0,RDs.cons (RD.con_iff.mpr ⟨a,ns.map V.int,rfl, ?_,RDs.ints ns⟩) RDs.nil,fR T k i [.con (ns.map D.int)] (fun _=>none) (fun d _=>d = .bl true) (KE' K (fun _=>none) H fun v _=>v = .bl true) (fun d M' e=>fun v H' x rm rd => ?_) h⟩
 ·rcases hS with (z | ⟨o,z⟩) | z
  ·rcases hO a with q | ⟨o,xs,q⟩
   ·rw [z] at q;cases q
   ·rw [z] at q;cases q
  ·exact .inl ⟨o,z⟩
  ·exact .inr z
 ·subst e
  exact RD.bl_iff.mp rd
end
theorem fq (us:List Value) (h:us.length = 1):∃ a,us = [a]:=List.length_eq_one_iff.mp h
theorem cw (us:List Value) (h:us.length = 2):∃ a b,us = [a,b]:=by
 cases us with
 | nil=>cases h
 | cons a us=>obtain ⟨b,rfl⟩:=fq us (Nat.succ.inj h);exact ⟨a,b,rfl⟩
theorem tK (us:List Value) (h:us.length = 3):∃ a b c,us = [a,b,c]:=by
 cases us with
 | nil=>cases h
 | cons a us=>obtain ⟨b,c,rfl⟩:=cw us (Nat.succ.inj h);exact ⟨a,b,c,rfl⟩
end Mi
end L2
namespace L2
namespace Mi
open PySem PySem.Spec PyProof.Rows
theorem xG {T:List FD} {k f:Nat} {d:FD} {ds:List D} {M:Mem} {Q:QD} (e:T[f]? = some d) (l:ds.length = d.np) {ρ:al} (r:dE d.N ds = ρ)
 (h:wSs (phi T k) d.body { nx:=fun _ M'=>Q .non M',rt:=Q } ρ M):phi T (k + 1) f ds M Q:=⟨d,e,l,by rw [r];exact h⟩
theorem aF {T:List FD} {n f:Nat} {d:FD} {ds:List D} {M:Mem} {Q:QD} (hn : 1 <= n) (e:T[f]? = some d) (l:ds.length = d.np) {ρ:al} (r:dE d.N ds = ρ)
 (h:wSs (phi T (n - 1)) d.body { nx:=fun _ M'=>Q .non M',rt:=Q } ρ M):phi T n f ds M Q:=by
 obtain ⟨k,rfl⟩:∃ k,n = k + 1:=⟨n - 1,by omega⟩
 exact xG e l r h
theorem va {Φ:Phi} {D:aW} {ρ:al} {M:Mem}:wSs Φ .nil D ρ M = D.nx ρ M:=by rw [wSs];rfl
theorem cr {Φ:Phi} {s:MS} {r:MSs} {D:aW} {ρ:al} {M:Mem}:wSs Φ (.cons s r) D ρ M = wS Φ s { D with nx:=wSs Φ r D } ρ M:=by rw [wSs];rfl
theorem vb {ds:List D} {y:D} {M:Mem} {Q:QD}:wIx (.tup ds) y M Q = ∃ i d,y = .int i /\ atI ds i = some d /\ Q d M:=rfl
theorem vc {ds:List D} {y:D} {M:Mem} {Q:QD}:wIx (.con ds) y M Q = ∃ i d,y = .int i /\ atI ds i = some d /\ Q d M:=rfl
theorem bq {a:Addr} {i:Int} {ds:List D} {d:D} {M:Mem} {Q:QD} (h:M a = some (.lst ds)) (e:atI ds i = some d) (q:Q d M):wIx (.ref a) (.int i) M Q := .inl ⟨ds,i,d,h,rfl,e,q⟩
theorem bR {a:Addr} {i:Int} {ds:List D} {v:D} {j:Nat} {M:Mem} {Q:Mem -> Prop} (h:M a = some (.lst ds)) (e:ixN ds.length i = some j) (q:Q (ak M a (.lst (ds.set j v)))):dR (.ref a) (.int i) v M Q:=⟨a,rfl, .inl ⟨ds,i,j,rfl,h,e,q⟩⟩
theorem vd {a:Addr} {ds:List D} {M:Mem} {Q:QD} (h:M a = some (.lst ds)) (q:Q (.int ds.length) M):cS [.ref a] M Q:=⟨_,_,rfl,by simp only [fK,h],q⟩
theorem ah {a:Addr} {ds:List D} {M:Mem} (h:M a = some (.lst ds)):av M (.ref a) = some ds:=by simp only [av,h]
theorem xH {i:Int} {M:Mem} {Q:QD}:jC [.int i] M Q = Q (.int i) M:=by
 apply propext;constructor
 ·rintro (⟨j,e,q⟩ | ⟨k,e,q⟩)
  ·cases e;exact q
  ·cases e
 ·exact fun q => .inl ⟨i,rfl,q⟩
theorem xI {b:Bool} {M:Mem} {Q:QD}:jC [.bl b] M Q = Q (.int (if b then 1 else 0)) M:=by
 apply propext;constructor
 ·rintro (⟨j,e,q⟩ | ⟨k,e,q⟩)
  ·cases e
  ·cases e;exact q
 ·exact fun q => .inr ⟨b,rfl,q⟩
theorem yR {i j:Int} {M:Mem} {Q:QD}:wEq (.int i) (.int j) M Q = Q (.bl (i == j)) M:=by
 simp [wEq,rb,PyData.eqv]
theorem yS {i j:Int} {M:Mem} {Q:QD}:wNe (.int i) (.int j) M Q = Q (.bl (!(i == j))) M:=by
 simp [wNe,rb,PyData.eqv]
theorem xJ {i j:Int} {M:Mem} {Q:QD}:fJ (.int i) (.int j) M Q = Q (.int (i + j)) M:=rfl
theorem xK {a b:List D} {M:Mem} {Q:QD}:fJ (.tup a) (.tup b) M Q = ((a ≠ [] ∨ True) /\ a.length + b.length <= sizeLine /\ Q (.tup (a ++ b)) M):=rfl
theorem xL {i j:Int} {M:Mem} {Q:QD}:mV (.int i) (.int j) M Q = Q (.int (i - j)) M:=rfl
theorem xM {i j:Int} {M:Mem} {Q:QD}:eC (.int i) (.int j) M Q = (MulOk i j /\ Q (.int (i * j)) M):=rfl
theorem xN {ds:List D} {k:Int} {M:Mem} {Q:QD}:eC (.tup ds) (.int k) M Q = (-(2 ^ 63) <= k /\ k < 2 ^ 63 /\ ds.length * k.toNat <= sizeLine /\ Q (.tup (List.replicate k.toNat ds).flatten) M):=rfl
theorem ve {i j:Int} {M:Mem} {Q:QD}:gn (.int i) (.int j) M Q = (0 < j /\ j < 2 ^ 256 /\ Q (.int (i / j)) M):=rfl
theorem xO {i j:Int} {M:Mem} {Q:QD}:jx (.int i) (.int j) M Q = (0 < j /\ Q (.int (i % j)) M):=rfl
theorem xP {i j:Int} {M:Mem} {Q:QD}:mW (.int i) (.int j) M Q = (0 <= j /\ j <= 1000000 /\ i.natAbs < 2 ^ 64 /\ Q (.int (i ^ j.toNat)) M):=rfl
theorem yT {i j:Int} {M:Mem} {Q:QD}:wLt (.int i) (.int j) M Q = Q (.bl (decide (i < j))) M:=rfl
theorem yU {i j:Int} {M:Mem} {Q:QD}:wLe (.int i) (.int j) M Q = Q (.bl (decide (i <= j))) M:=rfl
theorem tL {i j:Int} {M:Mem} {Q:QD}:wGt (.int i) (.int j) M Q = Q (.bl (decide (j < i))) M:=rfl
theorem yV {i j:Int} {M:Mem} {Q:QD}:wGe (.int i) (.int j) M Q = Q (.bl (decide (j <= i))) M:=rfl
theorem vf {i j:Int} {M:Mem} {Q:QD}:tw (.int i) (.int j) M Q = Q (.int (i + j)) M:=rfl
theorem vg {i j:Int} {M:Mem} {Q:QD}:tz (.int i) (.int j) M Q = Q (.int (i - j)) M:=rfl
theorem vh {i j:Int} {M:Mem} {Q:QD}:tD (.int i) (.int j) M Q = (MulOk i j /\ Q (.int (i * j)) M):=rfl
theorem xQ {i:Int} {M:Mem} {Q:QD}:mX (.int i) M Q = Q (.int (-i)) M:=rfl
theorem xR {i:Int} {M:Mem} {Q:QD}:jB [.int i] M Q = Q (.int (if i < 0 then -i else i)) M:=by simp [jB]
theorem vj {i j:Int} {M:Mem} {Q:QD}:yD [.int i, .int j] M Q = Q (.int (if j > i then j else i)) M:=by
 apply propext;constructor
 ·rintro ⟨a,b,e,q⟩;cases e;exact q
 ·exact fun q=>⟨i,j,rfl,q⟩
theorem vm {i j:Int} {M:Mem} {Q:QD}:iW [.int i, .int j] M Q = Q (.int (if j < i then j else i)) M:=by
 apply propext;constructor
 ·rintro ⟨a,b,e,q⟩;cases e;exact q
 ·exact fun q=>⟨i,j,rfl,q⟩
theorem xS {ds:List D} {M:Mem} {Q:QD}:cS [.con ds] M Q = Q (.int ds.length) M:=by simp [cS,fK]
theorem xT {ds:List D} {M:Mem} {Q:QD}:cS [.tup ds] M Q = Q (.int ds.length) M:=by simp [cS,fK]
theorem xU {ds:List D} {M:Mem}:av M (.tup ds) = some ds:=rfl
theorem xV {ds:List D} {M:Mem}:av M (.con ds) = some ds:=rfl
theorem yW {α:Sort _} {a b : α}:(if true = true then a else b) = a:=rfl
theorem yX {α:Sort _} {a b : α}:(if false = true then a else b) = b:=rfl
theorem vn {ta tb:TEd} {ρ:al} {M:Mem} {R:List D -> (Mem -> Prop) -> Mem -> Prop}:jK ta tb ρ M R = ta ρ M fun x M1=>tb ρ M1 fun y M2 => ∃ xs ys,av M2 x = some xs /\ av M2 y = some ys /\ R (List.zipWith j8 xs ys) (fun M=>av M x = some xs /\ av M y = some ys) M2:=by
 unfold jK aK
 congr 1;funext x M1
 unfold bO
 congr 1;funext y M2
 apply propext;constructor
 ·rintro ⟨x',y',xs,ys,e,q⟩
  cases e;exact ⟨xs,ys,q⟩
 ·rintro ⟨xs,ys,q⟩
  exact ⟨x,y,xs,ys,rfl,q⟩
local macro_rules | `(tactic| walk_at "wp") => `(tactic| simp only [wS,wE,wA,wAnds,wO,wT,wAndTs,wOrTs,wTl,wI,wCl,wCmp,bG,bGs,opB,opC,opF,opM,zK,opI,br,wC,wOp,wUn,bO,aK,wAr,hC,mU,jv,n9,iX,iY,nc,iZ,zF,j3,wIf,fg,j4,wSl,yO,j5,gG,yA,xr,jc,xv,je,wBM,bv,fL,bY,nh,jJ,vn,j9,yM,jf,j7,yI,ck,bx,cM,gv,ju,gy,ni,gA,ja,jb,nj,sIf,i3,nk,yP,nl,gB,nA,zH,yK,va,
 xJ,xK,xL,xM,xN,ve,xO,xP,yT,yU,tL,yV,vf,vg,vh,xQ,xH,xI,yR,yS,xR,vj,vm,xS,xT,xU,xV,vb,vc,yW,yX,Bool.false_eq_true,if_false,if_true,
 List.getElem?_cons_zero,List.getElem?_cons_succ,List.set_cons_zero,List.set_cons_succ,Option.some.injEq,exists_eq_left',exists_eq_left,exists_eq_right,exists_and_left,exists_and_right,D.bl.injEq,D.int.injEq,D.ref.injEq,D.tup.injEq,Option.bind_some,Option.map_some,Option.join_some,Option.bind_none,Option.join_none,List.map_cons,List.map_nil,decide_eq_true_eq,List.cons.injEq,and_true,true_and,List.length_cons,List.length_nil])
local macro_rules | `(tactic| walk_at "st") => `(tactic| ((first | rw [cr] | (dsimp only;rw [cr]));walk_at "wp"))
theorem gN {a:Addr} {kvs:List (D × D)} {k d:D} {M:Mem} {Q:QD} (h:M a = some (.fdc kvs)) (ok:bX k = true) (e:dget kvs k = some d) (q:Q d M):wIx (.ref a) k M Q := .inr (.inr ⟨kvs,d,h,ok,e,q⟩)
theorem i6 {i:Nat} {t:TSd} {A:aW} {ρ:al} {M:Mem} {a:Addr} {kvs:List (D × D)} (e : ρ[i]? = some (some (.ref a))) (m:M a = some (.dct true kvs)) (h:t A ρ (ak M a (.fdc kvs))):i4 i t A ρ M:=⟨a,kvs,e, .inl ⟨m,h⟩⟩
theorem vp {i:Nat} {t:TSd} {A:aW} {ρ:al} {M:Mem} {a:Addr} {kvs:List (D × D)} (e : ρ[i]? = some (some (.ref a))) (m:M a = some (.fdc kvs)) (h:t A ρ M):i4 i t A ρ M:=⟨a,kvs,e, .inr ⟨m,h⟩⟩
theorem km {a:Addr} {t:Bool} {kvs:List (D × D)} {k v:D} {M:Mem} {Q:Mem -> Prop} (h:M a = some (.dct t kvs)) (ok:gm t k = true) (hl:kvs.length < sizeLine) (q:Q (ak M a (.dct t (cb kvs k v)))):dR (.ref a) k v M Q:=⟨a,rfl, .inr ⟨t,kvs,h,ok,hl,q⟩⟩
noncomputable def Ge (M M':Mem):Prop := ∀ a o,M a = some o -> M' a = some o
theorem Ge.refl {M:Mem}:Ge M M:=fun _ _ h=>h
theorem Ge.trans {M M' M'':Mem} (h:Ge M M') (g:Ge M' M''):Ge M M'':=fun _ _ e=>g _ _ (h _ _ e)
theorem Ge.new {M:Mem} {p:Addr} {o:O} (h:M p = none):Ge M (ak M p o):=fun a o' e=>by
 rw [am (fun z=>by rw [z,h] at e;cases e)];exact e
noncomputable def Box (b:Addr) (M:Mem):Prop := ∃ x y z:Int,M b = some (.lst [.int x, .int y, .int z])
structure Bx (b:Addr) (M M':Mem):Prop where
 box:Box b M'
 keep:∀ a o,a ≠ b -> M a = some o -> M' a = some o
theorem Bx.refl {b:Addr} {M:Mem} (h:Box b M):Bx b M M:=⟨h,fun _ _ _ e=>e⟩
theorem Bx.trans {b:Addr} {M M' M'':Mem} (h:Bx b M M') (g:Bx b M' M''):Bx b M M'':=⟨g.box,fun a o n e=>g.keep a o n (h.keep a o n e)⟩
theorem Bx.ge {b:Addr} {M M' M'':Mem} (h:Bx b M M') (g:Ge M' M''):Bx b M M'':=⟨by obtain ⟨x,y,z,e⟩:=h.box;exact ⟨x,y,z,g _ _ e⟩,fun a o n e=>g _ _ (h.keep a o n e)⟩
theorem Bx.put {b:Addr} {M:Mem} {x y z:Int}:Bx b M (ak M b (.lst [.int x, .int y, .int z])):=⟨⟨x,y,z,ae⟩,fun a o n e=>by rw [am n];exact e⟩
theorem Bx.of {b:Addr} {M M':Mem} (h:Box b M) (g:Ge M M'):Bx b M M':=(Bx.refl h).ge g
theorem pZ {b:BT} {tb:TCd} {chk:Mem -> Prop} {N:NC} (I:List D -> al -> Mem -> List D -> Prop) {xs:List D} {ρ:al} {M:Mem} {acc:List D}
 (h0:I [] ρ M acc)
 (hc:∀ l ρ M acc,I l ρ M acc -> chk M)
 (hs:∀ l x r ρ M acc,xs = l ++ x :: r -> I l ρ M acc -> ∃ ρ',b x ρ = some ρ' /\ ∀ N':NC,(∀ ρ2 M2 acc2,I (l ++ [x]) ρ2 M2 acc2 -> N' ρ2 M2 acc2) -> tb ρ' M acc N')
 (hN:∀ ρ M acc,I xs ρ M acc -> N ρ M acc):bo b tb chk N xs ρ M acc:=by
 have g:∀ (r l:List D) (ρ:al) (M:Mem) (acc:List D),xs = l ++ r -> I l ρ M acc -> bo b tb chk N r ρ M acc:=by
  intro r
  induction r with
  | nil=>intro l ρ M acc e i;rw [List.append_nil] at e;subst e;exact ⟨hc _ _ _ _ i,hN _ _ _ i⟩
  | cons x r ih =>
    intro l ρ M acc e i
    obtain ⟨ρ',e1,h⟩:=hs l x r ρ M acc e i
    exact ⟨hc _ _ _ _ i, ρ',e1,h _ fun ρ2 M2 acc2 i2=>ih (l ++ [x]) ρ2 M2 acc2 (by rw [e];simp) i2⟩
 exact g xs [] ρ M acc rfl h0
theorem sF {b:BT} {tb:TSd} {chk:Mem -> Prop} {E:aW} (I:List D -> al -> Mem -> Prop) {xs:List D} {ρ:al} {M:Mem}
 (h0:I [] ρ M)
 (hc:∀ l ρ M,I l ρ M -> chk M)
 (hs:∀ l x r ρ M,xs = l ++ x :: r -> I l ρ M -> ∃ ρ',b x ρ = some ρ' /\ ∀ F:al -> Mem -> Prop,(∀ ρ2 M2,I (l ++ [x]) ρ2 M2 -> F ρ2 M2) -> tb { E with nx:=F,ct:=F,bk:=E.nx } ρ' M)
 (hN:∀ ρ M,I xs ρ M -> E.nx ρ M):bA b tb chk E xs ρ M:=by
 have g:∀ (r l:List D) (ρ:al) (M:Mem),xs = l ++ r -> I l ρ M -> bA b tb chk E r ρ M:=by
  intro r
  induction r with
  | nil=>intro l ρ M e i;rw [List.append_nil] at e;subst e;exact ⟨hc _ _ _ i,hN _ _ i⟩
  | cons x r ih =>
    intro l ρ M e i
    obtain ⟨ρ',e1,h⟩:=hs l x r ρ M e i
    exact ⟨hc _ _ _ i, ρ',e1,h _ fun ρ2 M2 i2=>ih (l ++ [x]) ρ2 M2 (by rw [e];simp) i2⟩
 exact g xs [] ρ M rfl h0
section
variable {T:List FD}
noncomputable def kn (s:Stmt):FD:=⟨"_law_cell_at",s,["_law_script", "_law_k"],2,
 (.cons (.ite (.cmp .lt (.var 1) (.blt .len (.cons (.var 0) .nil))) (.cons (.ret (.ix (.var 0) (.var 1)))
 .nil) .nil)
 (.cons (.ret (.int 0))
 .nil))⟩
theorem ko {α:Type} {xs:List α} {i:Int} (h0 : 0 <= i) (h1:i < xs.length):∃ x,atI xs i = some x /\ xs[i.toNat]? = some x:=by
 have:i.toNat < xs.length:=by omega
 refine ⟨xs[i.toNat], ?_,List.getElem?_eq_getElem this⟩
 unfold atI ixN
 simp [h0,h1,List.getElem?_eq_getElem this]
theorem vq {f:Nat} {s:Stmt} (hf:T[f]? = some (kn s)) {n:Nat} (hn : 1 <= n) {ns:List Int} {k:Int} {M:Mem} {Q:QD} (h0 : 0 <= k) (q:∀ i,Q (.int i) M):phi T n f [.con (ns.map D.int), .int k] M Q:=by
 refine aF hn hf rfl (ρ := [some _,some _]) rfl ?_
 unfold kn
 walk_at "st"
 split
 ·next h =>
  walk_at "st"
  obtain ⟨x,e,e2⟩:=ko (xs:=ns.map D.int) h0 h
  rw [List.getElem?_map] at e2
  cases e3:ns[k.toNat]? with
  | none=>rw [e3] at e2;cases e2
  | some y=>rw [e3] at e2;cases e2;exact ⟨_,e,q y⟩
 ·walk_at "st"
  exact q 0
theorem cY {i j:Int} (h : -(2 ^ 64) < i /\ i < 2 ^ 64):MulOk i j := .inl h
theorem dZ {i j:Int} (h : -(2 ^ 64) < j /\ j < 2 ^ 64):MulOk i j := .inr (.inl h)
noncomputable def lN (s:Stmt):FD:=⟨"_law_mixed",s,["_law_number_here", "_law_k", "_law_once", "_law_twice"],2,
 (.cons (.asg (.name 2) (.bin .mod (.bin .mul (.bin .add (.bin .add (.bin .mod (.var 0) (.int 1000000007)) (.bin .mul (.int 7) (.var 1))) (.int 1)) (.int 48271)) (.int 2147483647)))
 (.cons (.asg (.name 3) (.bin .mod (.bin .mul (.var 2) (.bin .add (.bin .add (.bin .mod (.var 2) (.int 1009)) (.var 1)) (.int 3))) (.int 998244353)))
 (.cons (.ret (.bin .fdiv (.bin .mod (.bin .add (.bin .mul (.var 3) (.int 39373)) (.var 2)) (.int 2147483629)) (.int 64)))
 .nil)))⟩
noncomputable def tM (s:Stmt) (fc fm:Nat):FD:=⟨"_law_box",s,["_law_script", "_law_k", "_law_cell"],2,
 (.cons (.asg (.name 2) (.call fc (.cons (.var 0) (.cons (.var 1) .nil))))
 (.cons (.ret (.lst (.cons (.bin .mul (.blt .abs (.cons (.var 2) .nil)) (.blt .int (.cons (.cmp .ge (.blt .abs (.cons (.var 2) .nil)) (.bin .pow (.int 10) (.int 18))) .nil))) (.cons (.call fm (.cons (.var 2) (.cons (.bin .add (.int 900) (.var 1)) .nil))) (.cons (.int 0) .nil)))))
 .nil))⟩
theorem xW {f fc fm:Nat} {s sc:Stmt} (hf:T[f]? = some (tM s fc fm)) (hfc:T[fc]? = some (kn sc)) {n:Nat} (hfm:∀ {x k:Int} {M:Mem} {Q:QD},(∀ i,Q (.int i) M) -> phi T (n - 1) fm [.int x, .int k] M Q) (hn : 2 <= n) {ns:List Int} {k:Int} {M:Mem} {Q:QD} (h0 : 0 <= k)
 (q:∀ p x y,M p = none -> Q (.ref p) (ak M p (.lst [.int x, .int y, .int 0]))):phi T n f [.con (ns.map D.int), .int k] M Q:=by
 refine aF (by omega) hf rfl (ρ := [some _,some _,none]) rfl ?_
 unfold tM
 walk_at "st"
 refine vq hfc (by omega) h0 fun i => ?_
 walk_at "st"
 refine ⟨by decide,by decide,by decide,dZ ?_, ?_⟩
 ·split <;> omega
 refine hfm fun j => ?_
 exact ⟨by rw [sizeLine_eq];first | decide | omega,fun p hp=>q p _ _ hp⟩
noncomputable def q0 (s:Stmt) (fm:Nat):FD:=⟨"_law_take",s,["_law_box_here", "_law_many", "_law_found", "_law_reach"],2,
 (.cons (.ite (.cmp .gt (.ix (.var 0) (.int 0)) (.int 0)) (.cons (.asg (.name 2) (.bin .mod (.ix (.var 0) (.int 0)) (.var 1)))
 (.cons (.put (.var 0) (.int 0) (.bin .fdiv (.ix (.var 0) (.int 0)) (.var 1)))
 (.cons (.ret (.var 2))
 .nil))) .nil)
 (.cons (.asg (.tup (.cons (.name 2) (.cons (.name 3) .nil))) (.tup (.cons (.int 0) (.cons (.int 1) .nil))))
 (.cons (.while (.cmp .lt (.var 3) (.var 1)) (.cons (.put (.var 0) (.int 2) (.bin .add (.ix (.var 0) (.int 2)) (.int 1)))
 (.cons (.asg (.name 2) (.bin .add (.bin .mul (.var 2) (.int 33554432)) (.call fm (.cons (.ix (.var 0) (.int 1)) (.cons (.ix (.var 0) (.int 2)) .nil)))))
 (.cons (.asg (.name 3) (.bin .mul (.var 3) (.int 33554432)))
 .nil))))
 (.cons (.ret (.bin .mod (.var 2) (.var 1)))
 .nil))))⟩
noncomputable def nT (T:List FD) (n fm:Nat):Prop := ∀ {x k:Int} {M:Mem} {Q:QD},(∀ i,Q (.int i) M) -> phi T n fm [.int x, .int k] M Q
theorem vt {f fm:Nat} {s:Stmt} (hf:T[f]? = some (q0 s fm)) {n:Nat} (hfm:nT T (n - 1) fm) (hn : 2 <= n) {b:Addr} {m:Int} {M:Mem} {Q:QD} (hb:Box b M) (h1 : 0 < m) (h2:m <= 2 ^ 100)
 (q:∀ r M',0 <= r -> r < m -> Bx b M M' -> Q (.int r) M'):phi T n f [.ref b, .int m] M Q:=by
 refine aF (by omega) hf rfl (ρ := [some _,some _,none,none]) rfl ?_
 unfold q0
 obtain ⟨x,y,z,hM⟩:=hb
 walk_at "st"
 refine bq hM (d := .int x) rfl ?_
 simp only [tL]
 walk_at "wp"
 split
 ·next hx =>
  walk_at "st"
  refine bq hM (d := .int x) rfl ?_
  walk_at "wp"
  refine ⟨h1, ?_⟩
  walk_at "st"
  refine bq hM (d := .int x) rfl ?_
  walk_at "wp"
  refine ⟨h1,by omega, ?_⟩
  refine bR hM (j := 0) rfl ?_
  walk_at "st"
  exact q _ _ (Int.emod_nonneg _ (by omega)) (Int.emod_lt_of_pos _ h1) Bx.put
 ·next hx =>
  walk_at "st"
  refine ⟨by rw [sizeLine_eq];first | decide | omega, ?_⟩
  walk_at "st"
  refine ⟨5, ?_⟩
  have go:∀ (f:Nat) (found reach z:Int) (M':Mem),m <= reach * 33554432 ^ f -> M' b = some (.lst [.int x, .int y, .int z]) -> Bx b M M' ->
   bf (hC (wOp wLt (br 3) (br 1))) (wSs (phi T (n - 1)) (MSs.cons (MS.put (ME.var 0) (ME.int 2) (ME.bin BOp.add ((ME.var 0).ix (ME.int 2)) (ME.int 1)))
    (MSs.cons (MS.asg (MG.name 2) (ME.bin BOp.add (ME.bin BOp.mul (ME.var 2) (ME.int 33554432)) (ME.call fm (MEs.cons ((ME.var 0).ix (ME.int 1)) (MEs.cons ((ME.var 0).ix (ME.int 2)) MEs.nil)))))
      (MSs.cons (MS.asg (MG.name 3) (ME.bin BOp.mul (ME.var 3) (ME.int 33554432))) MSs.nil))))
    { nx:=wSs (phi T (n - 1)) (MSs.cons (MS.ret (ME.bin BOp.mod (ME.var 2) (ME.var 1))) MSs.nil) { nx:=fun x M'=>Q D.non M',rt:=Q },rt:=Q } (f + 1) [some (.ref b),some (.int m),some (.int found),some (.int reach)] M':=by
   intro f
   induction f with
   | zero =>
     intro found reach z M' hm hM' hx'
     simp only [bf]
     walk_at "wp"
     rw [if_neg (by omega)]
     walk_at "st"
     exact ⟨h1,q _ _ (Int.emod_nonneg _ (by omega)) (Int.emod_lt_of_pos _ h1) hx'⟩
   | succ f ih =>
     intro found reach z M' hm hM' hx'
     rw [bf]
     walk_at "wp"
     split
     ·next hr =>
      walk_at "st"
      refine bq hM' (d := .int z) rfl ?_
      walk_at "wp"
      refine bR hM' (j := 2) rfl ?_
      walk_at "st"
      refine ⟨dZ (by decide), ?_⟩
      refine bq ae (d := .int y) rfl ?_
      refine bq ae (d := .int (z + 1)) rfl ?_
      refine hfm fun i => ?_
      walk_at "wp"
      walk_at "st"
      refine ⟨dZ (by decide), ?_⟩
      exact ih _ _ (z + 1) _ (by rw [Int.mul_assoc, <- Int.pow_succ'];exact hm) ae (hx'.trans Bx.put)
     ·walk_at "st"
      exact ⟨h1,q _ _ (Int.emod_nonneg _ (by omega)) (Int.emod_lt_of_pos _ h1) hx'⟩
  exact go 4 0 1 z M (by omega) hM (Bx.refl ⟨x,y,z,hM⟩)
noncomputable def ku (T:List FD) (n f:Nat):Prop := ∀ {b:Addr} {m:Int} {M:Mem} {Q:QD},Box b M -> 0 < m -> m <= 2 ^ 100 -> (∀ r M',0 <= r -> r < m -> Bx b M M' -> Q (.int r) M') -> phi T n f [.ref b, .int m] M Q
noncomputable def kw (s:Stmt) (ft:Nat):FD:=⟨"_law_number",s,["_law_box_here", "_law_way"],1,
 (.cons (.asg (.name 1) (.call ft (.cons (.var 0) (.cons (.int 9) .nil))))
 (.cons (.ite (.cmp .eq (.var 1) (.int 0)) (.cons (.ret (.bin .sub (.call ft (.cons (.var 0) (.cons (.int 2001) .nil))) (.int 1000)))
 .nil) .nil)
 (.cons (.ret (.ix (.lst (.cons (.int 0) (.cons (.int 0) (.cons (.int 0) (.cons (.int 1) (.cons (.int 1) (.cons (.int 1) (.cons (.neg (.int 1)) (.cons (.neg (.int 1)) (.cons (.int 2) .nil)))))))))) (.var 1)))
 .nil)))⟩
theorem q8 {f ft:Nat} {s:Stmt} (hf:T[f]? = some (kw s ft)) {n:Nat} (hft:ku T (n - 1) ft) (hn : 1 <= n) {b:Addr} {M:Mem} {Q:QD} (hb:Box b M)
 (q:∀ r M', -1000 <= r -> r <= 1000 -> Bx b M M' -> Q (.int r) M'):phi T n f [.ref b] M Q:=by
 refine aF (by omega) hf rfl (ρ := [some _,none]) rfl ?_
 unfold kw
 walk_at "st"
 refine hft hb (by decide) (by decide) fun r M1 h0 h1 x1 => ?_
 walk_at "st"
 split
 ·walk_at "st"
  refine hft x1.box (by decide) (by decide) fun r2 M2 h0 h1 x2 => ?_
  walk_at "wp"
  exact q _ _ (by omega) (by omega) (x1.trans x2)
 ·next hr =>
  walk_at "st"
  refine ⟨by rw [sizeLine_eq];first | decide | omega,fun p hp => ?_⟩
  have hr:r = 1 ∨ r = 2 ∨ r = 3 ∨ r = 4 ∨ r = 5 ∨ r = 6 ∨ r = 7 ∨ r = 8:=by
   have:r ≠ 0:=fun z=>hr (by rw [z];rfl)
   omega
  have x3:=x1.ge (Ge.new (o := .lst [.int 0, .int 0, .int 0, .int 1, .int 1, .int 1, .int (-1), .int (-1), .int 2]) hp)
  rcases hr with rfl | rfl | rfl | rfl | rfl | rfl | rfl | rfl <;> exact bq ae rfl (q _ _ (by decide) (by decide) x3)
end
section
variable {T:List FD}
noncomputable def kx (T:List FD) (n f:Nat):Prop := ∀ {b:Addr} {M:Mem} {Q:QD},Box b M -> (∀ r M', -1000 <= r -> r <= 1000 -> Bx b M M' -> Q (.int r) M') -> phi T n f [.ref b] M Q
noncomputable def bn (ns:List Int):Prop := ∀ x ∈ ns, -1000 <= x /\ x <= 1000
theorem cJ {lo:Int} {n:Nat}:(bw lo n).length = n:=by simp [bw]
theorem ar {α:Type} {xs l r:List α} {x : α} (e:xs = l ++ x :: r):l.length < xs.length:=by rw [e];simp
theorem eO {α:Type} {xs l r:List α} {x : α} (e:xs = l ++ x :: r):xs[l.length]? = some x:=by rw [e];simp
noncomputable def q9 (s:Stmt) (fn:Nat):FD:=⟨"_law_part",s,["_law_box_here", "_law_length"],2,
 (.cons (.ret (.blt .tuple (.cons (.comp [none,(some 0)] ["_law_k", "_law_box_here"] (.last (.rng1 (.var 1)) (.name 0) .nil (.call fn (.cons (.var 1) .nil)))) .nil)))
 .nil)⟩
theorem vw {f fn:Nat} {s:Stmt} (hf:T[f]? = some (q9 s fn)) {n:Nat} (hfn:kx T (n - 1) fn) (hn : 1 <= n) {b:Addr} {L:Nat} (hL:L <= 1000) {M:Mem} {Q:QD} (hb:Box b M)
 (q:∀ (ns:List Int) M',ns.length = L -> bn ns -> Bx b M M' -> Q (.tup (ns.map .int)) M'):phi T n f [.ref b, .int L] M Q:=by
 refine aF (by omega) hf rfl (ρ := [some _,some _]) rfl ?_
 unfold q9
 walk_at "st"
 refine ⟨by omega,by omega, ?_⟩
 refine pZ (I:=fun l ρ M' acc => ∃ (ns:List Int) (x:Option D),acc = ns.map .int /\ ns.length = l.length /\ bn ns /\ Bx b M M' /\ ρ = [x,some (.ref b)]) ⟨[],none,rfl,rfl,fun _ h=>by simp at h,Bx.refl hb,rfl⟩ (fun _ _ _ _ _=>trivial) ?_ ?_
 ·rintro l x r ρ M1 acc e ⟨ns,o,rfl,hl,hs,x1,rfl⟩
  refine ⟨_,rfl,fun N' hN => ?_⟩
  walk_at "wp"
  refine hfn x1.box fun v M2 h1 h2 x2 => ?_
  have:=ar e
  rw [cJ] at this
  refine ⟨by rw [List.length_map,hl,sizeLine_eq];omega,hN _ _ _ ⟨ns ++ [v],_,by simp,by simp [hl], ?_,x1.trans x2,rfl⟩⟩
  intro y hy
  rcases List.mem_append.mp hy with h | h
  ·exact hs y h
  ·simp at h;subst h;exact ⟨h1,h2⟩
 ·rintro ρ M1 acc ⟨ns,o,rfl,hl,hs,x1,rfl⟩ p hp
  rw [cJ] at hl
  refine ⟨_,ns.map .int,rfl,ah ae,q ns _ (by omega) hs (x1.ge (Ge.new hp))⟩
noncomputable abbrev Pr:=List Int × List Int × List Int
noncomputable def prD (p:Pr):D := .tup [.tup (p.1.map .int), .tup (p.2.1.map .int), .tup (p.2.2.map .int)]
noncomputable def cm (p:Pr):PyData := .tuple [.tuple (p.1.map .int), .tuple (p.2.1.map .int), .tuple (p.2.2.map .int)]
structure eP (L0 L1 L2:Nat) (p:Pr):Prop where
 l0:p.1.length = L0
 l1:p.2.1.length = L1
 l2:p.2.2.length = L2
 s0:bn p.1
 s1:bn p.2.1
 s2:bn p.2.2
theorem lP {k:Nat} {M:Mem}:∀ ns:List Int,aG (rb k M) (ns.map D.int) = some (ns.map PyData.int)
 | [] => rfl
 | x :: r=>by
   have e:rb k M (.int x) = some (.int x):=by cases k <;> rfl
   simp [aG,e,lP r]
theorem yY {k:Nat} {M:Mem} (p:Pr):rb (k + 2) M (prD p) = some (cm p):=by
 simp [rb,prD,cm,aG,lP]
theorem gO {k:Nat} {M:Mem}:∀ ps:List Pr,aG (rb (k + 2) M) (ps.map prD) = some (ps.map cm)
 | [] => rfl
 | p :: r=>by simp [aG,yY,gO r]
theorem eQ {k:Nat} {M:Mem} {a:Addr} {ds:List D} (h:M a = some (.lst ds)):rb (k + 1) M (.ref a) = (aG (rb k M) ds).map PyData.list:=by
 simp only [rb,h]
theorem fS {Φ:Phi} {s:MS} {r:MSs} {E:aW} {ρ:al} {M:Mem} (I:al -> Mem -> Prop) (h1:∀ R:al -> Mem -> Prop,(∀ ρ M,I ρ M -> R ρ M) -> wS Φ s { E with nx:=R } ρ M) (h2:∀ ρ M,I ρ M -> wSs Φ r E ρ M):wSs Φ (.cons s r) E ρ M:=by
 rw [cr];exact h1 _ h2
theorem Bx.upd {b q:Addr} {M M':Mem} {o:O} (h:Bx b M M') (hq:M q = none) (hqb:q ≠ b):Bx b M (ak M' q o) :=
 ⟨by obtain ⟨x,y,z,e⟩:=h.box;exact ⟨x,y,z,by rw [am hqb.symm];exact e⟩,fun u o' nu eu=>by
   rw [am (fun z=>by rw [z,hq] at eu;cases eu)];exact h.keep u o' nu eu⟩
theorem Bx.none {b q:Addr} {M M':Mem} (h:Bx b M M') (hq:M' q = none) (hqb:q ≠ b):M q = none:=by
 cases e:M q with
 | none=>rfl
 | some o=>rw [h.keep q o hqb e] at hq;cases hq
noncomputable def prL (p:Pr):List D := [.tup (p.1.map .int), .tup (p.2.1.map .int), .tup (p.2.2.map .int)]
theorem eR {k:Nat}:bn (List.replicate k 0):=fun x h=>by
 rw [(List.mem_replicate.mp h).2];decide
theorem sH {k:Nat}:(List.replicate k [D.int 0]).flatten = (List.replicate k (0:Int)).map D.int:=by
 induction k with
 | zero=>rfl
 | succ k ih=>rw [List.replicate_succ,List.flatten_cons,ih];rfl
noncomputable def qa (T:List FD) (n f:Nat):Prop := ∀ {b:Addr} {L:Nat} {M:Mem} {Q:QD},L <= 1000 -> Box b M -> (∀ (ns:List Int) M',ns.length = L -> bn ns -> Bx b M M' -> Q (.tup (ns.map .int)) M') -> phi T n f [.ref b, .int L] M Q
noncomputable def ky (s:Stmt) (ft fp:Nat):FD:=⟨"_law_scheme",s,["_law_box_here", "_law_lengths", "_law_count", "_law_products", "_law_k", "_law_product", "_law_way", "_law_side"],3,
 (.cons (.asg (.name 3) (.lst .nil))
 (.cons (.for (.name 4) (.rng1 (.var 2)) (.cons (.asg (.name 5) (.comp [none,(some 0)] ["_law_length", "_law_box_here"] (.last (.seq (.var 1)) (.name 0) .nil (.call fp (.cons (.var 1) (.cons (.var 0) .nil))))))
 (.cons (.asg (.name 6) (.call ft (.cons (.var 0) (.cons (.int 8) .nil))))
 (.cons (.ite (.and (.cons (.cmp .lt (.var 6) (.int 3)) (.cons (.cmp .ne (.var 3) (.lst .nil)) .nil))) (.cons (.put (.var 5) (.var 6) (.ix (.ix (.var 3) (.call ft (.cons (.var 0) (.cons (.blt .len (.cons (.var 3) .nil)) .nil)))) (.var 6)))
 .nil) .nil)
 (.cons (.ite (.cmp .eq (.var 6) (.int 3)) (.cons (.asg (.name 7) (.call ft (.cons (.var 0) (.cons (.int 3) .nil))))
 (.cons (.put (.var 5) (.var 7) (.bin .mul (.tup (.cons (.int 0) .nil)) (.ix (.var 1) (.var 7))))
 .nil)) .nil)
 (.cons (.drop (.meth .append (.var 3) (.blt .tuple (.cons (.var 5) .nil))))
 .nil))))))
 (.cons (.ret (.bin .add (.blt .tuple (.cons (.var 1) .nil)) (.tup (.cons (.var 3) .nil))))
 .nil)))⟩
theorem qb {f ft fp:Nat} {s:Stmt} (hf:T[f]? = some (ky s ft fp)) {n:Nat} (hft:ku T (n - 1) ft) (hfp:qa T (n - 1) fp) (hn : 1 <= n) {b a:Addr} {L0 L1 L2 c:Nat} (h0:L0 <= 1000) (h1:L1 <= 1000) (h2:L2 <= 1000) (hc:c <= 1000) {M:Mem} {Q:QD} (hb:Box b M) (hab:a ≠ b) (ha:M a = some (.lst [.int L0, .int L1, .int L2]))
 (q:∀ (ps:List Pr) pr M',ps.length = c -> (∀ p ∈ ps,eP L0 L1 L2 p) -> Bx b M M' -> M pr = none -> M' pr = some (.lst (ps.map prD)) -> Q (.tup [.int L0, .int L1, .int L2, .ref pr]) M'):phi T n f [.ref b, .ref a, .int c] M Q:=by
 refine aF (by omega) hf rfl (ρ := [some _,some _,some _,none,none,none,none,none]) rfl ?_
 unfold ky
 walk_at "st"
 refine ⟨by omega,fun pr hpr => ?_⟩
 have hpb:pr ≠ b:=fun z=>by obtain ⟨x,y,w,e⟩:=hb;rw [<- z,hpr] at e;cases e
 have hpa:pr ≠ a:=fun z=>by rw [<- z,hpr] at ha;cases ha
 walk_at "st"
 refine ⟨by omega,by omega, ?_⟩
 refine sF (I:=fun l ρ M' => ∃ (ps:List Pr) (o4 o5 o6 o7:Option D), ρ = [some (.ref b),some (.ref a),some (.int c),some (.ref pr),o4,o5,o6,o7] /\ ps.length = l.length /\ (∀ p ∈ ps,eP L0 L1 L2 p) /\ Bx b M M' /\ M' pr = some (.lst (ps.map prD)))
  ⟨[],none,none,none,none,rfl,rfl,fun _ h=>by simp at h,Bx.of hb (Ge.new hpr),ae⟩ (fun _ _ _ _=>trivial) ?_ ?_
 ·rintro l x r ρ M1 e ⟨ps,o4,o5,o6,o7,rfl,hl,hp,x1,hps⟩
  have hlc:=ar e
  rw [cJ] at hlc
  refine ⟨_,rfl,fun F hF => ?_⟩
  walk_at "wp"
  have ha1:=x1.keep a _ hab ha
  rw [cr];walk_at "wp"
  refine ⟨_,ah ha1, ?_⟩
  simp only [bo]
  refine ⟨ah ha1,_,rfl, ?_⟩
  walk_at "wp"
  refine hfp h0 x1.box fun n0 M2 l0 s0 x2 => ?_
  have ha2:=x2.keep a _ hab ha1
  refine ⟨by simp [sizeLine_eq],ah ha2, ?_⟩
  refine hfp h1 x2.box fun n1 M3 l1 s1 x3 => ?_
  have ha3:=x3.keep a _ hab ha2
  refine ⟨by simp [sizeLine_eq],ah ha3, ?_⟩
  refine hfp h2 x3.box fun n2 M4 l2 s2 x4 => ?_
  have ha4:=x4.keep a _ hab ha3
  refine ⟨by simp [sizeLine_eq],ah ha4,fun pq hpq => ?_⟩
  have hps4:=x4.keep pr _ hpb (x3.keep pr _ hpb (x2.keep pr _ hpb hps))
  have x5:=((x1.trans x2).trans (x3.trans x4)).ge (Ge.new (o := .lst ([] ++ [D.tup (List.map D.int n0)] ++ [D.tup (List.map D.int n1)] ++ [D.tup (List.map D.int n2)])) hpq)
  have hqb:pq ≠ b:=fun z=>by obtain ⟨x,y,w,e⟩:=x4.box;rw [<- z,hpq] at e;cases e
  have hpqM:M pq = none:=((x1.trans x2).trans (x3.trans x4)).none hpq hqb
  have hqp:pr ≠ pq:=fun z=>by rw [z,hpq] at hps4;cases hps4
  have hqa:a ≠ pq:=fun z=>by rw [z,hpq] at ha4;cases ha4
  have hps5:ak M4 pq (.lst ([] ++ [D.tup (List.map D.int n0)] ++ [D.tup (List.map D.int n1)] ++ [D.tup (List.map D.int n2)])) pr = some (.lst (ps.map prD)):=by rw [am hqp];exact hps4
  have hq5:ak M4 pq (.lst ([] ++ [D.tup (List.map D.int n0)] ++ [D.tup (List.map D.int n1)] ++ [D.tup (List.map D.int n2)])) pq = some (.lst (prL (n0,n1,n2))):=ae
  have hok:eP L0 L1 L2 (n0,n1,n2):=⟨l0,l1,l2,s0,s1,s2⟩
  generalize ak M4 pq (.lst ([] ++ [D.tup (List.map D.int n0)] ++ [D.tup (List.map D.int n1)] ++ [D.tup (List.map D.int n2)])) = M5 at x5 hps5 hq5
  generalize hP:(n0,n1,n2) = p0 at hok hq5
  clear hpq hps4 x4 ha4 x3 ha3 x2 ha2 hP
  walk_at "st"
  refine hft x5.box (by decide) (by decide) fun way M6 w0 w1 x6 => ?_
  have hps6:=x6.keep pr _ hpb hps5
  have hq6:=x6.keep pq _ hqb hq5
  have x16:=x5.trans x6
  refine fS (I:=fun ρ' M' => ρ' = [some (.ref b),some (.ref a),some (.int c),some (.ref pr),some x,some (.ref pq),some (.int way),o7] /\ ∃ p:Pr,eP L0 L1 L2 p /\ Bx b M M' /\ M' pr = some (.lst (ps.map prD)) /\ M' pq = some (.lst (prL p))) (fun R hR => ?_) ?_
  ·walk_at "wp"
   split
   ·next hw =>
    refine ⟨by omega,fun pe hpe => ?_⟩
    have g:=Ge.new (o := .lst []) hpe
    refine ⟨_,_,eQ (g _ _ hps6) |>.trans (by rw [gO];rfl),eQ ae, ?_⟩
    walk_at "wp"
    have x7:=x16.ge g
    have hps7:=g _ _ hps6
    have hq7:=g _ _ hq6
    split
    ·next hne =>
     have hpos : 0 < ps.length:=by
      cases ps with
      | nil=>simp [PyData.eqv,PyData.eqvAll] at hne
      | cons p r=>simp
     walk_at "st"
     refine vd hps7 ?_
     refine hft x7.box (by rw [List.length_map];omega) (by rw [List.length_map];omega) fun r M8 r0 r1 x8 => ?_
     have hps8:=x8.keep pr _ hpb hps7
     have hq8:=x8.keep pq _ hqb hq7
     obtain ⟨d,e1,e2⟩:=ko r0 r1
     refine bq hps8 e1 ?_
     rw [List.getElem?_map] at e2
     cases e3:ps[r.toNat]? with
     | none=>rw [e3] at e2;cases e2
     | some pp =>
       rw [e3] at e2;cases e2
       have ho:=hp pp (List.mem_of_getElem? e3)
       have hw3:way = 0 ∨ way = 1 ∨ way = 2:=by omega
       have x9:=x7.trans x8
       rcases hw3 with rfl | rfl | rfl
       ·refine ⟨_,_,rfl,rfl,bR hq8 (j := 0) rfl ?_⟩
        exact hR _ _ ⟨rfl,(pp.1,p0.2.1,p0.2.2),⟨ho.l0,hok.l1,hok.l2,ho.s0,hok.s1,hok.s2⟩,x9.upd hpqM hqb,by rw [am hqp];exact hps8,ae⟩
       ·refine ⟨_,_,rfl,rfl,bR hq8 (j := 1) rfl ?_⟩
        exact hR _ _ ⟨rfl,(p0.1,pp.2.1,p0.2.2),⟨hok.l0,ho.l1,hok.l2,hok.s0,ho.s1,hok.s2⟩,x9.upd hpqM hqb,by rw [am hqp];exact hps8,ae⟩
       ·refine ⟨_,_,rfl,rfl,bR hq8 (j := 2) rfl ?_⟩
        exact hR _ _ ⟨rfl,(p0.1,p0.2.1,pp.2.2),⟨hok.l0,hok.l1,ho.l2,hok.s0,hok.s1,ho.s2⟩,x9.upd hpqM hqb,by rw [am hqp];exact hps8,ae⟩
    ·exact hR _ _ ⟨rfl,p0,hok,x7,hps7,hq7⟩
   ·exact hR _ _ ⟨rfl,p0,hok,x16,hps6,hq6⟩
  ·rintro ρ M7 ⟨rfl,p,hpo,x7,hps7,hq7⟩
   refine fS (I:=fun ρ' M' => ∃ (o7:Option D), ρ' = [some (.ref b),some (.ref a),some (.int c),some (.ref pr),some x,some (.ref pq),some (.int way),o7] /\ ∃ p:Pr,eP L0 L1 L2 p /\ Bx b M M' /\ M' pr = some (.lst (ps.map prD)) /\ M' pq = some (.lst (prL p))) (fun R hR => ?_) ?_
   ·walk_at "wp"
    split
    ·walk_at "st"
     refine hft x7.box (by decide) (by decide) fun side M8 d0 d1 x8 => ?_
     have hps8:=x8.keep pr _ hpb hps7
     have hq8:=x8.keep pq _ hqb hq7
     have x9:=x7.trans x8
     have ha8:=x9.keep a _ hab ha
     walk_at "st"
     refine ⟨by rw [sizeLine_eq];first | decide | omega, ?_⟩
     have hs3:side = 0 ∨ side = 1 ∨ side = 2:=by omega
     rcases hs3 with rfl | rfl | rfl
     ·refine bq ha8 (d := .int L0) rfl ?_
      walk_at "wp"
      refine ⟨by omega,by omega,by rw [sizeLine_eq];first | decide | omega,bR hq8 (j := 0) rfl ?_⟩
      rw [sH]
      exact hR _ _ ⟨_,rfl,(List.replicate (L0:Int).toNat 0,p.2.1,p.2.2),⟨by simp,hpo.l1,hpo.l2,eR,hpo.s1,hpo.s2⟩,x9.upd hpqM hqb,by rw [am hqp];exact hps8,ae⟩
     ·refine bq ha8 (d := .int L1) rfl ?_
      walk_at "wp"
      refine ⟨by omega,by omega,by rw [sizeLine_eq];first | decide | omega,bR hq8 (j := 1) rfl ?_⟩
      rw [sH]
      exact hR _ _ ⟨_,rfl,(p.1,List.replicate (L1:Int).toNat 0,p.2.2),⟨hpo.l0,by simp,hpo.l2,hpo.s0,eR,hpo.s2⟩,x9.upd hpqM hqb,by rw [am hqp];exact hps8,ae⟩
     ·refine bq ha8 (d := .int L2) rfl ?_
      walk_at "wp"
      refine ⟨by omega,by omega,by rw [sizeLine_eq];first | decide | omega,bR hq8 (j := 2) rfl ?_⟩
      rw [sH]
      exact hR _ _ ⟨_,rfl,(p.1,p.2.1,List.replicate (L2:Int).toNat 0),⟨hpo.l0,hpo.l1,by simp,hpo.s0,hpo.s1,eR⟩,x9.upd hpqM hqb,by rw [am hqp];exact hps8,ae⟩
    ·exact hR _ _ ⟨_,rfl,p,hpo,x7,hps7,hq7⟩
   ·rintro ρ M9 ⟨o7',rfl,p,hpo,x9,hps9,hq9⟩
    walk_at "st"
    refine ⟨⟨_,hps9⟩,_,_,rfl,ah hq9,_,_,_,rfl,rfl,hps9,by rw [List.length_map,sizeLine_eq];omega, ?_⟩
    walk_at "wp"
    exact hF _ _ ⟨ps ++ [p],_,_,_,_,rfl,by simp [hl],fun p' hp'=>(List.mem_append.mp hp').elim (hp p') fun z=>by simp at z;subst z;exact hpo,x9.upd hpr hpb,by rw [ae];simp [prD,prL]⟩
 ·rintro ρ M1 ⟨ps,o4,o5,o6,o7,rfl,hl,hp,x1,hps⟩
  have ha1:=x1.keep a _ hab ha
  dsimp only
  walk_at "st"
  refine ⟨_,_,rfl,ah ha1,by rw [sizeLine_eq];first | decide | omega, ?_⟩
  walk_at "wp"
  rw [cJ] at hl
  exact ⟨by simp,by rw [sizeLine_eq];first | decide | omega,q ps pr M1 (by omega) hp x1 hpr hps⟩
end
section
theorem aV {α:Type} {f : α -> D} {b:BT} {tb:TCd} {chk:Mem -> Prop} {N:NC} (I:List α -> al -> Mem -> List D -> Prop) {ys:List α} {xs:List D} (hx:xs = ys.map f) {ρ:al} {M:Mem} {acc:List D}
 (h0:I [] ρ M acc)
 (hc:∀ l ρ M acc,I l ρ M acc -> chk M)
 (hs:∀ l x r ρ M acc,ys = l ++ x :: r -> I l ρ M acc -> ∃ ρ',b (f x) ρ = some ρ' /\ ∀ N':NC,(∀ ρ2 M2 acc2,I (l ++ [x]) ρ2 M2 acc2 -> N' ρ2 M2 acc2) -> tb ρ' M acc N')
 (hN:∀ ρ M acc,I ys ρ M acc -> N ρ M acc):bo b tb chk N xs ρ M acc:=by
 subst hx
 have g:∀ (r l:List α) (ρ:al) (M:Mem) (acc:List D),ys = l ++ r -> I l ρ M acc -> bo b tb chk N (r.map f) ρ M acc:=by
  intro r
  induction r with
  | nil=>intro l ρ M acc e i;rw [List.append_nil] at e;subst e;exact ⟨hc _ _ _ _ i,hN _ _ _ i⟩
  | cons x r ih =>
    intro l ρ M acc e i
    obtain ⟨ρ',e1,h⟩:=hs l x r ρ M acc e i
    exact ⟨hc _ _ _ _ i, ρ',e1,h _ fun ρ2 M2 acc2 i2=>ih (l ++ [x]) ρ2 M2 acc2 (by rw [e];simp) i2⟩
 exact g ys [] ρ M acc rfl h0
theorem bj {α:Type} {f : α -> D} {b:BT} {tb:TSd} {chk:Mem -> Prop} {E:aW} (I:List α -> al -> Mem -> Prop) {ys:List α} {xs:List D} (hx:xs = ys.map f) {ρ:al} {M:Mem}
 (h0:I [] ρ M)
 (hc:∀ l ρ M,I l ρ M -> chk M)
 (hs:∀ l x r ρ M,ys = l ++ x :: r -> I l ρ M -> ∃ ρ',b (f x) ρ = some ρ' /\ ∀ F:al -> Mem -> Prop,(∀ ρ2 M2,I (l ++ [x]) ρ2 M2 -> F ρ2 M2) -> tb { E with nx:=F,ct:=F,bk:=E.nx } ρ' M)
 (hN:∀ ρ M,I ys ρ M -> E.nx ρ M):bA b tb chk E xs ρ M:=by
 subst hx
 have g:∀ (r l:List α) (ρ:al) (M:Mem),ys = l ++ r -> I l ρ M -> bA b tb chk E (r.map f) ρ M:=by
  intro r
  induction r with
  | nil=>intro l ρ M e i;rw [List.append_nil] at e;subst e;exact ⟨hc _ _ _ i,hN _ _ i⟩
  | cons x r ih =>
    intro l ρ M e i
    obtain ⟨ρ',e1,h⟩:=hs l x r ρ M e i
    exact ⟨hc _ _ _ i, ρ',e1,h _ fun ρ2 M2 i2=>ih (l ++ [x]) ρ2 M2 (by rw [e];simp) i2⟩
 exact g ys [] ρ M rfl h0
theorem lQ {M M':Mem} {x:D} {ds:List D} (h:av M x = some ds) (g:Ge M M'):av M' x = some ds:=by
 cases x with
 | ref a =>
   simp only [av] at h ⊢
   split at h
   ·next e=>rw [g _ _ e];exact h
   ·cases h
 | _=>exact h
theorem sJ {M:Mem} {x:D} {ds:List D} (h:av M x = some ds):fK M x = some ds.length:=by
 cases x with
 | ref a =>
   simp only [av] at h
   split at h
   ·next e=>cases h;simp only [fK,e]
   ·cases h
 | tup es=>cases h;rfl
 | con es=>cases h;rfl
 | _=>cases h
theorem fu {M:Mem} {x:D} {ds:List D} {Q:QD} (h:av M x = some ds) (q:Q (.int ds.length) M):cS [x] M Q:=⟨_,_,rfl,sJ h,q⟩
theorem dy {α:Type} {xs:List α} {k:Nat} {x : α} (h:xs[k]? = some x):atI xs (k:Int) = some x:=by
 have hk:k < xs.length:=(List.getElem?_eq_some_iff.mp h).1
 unfold atI ixN
 rw [if_pos (by omega),if_pos (by omega)]
 exact h
theorem bH {n:Nat}:bw 0 n = (List.range n).map fun i=>D.int (i:Nat):=by simp [bw]
end
section
variable {T:List FD}
noncomputable def Big (ns:List Int):Prop := ∀ x ∈ ns, -1000000000000 <= x /\ x <= 1000000000000
theorem qc {x y:Int} (hx : -1000 <= x /\ x <= 1000) (hy : -1000000000000 <= y /\ y <= 1000000000000) : -1000000000000000 <= x * y /\ x * y <= 1000000000000000:=by
 have h:(x * y).natAbs <= 1000 * 1000000000000:=by
  rw [Int.natAbs_mul]
  exact Nat.mul_le_mul (by omega) (by omega)
 omega
end
section
variable {T:List FD}
noncomputable def kz (x:Str) (s:Stmt):FD:=⟨"_law_mixed",s,[x, "_law_k", "_law_once", "_law_twice"],2,(lN s).body⟩
theorem qd {f:Nat} {x:Str} {s:Stmt} (hf:T[f]? = some (kz x s)) {n:Nat} (hn : 1 <= n):nT T n f:=by
 intro x k M Q q
 refine aF hn hf rfl (ρ := [some _,some _,none,none]) rfl ?_
 unfold kz lN
 walk_at "st"
 refine ⟨by decide,cY (by decide),dZ (by decide),by decide, ?_⟩
 walk_at "st"
 refine ⟨by decide,cY ?_,by decide, ?_⟩
 ·have h1:=Int.emod_nonneg ((x % 1000000007 + 7 * k + 1) * 48271) (b := 2147483647) (by decide)
  have h2:=Int.emod_lt_of_pos ((x % 1000000007 + 7 * k + 1) * 48271) (b := 2147483647) (by decide)
  omega
 walk_at "st"
 refine ⟨dZ (by decide),by decide,by decide,by decide, ?_⟩
 exact q _
end
section
open PySem PySem.Spec PyProof.Rows L2.Srt
variable {T:List FD}
noncomputable abbrev K3:=Int × Int × Int
noncomputable abbrev Tm:=K3 × Int
noncomputable def k3D (k:K3):D := .tup [.int k.1, .int k.2.1, .int k.2.2]
noncomputable def kcD (t:Tm):D × D:=(k3D t.1, .int t.2)
noncomputable def k3K (k:K3):Ky := .tup [.int k.1, .int k.2.1, .int k.2.2]
noncomputable def klt (a b:K3):Prop:=ltK (k3K a) (k3K b) = true
theorem fw {a b:K3} (h:k3D a = k3D b):a = b:=by
 obtain ⟨a1,a2,a3⟩:=a
 obtain ⟨b1,b2,b3⟩:=b
 simp [k3D] at h
 simp [h]
noncomputable def cf (ts:List Tm) (k:K3):Int:=((ts.filter fun t=>decide (t.1 = k)).map (·.2)).sum
theorem dF {k:K3}:cf [] k = 0:=rfl
theorem bB {t:Tm} {ts:List Tm} {k:K3}:cf (t :: ts) k = (if t.1 = k then t.2 else 0) + cf ts k:=by
 unfold cf
 by_cases h:t.1 = k
 ·rw [List.filter_cons_of_pos (by simpa using h),if_pos h];simp
 ·rw [List.filter_cons_of_neg (by simpa using h),if_neg h];simp
theorem cy {a b:List Tm} {k:K3}:cf (a ++ b) k = cf a k + cf b k:=by
 induction a with
 | nil=>simp [dF]
 | cons t a ih=>rw [List.cons_append,bB,bB,ih];omega
theorem lU {ts:List Tm} {k:K3} (h:∀ t ∈ ts,t.1 ≠ k):cf ts k = 0:=by
 induction ts with
 | nil=>rfl
 | cons t ts ih=>rw [bB,if_neg (h t (by simp)),ih fun u hu=>h u (by simp [hu])];rfl
theorem kA {ts:List Tm} (hn:(ts.map (·.1)).Nodup) {t:Tm} (ht:t ∈ ts):cf ts t.1 = t.2:=by
 induction ts with
 | nil=>simp at ht
 | cons u ts ih =>
   simp only [List.map_cons,List.nodup_cons] at hn
   rw [bB]
   rcases List.mem_cons.mp ht with z | z
   ·subst z
    rw [if_pos rfl,lU fun v hv e=>hn.1 (by rw [<- e];exact List.mem_map_of_mem hv)]
    omega
   ·rw [if_neg fun e=>hn.1 (by rw [e];exact List.mem_map_of_mem z),ih hn.2 z];omega
noncomputable def cZ (L:List Tm) (k:K3) (c:Int):List Tm:=if (L.any fun p=>decide (p.1 = k)) = true then L.map fun p=>if p.1 = k then (p.1,p.2 + c) else p else L ++ [(k,c)]
theorem lV {L:List Tm} {k:K3}:dget (L.map kcD) (k3D k) = (L.find? fun p=>decide (p.1 = k)).map fun p => .int p.2:=by
 unfold dget
 induction L with
 | nil=>rfl
 | cons t L ih =>
   by_cases h:t.1 = k
   ·rw [List.map_cons,List.find?_cons_of_pos (by simp [kcD,h]),List.find?_cons_of_pos (by simpa using h)];rfl
   ·rw [List.map_cons,List.find?_cons_of_neg (by simp only [decide_eq_true_eq];exact fun e=>h (fw e)),List.find?_cons_of_neg (by simpa using h),ih]
theorem qe {L:List Tm} {k:K3}:((L.map kcD).any fun p=>decide (p.1 = k3D k)) = L.any fun p=>decide (p.1 = k):=by
 induction L with
 | nil=>rfl
 | cons t L ih =>
   rw [List.map_cons,List.any_cons,List.any_cons,ih]
   congr 1
   by_cases h:t.1 = k
   ·simp [kcD,h]
   ·rw [decide_eq_false h];exact decide_eq_false (fun e=>h (fw e))
theorem vx {L:List Tm} (hn:(L.map (·.1)).Nodup) {k:K3} {c:Int}:cb (L.map kcD) (k3D k) (.int ((((L.find? fun p=>decide (p.1 = k)).map (·.2)).getD 0) + c)) = (cZ L k c).map kcD:=by
 unfold cb cZ
 rw [qe]
 split
 ·next h =>
  rw [List.map_map,List.map_map]
  apply List.map_congr_left
  intro t ht
  simp only [Function.comp]
  by_cases e:t.1 = k
  ·rw [if_pos (by rw [<- e];rfl),if_pos e]
   have:L.find? (fun p=>decide (p.1 = k)) = some t:=by
    clear h
    induction L with
    | nil=>simp at ht
    | cons u L ih =>
      simp only [List.map_cons,List.nodup_cons] at hn
      rcases List.mem_cons.mp ht with z | z
      ·subst z;rw [List.find?_cons_of_pos (by simpa using e)]
      ·rw [List.find?_cons_of_neg (by simp;intro e2;exact hn.1 (by rw [e2, <- e];exact List.mem_map_of_mem z))]
       exact ih hn.2 z
   rw [this];rfl
  ·rw [if_neg (c:=(kcD t).1 = k3D k) (fun z=>e (fw z)),if_neg e]
 ·next h =>
  have:L.find? (fun p=>decide (p.1 = k)) = none:=by
   rw [List.find?_eq_none]
   intro x hx
   simp only [decide_eq_true_eq]
   intro e
   exact h (List.any_eq_true.mpr ⟨x,hx,by simpa using e⟩)
  rw [this];simp [kcD]
theorem qf {L:List Tm} {k:K3} {c:Int}:(cZ L k c).map (·.1) = if (L.any fun p=>decide (p.1 = k)) = true then L.map (·.1) else L.map (·.1) ++ [k]:=by
 unfold cZ
 split
 ·rw [List.map_map]
  apply List.map_congr_left
  intro t _
  simp only [Function.comp]
  split <;> rfl
 ·simp
theorem nU {L:List Tm} (hn:(L.map (·.1)).Nodup) {k:K3} {c:Int}:((cZ L k c).map (·.1)).Nodup:=by
 rw [qf]
 split
 ·exact hn
 ·next h =>
  refine List.nodup_append.mpr ⟨hn,by simp,fun a ha b hb e => ?_⟩
  simp at hb;subst hb;subst e
  obtain ⟨t,ht,e⟩:=List.mem_map.mp ha
  exact h (List.any_eq_true.mpr ⟨t,ht,by simpa using e⟩)
theorem sK {L:List Tm} {k:K3} {c:Int}:(cZ L k c).length <= L.length + 1:=by
 unfold cZ;split <;> simp
theorem vy {L:List Tm} (hn:(L.map (·.1)).Nodup) {k a:K3} {c:Int}:cf (cZ L k c) a = cf L a + if k = a then c else 0:=by
 unfold cZ
 split
 ·next h =>
  obtain ⟨t,ht,e⟩:=List.any_eq_true.mp h
  have e:t.1 = k:=by simpa using e
  clear h
  induction L with
  | nil=>simp at ht
  | cons u L ih =>
    simp only [List.map_cons,List.nodup_cons] at hn
    rw [List.map_cons,bB,bB]
    by_cases eu:u.1 = k
    ·have rest:(L.map fun p=>if p.1 = k then (p.1,p.2 + c) else p) = L:=by
      conv=>rhs;rw [<- List.map_id L]
      apply List.map_congr_left
      intro p hp
      rw [if_neg fun z=>hn.1 (by rw [eu, <- z];exact List.mem_map_of_mem hp)];rfl
     rw [rest,if_pos eu]
     dsimp only
     by_cases ea:u.1 = a
     ·rw [if_pos ea,if_pos ea,if_pos (by rw [<- eu];exact ea)];omega
     ·rw [if_neg ea,if_neg ea,if_neg (by rw [<- eu];exact ea)];omega
    ·rcases List.mem_cons.mp ht with z | z
     ·exact absurd (by rw [<- z];exact e) eu
     ·rw [ih hn.2 z,if_neg eu];omega
 ·rw [cy,bB,dF];simp
noncomputable def aN (ts:List Tm):List Tm:=ts.foldl (fun L t=>cZ L t.1 t.2) []
theorem dl {ts:List Tm} {t:Tm}:aN (ts ++ [t]) = cZ (aN ts) t.1 t.2:=by simp [aN]
theorem e7 {α:Type} {P:List α -> Prop} (h0:P []) (h1:∀ l x,P l -> P (l ++ [x])) (l:List α):P l:=by
 have:∀ r:List α,P r.reverse:=by
  intro r
  induction r with
  | nil=>exact h0
  | cons x r ih=>rw [List.reverse_cons];exact h1 _ _ ih
 have:=this l.reverse
 rw [List.reverse_reverse] at this
 exact this
theorem e8 (ts:List Tm):((aN ts).map (·.1)).Nodup:=e7 (P:=fun ts=>((aN ts).map (·.1)).Nodup) (by simp [aN]) (fun l x ih=>by rw [dl];exact nU ih) ts
theorem vz (ts:List Tm) (k:K3):cf (aN ts) k = cf ts k:=e7 (P:=fun ts=>cf (aN ts) k = cf ts k) rfl (fun l x ih=>by
 rw [dl,vy (e8 l),ih,cy,bB,dF];omega) ts
theorem kB (ts:List Tm):(aN ts).length <= ts.length:=e7 (P:=fun ts=>(aN ts).length <= ts.length) (by simp [aN]) (fun l x ih=>by
 rw [dl];have:=sK (L:=aN l) (k:=x.1) (c:=x.2);simp;omega) ts
structure IsTask (ts rs:List Tm):Prop where
 srt:rs.Pairwise fun a b=>klt a.1 b.1
 nz:∀ r ∈ rs,r.2 ≠ 0
 cf:∀ k,cf rs k = cf ts k
 mem:∀ r ∈ rs,r.1 ∈ ts.map (·.1)
 len:rs.length <= ts.length
theorem vA {a:K3} (h:klt a a):False:=by
 have:=rX _ _ h
 unfold klt at h
 rw [h] at this;cases this
theorem IsTask.nodup {ts rs:List Tm} (h:IsTask ts rs):(rs.map (·.1)).Nodup:=by
 rw [List.nodup_iff_pairwise_ne,List.pairwise_map]
 refine h.srt.imp ?_
 intro a b hab e
 rw [e] at hab
 exact vA hab
theorem IsTask.val {ts rs:List Tm} (h:IsTask ts rs) {r:Tm} (hr:r ∈ rs):r.2 = Mi.cf ts r.1:=by rw [<- h.cf,kA h.nodup hr]
theorem yZ {ts:List Tm} {k:K3}:Mi.cf (ts.filter fun t => !(t.2 == 0)) k = Mi.cf ts k:=by
 induction ts with
 | nil=>rfl
 | cons t ts ih =>
   rw [bB]
   by_cases h:t.2 = 0
   ·rw [List.filter_cons_of_neg (by simp [h]),ih,h];split <;> omega
   ·rw [List.filter_cons_of_pos (by simp [h]),bB,ih]
theorem Ge.upd {M M1:Mem} {d:Addr} {o:O} (g:Ge M M1) (hd:M d = none):Ge M (ak M1 d o):=fun a o' e=>by
 rw [am (fun z=>by rw [z,hd] at e;cases e)];exact g _ _ e
end
section
open PySem PySem.Spec PyProof.Rows L2.Srt
variable {T:List FD}
noncomputable def cC (L:List Tm) (k:K3) (c:Int):List Tm:=if (L.any fun p=>decide (p.1 = k)) = true then L.map (fun p=>if p.1 = k then (p.1,c) else p) else L ++ [(k,c)]
theorem kC {L:List Tm} {k:K3} {c:Int}:cb (L.map kcD) (k3D k) (.int c) = (cC L k c).map kcD:=by
 unfold cb cC
 rw [qe]
 split
 ·rw [List.map_map,List.map_map]
  refine List.map_congr_left fun p _ => ?_
  simp only [Function.comp]
  by_cases h:p.1 = k
  ·rw [if_pos h,if_pos (show (kcD p).1 = k3D k by show k3D p.1 = k3D k;rw [h])];rfl
  ·rw [if_neg h,if_neg (show ¬ (kcD p).1 = k3D k from fun z=>h (fw z))]
 ·rw [List.map_append];rfl
theorem nV {L:List Tm} (hn:(L.map (·.1)).Nodup) {k:K3} {c:Int}:((cC L k c).map (·.1)).Nodup:=by
 unfold cC
 split
 ·rw [List.map_map]
  have e:L.map ((fun x:Tm=>x.1) ∘ fun p=>if p.1 = k then (p.1,c) else p) = L.map (·.1):=List.map_congr_left fun p _=>by
   simp only [Function.comp];split <;> rfl
  rw [e];exact hn
 ·next h =>
  rw [List.map_append,List.nodup_append]
  refine ⟨hn,by simp,fun a ha b hb e => ?_⟩
  simp at hb
  subst e hb
  obtain ⟨p,hp,rfl⟩:=List.mem_map.mp ha
  exact h (List.any_eq_true.mpr ⟨p,hp,by simp⟩)
theorem sL {L:List Tm} {k:K3} {c:Int} {t:Tm} (h:t ∈ cC L k c):t ∈ L ∨ t = (k,c):=by
 unfold cC at h
 split at h
 ·obtain ⟨p,hp,rfl⟩:=List.mem_map.mp h
  by_cases e:p.1 = k
  ·rw [if_pos e];exact .inr (by rw [e])
  ·rw [if_neg e];exact .inl hp
 ·rcases List.mem_append.mp h with h | h
  ·exact .inl h
  ·exact .inr (by simpa using h)
theorem sM {L:List Tm} {k:K3} {c:Int}:(cC L k c).length <= L.length + 1:=by
 unfold cC;split <;> simp
theorem dc {L:List Tm} (hn:(L.map (·.1)).Nodup) {t:Tm} (ht:t ∈ L):dget (L.map kcD) (k3D t.1) = some (.int t.2):=by
 rw [lV]
 have:L.find? (fun p=>decide (p.1 = t.1)) = some t:=by
  induction L with
  | nil=>simp at ht
  | cons x L ih =>
    simp only [List.map_cons,List.nodup_cons] at hn
    rcases List.mem_cons.mp ht with z | z
    ·subst z;simp
    ·have:x.1 ≠ t.1:=fun e=>hn.1 (by rw [e];exact List.mem_map_of_mem z)
     rw [List.find?_cons_of_neg (by simpa using this)]
     exact ih hn.2 z
 rw [this];rfl
theorem sN {L:List Tm} (hn:(L.map (·.1)).Nodup):nF (L.map kcD) = L.map kcD:=by
 have g:∀ (r l:List Tm),(((l ++ r).map (·.1)).Nodup) -> (r.map kcD).foldl (fun a kv=>cb a kv.1 kv.2) (l.map kcD) = (l ++ r).map kcD:=by
  intro r
  induction r with
  | nil=>intro l _;simp
  | cons t r ih =>
    intro l h
    rw [List.map_cons,List.foldl_cons]
    have e:cb (l.map kcD) (kcD t).1 (kcD t).2 = (l ++ [t]).map kcD:=by
     show cb (l.map kcD) (k3D t.1) (.int t.2) = _
     rw [kC]
     unfold cC
     rw [if_neg]
     intro z
     obtain ⟨p,hp,e⟩:=List.any_eq_true.mp z
     rw [List.map_append,List.nodup_append] at h
     exact h.2.2 _ (List.mem_map_of_mem hp) _ (List.mem_map_of_mem (List.mem_cons_self ..)) (of_decide_eq_true e)
    rw [e,ih (l ++ [t]) (by rw [List.append_assoc];exact h)]
    rw [List.append_assoc];rfl
 have:=g L [] (by simpa using hn)
 simpa [nF] using this
theorem fx (k:K3):bX (k3D k) = true:=rfl
end
section
open PySem PySem.Spec PyProof.Rows L2.Srt
variable {T:List FD}
noncomputable def idx (l:List Int):List (Int × Int):=l.mapIdx fun i x=>((i:Nat),x)
noncomputable def nz (l:List Int):List (Int × Int):=(idx l).filter fun q => !(q.2 == 0)
noncomputable def pD (q:Int × Int):D := .tup [.int q.1, .int q.2]
theorem lW {l:List Int}:(idx l).length = l.length:=by simp [idx]
theorem kD {l:List Int}:(nz l).length <= l.length:=by
 unfold nz;exact Nat.le_trans (List.length_filter_le _ _) (by rw [lW];exact Nat.le_refl _)
theorem sP {l:List Int}:dQ (l.map .int) = (idx l).map pD:=by
 unfold dQ idx
 apply List.ext_getElem?
 intro j
 simp only [List.getElem?_mapIdx,List.getElem?_map]
 cases l[j]? <;> rfl
noncomputable def iK (xp xn:Str) (s:Stmt):FD:=⟨"_law_nonzero",s,[xp],1,
 (.cons (.ret (.comp [none,none] ["_law_place",xn] (.last (.enum (.var 0)) (.tup (.cons (.name 0) (.cons (.name 1) .nil))) (.cons (.cmp .ne (.var 1) (.int 0)) .nil) (.tup (.cons (.var 0) (.cons (.var 1) .nil))))))
 .nil)⟩
theorem nW {f:Nat} {xp xn:Str} {s:Stmt} (hf:T[f]? = some (iK xp xn s)) {n:Nat} (hn : 1 <= n) {l:List Int} (hl:l.length <= 1000000) {M:Mem} {Q:QD} (q:∀ p,M p = none -> Q (.ref p) (ak M p (.lst ((nz l).map pD)))):phi T n f [.tup (l.map .int)] M Q:=by
 refine aF (by omega) hf rfl (ρ := [some _]) rfl ?_
 unfold iK
 walk_at "st"
 rw [sP]
 refine aV (f:=pD) (ys:=idx l) (I:=fun r ρ M' acc=>(∃ o0 o1, ρ = [o0,o1]) /\ M' = M /\ acc = (r.filter fun q => !(q.2 == 0)).map pD) rfl ⟨⟨_,_,rfl⟩,rfl,rfl⟩ (fun _ _ _ _ _=>by first | rfl | trivial) ?_ ?_
 ·rintro l' x r ρ M1 acc e ⟨⟨o0,o1,rfl⟩,rfl,rfl⟩
  refine ⟨_,rfl,fun N' hN' => ?_⟩
  have hlt:=ar e
  rw [lW] at hlt
  have hfl:(l'.filter fun q => !(q.2 == 0)).length <= l'.length:=List.length_filter_le _ _
  walk_at "wp"
  by_cases hz:x.2 = 0
  ·rw [if_neg (by simp [hz])]
   refine hN' _ _ _ ⟨⟨_,_,rfl⟩,rfl, ?_⟩
   rw [List.filter_append,List.filter_cons_of_neg (by simp [hz])];simp
  ·rw [if_pos (by simp [hz])]
   refine ⟨by rw [sizeLine_eq];first | decide | omega,by rw [List.length_map,sizeLine_eq];omega,hN' _ _ _ ⟨⟨_,_,rfl⟩,rfl, ?_⟩⟩
   rw [List.filter_append,List.filter_cons_of_pos (by simp [hz])];simp [pD]
 ·rintro ρ M1 acc ⟨⟨o0,o1,rfl⟩,rfl,rfl⟩ p hp
  exact q p hp
noncomputable def bI (i a j b:Int) (zs:List (Int × Int)):List Tm:=zs.map fun z=>((z.1,i,j),a * b * z.2)
noncomputable def bW (i a:Int) (ys zs:List (Int × Int)):List Tm:=ys.flatMap fun y=>bI i a y.1 y.2 zs
noncomputable def cn (xs ys zs:List (Int × Int)):List Tm:=xs.flatMap fun x=>bW x.1 x.2 ys zs
noncomputable def du (p:Pr):List Tm:=cn (nz p.1) (nz p.2.1) (nz p.2.2)
noncomputable def aQ (ps:List Pr):List Tm:=ps.flatMap du
theorem kE {i a j b:Int} {zs:List (Int × Int)}:(bI i a j b zs).length = zs.length:=by simp [bI]
theorem kF {i a:Int} {ys zs:List (Int × Int)}:(bW i a ys zs).length = ys.length * zs.length:=by
 unfold bW
 induction ys with
 | nil=>simp
 | cons y ys ih=>rw [List.flatMap_cons,List.length_append,ih,kE,List.length_cons,Nat.succ_mul];omega
theorem fT {xs ys zs:List (Int × Int)}:(cn xs ys zs).length = xs.length * (ys.length * zs.length):=by
 unfold cn
 induction xs with
 | nil=>simp
 | cons y ys ih=>rw [List.flatMap_cons,List.length_append,ih,kF,List.length_cons,Nat.succ_mul];omega
noncomputable def qg (xs:Str) (s:Stmt) (fz:Nat):FD:=⟨"_law_sums",s,[xs, "_law_found", "_law_l", "_law_r", "_law_o", "_law_rights", "_law_outs", "_law_i", "_law_a", "_law_j", "_law_b", "_law_k", "_law_c"],1,
 (.cons (.asg (.name 1) (.dnew true))
 (.cons (.for (.tup (.cons (.name 2) (.cons (.name 3) (.cons (.name 4) .nil)))) (.seq (.ix (.var 0) (.int 3))) (.cons (.asg (.name 5) (.call fz (.cons (.var 3) .nil)))
 (.cons (.asg (.name 6) (.call fz (.cons (.var 4) .nil)))
 (.cons (.for (.tup (.cons (.name 7) (.cons (.name 8) .nil))) (.seq (.call fz (.cons (.var 2) .nil))) (.cons (.for (.tup (.cons (.name 9) (.cons (.name 10) .nil))) (.seq (.var 5)) (.cons (.for (.tup (.cons (.name 11) (.cons (.name 12) .nil))) (.seq (.var 6)) (.cons (.put (.var 1) (.tup (.cons (.var 11) (.cons (.var 7) (.cons (.var 9) .nil)))) (.bin .add (.dget (.var 1) (.tup (.cons (.var 11) (.cons (.var 7) (.cons (.var 9) .nil)))) (.int 0)) (.bin .mul (.bin .mul (.var 8) (.var 10)) (.var 12))))
 .nil))
 .nil))
 .nil))
 .nil))))
 (.cons (.frz 1 (.ret (.blt .dict (.cons (.comp [none,(some 1)] ["_law_place", "_law_found"] (.last (.keys (.var 1)) (.name 0) (.cons (.cmp .ne (.ix (.var 1) (.var 0)) (.int 0)) .nil) (.tup (.cons (.var 0) (.cons (.ix (.var 1) (.var 0)) .nil))))) .nil))))
 .nil)))⟩
noncomputable def xX (T:List FD) (n f:Nat):Prop := ∀ {l:List Int} {M:Mem} {Q:QD},l.length <= 1000000 -> (∀ p,M p = none -> Q (.ref p) (ak M p (.lst ((nz l).map pD)))) -> phi T n f [.tup (l.map .int)] M Q
structure nX (p:Pr):Prop where
 b1:Big p.1
 b2:Big p.2.1
 b3:Big p.2.2
 l1:p.1.length <= 100
 l2:p.2.1.length <= 100
 l3:p.2.2.length <= 100
structure IsSum (ps:List Pr) (L:List Tm):Prop where
 nd:(L.map (·.1)).Nodup
 nz:∀ t ∈ L,t.2 ≠ 0
 cf:∀ k,cf L k = cf (aQ ps) k
noncomputable def Od (d:Addr) (M M':Mem):Prop := ∀ a,a ≠ d -> M' a = M a
theorem Od.refl {d:Addr} {M:Mem}:Od d M M:=fun _ _=>rfl
theorem Od.trans {d:Addr} {M M' M'':Mem} (h:Od d M M') (g:Od d M' M''):Od d M M'':=fun a n=>(g a n).trans (h a n)
theorem Od.upd {d:Addr} {M M':Mem} {o:O} (h:Od d M M'):Od d M (ak M' d o):=fun a n=>(am n).trans (h a n)
noncomputable def tN:MSs := .cons (.put (.var 1) (.tup (.cons (.var 11) (.cons (.var 7) (.cons (.var 9) .nil)))) (.bin .add (.dget (.var 1) (.tup (.cons (.var 11) (.cons (.var 7) (.cons (.var 9) .nil)))) (.int 0)) (.bin .mul (.bin .mul (.var 8) (.var 10)) (.var 12)))) .nil
noncomputable def nY:MSs := .cons (.for (.tup (.cons (.name 11) (.cons (.name 12) .nil))) (.seq (.var 6)) tN) .nil
noncomputable def nZ:MSs := .cons (.for (.tup (.cons (.name 9) (.cons (.name 10) .nil))) (.seq (.var 5)) nY) .nil
noncomputable abbrev bd (x:Int):Prop := -1000000000000 <= x /\ x <= 1000000000000
theorem za {Φ:Phi} {v0 v2 v3 v4 v5 o11 o12:Option D} {d po:Addr} {i a j b:Int} {zs:List (Int × Int)} {pre:List Tm} {M:Mem} {E:aW} (hpo:M po = some (.lst (zs.map pD))) (hne:po ≠ d) (hd:M d = some (.dct true ((aN pre).map kcD))) (hl:pre.length + zs.length <= 1000000) (ha:bd a) (hb:bd b)  (hc:∀ z ∈ zs,bd z.2)
 (q:∀ M' o11 o12,Od d M M' -> M' d = some (.dct true ((aN (pre ++ bI i a j b zs)).map kcD)) -> E.nx [v0,some (.ref d),v2,v3,v4,v5,some (.ref po),some (.int i),some (.int a),some (.int j),some (.int b),o11,o12] M') :
 wSs Φ nY E [v0,some (.ref d),v2,v3,v4,v5,some (.ref po),some (.int i),some (.int a),some (.int j),some (.int b),o11,o12] M:=by
 unfold nY
 walk_at "st"
 refine ⟨_,ah hpo, ?_⟩
 refine bj (f:=pD) (ys:=zs) (I:=fun l ρ M' => ∃ o11 o12, ρ = [v0,some (.ref d),v2,v3,v4,v5,some (.ref po),some (.int i),some (.int a),some (.int j),some (.int b),o11,o12] /\ Od d M M' /\ M' d = some (.dct true ((aN (pre ++ bI i a j b l)).map kcD))) rfl ⟨_,_,rfl,Od.refl,by simpa [bI] using hd⟩ (fun l ρ M' ⟨_,_,_,g,_⟩=>ah ((g po hne).trans hpo)) ?_ ?_
 ·rintro l z r ρ M1 e ⟨o11,o12,rfl,g1,hM⟩
  refine ⟨_,rfl,fun F hF => ?_⟩
  have hlt:=ar e
  have hz:=hc z (by rw [e];simp)
  have htl:=kB (pre ++ bI i a j b l)
  rw [List.length_append,kE] at htl
  unfold tN
  rw [cr]
  walk_at "wp"
  refine ⟨⟨_,_,hM⟩,by rw [sizeLine_eq];first | decide | omega,_,_,hM,rfl,cY (by omega),dZ (by omega), ?_⟩
  have ek:D.tup [D.int z.1,D.int i,D.int j] = k3D (z.1,i,j):=rfl
  rw [ek,lV]
  have eg:((Option.map (fun p:Tm=>D.int p.2) ((aN (pre ++ bI i a j b l)).find? fun p=>decide (p.1 = (z.1,i,j)))).getD (.int 0)) = .int (((((aN (pre ++ bI i a j b l)).find? fun p=>decide (p.1 = (z.1,i,j))).map (·.2)).getD 0)):=by
   cases (aN (pre ++ bI i a j b l)).find? fun p=>decide (p.1 = (z.1,i,j)) <;> rfl
  rw [eg]
  walk_at "wp"
  refine ⟨by rw [sizeLine_eq];first | decide | omega,km hM rfl (by rw [List.length_map,sizeLine_eq];omega) ?_⟩
  rw [vx (e8 _)]
  refine hF _ _ ⟨_,_,rfl,g1.upd, ?_⟩
  rw [ae,show bI i a j b (l ++ [z]) = bI i a j b l ++ [((z.1,i,j),a * b * z.2)] by simp [bI], <- List.append_assoc,dl]
 ·rintro ρ M1 ⟨o11,o12,rfl,g1,hM⟩
  dsimp only
  walk_at "wp"
  exact q _ _ _ g1 hM
theorem zb {Φ:Phi} {v0 v2 v3 v4 o9 o10 o11 o12:Option D} {d pr po:Addr} {i a:Int} {ys zs:List (Int × Int)} {pre:List Tm} {M:Mem} {E:aW} (hpr:M pr = some (.lst (ys.map pD))) (hnr:pr ≠ d) (hpo:M po = some (.lst (zs.map pD))) (hne:po ≠ d) (hd:M d = some (.dct true ((aN pre).map kcD))) (hl:pre.length + ys.length * zs.length <= 1000000) (ha:bd a) (hb:∀ z ∈ ys,bd z.2) (hc:∀ z ∈ zs,bd z.2)
 (q:∀ M' o9 o10 o11 o12,Od d M M' -> M' d = some (.dct true ((aN (pre ++ bW i a ys zs)).map kcD)) -> E.nx [v0,some (.ref d),v2,v3,v4,some (.ref pr),some (.ref po),some (.int i),some (.int a),o9,o10,o11,o12] M') :
 wSs Φ nZ E [v0,some (.ref d),v2,v3,v4,some (.ref pr),some (.ref po),some (.int i),some (.int a),o9,o10,o11,o12] M:=by
 unfold nZ
 walk_at "st"
 refine ⟨_,ah hpr, ?_⟩
 refine bj (f:=pD) (ys:=ys) (I:=fun l ρ M' => ∃ o9 o10 o11 o12, ρ = [v0,some (.ref d),v2,v3,v4,some (.ref pr),some (.ref po),some (.int i),some (.int a),o9,o10,o11,o12] /\ Od d M M' /\ M' d = some (.dct true ((aN (pre ++ bW i a l zs)).map kcD))) rfl ⟨_,_,_,_,rfl,Od.refl,by simpa [bW] using hd⟩ (fun l ρ M' ⟨_,_,_,_,_,g,_⟩=>ah ((g pr hnr).trans hpr)) ?_ ?_
 ·rintro l y r ρ M1 e ⟨o9,o10,o11,o12,rfl,g1,hM⟩
  refine ⟨_,rfl,fun F hF => ?_⟩
  have hlt:=ar e
  have hy:=hb y (by rw [e];simp)
  have hm:(l.length + 1) * zs.length <= ys.length * zs.length:=Nat.mul_le_mul_right _ hlt
  rw [Nat.succ_mul] at hm
  refine za ((g1 po hne).trans hpo) hne hM (by rw [List.length_append,kF];omega) ha hy hc fun M2 o11 o12 g2 h2=>hF _ _ ⟨_,_,_,_,rfl,g1.trans g2, ?_⟩
  rw [h2,show bW i a (l ++ [y]) zs = bW i a l zs ++ bI i a y.1 y.2 zs by simp [bW],List.append_assoc]
 ·rintro ρ M1 ⟨o9,o10,o11,o12,rfl,g1,hM⟩
  dsimp only
  walk_at "wp"
  exact q _ _ _ _ _ g1 hM
theorem zc {Φ:Phi} {v0 v2 v3 v4:Option D} {d pr po pl:Addr} {xs ys zs:List (Int × Int)} {pre:List Tm} {M:Mem} {E:aW} {o7 o8 o9 o10 o11 o12:Option D} (hpl:M pl = some (.lst (xs.map pD))) (hnl:pl ≠ d) (hpr:M pr = some (.lst (ys.map pD))) (hnr:pr ≠ d) (hpo:M po = some (.lst (zs.map pD))) (hne:po ≠ d) (hd:M d = some (.dct true ((aN pre).map kcD))) (hl:pre.length + xs.length * (ys.length * zs.length) <= 1000000) (ha:∀ z ∈ xs,bd z.2) (hb:∀ z ∈ ys,bd z.2) (hc:∀ z ∈ zs,bd z.2)
 (q:∀ M' o7 o8 o9 o10 o11 o12,Od d M M' -> M' d = some (.dct true ((aN (pre ++ cn xs ys zs)).map kcD)) -> E.nx [v0,some (.ref d),v2,v3,v4,some (.ref pr),some (.ref po),o7,o8,o9,o10,o11,o12] M') :
 bA (nh (bY (bv 7) (bY (bv 8) fL))) (wSs Φ nZ) (fun M=>av M (.ref pl) = some (xs.map pD)) E (xs.map pD) [v0,some (.ref d),v2,v3,v4,some (.ref pr),some (.ref po),o7,o8,o9,o10,o11,o12] M:=by
 refine bj (f:=pD) (ys:=xs) (I:=fun l ρ M' => ∃ o7 o8 o9 o10 o11 o12, ρ = [v0,some (.ref d),v2,v3,v4,some (.ref pr),some (.ref po),o7,o8,o9,o10,o11,o12] /\ Od d M M' /\ M' d = some (.dct true ((aN (pre ++ cn l ys zs)).map kcD))) rfl ⟨_,_,_,_,_,_,rfl,Od.refl,by simpa [cn] using hd⟩ (fun l ρ M' ⟨_,_,_,_,_,_,_,g,_⟩=>ah ((g pl hnl).trans hpl)) ?_ ?_
 ·rintro l x r ρ M1 e ⟨o7,o8,o9,o10,o11,o12,rfl,g1,hM⟩
  refine ⟨_,rfl,fun F hF => ?_⟩
  have hlt:=ar e
  have hx:=ha x (by rw [e];simp)
  have hm:(l.length + 1) * (ys.length * zs.length) <= xs.length * (ys.length * zs.length):=Nat.mul_le_mul_right _ hlt
  rw [Nat.succ_mul] at hm
  refine zb ((g1 pr hnr).trans hpr) hnr ((g1 po hne).trans hpo) hne hM (by rw [List.length_append,fT];omega) hx hb hc fun M2 o9 o10 o11 o12 g2 h2=>hF _ _ ⟨_,_,_,_,_,_,rfl,g1.trans g2, ?_⟩
  rw [h2,show cn (l ++ [x]) ys zs = cn l ys zs ++ bW x.1 x.2 ys zs by simp [cn],List.append_assoc]
 ·rintro ρ M1 ⟨o7,o8,o9,o10,o11,o12,rfl,g1,hM⟩
  exact q _ _ _ _ _ _ _ g1 hM
theorem kG {l:List Int} (h:Big l):∀ z ∈ nz l,bd z.2:=fun z hz=>by
 unfold nz at hz
 have hz:=(List.mem_filter.mp hz).1
 unfold idx at hz
 obtain ⟨i,hi,e⟩:=List.mem_mapIdx.mp hz
 rw [<- e]
 exact h _ (List.getElem_mem hi)
theorem qh {ps:List Pr} {p:Pr}:aQ (ps ++ [p]) = aQ ps ++ du p:=by simp [aQ]
theorem vB {f fz:Nat} {xs:Str} {s:Stmt} (hf:T[f]? = some (qg xs s fz)) {n:Nat} (hfz:xX T (n - 1) fz) (hn : 1 <= n) {x0 x1 x2:D} {p:Addr} {ps:List Pr} {M:Mem} {Q:QD} (hp:M p = some (.lst (ps.map prD))) (hl:(aQ ps).length <= 1000000) (hF:∀ p ∈ ps,nX p)
 (q:∀ (L:List Tm) d M',IsSum ps L -> L.length <= 1000000 -> Ge M M' -> M d = none -> M' d = some (.dct true (L.map kcD)) -> Q (.ref d) M'):phi T n f [.tup [x0,x1,x2, .ref p]] M Q:=by
 refine aF (by omega) hf rfl (ρ := [some _,none,none,none,none,none,none,none,none,none,none,none,none]) rfl ?_
 unfold qg
 walk_at "st"
 intro d hd
 have g0:=Ge.new (o := .dct true []) hd
 have d0:=ae (M:=M) (a:=d) (o := .dct true [])
 generalize ak M d (.dct true []) = M0 at g0 d0 ⊢
 walk_at "st"
 refine ⟨_,rfl,_,ah (g0 _ _ hp), ?_⟩
 have hpd:p ≠ d:=fun z=>by rw [z,hd] at hp;cases hp
 refine bj (f:=prD) (ys:=ps) (I:=fun l ρ M' => ∃ o2 o3 o4 o5 o6 o7 o8 o9 o10 o11 o12, ρ = [some (.tup [x0,x1,x2, .ref p]),some (.ref d),o2,o3,o4,o5,o6,o7,o8,o9,o10,o11,o12] /\ Ge M M' /\ M' d = some (.dct true ((aN (aQ l)).map kcD))) rfl ⟨_,_,_,_,_,_,_,_,_,_,_,rfl,g0,d0⟩ (fun l ρ M' ⟨_,_,_,_,_,_,_,_,_,_,_,_,g,_⟩=>ah (g _ _ hp)) ?_ ?_
 ·rintro l x r ρ M1 e ⟨o2,o3,o4,o5,o6,o7,o8,o9,o10,o11,o12,rfl,g1,hM⟩
  refine ⟨_,rfl,fun F hF' => ?_⟩
  have hx:=hF x (by rw [e];simp)
  have hll:(aQ l).length + (du x).length <= 1000000:=by
   have:aQ ps = aQ l ++ du x ++ aQ r:=by rw [e];simp [aQ]
   rw [this,List.length_append,List.length_append] at hl
   omega
  walk_at "st"
  refine hfz (by have:=hx.l2;omega) fun pr hpr => ?_
  have hnr:pr ≠ d:=fun z=>by rw [z,hM] at hpr;cases hpr
  have gr:=Ge.new (o := .lst ((nz x.2.1).map pD)) hpr
  have er:=ae (M:=M1) (a:=pr) (o := .lst ((nz x.2.1).map pD))
  have hM:=gr _ _ hM
  have g2:=g1.trans gr
  generalize ak M1 pr (.lst ((nz x.2.1).map pD)) = M2 at er hM g2 ⊢
  clear g1 gr hpr
  walk_at "st"
  refine hfz (by have:=hx.l3;omega) fun po hpo => ?_
  have hno:po ≠ d:=fun z=>by rw [z,hM] at hpo;cases hpo
  have go:=Ge.new (o := .lst ((nz x.2.2).map pD)) hpo
  have eo:=ae (M:=M2) (a:=po) (o := .lst ((nz x.2.2).map pD))
  have hM:=go _ _ hM
  have er:=go _ _ er
  have g3:=g2.trans go
  generalize ak M2 po (.lst ((nz x.2.2).map pD)) = M3 at er eo hM g3 ⊢
  clear g2 go hpo
  walk_at "st"
  refine hfz (by have:=hx.l1;omega) fun pl hpl => ?_
  have hnl:pl ≠ d:=fun z=>by rw [z,hM] at hpl;cases hpl
  have gl:=Ge.new (o := .lst ((nz x.1).map pD)) hpl
  have el:=ae (M:=M3) (a:=pl) (o := .lst ((nz x.1).map pD))
  have hM:=gl _ _ hM
  have er:=gl _ _ er
  have eo:=gl _ _ eo
  have g4:=g3.trans gl
  generalize ak M3 pl (.lst ((nz x.1).map pD)) = M4 at er eo el hM g4 ⊢
  clear g3 gl hpl
  refine ⟨_,ah el, ?_⟩
  refine zc el hnl er hnr eo hno hM (by have:=fT (xs:=nz x.1) (ys:=nz x.2.1) (zs:=nz x.2.2);unfold du at hll;omega) (kG hx.b1) (kG hx.b2) (kG hx.b3) fun M5 o7 o8 o9 o10 o11 o12 g5 h5 => ?_
  walk_at "wp"
  refine hF' _ _ ⟨_,_,_,_,_,_,_,_,_,_,_,rfl,fun a o ea => ?_,by rw [h5,qh];rfl⟩
  by_cases had:a = d
  ·subst had;rw [hd] at ea;cases ea
  ·rw [g5 a had];exact g4 _ _ ea
 ·rintro ρ M1 ⟨o2,o3,o4,o5,o6,o7,o8,o9,o10,o11,o12,rfl,g1,hM⟩
  dsimp only
  walk_at "st"
  refine i6 rfl hM ?_
  have fd:=ae (M:=M1) (a:=d) (o := .fdc ((aN (aQ ps)).map kcD))
  have g2:Ge M (ak M1 d (.fdc ((aN (aQ ps)).map kcD))):=g1.upd hd
  have hl2:=Nat.le_trans (kB (aQ ps)) hl
  have hnd:=e8 (aQ ps)
  have hcf:=vz (aQ ps)
  generalize ak M1 d (.fdc ((aN (aQ ps)).map kcD)) = M2 at fd g2 ⊢
  generalize aN (aQ ps) = L at fd hl2 hnd hcf
  walk_at "wp"
  refine ⟨_,fd, ?_⟩
  refine aV (f:=fun t:Tm=>k3D t.1) (ys:=L) (I:=fun l ρ M' acc=>(∃ o0, ρ = [o0,some (.ref d)]) /\ M' = M2 /\ acc = (l.filter fun t => !(t.2 == 0)).map fun t => .tup [k3D t.1, .int t.2]) (by rw [List.map_map];rfl) ⟨⟨_,rfl⟩,rfl,rfl⟩ (fun _ _ _ _ _=>trivial) ?_ ?_
  ·rintro l t r ρ M3 acc e ⟨⟨o0,rfl⟩,rfl,rfl⟩
   refine ⟨_,rfl,fun N' hN' => ?_⟩
   have hlt:=ar e
   have ht:t ∈ L:=by rw [e];simp
   have hfl:(l.filter fun t => !(t.2 == 0)).length <= l.length:=List.length_filter_le _ _
   walk_at "wp"
   refine gN fd (fx _) (dc hnd ht) ?_
   walk_at "wp"
   by_cases hz:t.2 = 0
   ·rw [if_neg (by simp [hz])]
    refine hN' _ _ _ ⟨⟨_,rfl⟩,rfl, ?_⟩
    rw [List.filter_append,List.filter_cons_of_neg (by simp [hz])];simp
   ·rw [if_pos (by simp [hz])]
    refine gN fd (fx _) (dc hnd ht) ?_
    refine ⟨by rw [sizeLine_eq];first | decide | omega,by rw [List.length_map,sizeLine_eq];omega,hN' _ _ _ ⟨⟨_,rfl⟩,rfl, ?_⟩⟩
    rw [List.filter_append,List.filter_cons_of_pos (by simp [hz])];simp
  ·rintro ρ M3 acc ⟨⟨o0,rfl⟩,rfl,rfl⟩ p2 hp2
   have hfl:(L.filter fun t => !(t.2 == 0)).length <= L.length:=List.length_filter_le _ _
   have hnf:((L.filter fun t => !(t.2 == 0)).map (·.1)).Nodup:=hnd.sublist (List.Sublist.map _ List.filter_sublist)
   refine ⟨p2,(L.filter fun t => !(t.2 == 0)).map kcD,rfl,by rw [ae,List.map_map];rfl,fun kv hkv => ?_,by rw [List.length_map,sizeLine_eq];omega,fun pf hpf => ?_⟩
   ·obtain ⟨t,_,rfl⟩:=List.mem_map.mp hkv
    exact fx _
   ·rw [sN hnf]
    have g3:=g2.trans (Ge.new (o := .lst ((L.filter fun t => !(t.2 == 0)).map fun t=>D.tup [k3D t.1, .int t.2])) hp2)
    refine q (L.filter fun t => !(t.2 == 0)) pf _ ⟨hnf,fun t ht => ?_,fun k=>by rw [yZ];exact hcf k⟩ (by omega) (g3.trans (Ge.new hpf)) ?_ ae
    ·have:=(List.mem_filter.mp ht).2
     simpa using this
    ·cases hz:M pf with
     | none=>rfl
     | some o=>rw [g3 _ _ hz] at hpf;cases hpf
end
section
variable {T:List FD}
noncomputable def eS (y:Str) (s:Stmt) (f:Nat):FD:=⟨"_law_same",s,["_law_found",y],2,
 (.cons (.ite (.tru (.isin2 (.var 1) "list" "tuple")) (.cons (.ite (.or (.cons (.cmp .ne (.isin (.var 1) "list") (.isin (.var 0) "list")) (.cons (.cmp .ne (.isin (.var 1) "tuple") (.isin (.var 0) "tuple")) .nil))) (.cons (.ret (.bl false))
 .nil) .nil)
 (.cons (.ret (.and (.cons (.cmp .eq (.blt .len (.cons (.var 0) .nil)) (.blt .len (.cons (.var 1) .nil))) (.cons (.blt .all (.cons (.comp [none,(some 0),(some 1)] ["_law_k", "_law_found",y] (.last (.rng1 (.blt .len (.cons (.var 1) .nil))) (.name 0) .nil (.call f (.cons (.ix (.var 1) (.var 0)) (.cons (.ix (.var 2) (.var 0)) .nil))))) .nil)) .nil))))
 .nil)) .nil)
 (.cons (.ret (.and (.cons (.isin (.var 0) "int") (.cons (.not (.isin (.var 0) "bool")) (.cons (.cmp .eq (.var 0) (.var 1)) .nil)))))
 .nil))⟩
theorem tO {M:Mem} {x d:D} {ds:List D} {i:Int} {Q:QD} (h:av M x = some ds) (e:atI ds i = some d) (q:Q d M):wIx x (.int i) M Q:=by
 cases x with
 | ref a =>
   simp only [av] at h
   split at h
   ·next e0=>cases h;exact bq e0 e q
   ·cases h
 | tup es=>cases h;exact ⟨i,d,rfl,e,q⟩
 | con es=>cases h;exact ⟨i,d,rfl,e,q⟩
 | _=>cases h
noncomputable def Sm (M:Mem):Nat -> D -> D -> Prop
 | _, .int i, .int j=>i = j
 | n + 1, .tup ds, .tup es=>ds.length <= 100000 /\ ds.length = es.length /\ ∀ (k:Nat) d e,ds[k]? = some d -> es[k]? = some e -> Sm M n d e
 | n + 1, .ref a, .ref b => ∃ ds es,M a = some (.lst ds) /\ M b = some (.lst es) /\ ds.length <= 100000 /\ ds.length = es.length /\ ∀ (k:Nat) d e,ds[k]? = some d -> es[k]? = some e -> Sm M n d e
 | _,_,_=>False
theorem Sm.ge {M M':Mem} (g:Ge M M'):∀ {n:Nat} {x y:D},Sm M n x y -> Sm M' n x y:=by
 intro n
 induction n with
 | zero=>intro x y h;cases x <;> cases y <;> first | exact h.elim | exact h
 | succ n ih =>
   intro x y h
   cases x <;> cases y <;> first
    | exact h.elim
    | (obtain ⟨ds,es,e1,e2,z,l,q⟩:=h;exact ⟨ds,es,g _ _ e1,g _ _ e2,z,l,fun k d e h1 h2=>ih (q k d e h1 h2)⟩)
    | (obtain ⟨z,l,q⟩:=h;exact ⟨z,l,fun k d e h1 h2=>ih (q k d e h1 h2)⟩)
    | exact h
theorem Sm.int {M:Mem} {n:Nat} {i:Int}:Sm M n (.int i) (.int i):=by unfold Sm;cases n <;> rfl
section
variable {f:Nat} {y:Str} {s:Stmt}
theorem kH (hf:T[f]? = some (eS y s f)) {n:Nat} (hn : 1 <= n) {x:Int} {M:Mem} {Q:QD} (q:Q (.bl true) M):phi T n f [.int x, .int x] M Q:=by
 refine aF (by omega) hf rfl (ρ := [some _,some _]) rfl ?_
 unfold eS
 walk_at "st"
 refine ⟨"int",rfl,false,rfl, ?_⟩
 rw [if_neg (by decide)]
 walk_at "st"
 refine ⟨"int",rfl, ?_⟩
 rw [if_pos (by decide)]
 refine ⟨"int",rfl, ?_⟩
 rw [if_pos (by decide),beq_self_eq_true]
 exact q
theorem iL {n m:Nat} (ih:∀ {x y:D} {M:Mem} {Q:QD},Sm M n x y -> (∀ M',Ge M M' -> Q (.bl true) M') -> phi T m f [x,y] M Q) {u v:D} {ds es:List D} {M:Mem} {N:NC} (hu:av M u = some ds) (hv:av M v = some es) (z:ds.length <= 100000) (l:ds.length = es.length)
 (h:∀ (k:Nat) d e,ds[k]? = some d -> es[k]? = some e -> Sm M n d e) (q:∀ ρ M',Ge M M' -> N ρ M' (es.map fun _ => .bl true)) :
 bo (bv 0) (ck (wAr (phi T m f) (aK (wOp wIx (br 1) (br 0)) (aK (wOp wIx (br 2) (br 0)) bO)))) (fun _=>True) N (bw 0 (es.length:Int).toNat) [none,some u,some v] M []:=by
 refine aV (f:=fun i=>D.int (i:Nat)) (I:=fun l ρ M' acc=>(∃ o0, ρ = [o0,some u,some v]) /\ Ge M M' /\ acc = l.map fun _ => .bl true) bH ⟨⟨_,rfl⟩,Ge.refl,rfl⟩ (fun _ _ _ _ _=>trivial) ?_ ?_
 ·rintro l' i r ρ M1 acc e ⟨⟨o0,rfl⟩,g,rfl⟩
  refine ⟨_,rfl,fun N' hN' => ?_⟩
  have hlt:=ar e
  rw [List.length_range] at hlt
  have hi:i < es.length:=by
   have:i ∈ List.range (es.length:Int).toNat:=by rw [e];simp
   have:=List.mem_range.mp this
   omega
  walk_at "wp"
  have h1:ds[i]? = some ds[i]:=List.getElem?_eq_getElem (by omega)
  have h2:es[i]? = some es[i]:=List.getElem?_eq_getElem hi
  refine tO (lQ hu g) (dy h1) (tO (lQ hv g) (dy h2) (ih ((h i _ _ h1 h2).ge g) fun M2 g2 => ?_))
  refine ⟨by rw [List.length_map,sizeLine_eq];omega,hN' _ _ _ ⟨⟨_,rfl⟩,g.trans g2,by simp⟩⟩
 ·rintro ρ M1 acc ⟨⟨o0,rfl⟩,g,rfl⟩
  have e:(List.range (es.length:Int).toNat).map (fun _=>D.bl true) = es.map fun _ => .bl true:=by
   rw [List.map_const',List.map_const'];simp
  rw [e]
  exact q _ M1 g
theorem kI:∀ es:List D,aG jN (es.map fun _ => .bl true) = some (es.map fun _=>true)
 | [] => rfl
 | e :: es=>by rw [List.map_cons,List.map_cons];simp only [aG,jN,kI es];rfl
theorem kJ {es:List D} {p:Addr} {M:Mem} {Q:QD} (q:Q (.bl true) (ak M p (.lst (es.map fun _ => .bl true)))):nB [.ref p] (ak M p (.lst (es.map fun _ => .bl true))) Q:=by
 refine ⟨_,_,es.map (fun _=>true),rfl,ah ae,kI es, ?_⟩
 rw [show ((es.map fun _=>true).all id) = true by simp]
 exact q
theorem vC (hf:T[f]? = some (eS y s f)):∀ {n m:Nat},n + 1 <= m -> ∀ {u v:D} {M:Mem} {Q:QD},Sm M n u v -> (∀ M',Ge M M' -> Q (.bl true) M') -> phi T m f [u,v] M Q:=by
 intro n
 induction n with
 | zero =>
   intro m hm u v M Q h q
   cases u <;> cases v <;> first
    | exact h.elim
    | (have e:=h;unfold Sm at e;subst e;exact kH hf (by omega) (q _ Ge.refl))
 | succ n ih =>
   intro m hm u v M Q h q
   cases u <;> cases v <;> first
    | exact h.elim
    | (have e:=h;unfold Sm at e;subst e;exact kH hf (by omega) (q _ Ge.refl))
    | skip
   case tup.tup ds es =>
    obtain ⟨z,l,h⟩:=h
    refine aF (by omega) hf rfl (ρ := [some _,some _]) rfl ?_
    unfold eS
    walk_at "st"
    refine ⟨"tuple",rfl,true,rfl, ?_⟩
    rw [if_pos rfl]
    walk_at "st"
    refine ⟨"tuple",rfl, "tuple",rfl,_,_,rfl,rfl,false,rfl, ?_⟩
    rw [if_neg (by decide)]
    refine ⟨"tuple",rfl, "tuple",rfl,_,_,rfl,rfl,false,rfl, ?_⟩
    rw [if_neg (by decide)]
    walk_at "st"
    rw [if_pos (by simp [l])]
    refine ⟨by omega,by omega, ?_⟩
    exact iL (ih (m:=m - 1) (by omega)) rfl rfl z l h fun ρ M' g p hp=>kJ (q _ (g.trans (Ge.new hp)))
   case ref.ref a b =>
    obtain ⟨ds,es,e1,e2,z,l,h⟩:=h
    refine aF (by omega) hf rfl (ρ := [some _,some _]) rfl ?_
    unfold eS
    have t1:tyN M (.ref a) = some "list" := by simp [tyN,e1]
    have t2:tyN M (.ref b) = some "list" := by simp [tyN,e2]
    walk_at "st"
    refine ⟨"list",t2,true,rfl, ?_⟩
    rw [if_pos rfl]
    walk_at "st"
    refine ⟨"list",t2, "list",t1,_,_,rfl,rfl,false,rfl, ?_⟩
    rw [if_neg (by decide)]
    refine ⟨"list",t2, "list",t1,_,_,rfl,rfl,false,rfl, ?_⟩
    rw [if_neg (by decide)]
    walk_at "st"
    refine fu (ah e1) (fu (ah e2) ?_)
    walk_at "wp"
    rw [if_pos (by simp [l])]
    refine fu (ah e2) ?_
    refine ⟨_,rfl,by omega,by omega, ?_⟩
    exact iL (ih (m:=m - 1) (by omega)) (ah e1) (ah e2) z l h fun ρ M' g p hp=>kJ (q _ (g.trans (Ge.new hp)))
end
end
section
open PySem PySem.Spec PyProof.Rows L2.Srt
noncomputable def S1 (zs:List (Int × Int)) (k:Int):Int:=(zs.map fun z=>if z.1 = k then z.2 else 0).sum
theorem cQ {z:Int × Int} {zs:List (Int × Int)} {k:Int}:S1 (z :: zs) k = (if z.1 = k then z.2 else 0) + S1 zs k:=by simp [S1]
theorem lZ {α:Type} {F : α -> List Tm} {k:K3}:∀ l:List α,cf (l.flatMap F) k = (l.map fun x=>cf (F x) k).sum
 | [] => rfl
 | x :: l=>by rw [List.flatMap_cons,cy,lZ l];simp
theorem m8 {i a j b k i' j':Int}:∀ {zs:List (Int × Int)},cf (bI i a j b zs) (k,i',j') = if i = i' /\ j = j' then a * b * S1 zs k else 0
 | [] => by simp [bI,dF,S1]
 | z :: zs=>by
   rw [show bI i a j b (z :: zs) = ((z.1,i,j),a * b * z.2) :: bI i a j b zs from rfl,bB,m8,cQ]
   by_cases h:i = i' /\ j = j'
   ·obtain ⟨rfl,rfl⟩:=h
    by_cases hk:z.1 = k
    ·subst hk;simp [Int.mul_add]
    ·have : ¬ ((z.1,i,j) = (k,i,j)):=fun e=>hk (congrArg (·.1) e)
     rw [if_neg this,if_pos ⟨rfl,rfl⟩,if_pos ⟨rfl,rfl⟩,if_neg hk];simp
   ·have : ¬ ((z.1,i,j) = (k,i',j')):=fun e=>h ⟨congrArg (·.2.1) e,congrArg (·.2.2) e⟩
    rw [if_neg this,if_neg h,if_neg h];rfl
theorem m9 {i a k i' j':Int} {zs:List (Int × Int)}:∀ {ys:List (Int × Int)},cf (bW i a ys zs) (k,i',j') = if i = i' then a * S1 ys j' * S1 zs k else 0
 | [] => by simp [bW,dF,S1]
 | y :: ys=>by
   rw [show bW i a (y :: ys) zs = bI i a y.1 y.2 zs ++ bW i a ys zs from by simp [bW],cy,m9,m8,cQ]
   by_cases h:i = i'
   ·subst h
    by_cases hj:y.1 = j'
    ·subst hj;simp [Int.mul_add,Int.add_mul]
    ·rw [if_neg (fun e=>hj e.2),if_pos rfl,if_pos rfl,if_neg hj];simp
   ·rw [if_neg (fun e=>h e.1),if_neg h,if_neg h];rfl
theorem md {k i' j':Int} {ys zs:List (Int × Int)}:∀ {xs:List (Int × Int)},cf (cn xs ys zs) (k,i',j') = S1 xs i' * S1 ys j' * S1 zs k
 | [] => by simp [cn,dF,S1]
 | x :: xs=>by
   rw [show cn (x :: xs) ys zs = bW x.1 x.2 ys zs ++ cn xs ys zs from by simp [cn],cy,md,m9,cQ]
   by_cases h:x.1 = i'
   ·subst h;simp [Int.add_mul]
   ·rw [if_neg h,if_neg h];simp
noncomputable def gz (l:List Int) (i:Int):Int:=if i < 0 then 0 else l.getD i.toNat 0
theorem gP {l:List Int} {i:Int} (h:i < 0):gz l i = 0:=if_pos h
theorem eT {i:Int}:gz [] i = 0:=by unfold gz;split <;> simp
theorem cR {x:Int} {l:List Int} {i:Int}:gz (x :: l) i = if i = 0 then x else gz l (i - 1):=by
 unfold gz
 by_cases h:i < 0
 ·rw [if_pos h,if_neg (by omega),if_pos (by omega)]
 ·rw [if_neg h]
  by_cases h0:i = 0
  ·subst h0;simp
  ·rw [if_neg h0,if_neg (by omega)]
   obtain ⟨n,rfl⟩:∃ n:Nat,i = ((n + 1:Nat):Int):=⟨(i - 1).toNat,by omega⟩
   rw [show (((n + 1:Nat):Int) - 1).toNat = n by omega,Int.toNat_natCast]
   simp
theorem iM {a b:List Int}:∀ {i:Int},gz (a ++ b) i = if i < a.length then gz a i else gz b (i - a.length):=by
 induction a with
 | nil =>
   intro i
   by_cases h:i < 0
   ·rw [if_pos (by simpa using h),List.nil_append,gP h,gP h]
   ·rw [if_neg (by simpa using h)];simp
 | cons x a ih =>
   intro i
   rw [List.cons_append,cR,cR,ih,List.length_cons]
   by_cases h0:i = 0
   ·subst h0;rw [if_pos rfl,if_pos rfl,if_pos (by omega)]
   ·rw [if_neg h0,if_neg h0]
    by_cases h:i < ((a.length + 1:Nat):Int)
    ·rw [if_pos (by omega),if_pos h]
    ·rw [if_neg (by omega),if_neg h]
     congr 1;omega
theorem qi {x:Int}:∀ {b:List Int} {i:Int},gz (b.map (x * ·)) i = x * gz b i
 | [],i=>by rw [List.map_nil,eT];simp
 | y :: b,i=>by rw [List.map_cons,cR,cR,qi];split <;> rfl
theorem eU {l:List Int} {i:Int} (h:gz l i ≠ 0) : 0 <= i /\ i < l.length:=by
 unfold gz at h
 by_cases hi:i < 0
 ·rw [if_pos hi] at h;exact absurd rfl h
 ·rw [if_neg hi] at h
  refine ⟨by omega, ?_⟩
  by_cases hl:i.toNat < l.length
  ·omega
  ·rw [List.getD_eq_getElem?_getD,List.getElem?_eq_none (by omega)] at h;exact absurd rfl h
theorem qj {a b:List (Int × Int)} {k:Int}:S1 (a ++ b) k = S1 a k + S1 b k:=by simp [S1]
theorem gQ {k:Int}:∀ zs:List (Int × Int),S1 (zs.filter fun q => !(q.2 == 0)) k = S1 zs k
 | [] => rfl
 | z :: zs=>by
   rw [cQ]
   by_cases h:z.2 = 0
   ·rw [List.filter_cons_of_neg (by simp [h]),gQ zs,h];simp
   ·rw [List.filter_cons_of_pos (by simp [h]),cQ,gQ zs]
theorem kK (l:List Int) (k:Int):S1 (idx l) k = gz l k:=e7 (P:=fun l=>S1 (idx l) k = gz l k) (by rw [eT];rfl) (fun l x ih=>by
 have e:idx (l ++ [x]) = idx l ++ [(((l.length:Nat):Int),x)]:=by simp [idx,List.mapIdx_append]
 rw [e,qj,ih,iM,cQ]
 simp only [S1,List.map_nil,List.sum_nil]
 by_cases h:k < l.length
 ·rw [if_pos h,if_neg (by omega)];omega
 ·rw [if_neg h,cR,eT]
  have z:gz l k = 0:=by
   cases Decidable.em (gz l k = 0) with
   | inl h=>exact h
   | inr h'=>exact absurd (eU h').2 h
  rw [z]
  by_cases e:(l.length:Int) = k
  ·rw [if_pos e,if_pos (by omega)];omega
  ·rw [if_neg e,if_neg (by omega)];rfl) l
theorem vD {p:Pr} {k i j:Int}:cf (du p) (k,i,j) = gz p.1 i * gz p.2.1 j * gz p.2.2 k:=by
 unfold du
 rw [md]
 unfold nz
 rw [gQ,gQ,gQ,kK,kK,kK]
noncomputable def kr (a b:List Int):List Int:=a.flatMap fun x=>b.map (x * ·)
theorem mf {x:Int} {a b:List Int}:kr (x :: a) b = b.map (x * ·) ++ kr a b:=by simp [kr]
theorem bS {b:List Int}:∀ {a:List Int},(kr a b).length = a.length * b.length
 | [] => by simp [kr]
 | x :: a=>by rw [mf,List.length_append,bS,List.length_map,List.length_cons,Nat.succ_mul];omega
theorem gR {b:List Int} {B:Nat} (hb:b.length = B) (hB : 1 <= B):∀ {a:List Int} {i:Int},gz (kr a b) i = gz a (i / B) * gz b (i % B)
 | [],i=>by rw [show kr [] b = [] from rfl,eT,eT];simp
 | x :: a,i=>by
   rw [mf,iM,qi,gR hb hB,List.length_map,hb,cR]
   by_cases h:i < B
   ·rw [if_pos h]
    by_cases h0:i < 0
    ·have:i / B < 0:=Int.ediv_neg_of_neg_of_pos h0 (by omega)
     rw [gP h0,if_neg (by omega),gP (by omega)];simp
    ·rw [Int.ediv_eq_zero_of_lt (by omega) h,if_pos rfl,Int.emod_eq_of_lt (by omega) h]
   ·rw [if_neg h]
    have e1:(i - B) / B = i / B - 1:=by rw [Int.sub_ediv_of_dvd _ (Int.dvd_refl _),Int.ediv_self (by omega)]
    have e2:(i - B) % B = i % B:=by rw [Int.sub_emod,Int.emod_self];simp
    have e3:i / B ≠ 0:=by
     have : 1 <= i / B:=by rw [Int.le_ediv_iff_mul_le (by omega)];omega
     omega
    rw [e1,e2,if_neg e3]
noncomputable def krP (p u:Pr):Pr:=(kr p.1 u.1,kr p.2.1 u.2.1,kr p.2.2 u.2.2)
noncomputable def aJ (ps us:List Pr):List Pr:=ps.flatMap fun p=>us.map (krP p)
noncomputable def Tn (ps:List Pr) (k i j:Int):Int:=(ps.map fun p=>gz p.1 i * gz p.2.1 j * gz p.2.2 k).sum
theorem mj {ps:List Pr} {k i j:Int}:cf (aQ ps) (k,i,j) = Tn ps k i j:=by
 unfold aQ Tn
 rw [lZ]
 congr 1
 exact List.map_congr_left fun p _=>vD
theorem qk {a b:List Pr} {k i j:Int}:Tn (a ++ b) k i j = Tn a k i j + Tn b k i j:=by simp [Tn]
theorem dG {p:Pr} {a:List Pr} {k i j:Int}:Tn (p :: a) k i j = gz p.1 i * gz p.2.1 j * gz p.2.2 k + Tn a k i j:=by simp [Tn]
theorem ql {L0 L1 L2:Nat} (h0 : 1 <= L0) (h1 : 1 <= L1) (h2 : 1 <= L2) {p:Pr} {k i j:Int}:∀ {us:List Pr},(∀ u ∈ us,u.1.length = L0 /\ u.2.1.length = L1 /\ u.2.2.length = L2) ->
 Tn (us.map (krP p)) k i j = gz p.1 (i / L0) * gz p.2.1 (j / L1) * gz p.2.2 (k / L2) * Tn us (k % L2) (i % L0) (j % L1)
 | [],_=>by simp [Tn]
 | u :: us,h=>by
   obtain ⟨e0,e1,e2⟩:=h u (by simp)
   rw [List.map_cons,dG,dG,ql h0 h1 h2 fun v hv=>h v (by simp [hv]),Int.mul_add]
   congr 1
   unfold krP
   dsimp only
   rw [gR e0 h0,gR e1 h1,gR e2 h2]
   generalize gz p.1 (i / L0) = a
   generalize gz p.2.1 (j / L1) = b
   generalize gz p.2.2 (k / L2) = c
   generalize gz u.1 (i % L0) = d
   generalize gz u.2.1 (j % L1) = e
   generalize gz u.2.2 (k % L2) = f
   simp only [Int.mul_assoc,Int.mul_comm,Int.mul_left_comm]
theorem og {L0 L1 L2:Nat} (h0 : 1 <= L0) (h1 : 1 <= L1) (h2 : 1 <= L2) {us:List Pr} (h:∀ u ∈ us,u.1.length = L0 /\ u.2.1.length = L1 /\ u.2.2.length = L2) {k i j:Int}:∀ {ps:List Pr},
 Tn (aJ ps us) k i j = Tn ps (k / L2) (i / L0) (j / L1) * Tn us (k % L2) (i % L0) (j % L1)
 | [] => by simp [aJ,Tn]
 | p :: ps=>by
   rw [show aJ (p :: ps) us = us.map (krP p) ++ aJ ps us by simp [aJ],qk,og h0 h1 h2 h,ql h0 h1 h2 h,dG,Int.add_mul]
theorem qm {L0 L1 L2:Nat} {k i j:Int}:∀ {us:List Pr},(∀ u ∈ us,u.1.length = L0 /\ u.2.1.length = L1 /\ u.2.2.length = L2) -> Tn us k i j ≠ 0 -> (0 <= k /\ k < L2) /\ (0 <= i /\ i < L0) /\ (0 <= j /\ j < L1)
 | [],_,h=>absurd (by simp [Tn]) h
 | u :: us,hl,h=>by
   obtain ⟨e0,e1,e2⟩:=hl u (by simp)
   rw [dG] at h
   by_cases z:gz u.1 i * gz u.2.1 j * gz u.2.2 k = 0
   ·rw [z,Int.zero_add] at h
    exact qm (fun v hv=>hl v (by simp [hv])) h
   ·have a1:gz u.1 i ≠ 0:=fun e=>z (by rw [e];simp)
    have a2:gz u.2.1 j ≠ 0:=fun e=>z (by rw [e];simp)
    have a3:gz u.2.2 k ≠ 0:=fun e=>z (by rw [e];simp)
    have:=eU a1
    have:=eU a2
    have:=eU a3
    omega
theorem tP {l:List Tm} (g:(l.map (·.1)).Nodup):l.Nodup:=by
 rw [List.nodup_iff_pairwise_ne] at g ⊢
 rw [List.pairwise_map] at g
 exact g.imp fun {a b} hab e=>hab (by rw [e])
theorem xY {a:List Tm} (hn:(a.map (·.1)).Nodup) {k:K3} (h:cf a k ≠ 0):(k,cf a k) ∈ a:=by
 by_cases e:∃ r ∈ a,r.1 = k
 ·obtain ⟨r,hr,rfl⟩:=e
  rw [kA hn hr];exact hr
 ·exact absurd (lU fun r hr z=>e ⟨r,hr,z⟩) h
theorem sQ {a b:List Tm} (hb:(b.map (·.1)).Nodup) (h:a.Perm b):eqD (a.map kcD) (b.map kcD) = true:=by
 unfold eqD
 rw [Bool.and_eq_true]
 refine ⟨by simp [h.length_eq], ?_⟩
 rw [List.all_eq_true]
 intro kv hkv
 obtain ⟨t,ht,rfl⟩:=List.mem_map.mp hkv
 exact decide_eq_true (dc hb (h.mem_iff.mp ht))
theorem IsSum.val {ps:List Pr} {L:List Tm} (h:IsSum ps L) {t:Tm} (ht:t ∈ L):Tn ps t.1.1 t.1.2.1 t.1.2.2 = t.2:=by
 rw [<- mj, <- h.cf,kA h.nd ht]
theorem IsSum.mem {ps:List Pr} {L:List Tm} (h:IsSum ps L) {k i j:Int} (hz:Tn ps k i j ≠ 0):((k,i,j),Tn ps k i j) ∈ L:=by
 have e:Mi.cf L (k,i,j) = Tn ps k i j:=by rw [h.cf,mj]
 rw [<- e] at hz ⊢
 exact xY h.nd hz
end
section
namespace K16
noncomputable def af (i:Nat):Stmt:=PySem.Challenge.pw_fewtimes_k16_schemes_within.main.body.getD i (.Pass ⟨0,0,0,0⟩)
noncomputable def b0:MSs :=
 (.cons (.ret (.blt .tuple (.cons (.comp [none,none] ["block", "part"] (.last (.zip (.var 0) (.var 1)) (.tup (.cons (.name 0) (.cons (.name 1) .nil))) .nil (.blt .tuple (.cons (.comp [none,none,(some 1)] ["x", "y", "part"] (.more (.seq (.var 0)) (.name 0) .nil (.last (.seq (.var 2)) (.name 1) .nil (.bin .mul (.var 0) (.var 1))))) .nil)))) .nil)))
 .nil)
noncomputable def d0:FD:=⟨"product_within",af 1,["outer", "inner"],2,b0⟩
noncomputable def b1:MSs :=
 (.cons (.asg (.name 2) (.comp [none,none,(some 1)] ["block", "product", "inner"] (.more (.seq (.ix (.var 0) (.int 3))) (.name 0) .nil (.last (.seq (.ix (.var 2) (.int 3))) (.name 1) .nil (.call 0 (.cons (.var 0) (.cons (.var 1) .nil)))))))
 (.cons (.ret (.tup (.cons (.bin .mul (.ix (.var 0) (.int 0)) (.ix (.var 1) (.int 0))) (.cons (.bin .mul (.ix (.var 0) (.int 1)) (.ix (.var 1) (.int 1))) (.cons (.bin .mul (.ix (.var 0) (.int 2)) (.ix (.var 1) (.int 2))) (.cons (.var 2) .nil))))))
 .nil))
noncomputable def d1:FD:=⟨"within",af 2,["outer", "inner", "products"],2,b1⟩
noncomputable def b2:MSs :=
 (.cons (.ite (.cmp .lt (.var 1) (.blt .len (.cons (.var 0) .nil))) (.cons (.ret (.ix (.var 0) (.var 1)))
 .nil) .nil)
 (.cons (.ret (.int 0))
 .nil))
noncomputable def d2:FD:=⟨"_law_cell_at",af 4,["_law_script", "_law_k"],2,b2⟩
noncomputable def b3:MSs :=
 (.cons (.asg (.name 2) (.bin .mod (.bin .mul (.bin .add (.bin .add (.bin .mod (.var 0) (.int 1000000007)) (.bin .mul (.int 7) (.var 1))) (.int 1)) (.int 48271)) (.int 2147483647)))
 (.cons (.asg (.name 3) (.bin .mod (.bin .mul (.var 2) (.bin .add (.bin .add (.bin .mod (.var 2) (.int 1009)) (.var 1)) (.int 3))) (.int 998244353)))
 (.cons (.ret (.bin .fdiv (.bin .mod (.bin .add (.bin .mul (.var 3) (.int 39373)) (.var 2)) (.int 2147483629)) (.int 64)))
 .nil)))
noncomputable def d3:FD:=⟨"_law_mixed",af 5,["_law_number_here", "_law_k", "_law_once", "_law_twice"],2,b3⟩
noncomputable def b4:MSs :=
 (.cons (.asg (.name 2) (.call 2 (.cons (.var 0) (.cons (.var 1) .nil))))
 (.cons (.ret (.lst (.cons (.bin .mul (.blt .abs (.cons (.var 2) .nil)) (.blt .int (.cons (.cmp .ge (.blt .abs (.cons (.var 2) .nil)) (.bin .pow (.int 10) (.int 18))) .nil))) (.cons (.call 3 (.cons (.var 2) (.cons (.bin .add (.int 900) (.var 1)) .nil))) (.cons (.int 0) .nil)))))
 .nil))
noncomputable def d4:FD:=⟨"_law_box",af 6,["_law_script", "_law_k", "_law_cell"],2,b4⟩
noncomputable def b5:MSs :=
 (.cons (.ite (.cmp .gt (.ix (.var 0) (.int 0)) (.int 0)) (.cons (.asg (.name 2) (.bin .mod (.ix (.var 0) (.int 0)) (.var 1)))
 (.cons (.put (.var 0) (.int 0) (.bin .fdiv (.ix (.var 0) (.int 0)) (.var 1)))
 (.cons (.ret (.var 2))
 .nil))) .nil)
 (.cons (.asg (.tup (.cons (.name 2) (.cons (.name 3) .nil))) (.tup (.cons (.int 0) (.cons (.int 1) .nil))))
 (.cons (.while (.cmp .lt (.var 3) (.var 1)) (.cons (.put (.var 0) (.int 2) (.bin .add (.ix (.var 0) (.int 2)) (.int 1)))
 (.cons (.asg (.name 2) (.bin .add (.bin .mul (.var 2) (.int 33554432)) (.call 3 (.cons (.ix (.var 0) (.int 1)) (.cons (.ix (.var 0) (.int 2)) .nil)))))
 (.cons (.asg (.name 3) (.bin .mul (.var 3) (.int 33554432)))
 .nil))))
 (.cons (.ret (.bin .mod (.var 2) (.var 1)))
 .nil))))
noncomputable def d5:FD:=⟨"_law_take",af 7,["_law_box_here", "_law_many", "_law_found", "_law_reach"],2,b5⟩
noncomputable def b6:MSs :=
 (.cons (.asg (.name 1) (.call 5 (.cons (.var 0) (.cons (.int 9) .nil))))
 (.cons (.ite (.cmp .eq (.var 1) (.int 0)) (.cons (.ret (.bin .sub (.call 5 (.cons (.var 0) (.cons (.int 2001) .nil))) (.int 1000)))
 .nil) .nil)
 (.cons (.ret (.ix (.lst (.cons (.int 0) (.cons (.int 0) (.cons (.int 0) (.cons (.int 1) (.cons (.int 1) (.cons (.int 1) (.cons (.neg (.int 1)) (.cons (.neg (.int 1)) (.cons (.int 2) .nil)))))))))) (.var 1)))
 .nil)))
noncomputable def d6:FD:=⟨"_law_number",af 8,["_law_box_here", "_law_way"],1,b6⟩
noncomputable def b7:MSs :=
 (.cons (.ret (.blt .tuple (.cons (.comp [none,(some 0)] ["_law_k", "_law_box_here"] (.last (.rng1 (.var 1)) (.name 0) .nil (.call 6 (.cons (.var 1) .nil)))) .nil)))
 .nil)
noncomputable def d7:FD:=⟨"_law_part",af 9,["_law_box_here", "_law_length"],2,b7⟩
noncomputable def b8:MSs :=
 (.cons (.asg (.name 3) (.lst .nil))
 (.cons (.for (.name 4) (.rng1 (.var 2)) (.cons (.asg (.name 5) (.comp [none,(some 0)] ["_law_length", "_law_box_here"] (.last (.seq (.var 1)) (.name 0) .nil (.call 7 (.cons (.var 1) (.cons (.var 0) .nil))))))
 (.cons (.asg (.name 6) (.call 5 (.cons (.var 0) (.cons (.int 8) .nil))))
 (.cons (.ite (.and (.cons (.cmp .lt (.var 6) (.int 3)) (.cons (.cmp .ne (.var 3) (.lst .nil)) .nil))) (.cons (.put (.var 5) (.var 6) (.ix (.ix (.var 3) (.call 5 (.cons (.var 0) (.cons (.blt .len (.cons (.var 3) .nil)) .nil)))) (.var 6)))
 .nil) .nil)
 (.cons (.ite (.cmp .eq (.var 6) (.int 3)) (.cons (.asg (.name 7) (.call 5 (.cons (.var 0) (.cons (.int 3) .nil))))
 (.cons (.put (.var 5) (.var 7) (.bin .mul (.tup (.cons (.int 0) .nil)) (.ix (.var 1) (.var 7))))
 .nil)) .nil)
 (.cons (.drop (.meth .append (.var 3) (.blt .tuple (.cons (.var 5) .nil))))
 .nil))))))
 (.cons (.ret (.bin .add (.blt .tuple (.cons (.var 1) .nil)) (.tup (.cons (.var 3) .nil))))
 .nil)))
noncomputable def d8:FD:=⟨"_law_scheme",af 10,["_law_box_here", "_law_lengths", "_law_count", "_law_products", "_law_k", "_law_product", "_law_way", "_law_side"],3,b8⟩
noncomputable def b9:MSs :=
 (.cons (.ite (.tru (.isin2 (.var 1) "list" "tuple")) (.cons (.ite (.or (.cons (.cmp .ne (.isin (.var 1) "list") (.isin (.var 0) "list")) (.cons (.cmp .ne (.isin (.var 1) "tuple") (.isin (.var 0) "tuple")) .nil))) (.cons (.ret (.bl false))
 .nil) .nil)
 (.cons (.ret (.and (.cons (.cmp .eq (.blt .len (.cons (.var 0) .nil)) (.blt .len (.cons (.var 1) .nil))) (.cons (.blt .all (.cons (.comp [none,(some 0),(some 1)] ["_law_k", "_law_found", "_law_due_here"] (.last (.rng1 (.blt .len (.cons (.var 1) .nil))) (.name 0) .nil (.call 9 (.cons (.ix (.var 1) (.var 0)) (.cons (.ix (.var 2) (.var 0)) .nil))))) .nil)) .nil))))
 .nil)) .nil)
 (.cons (.ret (.and (.cons (.isin (.var 0) "int") (.cons (.not (.isin (.var 0) "bool")) (.cons (.cmp .eq (.var 0) (.var 1)) .nil)))))
 .nil))
noncomputable def d9:FD:=⟨"_law_same",af 11,["_law_found", "_law_due_here"],2,b9⟩
noncomputable def b10:MSs :=
 (.cons (.ret (.comp [none,none] ["_law_place", "_law_number_here"] (.last (.enum (.var 0)) (.tup (.cons (.name 0) (.cons (.name 1) .nil))) (.cons (.cmp .ne (.var 1) (.int 0)) .nil) (.tup (.cons (.var 0) (.cons (.var 1) .nil))))))
 .nil)
noncomputable def d10:FD:=⟨"_law_nonzero",af 12,["_law_part_here"],1,b10⟩
noncomputable def b11:MSs :=
 (.cons (.asg (.name 1) (.dnew true))
 (.cons (.for (.tup (.cons (.name 2) (.cons (.name 3) (.cons (.name 4) .nil)))) (.seq (.ix (.var 0) (.int 3))) (.cons (.asg (.name 5) (.call 10 (.cons (.var 3) .nil)))
 (.cons (.asg (.name 6) (.call 10 (.cons (.var 4) .nil)))
 (.cons (.for (.tup (.cons (.name 7) (.cons (.name 8) .nil))) (.seq (.call 10 (.cons (.var 2) .nil))) (.cons (.for (.tup (.cons (.name 9) (.cons (.name 10) .nil))) (.seq (.var 5)) (.cons (.for (.tup (.cons (.name 11) (.cons (.name 12) .nil))) (.seq (.var 6)) (.cons (.put (.var 1) (.tup (.cons (.var 11) (.cons (.var 7) (.cons (.var 9) .nil)))) (.bin .add (.dget (.var 1) (.tup (.cons (.var 11) (.cons (.var 7) (.cons (.var 9) .nil)))) (.int 0)) (.bin .mul (.bin .mul (.var 8) (.var 10)) (.var 12))))
 .nil))
 .nil))
 .nil))
 .nil))))
 (.cons (.frz 1 (.ret (.blt .dict (.cons (.comp [none,(some 1)] ["_law_place", "_law_found"] (.last (.keys (.var 1)) (.name 0) (.cons (.cmp .ne (.ix (.var 1) (.var 0)) (.int 0)) .nil) (.tup (.cons (.var 0) (.cons (.ix (.var 1) (.var 0)) .nil))))) .nil))))
 .nil)))
noncomputable def d11:FD:=⟨"_law_sums",af 13,["_law_scheme_here", "_law_found", "_law_l", "_law_r", "_law_o", "_law_rights", "_law_outs", "_law_i", "_law_a", "_law_j", "_law_b", "_law_k", "_law_c"],1,b11⟩
noncomputable def b12:MSs :=
 (.cons (.asg (.name 1) (.blt .int (.cons (.cmp .eq (.call 5 (.cons (.var 0) (.cons (.int 8) .nil))) (.int 0)) .nil)))
 (.cons (.asg (.name 2) (.comp [none,(some 0),(some 1)] ["_law_side", "_law_box_here", "_law_way"] (.last (.rng1 (.int 3)) (.name 0) .nil (.bin .add (.int 1) (.call 5 (.cons (.var 1) (.cons (.ix (.lst (.cons (.int 4) (.cons (.int 9) .nil))) (.var 2)) .nil)))))))
 (.cons (.ret (.call 8 (.cons (.var 0) (.cons (.var 2) (.cons (.call 5 (.cons (.var 0) (.cons (.ix (.lst (.cons (.int 6) (.cons (.int 21) .nil))) (.var 1)) .nil))) .nil)))))
 .nil)))
noncomputable def d12:FD:=⟨"_law_drawn",af 14,["_law_box_here", "_law_way", "_law_lengths"],1,b12⟩
noncomputable def b13:MSs :=
 (.cons (.asg (.name 2) (.lst .nil))
 (.cons (.for (.name 3) (.seq (.ix (.var 0) (.int 3))) (.cons (.for (.name 4) (.seq (.ix (.var 1) (.int 3))) (.cons (.asg (.name 5) (.lst .nil))
 (.cons (.for (.name 6) (.rng1 (.int 3)) (.cons (.asg (.tup (.cons (.name 7) (.cons (.name 8) .nil))) (.tup (.cons (.ix (.var 3) (.var 6)) (.cons (.ix (.var 4) (.var 6)) .nil))))
 (.cons (.drop (.meth .append (.var 5) (.blt .tuple (.cons (.comp [none,(some 7),(some 8)] ["_law_at", "_law_a", "_law_b"] (.last (.rng1 (.bin .mul (.blt .len (.cons (.var 7) .nil)) (.blt .len (.cons (.var 8) .nil)))) (.name 0) .nil (.bin .mul (.ix (.var 1) (.bin .fdiv (.var 0) (.blt .len (.cons (.var 2) .nil)))) (.ix (.var 2) (.bin .mod (.var 0) (.blt .len (.cons (.var 2) .nil))))))) .nil))))
 .nil)))
 (.cons (.drop (.meth .append (.var 2) (.blt .tuple (.cons (.var 5) .nil))))
 .nil))))
 .nil))
 (.cons (.ret (.bin .add (.blt .tuple (.cons (.comp [none,(some 0),(some 1)] ["_law_side", "_law_outer", "_law_inner"] (.last (.rng1 (.int 3)) (.name 0) .nil (.bin .mul (.ix (.var 1) (.var 0)) (.ix (.var 2) (.var 0))))) .nil)) (.tup (.cons (.var 2) .nil))))
 .nil)))
noncomputable def d13:FD:=⟨"_law_due",af 15,["_law_outer", "_law_inner", "_law_found", "_law_one", "_law_other", "_law_parts", "_law_side", "_law_a", "_law_b"],2,b13⟩
noncomputable def b14:MSs :=
 (.cons (.par 3 4 (.call 11 (.cons (.var 1) .nil)) (.call 11 (.cons (.var 2) .nil)))
 (.cons (.asg (.name 5) (.dnew true))
 (.cons (.frz 3 (.for (.tup (.cons (.name 6) (.cons (.name 7) (.cons (.name 8) .nil)))) (.keys (.var 3)) (.cons (.frz 4 (.for (.tup (.cons (.name 9) (.cons (.name 10) (.cons (.name 11) .nil)))) (.keys (.var 4)) (.cons (.asg (.name 12) (.tup (.cons (.bin .add (.bin .mul (.var 6) (.ix (.var 2) (.int 2))) (.var 9)) (.cons (.bin .add (.bin .mul (.var 7) (.ix (.var 2) (.int 0))) (.var 10)) (.cons (.bin .add (.bin .mul (.var 8) (.ix (.var 2) (.int 1))) (.var 11)) .nil)))))
 (.cons (.put (.var 5) (.var 12) (.bin .mul (.ix (.var 3) (.tup (.cons (.var 6) (.cons (.var 7) (.cons (.var 8) .nil))))) (.ix (.var 4) (.tup (.cons (.var 9) (.cons (.var 10) (.cons (.var 11) .nil)))))))
 .nil))))
 .nil)))
 (.cons (.ret (.cmp .eqD (.call 11 (.cons (.var 0) .nil)) (.var 5)))
 .nil))))
noncomputable def d14:FD:=⟨"_law_does_right",af 16,["_law_found", "_law_outer", "_law_inner", "_law_big", "_law_small", "_law_due_here", "_law_k", "_law_i", "_law_j", "_law_z", "_law_x", "_law_y", "_law_place"],3,b14⟩
noncomputable def b15:MSs :=
 (.cons (.for (.name 1) (.rng1 (.bin .add (.int 1) (.blt .min2 (.cons (.int 9) (.cons (.blt .len (.cons (.var 0) .nil)) .nil))))) (.cons (.asg (.name 2) (.call 4 (.cons (.var 0) (.cons (.var 1) .nil))))
 (.cons (.par 3 4 (.call 12 (.cons (.var 2) .nil)) (.call 12 (.cons (.var 2) .nil)))
 (.cons (.asg (.name 5) (.lst (.cons (.blt .list (.cons (.ix (.var 3) (.int 3)) .nil)) (.cons (.blt .list (.cons (.ix (.var 4) (.int 3)) .nil)) .nil))))
 (.cons (.asg (.name 6) (.call 13 (.cons (.var 3) (.cons (.var 4) .nil))))
 (.cons (.for (.name 7) (.rng1 (.int 2)) (.cons (.asg (.name 8) (.call 1 (.cons (.var 3) (.cons (.var 4) .nil))))
 (.cons (.ite (.not (.tru (.call 9 (.cons (.var 8) (.cons (.var 6) .nil))))) (.cons (.ret (.bl false))
 .nil) .nil)
 (.cons (.drop (.meth .append (.ix (.var 8) (.int 3)) (.tup .nil)))
 .nil))))
 (.cons (.ite (.and (.cons (.cmp .lt (.blt .len (.cons (.ix (.var 6) (.int 3)) .nil)) (.int 26)) (.cons (.cmp .lt (.blt .maxT (.cons (.sl (.var 6) .none (.some (.int 3))) .nil)) (.int 17)) (.cons (.not (.tru (.call 14 (.cons (.var 6) (.cons (.var 3) (.cons (.var 4) .nil)))))) .nil)))) (.cons (.ret (.bl false))
 .nil) .nil)
 (.cons (.ite (.cmp .ne (.lst (.cons (.ix (.var 3) (.int 3)) (.cons (.ix (.var 4) (.int 3)) .nil))) (.var 5)) (.cons (.ret (.bl false))
 .nil) .nil)
 .nil))))))))
 (.cons (.ret (.bl true))
 .nil))
noncomputable def d15:FD:=⟨"law",af 17,["_law_script", "_law_k", "_law_box_here", "_law_outer", "_law_inner", "_law_kept", "_law_due_here", "_law_turn", "_law_found"],1,b15⟩
noncomputable def tab:List FD := [d0,d1,d2,d3,d4,d5,d6,d7,d8,d9,d10,d11,d12,d13,d14,d15]
noncomputable def kL:List (Str × Int) := []
end K16
end
section
namespace K16
theorem xZ:∀ d ∈ tab,nS (tab.map (·.name)) kL d = true:=by decide +kernel
theorem all_mk {l:PySem.W.OpenLaw} {w:World} {K:PySem.W.Frag} {h:Heap} {mg:Str -> Option Value} {fa f0 f1 f2 f3 f4 f5 f6 f7 f8 f9 f10 f11 f12 f13 f14 f15:Addr} (X:K.In h) (G:h.Ns mainGlobals mg) (hfa:mg "law" = some (.ref fa))
 {od0 an0 od1 an1 od2 an2 od3 an3 od4 an4 od5 an5 od6 an6 od7 an7 od8 an8 od9 an9 od10 an10 od11 an11 od12 an12 od13 an13 od14 an14 od15 an15:Option Addr} {sl0 sl1 sl2 sl3 sl4 sl5 sl6 sl7 sl8 sl9 sl10 sl11 sl12 sl13 sl14 sl15:Array (Option Value)} {oc0 kV0 dc0 pm0 cd0 ct0 oc1 kV1 dc1 pm1 cd1 ct1 oc2 kV2 dc2 pm2 cd2 ct2 oc3 kV3 dc3 pm3 cd3 ct3 oc4 kV4 dc4 pm4 cd4 ct4 oc5 kV5 dc5 pm5 cd5 ct5 oc6 kV6 dc6 pm6 cd6 ct6 oc7 kV7 dc7 pm7 cd7 ct7 oc8 kV8 dc8 pm8 cd8 ct8 oc9 kV9 dc9 pm9 cd9 ct9 oc10 kV10 dc10 pm10 cd10 ct10 oc11 kV11 dc11 pm11 cd11 ct11 oc12 kV12 dc12 pm12 cd12 ct12 oc13 kV13 dc13 pm13 cd13 ct13 oc14 kV14 dc14 pm14 cd14 ct14 oc15 kV15 dc15 pm15 cd15 ct15:Value}
 (a0:PySem.W.nsIn K mainGlobals "product_within" = some (some (.ref f0))) (l0:K.lookup f0 = some ⟨oc0,od0, .func (PySem.W.fnOf "product_within" "product_within" (ax (af 1)) (au (af 1)) (ai (af 1)) .none kV0 dc0 pm0 an0 cd0 ct0),sl0⟩) (c0:PySem.W.codeIn K cd0 "product_within" = true) (k0:PySem.W.keepIn K (.ref f0) = true)
 (a1:PySem.W.nsIn K mainGlobals "within" = some (some (.ref f1))) (l1:K.lookup f1 = some ⟨oc1,od1, .func (PySem.W.fnOf "within" "within" (ax (af 2)) (au (af 2)) (ai (af 2)) .none kV1 dc1 pm1 an1 cd1 ct1),sl1⟩) (c1:PySem.W.codeIn K cd1 "within" = true) (k1:PySem.W.keepIn K (.ref f1) = true)
 (a2:PySem.W.nsIn K mainGlobals "_law_cell_at" = some (some (.ref f2))) (l2:K.lookup f2 = some ⟨oc2,od2, .func (PySem.W.fnOf "_law_cell_at" "_law_cell_at" (ax (af 4)) (au (af 4)) (ai (af 4)) .none kV2 dc2 pm2 an2 cd2 ct2),sl2⟩) (c2:PySem.W.codeIn K cd2 "_law_cell_at" = true) (k2:PySem.W.keepIn K (.ref f2) = true)
 (a3:PySem.W.nsIn K mainGlobals "_law_mixed" = some (some (.ref f3))) (l3:K.lookup f3 = some ⟨oc3,od3, .func (PySem.W.fnOf "_law_mixed" "_law_mixed" (ax (af 5)) (au (af 5)) (ai (af 5)) .none kV3 dc3 pm3 an3 cd3 ct3),sl3⟩) (c3:PySem.W.codeIn K cd3 "_law_mixed" = true) (k3:PySem.W.keepIn K (.ref f3) = true)
 (a4:PySem.W.nsIn K mainGlobals "_law_box" = some (some (.ref f4))) (l4:K.lookup f4 = some ⟨oc4,od4, .func (PySem.W.fnOf "_law_box" "_law_box" (ax (af 6)) (au (af 6)) (ai (af 6)) .none kV4 dc4 pm4 an4 cd4 ct4),sl4⟩) (c4:PySem.W.codeIn K cd4 "_law_box" = true) (k4:PySem.W.keepIn K (.ref f4) = true)
 (a5:PySem.W.nsIn K mainGlobals "_law_take" = some (some (.ref f5))) (l5:K.lookup f5 = some ⟨oc5,od5, .func (PySem.W.fnOf "_law_take" "_law_take" (ax (af 7)) (au (af 7)) (ai (af 7)) .none kV5 dc5 pm5 an5 cd5 ct5),sl5⟩) (c5:PySem.W.codeIn K cd5 "_law_take" = true) (k5:PySem.W.keepIn K (.ref f5) = true)
 (a6:PySem.W.nsIn K mainGlobals "_law_number" = some (some (.ref f6))) (l6:K.lookup f6 = some ⟨oc6,od6, .func (PySem.W.fnOf "_law_number" "_law_number" (ax (af 8)) (au (af 8)) (ai (af 8)) .none kV6 dc6 pm6 an6 cd6 ct6),sl6⟩) (c6:PySem.W.codeIn K cd6 "_law_number" = true) (k6:PySem.W.keepIn K (.ref f6) = true)
 (a7:PySem.W.nsIn K mainGlobals "_law_part" = some (some (.ref f7))) (l7:K.lookup f7 = some ⟨oc7,od7, .func (PySem.W.fnOf "_law_part" "_law_part" (ax (af 9)) (au (af 9)) (ai (af 9)) .none kV7 dc7 pm7 an7 cd7 ct7),sl7⟩) (c7:PySem.W.codeIn K cd7 "_law_part" = true) (k7:PySem.W.keepIn K (.ref f7) = true)
 (a8:PySem.W.nsIn K mainGlobals "_law_scheme" = some (some (.ref f8))) (l8:K.lookup f8 = some ⟨oc8,od8, .func (PySem.W.fnOf "_law_scheme" "_law_scheme" (ax (af 10)) (au (af 10)) (ai (af 10)) .none kV8 dc8 pm8 an8 cd8 ct8),sl8⟩) (c8:PySem.W.codeIn K cd8 "_law_scheme" = true) (k8:PySem.W.keepIn K (.ref f8) = true)
 (a9:PySem.W.nsIn K mainGlobals "_law_same" = some (some (.ref f9))) (l9:K.lookup f9 = some ⟨oc9,od9, .func (PySem.W.fnOf "_law_same" "_law_same" (ax (af 11)) (au (af 11)) (ai (af 11)) .none kV9 dc9 pm9 an9 cd9 ct9),sl9⟩) (c9:PySem.W.codeIn K cd9 "_law_same" = true) (k9:PySem.W.keepIn K (.ref f9) = true)
 (a10:PySem.W.nsIn K mainGlobals "_law_nonzero" = some (some (.ref f10))) (l10:K.lookup f10 = some ⟨oc10,od10, .func (PySem.W.fnOf "_law_nonzero" "_law_nonzero" (ax (af 12)) (au (af 12)) (ai (af 12)) .none kV10 dc10 pm10 an10 cd10 ct10),sl10⟩) (c10:PySem.W.codeIn K cd10 "_law_nonzero" = true) (k10:PySem.W.keepIn K (.ref f10) = true)
 (a11:PySem.W.nsIn K mainGlobals "_law_sums" = some (some (.ref f11))) (l11:K.lookup f11 = some ⟨oc11,od11, .func (PySem.W.fnOf "_law_sums" "_law_sums" (ax (af 13)) (au (af 13)) (ai (af 13)) .none kV11 dc11 pm11 an11 cd11 ct11),sl11⟩) (c11:PySem.W.codeIn K cd11 "_law_sums" = true) (k11:PySem.W.keepIn K (.ref f11) = true)
 (a12:PySem.W.nsIn K mainGlobals "_law_drawn" = some (some (.ref f12))) (l12:K.lookup f12 = some ⟨oc12,od12, .func (PySem.W.fnOf "_law_drawn" "_law_drawn" (ax (af 14)) (au (af 14)) (ai (af 14)) .none kV12 dc12 pm12 an12 cd12 ct12),sl12⟩) (c12:PySem.W.codeIn K cd12 "_law_drawn" = true) (k12:PySem.W.keepIn K (.ref f12) = true)
 (a13:PySem.W.nsIn K mainGlobals "_law_due" = some (some (.ref f13))) (l13:K.lookup f13 = some ⟨oc13,od13, .func (PySem.W.fnOf "_law_due" "_law_due" (ax (af 15)) (au (af 15)) (ai (af 15)) .none kV13 dc13 pm13 an13 cd13 ct13),sl13⟩) (c13:PySem.W.codeIn K cd13 "_law_due" = true) (k13:PySem.W.keepIn K (.ref f13) = true)
 (a14:PySem.W.nsIn K mainGlobals "_law_does_right" = some (some (.ref f14))) (l14:K.lookup f14 = some ⟨oc14,od14, .func (PySem.W.fnOf "_law_does_right" "_law_does_right" (ax (af 16)) (au (af 16)) (ai (af 16)) .none kV14 dc14 pm14 an14 cd14 ct14),sl14⟩) (c14:PySem.W.codeIn K cd14 "_law_does_right" = true) (k14:PySem.W.keepIn K (.ref f14) = true)
 (a15:PySem.W.nsIn K mainGlobals "law" = some (some (.ref f15))) (l15:K.lookup f15 = some ⟨oc15,od15, .func (PySem.W.fnOf "law" "law" (ax (af 17)) (au (af 17)) (ai (af 17)) .none kV15 dc15 pm15 an15 cd15 ct15),sl15⟩) (c15:PySem.W.codeIn K cd15 "law" = true) (k15:PySem.W.keepIn K (.ref f15) = true)
 (z0:PySem.W.nsIn K mainGlobals "len" = some none) (z1:PySem.W.nsIn K mainGlobals "abs" = some none) (z2:PySem.W.nsIn K mainGlobals "max" = some none) (z3:PySem.W.nsIn K mainGlobals "min" = some none) (z4:PySem.W.nsIn K mainGlobals "int" = some none) (z5:PySem.W.nsIn K mainGlobals "list" = some none) (z6:PySem.W.nsIn K mainGlobals "tuple" = some none) (z7:PySem.W.nsIn K mainGlobals "sum" = some none) (z8:PySem.W.nsIn K mainGlobals "isinstance" = some none) (z9:PySem.W.nsIn K mainGlobals "range" = some none) (z10:PySem.W.nsIn K mainGlobals "bool" = some none) (z11:PySem.W.nsIn K mainGlobals "str" = some none) (z12:PySem.W.nsIn K mainGlobals "dict" = some none) (z13:PySem.W.nsIn K mainGlobals "zip" = some none) (z14:PySem.W.nsIn K mainGlobals "enumerate" = some none) (z15:PySem.W.nsIn K mainGlobals "reversed" = some none) (z16:PySem.W.nsIn K mainGlobals "sorted" = some none) (z17:PySem.W.nsIn K mainGlobals "all" = some none) (z18:PySem.W.nsIn K mainGlobals "any" = some none) (z19:PySem.W.nsIn K mainGlobals "set" = some none) :
 ∃ fd:FuncData,(∀ (s:Shared) (v:Value),BindsTo s fd ⟨[v],[]⟩ [("_law_script",v)]) /\ ∀ base:Heap,K.In base -> base.Ns mainGlobals mg -> FnOk l.prog w K mg base CX0 40 fa fd ["_law_script"] (lSp K (phi tab 40 15)):=by
 have e:=hfa.symm.trans (PySem.W.mg_of X G a15)
 cases e
 have F0:=be (st:=af 1) l0 c0 k0
 have b0:=F0.binds (ps := ["outer", "inner"]) fun _ _ _ _ _ _ us hl=>by obtain ⟨u0,u1,rfl⟩:=cw us hl;rfl
 have F1:=be (st:=af 2) l1 c1 k1
 have b1:=F1.binds (ps := ["outer", "inner"]) fun _ _ _ _ _ _ us hl=>by obtain ⟨u0,u1,rfl⟩:=cw us hl;rfl
 have F2:=be (st:=af 4) l2 c2 k2
 have b2:=F2.binds (ps := ["_law_script", "_law_k"]) fun _ _ _ _ _ _ us hl=>by obtain ⟨u0,u1,rfl⟩:=cw us hl;rfl
 have F3:=be (st:=af 5) l3 c3 k3
 have b3:=F3.binds (ps := ["_law_number_here", "_law_k"]) fun _ _ _ _ _ _ us hl=>by obtain ⟨u0,u1,rfl⟩:=cw us hl;rfl
 have F4:=be (st:=af 6) l4 c4 k4
 have b4:=F4.binds (ps := ["_law_script", "_law_k"]) fun _ _ _ _ _ _ us hl=>by obtain ⟨u0,u1,rfl⟩:=cw us hl;rfl
 have F5:=be (st:=af 7) l5 c5 k5
 have b5:=F5.binds (ps := ["_law_box_here", "_law_many"]) fun _ _ _ _ _ _ us hl=>by obtain ⟨u0,u1,rfl⟩:=cw us hl;rfl
 have F6:=be (st:=af 8) l6 c6 k6
 have b6:=F6.binds (ps := ["_law_box_here"]) fun _ _ _ _ _ _ us hl=>by obtain ⟨u0,rfl⟩:=fq us hl;rfl
 have F7:=be (st:=af 9) l7 c7 k7
 have b7:=F7.binds (ps := ["_law_box_here", "_law_length"]) fun _ _ _ _ _ _ us hl=>by obtain ⟨u0,u1,rfl⟩:=cw us hl;rfl
 have F8:=be (st:=af 10) l8 c8 k8
 have b8:=F8.binds (ps := ["_law_box_here", "_law_lengths", "_law_count"]) fun _ _ _ _ _ _ us hl=>by obtain ⟨u0,u1,u2,rfl⟩:=tK us hl;rfl
 have F9:=be (st:=af 11) l9 c9 k9
 have b9:=F9.binds (ps := ["_law_found", "_law_due_here"]) fun _ _ _ _ _ _ us hl=>by obtain ⟨u0,u1,rfl⟩:=cw us hl;rfl
 have F10:=be (st:=af 12) l10 c10 k10
 have b10:=F10.binds (ps := ["_law_part_here"]) fun _ _ _ _ _ _ us hl=>by obtain ⟨u0,rfl⟩:=fq us hl;rfl
 have F11:=be (st:=af 13) l11 c11 k11
 have b11:=F11.binds (ps := ["_law_scheme_here"]) fun _ _ _ _ _ _ us hl=>by obtain ⟨u0,rfl⟩:=fq us hl;rfl
 have F12:=be (st:=af 14) l12 c12 k12
 have b12:=F12.binds (ps := ["_law_box_here"]) fun _ _ _ _ _ _ us hl=>by obtain ⟨u0,rfl⟩:=fq us hl;rfl
 have F13:=be (st:=af 15) l13 c13 k13
 have b13:=F13.binds (ps := ["_law_outer", "_law_inner"]) fun _ _ _ _ _ _ us hl=>by obtain ⟨u0,u1,rfl⟩:=cw us hl;rfl
 have F14:=be (st:=af 16) l14 c14 k14
 have b14:=F14.binds (ps := ["_law_found", "_law_outer", "_law_inner"]) fun _ _ _ _ _ _ us hl=>by obtain ⟨u0,u1,u2,rfl⟩:=tK us hl;rfl
 have F15:=be (st:=af 17) l15 c15 k15
 have b15:=F15.binds (ps := ["_law_script"]) fun _ _ _ _ _ _ us hl=>by obtain ⟨u0,rfl⟩:=fq us hl;rfl
 have O:tJ K mg tab kL:=by
  refine ⟨?_, ?_,xZ, ?_⟩
  ·intro x hx
   simp only [fN,List.mem_cons,List.not_mem_nil,or_false] at hx
   rcases hx with rfl | rfl | rfl | rfl | rfl | rfl | rfl | rfl | rfl | rfl | rfl | rfl | rfl | rfl | rfl | rfl | rfl | rfl | rfl | rfl
   ·exact PySem.W.mg_none_of X G z0
   ·exact PySem.W.mg_none_of X G z1
   ·exact PySem.W.mg_none_of X G z2
   ·exact PySem.W.mg_none_of X G z3
   ·exact PySem.W.mg_none_of X G z4
   ·exact PySem.W.mg_none_of X G z5
   ·exact PySem.W.mg_none_of X G z6
   ·exact PySem.W.mg_none_of X G z7
   ·exact PySem.W.mg_none_of X G z8
   ·exact PySem.W.mg_none_of X G z9
   ·exact PySem.W.mg_none_of X G z10
   ·exact PySem.W.mg_none_of X G z11
   ·exact PySem.W.mg_none_of X G z12
   ·exact PySem.W.mg_none_of X G z13
   ·exact PySem.W.mg_none_of X G z14
   ·exact PySem.W.mg_none_of X G z15
   ·exact PySem.W.mg_none_of X G z16
   ·exact PySem.W.mg_none_of X G z17
   ·exact PySem.W.mg_none_of X G z18
   ·exact PySem.W.mg_none_of X G z19
  ·intro i d hd
   match i,hd with
   | 0,hd=>cases hd;exact ⟨_,_,F0,PySem.W.mg_of X G a0,b0⟩
   | 1,hd=>cases hd;exact ⟨_,_,F1,PySem.W.mg_of X G a1,b1⟩
   | 2,hd=>cases hd;exact ⟨_,_,F2,PySem.W.mg_of X G a2,b2⟩
   | 3,hd=>cases hd;exact ⟨_,_,F3,PySem.W.mg_of X G a3,b3⟩
   | 4,hd=>cases hd;exact ⟨_,_,F4,PySem.W.mg_of X G a4,b4⟩
   | 5,hd=>cases hd;exact ⟨_,_,F5,PySem.W.mg_of X G a5,b5⟩
   | 6,hd=>cases hd;exact ⟨_,_,F6,PySem.W.mg_of X G a6,b6⟩
   | 7,hd=>cases hd;exact ⟨_,_,F7,PySem.W.mg_of X G a7,b7⟩
   | 8,hd=>cases hd;exact ⟨_,_,F8,PySem.W.mg_of X G a8,b8⟩
   | 9,hd=>cases hd;exact ⟨_,_,F9,PySem.W.mg_of X G a9,b9⟩
   | 10,hd=>cases hd;exact ⟨_,_,F10,PySem.W.mg_of X G a10,b10⟩
   | 11,hd=>cases hd;exact ⟨_,_,F11,PySem.W.mg_of X G a11,b11⟩
   | 12,hd=>cases hd;exact ⟨_,_,F12,PySem.W.mg_of X G a12,b12⟩
   | 13,hd=>cases hd;exact ⟨_,_,F13,PySem.W.mg_of X G a13,b13⟩
   | 14,hd=>cases hd;exact ⟨_,_,F14,PySem.W.mg_of X G a14,b14⟩
   | 15,hd=>cases hd;exact ⟨_,_,F15,PySem.W.mg_of X G a15,b15⟩
   | i + 16,hd=>simp [tab] at hd
  ·intro x i hx
   simp only [kL,List.mem_cons,List.not_mem_nil,or_false,Prod.mk.injEq] at hx
 refine ⟨PySem.W.fnOf "law" "law" (ax (af 17)) (au (af 17)) (ai (af 17)) .none kV15 dc15 pm15 an15 cd15 ct15,fun s v => .of_eq rfl,fun base _ _ => ?_⟩
 exact pY O 40 15 d15 _ _ rfl F15
theorem walk {l:PySem.W.OpenLaw} {q:Program} {loose:List Str} {XP:(Str -> Option Value) -> Heap -> Prop} {YP:World -> Heap -> Prop} {d:DefRec} {K:Params -> PySem.W.Frag} (hn:l.most = some 63) (hdf:d.params.defaults = [])
 (hlaw:∀ ns:List Int,ns.length <= 63 -> phi tab 40 15 [.con (ns.map D.int)] (fun _=>none) fun d _=>d = .bl true)
 (hY:∀ (w:World) (h:Heap),YP w h -> (K w.params).In h)
 (F:∀ (w:World) (mg:Str -> Option Value) (fa:Addr) (h:Heap),(K w.params).In h -> h.Ns mainGlobals mg -> mg d.name = some (.ref fa) ->
   ∃ fd:FuncData,(∀ (s:Shared) (u:Value),BindsTo s fd ⟨[u],[]⟩ [("_law_script",u)]) /\ ∀ base:Heap,(K w.params).In base -> base.Ns mainGlobals mg -> FnOk l.prog w (K w.params) mg base CX0 40 fa fd ["_law_script"] (lSp (K w.params) (phi tab 40 15))) :
 PySem.W.WalkO q loose XP YP l.row.toRowW d [] (fun f vs=>PySem.call f vs) :=
 L2.walk_of (n := 63) (k := 40) (x := "_law_script") (CX:=fun _=>CX0) (sp:=fun w=>lSp (K w.params) (phi tab 40 15)) hn (by decide) hdf ⟨rfl,by decide,by decide⟩ hY F (fun w H a ns hl hO hS=>xF hO hS (hlaw ns hl)) fun _ _ _ _ _ z=>z
end K16
end
section
namespace K16
open PySem PySem.Spec PyProof.Rows L2.Srt
theorem mm {n:Nat} (hn : 1 <= n):nT tab n 3:=qd (x := "_law_number_here") (s:=af 5) rfl hn
theorem de {n:Nat} (hn : 2 <= n):ku tab n 5:=fun hb h1 h2 q=>vt (s:=af 7) (fm := 3) rfl (mm (by omega)) hn hb h1 h2 q
theorem oh {n:Nat} (hn : 3 <= n):kx tab n 6:=fun hb q=>q8 (s:=af 8) (ft := 5) rfl (de (by omega)) (by omega) hb q
theorem sR {n:Nat} (hn : 4 <= n):qa tab n 7:=fun hL hb q=>vw (s:=af 9) (fn := 6) rfl (oh (by omega)) (by omega) hL hb q
theorem sU {n m:Nat} (hn:n + 1 <= m) {u v:D} {M:Mem} {Q:QD} (h:Sm M n u v) (q:∀ M',Ge M M' -> Q (.bl true) M'):phi tab m 9 [u,v] M Q:=vC (s:=af 11) (y := "_law_due_here") rfl hn h q
theorem y4 {n:Nat} (hn : 1 <= n):xX tab n 10:=fun hl q=>nW (s:=af 12) (xp := "_law_part_here") (xn := "_law_number_here") rfl hn hl q
theorem tQ {b p:Addr} {M:Mem} (hb:Box b M) (hp:M p = none):p ≠ b:=fun z=>by
 obtain ⟨x,y,w,e⟩:=hb;rw [<- z,hp] at e;cases e
theorem vE {a b:List Int} {x:Int}:kr (a ++ [x]) b = kr a b ++ b.map (x * ·):=by simp [kr]
theorem vF {Φ:Phi} {a b:List Int} (ha:bn a) (la:a.length <= 100) (lb:b.length <= 100) {M:Mem} {N:NC} (q:∀ ρ,N ρ M ((kr a b).map .int)) {o0 o1:Option D} :
 bo (bv 0) (cM (jJ (br 2)) (bv 1) (ck (wOp eC (br 0) (br 1)))) (fun M=>True) N (a.map .int) [o0,o1,some (.tup (b.map .int))] M []:=by
 refine aV (f:=D.int) (ys:=a) (I:=fun l ρ M' acc=>(∃ o0 o1, ρ = [o0,o1,some (.tup (b.map .int))]) /\ M' = M /\ acc = (kr l b).map .int) rfl ⟨⟨_,_,rfl⟩,rfl,rfl⟩ (fun _ _ _ _ _=>trivial) ?_ ?_
 ·rintro l x r ρ M1 acc e ⟨⟨o0,o1,rfl⟩,rfl,rfl⟩
  refine ⟨_,rfl,fun N' hN' => ?_⟩
  have hlt:=ar e
  have hx:=ha x (by rw [e];simp)
  walk_at "wp"
  refine aV (f:=D.int) (ys:=b) (I:=fun l' ρ M' acc=>(∃ o1, ρ = [some (.int x),o1,some (.tup (b.map .int))]) /\ M' = M1 /\ acc = (kr l b ++ l'.map (x * ·)).map .int) rfl ⟨⟨_,rfl⟩,rfl,by simp⟩ (fun _ _ _ _ _=>by first | rfl | trivial) ?_ ?_
  ·rintro l' y r' ρ M2 acc e' ⟨⟨o1,rfl⟩,rfl,rfl⟩
   refine ⟨_,rfl,fun N'' hN'' => ?_⟩
   have hlt':=ar e'
   walk_at "wp"
   refine ⟨cY (by omega), ?_,hN'' _ _ _ ⟨⟨_,rfl⟩,rfl,by simp⟩⟩
   rw [List.length_map,List.length_append,List.length_map,bS,sizeLine_eq]
   have:l.length * b.length <= 100 * 100:=Nat.mul_le_mul (by omega) lb
   omega
  ·rintro ρ M2 acc ⟨⟨o1,rfl⟩,rfl,rfl⟩
   exact hN' _ _ _ ⟨⟨_,_,rfl⟩,rfl,by rw [vE]⟩
 ·rintro ρ M1 acc ⟨⟨o0,o1,rfl⟩,rfl,rfl⟩
  exact q _
theorem oi {n:Nat} (hn : 1 <= n) {p u:Pr} {A0 A1 A2 B0 B1 B2:Nat} (hp:eP A0 A1 A2 p) (hu:eP B0 B1 B2 u) (ha:A0 <= 100 /\ A1 <= 100 /\ A2 <= 100) (hb:B0 <= 100 /\ B1 <= 100 /\ B2 <= 100) {M:Mem} {Q:QD} (q:∀ M',Ge M M' -> Q (prD (krP p u)) M'):phi tab n 0 [prD p,prD u] M Q:=by
 refine aF (by omega) rfl rfl (ρ := [some _,some _]) rfl ?_
 unfold d0 b0 prD
 walk_at "st"
 have hy:∀ ab ∈ [(p.1,u.1),(p.2.1,u.2.1),(p.2.2,u.2.2)],bn ab.1 /\ ab.1.length <= 100 /\ ab.2.length <= 100:=by
  intro ab hab
  have e0:=hp.l0;have e1:=hp.l1;have e2:=hp.l2
  have e3:=hu.l0;have e4:=hu.l1;have e5:=hu.l2
  simp only [List.mem_cons,List.not_mem_nil,or_false] at hab
  rcases hab with rfl | rfl | rfl
  ·exact ⟨hp.s0,by dsimp only;omega,by dsimp only;omega⟩
  ·exact ⟨hp.s1,by dsimp only;omega,by dsimp only;omega⟩
  ·exact ⟨hp.s2,by dsimp only;omega,by dsimp only;omega⟩
 refine aV (f:=fun ab:List Int × List Int=>D.tup [.tup (ab.1.map .int), .tup (ab.2.map .int)]) (ys := [(p.1,u.1),(p.2.1,u.2.1),(p.2.2,u.2.2)]) (I:=fun l ρ M' acc=>(∃ o0 o1, ρ = [o0,o1]) /\ Ge M M' /\ acc = l.map fun ab=>D.tup ((kr ab.1 ab.2).map .int)) rfl ⟨⟨_,_,rfl⟩,Ge.refl,rfl⟩ (fun _ _ _ _ _=>by first | rfl | trivial) ?_ ?_
 ·rintro l ab r ρ M1 acc e ⟨⟨o0,o1,rfl⟩,g,rfl⟩
  refine ⟨_,rfl,fun N' hN' => ?_⟩
  have hlt:=ar e
  obtain ⟨h1,h2,h3⟩:=hy ab (by rw [e];simp)
  walk_at "wp"
  refine vF (Φ := phi tab n) h1 h2 h3 fun ρ pq hpq=>⟨_,_,rfl,ah ae, ?_⟩
  have hl3:l.length < 3:=hlt
  refine ⟨by rw [List.length_map,sizeLine_eq];omega,hN' _ _ _ ⟨⟨_,_,rfl⟩,g.trans (Ge.new hpq),by simp⟩⟩
 ·rintro ρ M1 acc ⟨⟨o0,o1,rfl⟩,g,rfl⟩ pp hpp
  exact ⟨_,_,rfl,ah ae,q _ (g.trans (Ge.new hpp))⟩
theorem iN {ps us:List Pr} {p:Pr}:aJ (ps ++ [p]) us = aJ ps us ++ us.map (krP p):=by simp [aJ]
theorem e9 {us:List Pr}:∀ {ps:List Pr},(aJ ps us).length = ps.length * us.length
 | [] => by simp [aJ]
 | p :: ps=>by rw [show aJ (p :: ps) us = us.map (krP p) ++ aJ ps us by simp [aJ],List.length_append,e9,List.length_map,List.length_cons,Nat.succ_mul];omega
structure Sc (L0 L1 L2:Nat) (ps:List Pr):Prop where
 ok:∀ p ∈ ps,eP L0 L1 L2 p
 len:ps.length <= 20
 l0 : 1 <= L0 /\ L0 <= 9
 l1 : 1 <= L1 /\ L1 <= 9
 l2 : 1 <= L2 /\ L2 <= 9
theorem qo {n:Nat} (hn : 2 <= n) {A0 A1 A2 B0 B1 B2:Nat} {ps us:List Pr} (ha:Sc A0 A1 A2 ps) (hb:Sc B0 B1 B2 us) {po pi:Addr} {M:Mem} {Q:QD} (ho:M po = some (.lst (ps.map prD))) (hi:M pi = some (.lst (us.map prD)))
 (q:∀ p M',Ge M M' -> M p = none -> M' p = some (.lst ((aJ ps us).map prD)) -> Q (.tup [.int (A0 * B0), .int (A1 * B1), .int (A2 * B2), .ref p]) M') :
 phi tab n 1 [.tup [.int A0, .int A1, .int A2, .ref po], .tup [.int B0, .int B1, .int B2, .ref pi]] M Q:=by
 refine aF (by omega) rfl rfl (ρ := [some _,some _,none]) rfl ?_
 unfold d1 b1
 walk_at "st"
 refine ⟨_,rfl,_,ah ho, ?_⟩
 have hla:=ha.len
 have hlb:=hb.len
 refine aV (f:=prD) (ys:=ps) (I:=fun l ρ M' acc=>(∃ o0 o1, ρ = [o0,o1,some (.tup [.int B0, .int B1, .int B2, .ref pi])]) /\ Ge M M' /\ acc = (aJ l us).map prD) rfl ⟨⟨_,_,rfl⟩,Ge.refl,rfl⟩ (fun _ _ _ _ h=>ah (h.2.1 _ _ ho)) ?_ ?_
 ·rintro l x r ρ M1 acc e ⟨⟨o0,o1,rfl⟩,g,rfl⟩
  refine ⟨_,rfl,fun N' hN' => ?_⟩
  have hlt:=ar e
  have hx:=ha.ok x (by rw [e];simp)
  walk_at "wp"
  refine ⟨_,rfl,_,ah (g _ _ hi), ?_⟩
  refine aV (f:=prD) (ys:=us) (I:=fun l' ρ M' acc=>(∃ o1, ρ = [some (prD x),o1,some (.tup [.int B0, .int B1, .int B2, .ref pi])]) /\ Ge M M' /\ acc = (aJ l us ++ l'.map (krP x)).map prD) rfl ⟨⟨_,rfl⟩,g,by simp⟩ (fun _ _ _ _ h=>ah (h.2.1 _ _ hi)) ?_ ?_
  ·rintro l' y r' ρ M2 acc e' ⟨⟨o1,rfl⟩,g2,rfl⟩
   refine ⟨_,rfl,fun N'' hN'' => ?_⟩
   have hlt':=ar e'
   have hy:=hb.ok y (by rw [e'];simp)
   have:=ha.l0;have:=ha.l1;have:=ha.l2;have:=hb.l0;have:=hb.l1;have:=hb.l2
   walk_at "wp"
   refine oi (by omega) hx hy (by omega) (by omega) fun M3 g3=>⟨?_,hN'' _ _ _ ⟨⟨_,rfl⟩,g2.trans g3,by simp⟩⟩
   rw [List.length_map,List.length_append,List.length_map,e9,sizeLine_eq]
   have:l.length * us.length <= 20 * 20:=Nat.mul_le_mul (by omega) hlb
   omega
  ·rintro ρ M2 acc ⟨⟨o1,rfl⟩,g2,rfl⟩
   exact hN' _ _ _ ⟨⟨_,_,rfl⟩,g2,by rw [iN]⟩
 ·rintro ρ M1 acc ⟨⟨o0,o1,rfl⟩,g,rfl⟩ p hp
  have:=ha.l0;have:=ha.l1;have:=ha.l2
  walk_at "st"
  refine ⟨_,rfl,_,rfl,cY (by omega), ?_⟩
  refine ⟨_,rfl,_,rfl,cY (by omega),_,rfl,_,rfl,cY (by omega),by rw [sizeLine_eq];first | decide | omega,q p _ (g.trans (Ge.new hp)) ?_ ae⟩
  cases hz:M p with
  | none=>rfl
  | some o=>rw [g _ _ hz] at hp;cases hp
theorem vG {n:Nat} (hn : 2 <= n) {b:Addr} {w:Int} (hw:w = 0 ∨ w = 1) {M:Mem} {N:NC} (hb:Box b M)
 (q:∀ (ns:List Int) ρ M',ns.length = 3 -> (∀ y ∈ ns,1 <= y /\ y <= 9) -> Bx b M M' -> N ρ M' (ns.map .int)) :
 bo (bv 0) (ck (wOp fJ (wC (.int 1)) (wAr (phi tab n 5) (aK (br 1) (aK (wOp wIx (wAr jv (aK (wC (.int 4)) (aK (wC (.int 9)) bO))) (br 2)) bO))))) (fun _=>True) N (bw 0 (3:Int).toNat) [none,some (.ref b),some (.int w)] M []:=by
 refine aV (f:=fun i=>D.int (i:Nat)) (I:=fun l ρ M' acc => ∃ ns:List Int,(∃ o, ρ = [o,some (.ref b),some (.int w)]) /\ acc = ns.map .int /\ ns.length = l.length /\ (∀ y ∈ ns,1 <= y /\ y <= 9) /\ Bx b M M') bH ⟨[],⟨_,rfl⟩,rfl,rfl,fun _ h=>by simp at h,Bx.refl hb⟩ (fun _ _ _ _ _=>trivial) ?_ ?_
 ·rintro l i r ρ M1 acc e ⟨ns,⟨o,rfl⟩,rfl,hl,hr,x1⟩
  refine ⟨_,rfl,fun N' hN' => ?_⟩
  have hlt:=ar e
  rw [List.length_range] at hlt
  walk_at "wp"
  refine ⟨by rw [sizeLine_eq];first | decide | omega,fun p0 hp0 => ?_⟩
  have x2:=x1.ge (Ge.new (o := .lst [.int 4, .int 9]) hp0)
  have e2:=ae (M:=M1) (a:=p0) (o := .lst [.int 4, .int 9])
  generalize ak M1 p0 (.lst [.int 4, .int 9]) = M2 at x2 e2 ⊢
  have hK:∃ K:Int,1 <= K /\ K <= 9 /\ atI [D.int 4, .int 9] w = some (.int K):=by
   rcases hw with rfl | rfl
   ·exact ⟨4,by omega,by omega,rfl⟩
   ·exact ⟨9,by omega,by omega,rfl⟩
  obtain ⟨K,k0,k1,eK⟩:=hK
  refine bq e2 eK ?_
  refine de hn x2.box (by omega) (by omega) fun v M3 v0 v1 x3 => ?_
  walk_at "wp"
  refine ⟨by rw [List.length_map,sizeLine_eq];omega,hN' _ _ _ ⟨ns ++ [1 + v],⟨_,rfl⟩,by simp,by simp [hl],fun y hy => ?_,x2.trans x3⟩⟩
  rcases List.mem_append.mp hy with h | h
  ·exact hr y h
  ·simp at h;subst h;omega
 ·rintro ρ M1 acc ⟨ns,⟨o,rfl⟩,rfl,hl,hr,x1⟩
  exact q ns _ M1 hl hr x1
theorem kM {n:Nat} (hn : 6 <= n) {b:Addr} {M:Mem} {Q:QD} (hb:Box b M)
 (q:∀ (L0 L1 L2:Nat) (ps:List Pr) pr M',Sc L0 L1 L2 ps -> Bx b M M' -> pr ≠ b -> M pr = none -> M' pr = some (.lst (ps.map prD)) -> Q (.tup [.int L0, .int L1, .int L2, .ref pr]) M'):phi tab n 12 [.ref b] M Q:=by
 refine aF (by omega) rfl rfl (ρ := [some _,none,none]) rfl ?_
 unfold d12 b12
 walk_at "st"
 refine de (by omega) hb (by decide) (by decide) fun w0 M1 _ _ x1 => ?_
 walk_at "wp"
 have hw:(if (w0 == 0) = true then (1:Int) else 0) = 0 ∨ (if (w0 == 0) = true then (1:Int) else 0) = 1:=by split <;> simp
 generalize (if (w0 == 0) = true then (1:Int) else 0) = w at hw ⊢
 walk_at "st"
 refine ⟨by omega,by omega, ?_⟩
 refine vG (by omega) hw x1.box fun ns ρ M2 hl hr x2 pl hpl => ?_
 have hplb:=tQ x2.box hpl
 have x3:=(x1.trans x2).ge (Ge.new (o := .lst (ns.map .int)) hpl)
 have e3:=ae (M:=M2) (a:=pl) (o := .lst (ns.map .int))
 generalize ak M2 pl (.lst (ns.map .int)) = M3 at x3 e3 ⊢
 obtain ⟨x,y,z,rfl⟩:∃ x y z,ns = [x,y,z]:=by
  match ns,hl with
  | [x,y,z],_=>exact ⟨x,y,z,rfl⟩
 have hx:=hr x (by simp)
 have hy:=hr y (by simp)
 have hz:=hr z (by simp)
 obtain ⟨L0,rfl⟩:∃ k:Nat,x = k:=⟨x.toNat,by omega⟩
 obtain ⟨L1,rfl⟩:∃ k:Nat,y = k:=⟨y.toNat,by omega⟩
 obtain ⟨L2,rfl⟩:∃ k:Nat,z = k:=⟨z.toNat,by omega⟩
 clear hr hl x2 hpl
 walk_at "st"
 refine ⟨by rw [sizeLine_eq];first | decide | omega,fun p0 hp0 => ?_⟩
 have x4:=x3.ge (Ge.new (o := .lst [.int 6, .int 21]) hp0)
 have e4:=ae (M:=M3) (a:=p0) (o := .lst [.int 6, .int 21])
 have f4:=(Ge.new (o := .lst [.int 6, .int 21]) hp0) _ _ e3
 generalize ak M3 p0 (.lst [.int 6, .int 21]) = M4 at x4 e4 f4 ⊢
 have hK:∃ K:Int,1 <= K /\ K <= 21 /\ atI [D.int 6, .int 21] w = some (.int K):=by
  rcases hw with rfl | rfl
  ·exact ⟨6,by omega,by omega,rfl⟩
  ·exact ⟨21,by omega,by omega,rfl⟩
 obtain ⟨K,k0,k1,eK⟩:=hK
 refine bq e4 eK ?_
 refine de (by omega) x4.box (by omega) (by omega) fun c M5 c0 c1 x5 => ?_
 have f5:=x5.keep pl _ hplb f4
 have x5:=x4.trans x5
 obtain ⟨c,rfl⟩:∃ k:Nat,c = k:=⟨c.toNat,by omega⟩
 refine qb (s:=af 10) (ft := 5) (fp := 7) rfl (de (by omega)) (sR (by omega)) (by omega) (by omega) (by omega) (by omega) (by omega) x5.box hplb f5 fun ps pr M6 hlen hok x6 hpr er => ?_
 have hprb:=tQ x5.box hpr
 refine q L0 L1 L2 ps pr M6 ⟨hok,by omega,by omega,by omega,by omega⟩ (x5.trans x6) hprb (x5.none hpr hprb) er
theorem gS {l:List Int} {n:Nat} (h:n < l.length):l[n]? = some (gz l (n:Nat)):=by
 unfold gz
 rw [if_neg (by omega),Int.toNat_natCast,List.getD_eq_getElem?_getD,List.getElem?_eq_getElem h];rfl
theorem zd {a b:List Int} {i:Nat} (h:i < a.length * b.length):(kr a b)[i]? = some (gz a ((i / b.length:Nat):Int) * gz b ((i % b.length:Nat):Int)):=by
 have hb : 1 <= b.length:=by
  rcases Nat.eq_zero_or_pos b.length with z | z
  ·rw [z] at h;simp at h
  ·exact z
 rw [gS (by rw [bS];exact h),gR rfl hb,Int.natCast_ediv,Int.natCast_emod]
theorem sV {a b:List Int} (ha:bn a) (la:a.length <= 100) (lb:b.length <= 100) {M:Mem} {N:NC} (q:∀ ρ,N ρ M ((kr a b).map .int)) :
 bo (bv 0) (ck (wOp eC (wOp wIx (br 1) (wOp gn (br 0) (wAr cS (aK (br 2) bO)))) (wOp wIx (br 2) (wOp jx (br 0) (wAr cS (aK (br 2) bO)))))) (fun _=>True) N (bw 0 ((a.length:Int) * b.length).toNat) [none,some (.tup (a.map .int)),some (.tup (b.map .int))] M []:=by
 have en:((a.length:Int) * b.length).toNat = a.length * b.length:=by rw [<- Int.natCast_mul,Int.toNat_natCast]
 rw [en]
 refine aV (f:=fun i=>D.int (i:Nat)) (I:=fun l ρ M' acc=>(∃ o, ρ = [o,some (.tup (a.map .int)),some (.tup (b.map .int))]) /\ M' = M /\ acc = ((kr a b).take l.length).map .int) bH ⟨⟨_,rfl⟩,rfl,by simp⟩ (fun _ _ _ _ _=>trivial) ?_ ?_
 ·rintro l i r ρ M1 acc e ⟨⟨o,rfl⟩,rfl,rfl⟩
  refine ⟨_,rfl,fun N' hN' => ?_⟩
  have hlt:=ar e
  rw [List.length_range] at hlt
  have hi:i = l.length:=by
   have:=eO e
   rw [List.getElem?_range hlt] at this
   exact (Option.some.inj this).symm
  subst hi
  have hk:=zd hlt
  have hb1 : 1 <= b.length:=by
   rcases Nat.eq_zero_or_pos b.length with z | z
   ·rw [z] at hlt;simp at hlt
   ·exact z
  walk_at "wp"
  have h1:l.length / b.length < a.length:=Nat.div_lt_of_lt_mul (by rw [Nat.mul_comm];exact hlt)
  have h2:l.length % b.length < b.length:=Nat.mod_lt _ hb1
  have g1:(a.map D.int)[l.length / b.length]? = some (.int (gz a ((l.length / b.length:Nat):Int))):=by rw [List.getElem?_map,gS h1];rfl
  have g2:(b.map D.int)[l.length % b.length]? = some (.int (gz b ((l.length % b.length:Nat):Int))):=by rw [List.getElem?_map,gS h2];rfl
  have hs : -1000 <= gz a ((l.length / b.length:Nat):Int) /\ gz a ((l.length / b.length:Nat):Int) <= 1000:=ha _ (List.mem_of_getElem? (gS h1))
  rw [List.length_map, <- Int.natCast_ediv, <- Int.natCast_emod]
  refine ⟨by omega,by omega,_,dy g1,by omega,_,dy g2, ?_⟩
  walk_at "wp"
  refine ⟨cY (by omega), ?_,hN' _ _ _ ⟨⟨_,rfl⟩,rfl, ?_⟩⟩
  ·have:(kr a b).length <= 100 * 100:=by rw [bS];exact Nat.mul_le_mul la lb
   rw [List.length_map,List.length_take,sizeLine_eq];omega
  ·rw [List.length_append,List.length_singleton,List.take_succ,hk];simp
 ·rintro ρ M1 acc ⟨⟨o,rfl⟩,rfl,rfl⟩
  have:=q
  rw [List.length_range,List.take_of_length_le (by rw [bS];exact Nat.le_refl _)]
  exact q _
theorem y7 {n:Nat} (hn : 2 <= n) {A0 A1 A2 B0 B1 B2:Nat} {ps us:List Pr} (ha:Sc A0 A1 A2 ps) (hb:Sc B0 B1 B2 us) {po pi:Addr} {M:Mem} {Q:QD} (ho:M po = some (.lst (ps.map prD))) (hi:M pi = some (.lst (us.map prD)))
 (q:∀ p M',Ge M M' -> M p = none -> M' p = some (.lst ((aJ ps us).map prD)) -> Q (.tup [.int (A0 * B0), .int (A1 * B1), .int (A2 * B2), .ref p]) M') :
 phi tab n 13 [.tup [.int A0, .int A1, .int A2, .ref po], .tup [.int B0, .int B1, .int B2, .ref pi]] M Q:=by
 refine aF (by omega) rfl rfl (ρ := [some _,some _,none,none,none,none,none,none,none]) rfl ?_
 unfold d13 b13
 have hla:=ha.len
 have hlb:=hb.len
 have:=ha.l0;have:=ha.l1;have:=ha.l2;have:=hb.l0;have:=hb.l1;have:=hb.l2
 walk_at "st"
 refine ⟨by rw [sizeLine_eq];first | decide | omega,fun f hf => ?_⟩
 have g0:=Ge.new (o := .lst []) hf
 have f0:=ae (M:=M) (a:=f) (o := .lst [])
 generalize ak M f (.lst []) = M0 at g0 f0 ⊢
 have hfo:po ≠ f:=fun z=>by rw [z,hf] at ho;cases ho
 have hfi:pi ≠ f:=fun z=>by rw [z,hf] at hi;cases hi
 walk_at "st"
 refine ⟨_,rfl,_,ah (g0 _ _ ho), ?_⟩
 refine bj (f:=prD) (ys:=ps) (I:=fun l ρ M' => ∃ o3 o4 o5 o6 o7 o8, ρ = [some (.tup [.int A0, .int A1, .int A2, .ref po]),some (.tup [.int B0, .int B1, .int B2, .ref pi]),some (.ref f),o3,o4,o5,o6,o7,o8] /\ Ge M M' /\ M' f = some (.lst ((aJ l us).map prD))) rfl ⟨_,_,_,_,_,_,rfl,g0,f0⟩ (fun l ρ M' ⟨_,_,_,_,_,_,_,g,_⟩=>ah (g _ _ ho)) ?_ ?_
 ·rintro l x r ρ M1 e ⟨o3,o4,o5,o6,o7,o8,rfl,g1,f1⟩
  refine ⟨_,rfl,fun F hF => ?_⟩
  have hlt:=ar e
  have hx:=ha.ok x (by rw [e];simp)
  walk_at "st"
  refine ⟨_,rfl,_,ah (g1 _ _ hi), ?_⟩
  refine bj (f:=prD) (ys:=us) (I:=fun l' ρ M' => ∃ o4 o5 o6 o7 o8, ρ = [some (.tup [.int A0, .int A1, .int A2, .ref po]),some (.tup [.int B0, .int B1, .int B2, .ref pi]),some (.ref f),some (prD x),o4,o5,o6,o7,o8] /\ Ge M M' /\ M' f = some (.lst ((aJ l us ++ l'.map (krP x)).map prD))) rfl ⟨_,_,_,_,_,rfl,g1,by simpa using f1⟩ (fun l ρ M' ⟨_,_,_,_,_,_,g,_⟩=>ah (g _ _ hi)) ?_ ?_
  ·rintro l' y r' ρ M2 e' ⟨o4,o5,o6,o7,o8,rfl,g2,f2⟩
   refine ⟨_,rfl,fun F' hF' => ?_⟩
   have hlt':=ar e'
   have hy:=hb.ok y (by rw [e'];simp)
   walk_at "st"
   refine ⟨by rw [sizeLine_eq];first | decide | omega,fun pa hpa => ?_⟩
   have hpf:pa ≠ f:=fun z=>by rw [z,f2] at hpa;cases hpa
   have gp:=Ge.new (o := .lst []) hpa
   have f3:=gp _ _ f2
   have p3:=ae (M:=M2) (a:=pa) (o := .lst [])
   have g3:=g2.trans gp
   have hMp:M pa = none:=by
    cases hz:M pa with
    | none=>rfl
    | some o=>rw [g2 _ _ hz] at hpa;cases hpa
   generalize ak M2 pa (.lst []) = M3 at g3 f3 p3 ⊢
   clear gp hpa g2 f2
   walk_at "st"
   refine ⟨by omega,by omega, ?_⟩
   refine bj (f:=fun i=>D.int (i:Nat)) (ys:=List.range 3) (I:=fun k' ρ M' => ∃ o6 o7 o8, ρ = [some (.tup [.int A0, .int A1, .int A2, .ref po]),some (.tup [.int B0, .int B1, .int B2, .ref pi]),some (.ref f),some (prD x),some (prD y),some (.ref pa),o6,o7,o8] /\ Ge M M' /\ M' f = some (.lst ((aJ l us ++ l'.map (krP x)).map prD)) /\ M' pa = some (.lst ((prL (krP x y)).take k'.length))) bH ⟨_,_,_,rfl,g3,f3,by simpa using p3⟩ (fun _ _ _ _=>trivial) ?_ ?_
   ·rintro l3 i r3 ρ M4 e3 ⟨o6,o7,o8,rfl,g4,f4,p4⟩
    refine ⟨_,rfl,fun F3 hF3 => ?_⟩
    have hl3:=ar e3
    rw [List.length_range] at hl3
    have hi3:i = l3.length:=by
     have:=eO e3
     rw [List.getElem?_range hl3] at this
     exact (Option.some.inj this).symm
    subst hi3
    have hv:∃ a b,atI (prL x) (l3.length:Nat) = some (.tup (a.map .int)) /\ atI (prL y) (l3.length:Nat) = some (.tup (b.map .int)) /\ bn a /\ a.length <= 100 /\ b.length <= 100 /\ (prL (krP x y))[l3.length]? = some (.tup ((kr a b).map .int)):=by
     have e0:=hx.l0;have e1:=hx.l1;have e2:=hx.l2
     have e3:=hy.l0;have e4:=hy.l1;have e5:=hy.l2
     have:l3.length = 0 ∨ l3.length = 1 ∨ l3.length = 2:=by omega
     rcases this with h | h | h
     ·exact ⟨x.1,y.1,by rw [h];rfl,by rw [h];rfl,hx.s0,by omega,by omega,by rw [h];rfl⟩
     ·exact ⟨x.2.1,y.2.1,by rw [h];rfl,by rw [h];rfl,hx.s1,by omega,by omega,by rw [h];rfl⟩
     ·exact ⟨x.2.2,y.2.2,by rw [h];rfl,by rw [h];rfl,hx.s2,by omega,by omega,by rw [h];rfl⟩
    obtain ⟨a,b,ea,eb,sa,la,lb,ek⟩:=hv
    walk_at "st"
    refine ⟨_,_,rfl,ea,_,_,rfl,eb,by rw [sizeLine_eq];first | decide | omega, ?_⟩
    walk_at "st"
    refine ⟨⟨_,p4⟩,cY (by rw [List.length_map];omega), ?_⟩
    rw [List.length_map,List.length_map]
    have hab:a.length * b.length <= 100 * 100:=Nat.mul_le_mul la lb
    refine ⟨by rw [<- Int.natCast_mul];omega,by rw [<- Int.natCast_mul];omega, ?_⟩
    refine sV sa la lb fun ρ pt hpt => ?_
    have gt:=Ge.new (o := .lst ((kr a b).map .int)) hpt
    have p5:=gt _ _ p4
    have f5:=gt _ _ f4
    refine ⟨_,_,rfl,ah ae,_,_,_,rfl,rfl,p5,by rw [List.length_take,sizeLine_eq];omega, ?_⟩
    refine hF3 _ _ ⟨_,_,_,rfl,(g4.trans gt).upd hMp, ?_, ?_⟩
    ·rw [am hpf.symm];exact f5
    ·rw [ae,List.length_append,List.length_singleton,List.take_succ,ek];rfl
   ·rintro ρ M4 ⟨o6,o7,o8,rfl,g4,f4,p4⟩
    dsimp only
    walk_at "st"
    refine ⟨⟨_,f4⟩,_,_,rfl,ah p4, ?_⟩
    have hab:l.length * us.length <= 20 * 20:=Nat.mul_le_mul (by omega) hlb
    refine ⟨_,_,_,rfl,rfl,f4, ?_,hF' _ _ ⟨_,_,_,_,_,rfl,g4.upd hf, ?_⟩⟩
    ·rw [List.length_map,List.length_append,List.length_map,e9,sizeLine_eq];omega
    ·rw [ae];simp [prD,prL]
  ·rintro ρ M2 ⟨o4,o5,o6,o7,o8,rfl,g2,f2⟩
   dsimp only
   walk_at "wp"
   exact hF _ _ ⟨_,_,_,_,_,_,rfl,g2,by rw [f2,iN]⟩
 ·rintro ρ M1 ⟨o3,o4,o5,o6,o7,o8,rfl,g1,f1⟩
  dsimp only
  walk_at "st"
  refine ⟨by omega,by omega, ?_⟩
  refine aV (f:=fun i=>D.int (i:Nat)) (ys:=List.range 3) (I:=fun l ρ M' acc=>(∃ o, ρ = [o,some (.tup [.int A0, .int A1, .int A2, .ref po]),some (.tup [.int B0, .int B1, .int B2, .ref pi])]) /\ M' = M1 /\ acc = [D.int (A0 * B0), .int (A1 * B1), .int (A2 * B2)].take l.length) bH ⟨⟨_,rfl⟩,rfl,rfl⟩ (fun _ _ _ _ _=>trivial) ?_ ?_
  ·rintro l3 i r3 ρ M4 acc e3 ⟨⟨o,rfl⟩,rfl,rfl⟩
   refine ⟨_,rfl,fun N' hN' => ?_⟩
   have hl3:=ar e3
   rw [List.length_range] at hl3
   have hi3:i = l3.length:=by
    have:=eO e3
    rw [List.getElem?_range hl3] at this
    exact (Option.some.inj this).symm
   subst hi3
   have hv:∃ a b:Int,atI [D.int A0, .int A1, .int A2, .ref po] (l3.length:Nat) = some (.int a) /\ atI [D.int B0, .int B1, .int B2, .ref pi] (l3.length:Nat) = some (.int b) /\ (1 <= a /\ a <= 9) /\ [D.int (A0 * B0), .int (A1 * B1), .int (A2 * B2)][l3.length]? = some (.int (a * b)):=by
    have:l3.length = 0 ∨ l3.length = 1 ∨ l3.length = 2:=by omega
    rcases this with h | h | h
    ·exact ⟨A0,B0,by rw [h];rfl,by rw [h];rfl,by omega,by rw [h];rfl⟩
    ·exact ⟨A1,B1,by rw [h];rfl,by rw [h];rfl,by omega,by rw [h];rfl⟩
    ·exact ⟨A2,B2,by rw [h];rfl,by rw [h];rfl,by omega,by rw [h];rfl⟩
   obtain ⟨a,b,ea,eb,sa,ek⟩:=hv
   walk_at "wp"
   refine ⟨_,ea,_,eb, ?_⟩
   walk_at "wp"
   refine ⟨cY (by omega),by rw [List.length_take,sizeLine_eq];omega,hN' _ _ _ ⟨⟨_,rfl⟩,rfl, ?_⟩⟩
   rw [List.length_append,List.length_singleton,List.take_succ,ek];rfl
  ·rintro ρ M4 acc ⟨⟨o,rfl⟩,rfl,rfl⟩ pt hpt
   refine ⟨_,_,rfl,ah ae,by rw [sizeLine_eq];first | decide | omega, .inr trivial,by rw [sizeLine_eq];simp, ?_⟩
   exact q f _ (g1.trans (Ge.new hpt)) hf ((Ge.new hpt) _ _ f1)
theorem fU {n:Nat} (hn : 2 <= n) {x0 x1 x2:D} {p:Addr} {ps:List Pr} {M:Mem} {Q:QD} (hp:M p = some (.lst (ps.map prD))) (hl:(aQ ps).length <= 1000000) (hF:∀ p ∈ ps,nX p)
 (q:∀ (L:List Tm) d M',IsSum ps L -> L.length <= 1000000 -> Ge M M' -> M d = none -> M' d = some (.dct true (L.map kcD)) -> Q (.ref d) M'):phi tab n 11 [.tup [x0,x1,x2, .ref p]] M Q :=
 vB (s:=af 13) (xs := "_law_scheme_here") (fz := 10) rfl (y4 (by omega)) (by omega) hp hl hF q
theorem fV {a b c:Nat}:∀ {ps:List Pr},(∀ p ∈ ps,p.1.length <= a /\ p.2.1.length <= b /\ p.2.2.length <= c) -> (aQ ps).length <= ps.length * (a * (b * c))
 | [],_=>by simp [aQ]
 | p :: ps,h=>by
   rw [show aQ (p :: ps) = du p ++ aQ ps by simp [aQ],List.length_append,List.length_cons,Nat.succ_mul]
   have h1:=fV (ps:=ps) fun q hq=>h q (by simp [hq])
   obtain ⟨x,y,z⟩:=h p (by simp)
   have h2:(du p).length <= a * (b * c):=by
    unfold du
    rw [fT]
    exact Nat.mul_le_mul (Nat.le_trans kD x) (Nat.mul_le_mul (Nat.le_trans kD y) (Nat.le_trans kD z))
   omega
theorem eV {l:List Int} (h:bn l):Big l:=fun x hx=>by have:=h x hx;omega
theorem kN {a b:List Int} (ha:bn a) (hb:bn b):Big (kr a b):=fun x hx=>by
 unfold kr at hx
 obtain ⟨u,hu,hx⟩:=List.mem_flatMap.mp hx
 obtain ⟨v,hv,rfl⟩:=List.mem_map.mp hx
 have h1:=ha u hu
 have h2:=hb v hv
 have:=qc (x:=u) (y:=v) h1 (by omega)
 have h3:(u * v).natAbs <= 1000 * 1000:=by rw [Int.natAbs_mul];exact Nat.mul_le_mul (by omega) (by omega)
 omega
theorem kP:∀ {N:Nat} {l:List Nat},l.Nodup -> (∀ x ∈ l,x < N) -> l.length <= N
 | 0,l,_,h=>by
  cases l with
  | nil=>simp
  | cons x l=>exact absurd (h x (by simp)) (by omega)
 | N + 1,l,hn,h=>by
   by_cases hm:N ∈ l
   ·have h1:=kP (N:=N) (l:=l.erase N) (hn.erase N) fun x hx=>by
     have h2:=(hn.mem_erase_iff).mp hx
     have:=h x h2.2
     have:=h2.1
     omega
    rw [List.length_erase_of_mem hm] at h1
    omega
   ·have:=kP (N:=N) hn fun x hx=>by
     have:=h x hx
     have:x ≠ N:=fun e=>hm (by rw [<- e];exact hx)
     omega
    omega
theorem vH {L0 L1 L2:Nat} {L:List Tm} (hn:(L.map (·.1)).Nodup) (h:∀ t ∈ L,(0 <= t.1.1 /\ t.1.1 < L2) /\ (0 <= t.1.2.1 /\ t.1.2.1 < L0) /\ (0 <= t.1.2.2 /\ t.1.2.2 < L1)) (h0:L0 <= 9) (h1:L1 <= 9) (h2:L2 <= 9):L.length <= 1000:=by
 have e:L.length = (L.map fun t=>(t.1.1 * 100 + t.1.2.1 * 10 + t.1.2.2).toNat).length:=by simp
 rw [e]
 refine kP ?_ fun x hx => ?_
 ·rw [List.nodup_iff_pairwise_ne,List.pairwise_map] at hn ⊢
  refine List.Pairwise.imp_of_mem ?_ hn
  intro a b ha hb hab z
  have:=h a ha
  have:=h b hb
  exact hab (Prod.ext (by omega) (Prod.ext (by omega) (by omega)))
 ·obtain ⟨t,ht,rfl⟩:=List.mem_map.mp hx
  have:=h t ht
  omega
noncomputable def inT (B0 B1 B2:Nat) (r u:Tm):Tm:=((r.1.1 * B2 + u.1.1,r.1.2.1 * B0 + u.1.2.1,r.1.2.2 * B1 + u.1.2.2),r.2 * u.2)
theorem oj {a b:Int} {m:Nat} (hm : 1 <= m) (h0 : 0 <= b) (h1:b < m):(a * m + b) / m = a:=by
 rw [Int.add_comm,Int.add_mul_ediv_right _ _ (by omega),Int.ediv_eq_zero_of_lt h0 h1];omega
theorem ol {a b:Int} {m:Nat} (hm : 1 <= m) (h0 : 0 <= b) (h1:b < m):(a * m + b) % m = b:=by
 rw [Int.add_comm,Int.add_mul_emod_self_right,Int.emod_eq_of_lt h0 h1]
theorem Sc.lens {L0 L1 L2:Nat} {ps:List Pr} (h:Sc L0 L1 L2 ps):∀ u ∈ ps,u.1.length = L0 /\ u.2.1.length = L1 /\ u.2.2.length = L2:=fun u hu=>⟨(h.ok u hu).l0,(h.ok u hu).l1,(h.ok u hu).l2⟩
theorem eW {L0 L1 L2:Nat} {ps:List Pr} {L:List Tm} (hs:Sc L0 L1 L2 ps) (h:IsSum ps L):∀ t ∈ L,(0 <= t.1.1 /\ t.1.1 < L2) /\ (0 <= t.1.2.1 /\ t.1.2.1 < L0) /\ (0 <= t.1.2.2 /\ t.1.2.2 < L1):=fun t ht =>
 qm hs.lens (by rw [h.val ht];exact h.nz t ht)
theorem mn {L0 L1 L2:Nat} {ps:List Pr} {L:List Tm} (hs:Sc L0 L1 L2 ps) (h:IsSum ps L):L.length <= 1000:=vH h.nd (eW hs h) hs.l0.2 hs.l1.2 hs.l2.2
structure WI (B0 B1 B2:Nat) (ps us:List Pr) (X:List (Tm × Tm)) (W:List Tm):Prop where
 nd:(W.map (·.1)).Nodup
 ok:∀ t ∈ W,t.2 = Tn (aJ ps us) t.1.1 t.1.2.1 t.1.2.2 /\ t.2 ≠ 0
 all:∀ x ∈ X,(inT B0 B1 B2 x.1 x.2).1 ∈ W.map (·.1)
 len:W.length <= X.length
theorem vI {A0 A1 A2 B0 B1 B2:Nat} {ps us:List Pr} {L1 L2:List Tm} (ha:Sc A0 A1 A2 ps) (hb:Sc B0 B1 B2 us) (h1:IsSum ps L1) (h2:IsSum us L2) {r u:Tm} (hr:r ∈ L1) (hu:u ∈ L2) :
 (inT B0 B1 B2 r u).2 = Tn (aJ ps us) (inT B0 B1 B2 r u).1.1 (inT B0 B1 B2 r u).1.2.1 (inT B0 B1 B2 r u).1.2.2 /\ (inT B0 B1 B2 r u).2 ≠ 0:=by
 obtain ⟨⟨k0,k1⟩,⟨i0,i1⟩,⟨j0,j1⟩⟩:=eW hb h2 u hu
 constructor
 ·rw [og hb.l0.1 hb.l1.1 hb.l2.1 hb.lens]
  unfold inT
  dsimp only
  rw [oj hb.l2.1 k0 k1,ol hb.l2.1 k0 k1,oj hb.l0.1 i0 i1,ol hb.l0.1 i0 i1,oj hb.l1.1 j0 j1,ol hb.l1.1 j0 j1,h1.val hr,h2.val hu]
 ·exact Int.mul_ne_zero (h1.nz r hr) (h2.nz u hu)
theorem kQ {L:List Tm} {k a:K3} {c:Int} (h:a ∈ L.map (·.1) ∨ a = k):a ∈ (cC L k c).map (·.1):=by
 unfold cC
 split
 ·next hk =>
  rw [List.map_map]
  have e:L.map ((fun x:Tm=>x.1) ∘ fun p=>if p.1 = k then (p.1,c) else p) = L.map (·.1):=List.map_congr_left fun p _=>by
   simp only [Function.comp];split <;> rfl
  rw [e]
  rcases h with h | rfl
  ·exact h
  ·obtain ⟨t,ht,e⟩:=List.any_eq_true.mp hk
   rw [<- of_decide_eq_true e];exact List.mem_map_of_mem ht
 ·rw [List.map_append]
  rcases h with h | rfl
  ·exact List.mem_append_left _ h
  ·exact List.mem_append_right _ (by simp)
theorem WI.put {A0 A1 A2 B0 B1 B2:Nat} {ps us:List Pr} {L1 L2:List Tm} (ha:Sc A0 A1 A2 ps) (hb:Sc B0 B1 B2 us) (h1:IsSum ps L1) (h2:IsSum us L2) {X:List (Tm × Tm)} {W:List Tm} (h:WI B0 B1 B2 ps us X W) {r u:Tm} (hr:r ∈ L1) (hu:u ∈ L2) :
 WI B0 B1 B2 ps us (X ++ [(r,u)]) (cC W (inT B0 B1 B2 r u).1 (inT B0 B1 B2 r u).2) where
 nd:=nV h.nd
 ok:=fun t ht=>by
  rcases sL ht with z | z
  ·exact h.ok t z
  ·rw [z];exact vI ha hb h1 h2 hr hu
 all:=fun x hx=>by
  rcases List.mem_append.mp hx with z | z
  ·exact kQ (.inl (h.all x z))
  ·have e:x = (r,u):=by simpa using z
   rw [e];exact kQ (.inr rfl)
 len:=by have:=sM (L:=W) (k:=(inT B0 B1 B2 r u).1) (c:=(inT B0 B1 B2 r u).2);have:=h.len;simp;omega
theorem WI.done {A0 A1 A2 B0 B1 B2:Nat} {ps us:List Pr} {L1 L2 Lf:List Tm} (ha:Sc A0 A1 A2 ps) (hb:Sc B0 B1 B2 us) (h1:IsSum ps L1) (h2:IsSum us L2) (hf:IsSum (aJ ps us) Lf) {X:List (Tm × Tm)} {W:List Tm} (h:WI B0 B1 B2 ps us X W) (hX:∀ r ∈ L1, ∀ u ∈ L2,(r,u) ∈ X):Lf.Perm W:=by
 refine (List.perm_ext_iff_of_nodup (tP hf.nd) (tP h.nd)).mpr fun t=>⟨fun ht => ?_,fun ht => ?_⟩
 ·have hv:=hf.val ht
  have hz:=hf.nz t ht
  rw [og hb.l0.1 hb.l1.1 hb.l2.1 hb.lens] at hv
  have z1:Tn ps (t.1.1 / B2) (t.1.2.1 / B0) (t.1.2.2 / B1) ≠ 0:=fun e=>hz (by rw [<- hv,e];simp)
  have z2:Tn us (t.1.1 % B2) (t.1.2.1 % B0) (t.1.2.2 % B1) ≠ 0:=fun e=>hz (by rw [<- hv,e];simp)
  have hw:=h.all _ (hX _ (h1.mem z1) _ (h2.mem z2))
  have ek:(inT B0 B1 B2 ((t.1.1 / B2,t.1.2.1 / B0,t.1.2.2 / B1),Tn ps (t.1.1 / B2) (t.1.2.1 / B0) (t.1.2.2 / B1)) ((t.1.1 % B2,t.1.2.1 % B0,t.1.2.2 % B1),Tn us (t.1.1 % B2) (t.1.2.1 % B0) (t.1.2.2 % B1))).1 = t.1:=by
   unfold inT
   dsimp only
   rw [Int.ediv_mul_add_emod,Int.ediv_mul_add_emod,Int.ediv_mul_add_emod]
  rw [ek] at hw
  obtain ⟨w,hw,e⟩:=List.mem_map.mp hw
  have:=(h.ok w hw).1
  rw [e,hf.val ht] at this
  have e2:w = t:=Prod.ext e this
  rw [<- e2];exact hw
 ·obtain ⟨e,z⟩:=h.ok t ht
  have:=hf.mem (by rw [<- e];exact z)
  rw [<- e] at this
  exact this
theorem Sc.fine {L0 L1 L2:Nat} {ps:List Pr} (h:Sc L0 L1 L2 ps):∀ p ∈ ps,nX p:=fun p hp=>by
 have o:=h.ok p hp
 have:=o.l0;have:=o.l1;have:=o.l2;have:=h.l0;have:=h.l1;have:=h.l2
 exact ⟨eV o.s0,eV o.s1,eV o.s2,by omega,by omega,by omega⟩
theorem Sc.raw {L0 L1 L2:Nat} {ps:List Pr} (h:Sc L0 L1 L2 ps):(aQ ps).length <= 1000000:=by
 have h1:=fV (a := 9) (b := 9) (c := 9) (ps:=ps) fun p hp=>by
  have o:=h.ok p hp
  have:=o.l0;have:=o.l1;have:=o.l2;have:=h.l0;have:=h.l1;have:=h.l2
  omega
 have:=h.len
 omega
theorem qp {ps us:List Pr} {t:Pr} (h:t ∈ aJ ps us):∃ p ∈ ps, ∃ u ∈ us,t = krP p u:=by
 obtain ⟨p,hp,h⟩:=List.mem_flatMap.mp h
 obtain ⟨u,hu,rfl⟩:=List.mem_map.mp h
 exact ⟨p,hp,u,hu,rfl⟩
theorem mq {A0 A1 A2 B0 B1 B2:Nat} {ps us:List Pr} (ha:Sc A0 A1 A2 ps) (hb:Sc B0 B1 B2 us) (h0:A0 * B0 <= 16) (h1:A1 * B1 <= 16) (h2:A2 * B2 <= 16):∀ t ∈ aJ ps us,nX t /\ t.1.length <= 16 /\ t.2.1.length <= 16 /\ t.2.2.length <= 16:=fun t ht=>by
 obtain ⟨p,hp,u,hu,rfl⟩:=qp ht
 have o:=ha.ok p hp
 have r:=hb.ok u hu
 have e0:(krP p u).1.length <= 16:=by show (kr p.1 u.1).length <= 16;rw [bS,o.l0,r.l0];exact h0
 have e1:(krP p u).2.1.length <= 16:=by show (kr p.2.1 u.2.1).length <= 16;rw [bS,o.l1,r.l1];exact h1
 have e2:(krP p u).2.2.length <= 16:=by show (kr p.2.2 u.2.2).length <= 16;rw [bS,o.l2,r.l2];exact h2
 exact ⟨⟨kN o.s0 r.s0,kN o.s1 r.s1,kN o.s2 r.s2,by omega,by omega,by omega⟩,e0,e1,e2⟩
theorem vJ {i:Nat} {t:TSd} {A:aW} {ρ:al} {M:Mem} {a:Addr} {kvs:List (D × D)} (e : ρ[i]? = some (some (.ref a))) (m:M a = some (.dct true kvs) ∨ M a = some (.fdc kvs)) (h:∀ M',M' a = some (.fdc kvs) -> Od a M M' -> t A ρ M'):i4 i t A ρ M:=by
 rcases m with m | m
 ·exact i6 e m (h _ ae Od.refl.upd)
 ·exact vp e m (h _ m Od.refl)
theorem ze {d:Addr} {M M' M'':Mem} (g:Ge M M') (h:M d = none) (o:Od d M' M''):Ge M M'':=fun a u e=>by
 rw [o a (fun z=>by rw [z,h] at e;cases e)];exact g _ _ e
theorem iP {L2:List Tm}:∀ {l:List Tm},(l.flatMap fun r=>L2.map fun u=>(r,u)).length = l.length * L2.length
 | [] => by simp
 | x :: l=>by rw [List.flatMap_cons,List.length_append,iP,List.length_map,List.length_cons,Nat.succ_mul];omega
theorem fW {l:List Int} (h:bn l) {i:Int}:(gz l i).natAbs <= 1000:=by
 by_cases z:gz l i = 0
 ·rw [z];simp
 ·obtain ⟨h0,h1⟩:=eU z
  obtain ⟨n,rfl⟩:∃ n:Nat,i = n:=⟨i.toNat,by omega⟩
  have:=h _ (List.mem_of_getElem? (gS (l:=l) (n:=n) (by omega)))
  omega
theorem kR {k i j:Int}:∀ {ps:List Pr},(∀ p ∈ ps,bn p.1 /\ bn p.2.1 /\ bn p.2.2) -> (Tn ps k i j).natAbs <= ps.length * 1000000000
 | [],_=>by simp [Tn]
 | p :: ps,h=>by
   obtain ⟨a,b,c⟩:=h p (by simp)
   have ih:=kR (k:=k) (i:=i) (j:=j) (ps:=ps) fun q hq=>h q (by simp [hq])
   rw [dG,List.length_cons,Nat.succ_mul]
   have h1:(gz p.1 i * gz p.2.1 j * gz p.2.2 k).natAbs <= 1000 * 1000 * 1000:=by
    rw [Int.natAbs_mul,Int.natAbs_mul]
    exact Nat.mul_le_mul (Nat.mul_le_mul (fW a) (fW b)) (fW c)
   have:=Int.natAbs_add_le (gz p.1 i * gz p.2.1 j * gz p.2.2 k) (Tn ps k i j)
   omega
theorem mv {L:List Tm}:∀ kv ∈ L.map kcD, ∃ i,kv.2 = .int i:=fun kv h=>by
 obtain ⟨t,_,rfl⟩:=List.mem_map.mp h
 exact ⟨t.2,rfl⟩
theorem sW {n:Nat} (hn : 3 <= n) {A0 A1 A2 B0 B1 B2:Nat} {ps us:List Pr} (ha:Sc A0 A1 A2 ps) (hb:Sc B0 B1 B2 us) (h0:A0 * B0 <= 16) (h1:A1 * B1 <= 16) (h2:A2 * B2 <= 16) (hk:(aJ ps us).length <= 25) {po pi pf:Addr} {M:Mem} {Q:QD} {y0 y1 y2:D} (ho:M po = some (.lst (ps.map prD))) (hi:M pi = some (.lst (us.map prD))) (hf:M pf = some (.lst ((aJ ps us).map prD)))
 (q:∀ M',Ge M M' -> Q (.bl true) M') :
 phi tab n 14 [.tup [y0,y1,y2, .ref pf], .tup [.int A0, .int A1, .int A2, .ref po], .tup [.int B0, .int B1, .int B2, .ref pi]] M Q:=by
 refine aF (by omega) rfl rfl (ρ := [some _,some _,some _,none,none,none,none,none,none,none,none,none,none]) rfl ?_
 unfold d14 b14
 walk_at "st"
 refine fU (by omega) ho ha.raw ha.fine fun L1 d1 M1 s1 _ g1 hd1 e1 => ?_
 refine fU (by omega) (g1 _ _ hi) hb.raw hb.fine fun L2 d2 M2 s2 _ g2 hd2 e2 => ?_
 have h12:d1 ≠ d2:=fun z=>by rw [z,hd2] at e1;cases e1
 have e1:=g2 _ _ e1
 have hM2:M d2 = none:=by
  cases hz:M d2 with
  | none=>rfl
  | some o=>rw [g1 _ _ hz] at hd2;cases hd2
 have g2:=g1.trans g2
 clear g1 hd2
 walk_at "st"
 intro w hw
 have hw1:d1 ≠ w:=fun z=>by rw [z,hw] at e1;cases e1
 have hw2:d2 ≠ w:=fun z=>by rw [z,hw] at e2;cases e2
 have hMw:M w = none:=by
  cases hz:M w with
  | none=>rfl
  | some o=>rw [g2 _ _ hz] at hw;cases hw
 have gw:=Ge.new (o := .dct true []) hw
 have e1:=gw _ _ e1
 have e2:=gw _ _ e2
 have w3:=ae (M:=M2) (a:=w) (o := .dct true [])
 have g3:=g2.trans gw
 generalize ak M2 w (.dct true []) = M3 at e1 e2 w3 g3 ⊢
 clear gw g2 hw
 walk_at "st"
 refine i6 rfl e1 ?_
 have f1:=ae (M:=M3) (a:=d1) (o := .fdc (L1.map kcD))
 have e2:=(am (M:=M3) (o := .fdc (L1.map kcD)) h12.symm).trans e2
 have w3:=(am (M:=M3) (o := .fdc (L1.map kcD)) hw1.symm).trans w3
 have g3:Ge M (ak M3 d1 (.fdc (L1.map kcD))):=g3.upd hd1
 generalize ak M3 d1 (.fdc (L1.map kcD)) = M4 at f1 e2 w3 g3 ⊢
 clear e1
 have l1:=mn ha s1
 have l2:=mn hb s2
 have:=hb.l0;have:=hb.l1;have:=hb.l2
 walk_at "wp"
 refine ⟨_,f1, ?_⟩
 refine bj (f:=fun t:Tm=>k3D t.1) (ys:=L1) (I:=fun l ρ M' => ∃ W o6 o7 o8 o9 o10 o11 o12, ρ = [some (.tup [y0,y1,y2, .ref pf]),some (.tup [.int A0, .int A1, .int A2, .ref po]),some (.tup [.int B0, .int B1, .int B2, .ref pi]),some (.ref d1),some (.ref d2),some (.ref w),o6,o7,o8,o9,o10,o11,o12] /\ Ge M M' /\ M' d1 = some (.fdc (L1.map kcD)) /\ (M' d2 = some (.dct true (L2.map kcD)) ∨ M' d2 = some (.fdc (L2.map kcD))) /\ M' w = some (.dct true (W.map kcD)) /\ WI B0 B1 B2 ps us (l.flatMap fun r=>L2.map fun u=>(r,u)) W) (by rw [List.map_map];rfl) ⟨[],_,_,_,_,_,_,_,rfl,g3,f1, .inl e2,w3,⟨by simp,fun _ h=>by simp at h,fun _ h=>by simp at h,by simp⟩⟩ (fun _ _ _ _=>by first | rfl | trivial) ?_ ?_
 ·rintro l r rr ρ M5 e ⟨W,o6,o7,o8,o9,o10,o11,o12,rfl,g5,f5,e5,w5,hW⟩
  refine ⟨_,rfl,fun F hF => ?_⟩
  have hr:r ∈ L1:=by rw [e];simp
  have hlt:=ar e
  have hmul:l.length * L2.length <= 1000 * 1000:=Nat.mul_le_mul (by omega) l2
  rw [cr]
  walk_at "wp"
  refine vJ rfl e5 fun M6 f6 k6 => ?_
  have d6:=(k6 d1 h12).trans f5
  have w6:=(k6 w hw2.symm).trans w5
  have g6:=ze g5 hM2 k6
  clear e5 f5 w5 g5 k6
  walk_at "wp"
  refine ⟨_,f6, ?_⟩
  refine bj (f:=fun t:Tm=>k3D t.1) (ys:=L2) (I:=fun l' ρ M' => ∃ W o9 o10 o11 o12, ρ = [some (.tup [y0,y1,y2, .ref pf]),some (.tup [.int A0, .int A1, .int A2, .ref po]),some (.tup [.int B0, .int B1, .int B2, .ref pi]),some (.ref d1),some (.ref d2),some (.ref w),some (.int r.1.1),some (.int r.1.2.1),some (.int r.1.2.2),o9,o10,o11,o12] /\ Ge M M' /\ M' d1 = some (.fdc (L1.map kcD)) /\ M' d2 = some (.fdc (L2.map kcD)) /\ M' w = some (.dct true (W.map kcD)) /\ WI B0 B1 B2 ps us ((l.flatMap fun r=>L2.map fun u=>(r,u)) ++ l'.map fun u=>(r,u)) W) (by rw [List.map_map];rfl) ⟨W,_,_,_,_,rfl,g6,d6,f6,w6,by simpa using hW⟩ (fun _ _ _ _=>by first | rfl | trivial) ?_ ?_
  ·rintro l' u rr' ρ M7 e' ⟨W,o9,o10,o11,o12,rfl,g7,d7,f7,w7,hW⟩
   refine ⟨_,rfl,fun F' hF' => ?_⟩
   have hu:u ∈ L2:=by rw [e'];simp
   have hlt':=ar e'
   have ru:=eW ha s1 r hr
   have:=ha.l0;have:=ha.l1;have:=ha.l2
   have hWl:W.length <= 2000000:=by
    have h3:=hW.len
    rw [List.length_append,iP,List.length_map] at h3
    omega
   have hr2:r.2.natAbs <= 20 * 1000000000:=by
    rw [<- s1.val hr]
    exact Nat.le_trans (kR fun p hp=>⟨(ha.ok p hp).s0,(ha.ok p hp).s1,(ha.ok p hp).s2⟩) (Nat.mul_le_mul_right _ ha.len)
   walk_at "st"
   refine ⟨_,rfl, ?_⟩
   walk_at "wp"
   refine ⟨dZ (by omega),_,rfl, ?_⟩
   walk_at "wp"
   refine ⟨dZ (by omega),_,rfl, ?_⟩
   walk_at "wp"
   refine ⟨dZ (by omega),by rw [sizeLine_eq];first | decide | omega, ?_⟩
   walk_at "st"
   refine ⟨by rw [sizeLine_eq];first | decide | omega, ?_⟩
   rw [show D.tup [.int r.1.1, .int r.1.2.1, .int r.1.2.2] = k3D r.1 from rfl]
   refine gN d7 (fx _) (dc s1.nd hr) ?_
   refine ⟨by rw [sizeLine_eq];first | decide | omega, ?_⟩
   rw [show D.tup [.int u.1.1, .int u.1.2.1, .int u.1.2.2] = k3D u.1 from rfl]
   refine gN f7 (fx _) (dc s2.nd hu) ?_
   walk_at "wp"
   refine ⟨cY (by omega), ?_⟩
   have ek:D.tup [.int (r.1.1 * B2 + u.1.1), .int (r.1.2.1 * B0 + u.1.2.1), .int (r.1.2.2 * B1 + u.1.2.2)] = k3D (inT B0 B1 B2 r u).1:=rfl
   rw [ek]
   refine km w7 (fx (inT B0 B1 B2 r u).1) (by rw [List.length_map,sizeLine_eq];omega) ?_
   rw [show D.int (r.2 * u.2) = .int (inT B0 B1 B2 r u).2 from rfl,kC]
   refine hF' _ _ ⟨_,_,_,_,_,rfl,g7.upd hMw,(am hw1).trans d7,(am hw2).trans f7,ae, ?_⟩
   rw [List.map_append, <- List.append_assoc]
   exact hW.put ha hb s1 s2 hr hu
  ·rintro ρ M7 ⟨W,o9,o10,o11,o12,rfl,g7,d7,f7,w7,hW⟩
   dsimp only
   walk_at "wp"
   exact hF _ _ ⟨W,_,_,_,_,_,_,_,rfl,g7,d7, .inr f7,w7,by simpa using hW⟩
 ·rintro ρ M5 ⟨W,o6,o7,o8,o9,o10,o11,o12,rfl,g5,f5,e5,w5,hW⟩
  dsimp only
  walk_at "st"
  refine fU (by omega) (g5 _ _ hf) ?_ (fun t ht=>(mq ha hb h0 h1 h2 t ht).1) fun Lf df M6 sf _ g6 hdf ef => ?_
  ·have:=fV (a := 16) (b := 16) (c := 16) fun t ht=>(mq ha hb h0 h1 h2 t ht).2
   omega
  refine ⟨df,w,_,_,rfl,rfl,⟨.inl ef,mv⟩,⟨.inl (g6 _ _ w5),mv⟩, ?_⟩
  rw [sQ hW.nd (hW.done ha hb s1 s2 sf fun r hr u hu=>List.mem_flatMap.mpr ⟨r,hr,List.mem_map_of_mem hu⟩)]
  exact q _ (g5.trans g6)
structure H5 (po pi pk p1 p2 pd:Addr) (ps us:List Pr) (M:Mem):Prop where
 o:M po = some (.lst (ps.map prD))
 i:M pi = some (.lst (us.map prD))
 k:M pk = some (.lst [.ref p1, .ref p2])
 a:M p1 = some (.lst (ps.map prD))
 b:M p2 = some (.lst (us.map prD))
 d:M pd = some (.lst ((aJ ps us).map prD))
theorem H5.ge {po pi pk p1 p2 pd:Addr} {ps us:List Pr} {M M':Mem} (h:H5 po pi pk p1 p2 pd ps us M) (g:Ge M M'):H5 po pi pk p1 p2 pd ps us M':=⟨g _ _ h.o,g _ _ h.i,g _ _ h.k,g _ _ h.a,g _ _ h.b,g _ _ h.d⟩
theorem H5.upd {po pi pk p1 p2 pd pf:Addr} {ps us:List Pr} {M M':Mem} {o:O} (h:H5 po pi pk p1 p2 pd ps us M) (h':H5 po pi pk p1 p2 pd ps us M') (n:M pf = none):H5 po pi pk p1 p2 pd ps us (ak M' pf o):=by
 have ne:∀ {a:Addr} {u:O},M a = some u -> a ≠ pf:=fun e z=>by rw [z,n] at e;cases e
 exact ⟨(am (ne h.o)).trans h'.o,(am (ne h.i)).trans h'.i,(am (ne h.k)).trans h'.k,(am (ne h.a)).trans h'.a,(am (ne h.b)).trans h'.b,(am (ne h.d)).trans h'.d⟩
theorem eX {M:Mem} {n:Nat} {l:List Int} (hl:l.length <= 100000):Sm M (n + 1) (.tup (l.map .int)) (.tup (l.map .int)):=by
 refine ⟨by rw [List.length_map];exact hl,rfl,fun k d e h1 h2 => ?_⟩
 rw [h1] at h2;cases h2
 rw [List.getElem?_map] at h1
 obtain ⟨i,_,rfl⟩:=Option.map_eq_some_iff.mp h1
 exact Sm.int
theorem vK {M:Mem} {p:Pr} (h:p.1.length <= 100000 /\ p.2.1.length <= 100000 /\ p.2.2.length <= 100000):Sm M 2 (prD p) (prD p):=by
 refine ⟨by simp,rfl,fun k d e h1 h2 => ?_⟩
 rw [h1] at h2;cases h2
 have hm:=List.mem_of_getElem? h1
 simp only [List.mem_cons,List.not_mem_nil,or_false] at hm
 rcases hm with rfl | rfl | rfl
 ·exact eX h.1
 ·exact eX h.2.1
 ·exact eX h.2.2
theorem vL {M:Mem} {x y z:Int} {a b:Addr} {qs:List Pr} (hl:qs.length <= 100000) (ha:M a = some (.lst (qs.map prD))) (hb:M b = some (.lst (qs.map prD))) (h:∀ p ∈ qs,p.1.length <= 100000 /\ p.2.1.length <= 100000 /\ p.2.2.length <= 100000) :
 Sm M 4 (.tup [.int x, .int y, .int z, .ref a]) (.tup [.int x, .int y, .int z, .ref b]):=by
 refine ⟨by simp,rfl,fun k d e h1 h2 => ?_⟩
 have:k = 0 ∨ k = 1 ∨ k = 2 ∨ k = 3:=by
  have:=(List.getElem?_eq_some_iff.mp h1).1
  simp at this;omega
 rcases this with rfl | rfl | rfl | rfl
 ·cases h1;cases h2;exact Sm.int
 ·cases h1;cases h2;exact Sm.int
 ·cases h1;cases h2;exact Sm.int
 ·cases h1;cases h2
  refine ⟨_,_,ha,hb,by rw [List.length_map];exact hl,rfl,fun k d e h1 h2 => ?_⟩
  rw [h1] at h2;cases h2
  rw [List.getElem?_map] at h1
  obtain ⟨p,hp,rfl⟩:=Option.map_eq_some_iff.mp h1
  exact vK (h p (List.mem_of_getElem? hp))
theorem vM {A0 A1 A2 B0 B1 B2:Nat} {ps us:List Pr} (ha:Sc A0 A1 A2 ps) (hb:Sc B0 B1 B2 us):∀ t ∈ aJ ps us,t.1.length <= 100000 /\ t.2.1.length <= 100000 /\ t.2.2.length <= 100000:=fun t ht=>by
 obtain ⟨p,hp,u,hu,rfl⟩:=qp ht
 have o:=ha.ok p hp
 have r:=hb.ok u hu
 have m0:A0 * B0 <= 9 * 9:=Nat.mul_le_mul ha.l0.2 hb.l0.2
 have m1:A1 * B1 <= 9 * 9:=Nat.mul_le_mul ha.l1.2 hb.l1.2
 have m2:A2 * B2 <= 9 * 9:=Nat.mul_le_mul ha.l2.2 hb.l2.2
 refine ⟨?_, ?_, ?_⟩
 ·show (kr p.1 u.1).length <= _;rw [bS,o.l0,r.l0];omega
 ·show (kr p.2.1 u.2.1).length <= _;rw [bS,o.l1,r.l1];omega
 ·show (kr p.2.2 u.2.2).length <= _;rw [bS,o.l2,r.l2];omega
theorem qq {M:Mem} {p a b:Addr} {ps us:List Pr} (h:M p = some (.lst [.ref a, .ref b])) (ha:M a = some (.lst (ps.map prD))) (hb:M b = some (.lst (us.map prD))):rb 16 M (.ref p) = some (.list [.list (ps.map cm), .list (us.map cm)]):=by
 have e1:rb 15 M (.ref a) = some (.list (ps.map cm)):=by rw [eQ ha,gO];rfl
 have e2:rb 15 M (.ref b) = some (.list (us.map cm)):=by rw [eQ hb,gO];rfl
 rw [eQ h]
 simp [aG,e1,e2]
theorem kS:∀ ns:List Int,PyData.eqvAll (ns.map .int) (ns.map .int) = true
 | [] => rfl
 | n :: ns=>by simp [PyData.eqvAll,PyData.eqv,kS ns]
theorem mw:∀ ps:List Pr,PyData.eqvAll (ps.map cm) (ps.map cm) = true
 | [] => rfl
 | p :: ps=>by simp [PyData.eqvAll,PyData.eqv,mw ps,cm,kS]
theorem vN {ps us:List Pr}:PyData.eqv (.list [.list (ps.map cm), .list (us.map cm)]) (.list [.list (ps.map cm), .list (us.map cm)]) = true:=by
 simp [PyData.eqv,PyData.eqvAll,mw]
theorem y8 {a b c d:D} {M:Mem} {Q:QD} (q:Q (.tup [a,b,c]) M):gu (.tup [a,b,c,d]) none (some 3) M Q:=⟨fun h=>by have:=h.2;simp [HT.sIx] at this,q⟩
theorem law_holds (ns:List Int) (hl:ns.length <= 63):phi tab 40 15 [.con (ns.map D.int)] (fun _=>none) fun d _=>d = .bl true:=by
 refine aF (by omega) rfl rfl (ρ := [some _,none,none,none,none,none,none,none,none]) rfl ?_
 unfold d15 b15
 walk_at "st"
 rw [List.length_map]
 refine ⟨by split <;> omega,by split <;> omega, ?_⟩
 refine bj (I:=fun l ρ M' => ∃ o1 o2 o3 o4 o5 o6 o7 o8, ρ = [some (.con (ns.map D.int)),o1,o2,o3,o4,o5,o6,o7,o8]) bH ⟨_,_,_,_,_,_,_,_,rfl⟩ (fun _ _ _ hI=>trivial) ?_ ?_
 ·rintro l k r ρ M8 e ⟨o1,o2,o3,o4,o5,o6,o7,o8,rfl⟩
  refine ⟨_,rfl,fun F hF => ?_⟩
  walk_at "st"
  refine xW (s:=af 6) (fc := 2) (fm := 3) (sc:=af 4) rfl rfl (mm (by omega)) (by omega) (by omega) fun p x y hp => ?_
  walk_at "st"
  refine kM (by omega) ⟨_,_,_,ae⟩ fun A0 A1 A2 ps po M1 ha x1 npo mpo eo => ?_
  refine kM (by omega) x1.box fun B0 B1 B2 us pi M2 hb x2 npi mpi ei => ?_
  have eo:=x2.keep po _ npo eo
  clear x1 x2
  have hla:=ha.len
  have hlb:=hb.len
  walk_at "st"
  refine ⟨_,rfl,_,_,rfl,ah eo,fun p1 h1 => ?_⟩
  have g1:=Ge.new (o := .lst (ps.map prD)) h1
  have e1:=ae (M:=M2) (a:=p1) (o := .lst (ps.map prD))
  generalize ak M2 p1 (.lst (ps.map prD)) = M3 at g1 e1 ⊢
  have eo:=g1 _ _ eo
  have ei:=g1 _ _ ei
  refine ⟨_,rfl,_,_,rfl,ah ei,fun p2 h2 => ?_⟩
  have g2:=Ge.new (o := .lst (us.map prD)) h2
  have e2:=ae (M:=M3) (a:=p2) (o := .lst (us.map prD))
  generalize ak M3 p2 (.lst (us.map prD)) = M4 at g2 e2 ⊢
  have eo:=g2 _ _ eo
  have ei:=g2 _ _ ei
  have e1:=g2 _ _ e1
  refine ⟨by rw [sizeLine_eq];first | decide | omega,fun pk hk => ?_⟩
  have g3:=Ge.new (o := .lst [.ref p1, .ref p2]) hk
  have ek:=ae (M:=M4) (a:=pk) (o := .lst [.ref p1, .ref p2])
  generalize ak M4 pk (.lst [.ref p1, .ref p2]) = M5 at g3 ek ⊢
  have eo:=g3 _ _ eo
  have ei:=g3 _ _ ei
  have e1:=g3 _ _ e1
  have e2:=g3 _ _ e2
  clear g1 g2 g3 h1 h2 hk
  walk_at "st"
  refine y7 (by omega) ha hb eo ei fun pd M6 g6 npd ed => ?_
  have h6:H5 po pi pk p1 p2 pd ps us M6:=⟨g6 _ _ eo,g6 _ _ ei,g6 _ _ ek,g6 _ _ e1,g6 _ _ e2,ed⟩
  clear eo ei ek e1 e2 ed g6
  have hkl:(aJ ps us).length <= 20 * 20:=by rw [e9];exact Nat.mul_le_mul hla hlb
  walk_at "st"
  refine ⟨by omega,by omega, ?_⟩
  refine bj (I:=fun l2 ρ M'=>(∃ o7 o8, ρ = [some (.con (ns.map D.int)),some (.int (k:Nat)),some (.ref p),some (.tup [.int A0, .int A1, .int A2, .ref po]),some (.tup [.int B0, .int B1, .int B2, .ref pi]),some (.ref pk),some (.tup [.int (A0 * B0), .int (A1 * B1), .int (A2 * B2), .ref pd]),o7,o8]) /\ H5 po pi pk p1 p2 pd ps us M') bH ⟨⟨_,_,rfl⟩,h6⟩ (fun _ _ _ _=>trivial) ?_ ?_
  ·rintro l2 j r2 ρ M7 e2 ⟨⟨o7,o8,rfl⟩,h7⟩
   refine ⟨_,rfl,fun F2 hF2 => ?_⟩
   walk_at "st"
   refine qo (by omega) ha hb h7.o h7.i fun pf Ma g nf ef => ?_
   have h8:=h7.ge g
   walk_at "st"
   refine sU (n := 4) (by omega) (vL (by omega) ef h8.d (vM ha hb)) fun Mb g2 => ?_
   have h9:=h8.ge g2
   have ef:=g2 _ _ ef
   refine ⟨true,rfl, ?_⟩
   rw [if_neg (by decide)]
   walk_at "st"
   refine ⟨_,rfl,⟨_,rfl,_,ef⟩,by rw [sizeLine_eq];first | decide | omega,pf,_,_,rfl,rfl,ef,by rw [List.length_map,sizeLine_eq];omega, ?_⟩
   exact hF2 _ _ ⟨⟨_,_,rfl⟩,h7.upd h9 nf⟩
  ·rintro ρ M7 ⟨⟨o7,o8,rfl⟩,h7⟩
   refine fS (fun ρ M' => ρ = [some (.con (ns.map D.int)),some (.int (k:Nat)),some (.ref p),some (.tup [.int A0, .int A1, .int A2, .ref po]),some (.tup [.int B0, .int B1, .int B2, .ref pi]),some (.ref pk),some (.tup [.int (A0 * B0), .int (A1 * B1), .int (A2 * B2), .ref pd]),o7,o8] /\ H5 po pi pk p1 p2 pd ps us M') (fun R hR => ?_) ?_
   ·walk_at "wp"
    refine ⟨_,rfl,fu (ah h7.d) ?_⟩
    walk_at "wp"
    rw [List.length_map]
    by_cases c1:(aJ ps us).length < 26
    ·rw [if_pos (by first | omega | (simp;omega))]
     refine y8 ⟨[(A0 * B0:Int),(A1 * B1:Int),(A2 * B2:Int)],rfl,by simp,fun m hm hmax => ?_⟩
     walk_at "wp"
     by_cases c2:m < 17
     ·rw [if_pos (by simpa using c2)]
      have m0:=hmax (A0 * B0:Int) (by simp)
      have m1:=hmax (A1 * B1:Int) (by simp)
      have m2:=hmax (A2 * B2:Int) (by simp)
      rw [<- Int.natCast_mul] at m0 m1 m2
      refine sW (by omega) ha hb (by omega) (by omega) (by omega) (by omega) h7.o h7.i h7.d fun M9 g9=>⟨true,rfl, ?_⟩
      rw [if_neg (by decide)]
      exact hR _ _ ⟨rfl,h7.ge g9⟩
     ·rw [if_neg (by simpa using c2)]
      exact hR _ _ ⟨rfl,h7⟩
    ·rw [if_neg (by first | omega | (simp;omega))]
     exact hR _ _ ⟨rfl,h7⟩
   ·rintro ρ M9 ⟨rfl,h9⟩
    walk_at "st"
    refine ⟨_,rfl,_,rfl,by rw [sizeLine_eq];first | decide | omega,fun pz hz => ?_⟩
    have gz:=Ge.new (o := .lst [.ref po, .ref pi]) hz
    have h10:=h9.ge gz
    refine ⟨_,_,qq ae h10.o h10.i,qq h10.k h10.a h10.b, ?_⟩
    rw [vN]
    refine ⟨_,rfl, ?_⟩
    rw [if_neg (by decide)]
    exact hF _ _ ⟨_,_,_,_,_,_,_,_,rfl⟩
 ·rintro ρ M8 ⟨o1,o2,o3,o4,o5,o6,o7,o8,rfl⟩
  dsimp only
  walk_at "st"
end K16
end
end Mi
end L2
open PySem.W in
set_option maxRecDepth 100000 in
set_option maxHeartbeats 0 in
theorem PySem.Challenge.cw_fewtimes_k16_schemes_within_holds : PySem.Challenge.rw_fewtimes_k16_schemes_within.Holds := by
 w_on;o_law;k_head;(case hw=>w_witness2)
 k_fill
 refine L2.Mi.K16.walk (l:=PySem.Challenge.rw_fewtimes_k16_schemes_within) rfl rfl L2.Mi.K16.law_holds (fun w h Y=>PySem.W.kIn_of Y) ?F
 case F =>
  intro w mg fa h KX G hmg
  refine' L2.Mi.K16.all_mk KX G hmg ?a0 ?l0 ?c0 ?k0 ?a1 ?l1 ?c1 ?k1 ?a2 ?l2 ?c2 ?k2 ?a3 ?l3 ?c3 ?k3 ?a4 ?l4 ?c4 ?k4 ?a5 ?l5 ?c5 ?k5 ?a6 ?l6 ?c6 ?k6 ?a7 ?l7 ?c7 ?k7 ?a8 ?l8 ?c8 ?k8 ?a9 ?l9 ?c9 ?k9 ?a10 ?l10 ?c10 ?k10 ?a11 ?l11 ?c11 ?k11 ?a12 ?l12 ?c12 ?k12 ?a13 ?l13 ?c13 ?k13 ?a14 ?l14 ?c14 ?k14 ?a15 ?l15 ?c15 ?k15 ?z0 ?z1 ?z2 ?z3 ?z4 ?z5 ?z6 ?z7 ?z8 ?z9 ?z10 ?z11 ?z12 ?z13 ?z14 ?z15 ?z16 ?z17 ?z18 ?z19
  (case a0=>k_is)
  (case l0=>k_is)
  (case c0=>k_is)
  (case k0=>k_is)
  (case a1=>k_is)
  (case l1=>k_is)
  (case c1=>k_is)
  (case k1=>k_is)
  (case a2=>k_is)
  (case l2=>k_is)
  (case c2=>k_is)
  (case k2=>k_is)
  (case a3=>k_is)
  (case l3=>k_is)
  (case c3=>k_is)
  (case k3=>k_is)
  (case a4=>k_is)
  (case l4=>k_is)
  (case c4=>k_is)
  (case k4=>k_is)
  (case a5=>k_is)
  (case l5=>k_is)
  (case c5=>k_is)
  (case k5=>k_is)
  (case a6=>k_is)
  (case l6=>k_is)
  (case c6=>k_is)
  (case k6=>k_is)
  (case a7=>k_is)
  (case l7=>k_is)
  (case c7=>k_is)
  (case k7=>k_is)
  (case a8=>k_is)
  (case l8=>k_is)
  (case c8=>k_is)
  (case k8=>k_is)
  (case a9=>k_is)
  (case l9=>k_is)
  (case c9=>k_is)
  (case k9=>k_is)
  (case a10=>k_is)
  (case l10=>k_is)
  (case c10=>k_is)
  (case k10=>k_is)
  (case a11=>k_is)
  (case l11=>k_is)
  (case c11=>k_is)
  (case k11=>k_is)
  (case a12=>k_is)
  (case l12=>k_is)
  (case c12=>k_is)
  (case k12=>k_is)
  (case a13=>k_is)
  (case l13=>k_is)
  (case c13=>k_is)
  (case k13=>k_is)
  (case a14=>k_is)
  (case l14=>k_is)
  (case c14=>k_is)
  (case k14=>k_is)
  (case a15=>k_is)
  (case l15=>k_is)
  (case c15=>k_is)
  (case k15=>k_is)
  (case z0=>k_is)
  (case z1=>k_is)
  (case z2=>k_is)
  (case z3=>k_is)
  (case z4=>k_is)
  (case z5=>k_is)
  (case z6=>k_is)
  (case z7=>k_is)
  (case z8=>k_is)
  (case z9=>k_is)
  (case z10=>k_is)
  (case z11=>k_is)
  (case z12=>k_is)
  (case z13=>k_is)
  (case z14=>k_is)
  (case z15=>k_is)
  (case z16=>k_is)
  (case z17=>k_is)
  (case z18=>k_is)
  (case z19=>k_is)
