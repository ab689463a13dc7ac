import PyProof.Rows.All
import Wide.All
import OpenK.AllK
import Wide.FinOn
import Lean
import PyProof.EqAt
import PyProof.EqKinds
import PyProof.TupleCall
import PyProof.ZipIter
import PyProof.EnumMake
import PyProof.EnumFor
import PyProof.CollectIter
import PyProof.Rows.SeqMore
import PyProof.ConsumeWalk
import PyProof.Rows.SortShellK
import PyProof.DictItems
import PyProof.DictWalks
import PyProof.AttrMissHeap
import PyProof.DictIter
import PyProof.MaxThree
import PyProof.SeqI3
import KE.KDictOf
import PySem.Challenge.RW_fewtimes_k14_seven_products
set_option Elab.async false
set_option linter.all false
set_option compiler.extract_closed false
set_option genSizeOf false
set_option bootstrap.genMatcherCode false
set_option maxRecDepth 100000
set_option maxHeartbeats 4000000
open PySem.W (Frag)
namespace L2
open PySem PySem.Spec PyProof.Rows
section
noncomputable abbrev Key:=Sum Int Str
noncomputable def fR:Key->Value->Bool
 | .inl k,v=>Value.isInt k v
 | .inr x,v=>Value.isStrOf x v
noncomputable def CU (w:World):Key->Int
 | .inl k=>hashInt k
 | .inr x=>hashStr w x
theorem aN:∀ {k:Key} {v:Value},fR k v=true->(∃ i t,k=Sum.inl i/\v=Value.int i t)∨(∃ x t,k=Sum.inr x/\v=Value.str x t)
 | .inl i,v,h=>by
  obtain ⟨t,e⟩:=Value.isInt_shape (k:=i) (v:=v) h
  exact .inl ⟨i,t,rfl,e⟩
 | .inr x,v,h=>by
  obtain ⟨t,e⟩:=Value.isStrOf_shape (x:=x) (v:=v) h
  exact .inr ⟨x,t,rfl,e⟩
theorem rK (i:Int) (t:Tok):fR (.inl i) (.int i t)=true:=by simp [fR,Value.isInt]
theorem rL (x:Str) (t:Tok):fR (.inr x) (.str x t)=true:=by simp [fR,Value.isStrOf]
theorem Ag (a b:Int):decide ((Sum.inl a:Key)=Sum.inl b)=(a==b):=by
 by_cases e:a=b
 ·subst e;simp
 ·have h : ¬ (Sum.inl a:Key)=Sum.inl b:=fun q=>e (Sum.inl.inj q)
  rw [decide_eq_false h]
  exact (beq_eq_false_iff_ne.mpr e).symm
theorem Ah (a b:Str):decide ((Sum.inr a:Key)=Sum.inr b)=decide (a=b):=by
 by_cases e:a=b
 ·subst e;simp
 ·have h : ¬ (Sum.inr a:Key)=Sum.inr b:=fun q=>e (Sum.inr.inj q)
  rw [decide_eq_false h,decide_eq_false e]
theorem Ai (a:Int) (b:Str):decide ((Sum.inl a:Key)=Sum.inr b)=false:=decide_eq_false (fun q=>nomatch q)
theorem Aj (a:Str) (b:Int):decide ((Sum.inr a:Key)=Sum.inl b)=false:=decide_eq_false (fun q=>nomatch q)
noncomputable def aI (prog:Program) (w:World):PySem.KeyKind prog w Key where
 is:=fR
 hash:=CU w
 inj:=fun v a b ha hb=>by
  rcases aN ha with ⟨i,t,rfl,rfl⟩ | ⟨x,t,rfl,rfl⟩
  ·rcases aN hb with ⟨j,u,rfl,e⟩ | ⟨y,u,rfl,e⟩
   ·injection e with e1 _;rw [e1]
   ·exact nomatch e
  ·rcases aN hb with ⟨j,u,rfl,e⟩ | ⟨y,u,rfl,e⟩
   ·exact nomatch e
   ·injection e with e1 _;rw [e1]
 byValue:=fun k v h=>by
  rcases aN h with ⟨i,t,rfl,rfl⟩ | ⟨x,t,rfl,rfl⟩ <;> rfl
 pyHash:=fun hv h=>by
  rcases aN hv with ⟨i,t,rfl,rfl⟩ | ⟨x,t,rfl,rfl⟩
  ·exact wpAny_pyHash_int h
  ·exact wpAny_pyHash_str h
 eqBool:=fun hu hv h=>by
  rcases aN hu with ⟨i,t,rfl,rfl⟩ | ⟨x,t,rfl,rfl⟩
  ·rcases aN hv with ⟨j,u,rfl,rfl⟩ | ⟨y,u,rfl,rfl⟩
   ·rw [Ag] at h;exact wpAny_eqBool_int h
   ·rw [Ai] at h;exact SeqAt.EqAt.int_str i t y u _ _ _ _ h
  ·rcases aN hv with ⟨j,u,rfl,rfl⟩ | ⟨y,u,rfl,rfl⟩
   ·rw [Aj] at h;exact SeqAt.EqAt.str_int x t j u _ _ _ _ h
   ·rw [Ah] at h;exact wpAny_eqBool_str h
 «strs» := fun k x t v h=>by
  rcases aN h with ⟨i,u,rfl,e⟩ | ⟨y,u,rfl,e⟩
  ·exact nomatch e
  ·injection e with e1 _
   subst e1
   cases v <;> rfl
theorem on (prog:Program) (w:World) (i:Int) (t:Tok):(aI prog w).is (.inl i) (.int i t)=true:=rK i t
theorem oo (prog:Program) (w:World) (x:Str) (t:Tok):(aI prog w).is (.inr x) (.str x t)=true:=rL x t
end
section
inductive V where
 | non | bl (b:Bool) | int (i:Int) | str (x:Str) | byt (b:Array UInt8) | flt (b:UInt64) | ref (a:Addr) | ty (n:String)
 deriving DecidableEq
noncomputable def RelV:V->Value->Prop
 | .non,u=>u=Value.none
 | .bl b,u=>u=Value.bool b
 | .int i,u => ∃ t,u=Value.int i t
 | .str x,u => ∃ t,u=Value.str x t
 | .byt b,u => ∃ t,u=Value.bytes b t
 | .flt b,u => ∃ t,u=Value.float b t
 | .ref a,u=>u=Value.ref a
 | .ty n,u=>u=Value.type n
noncomputable abbrev Vals:List V->List Value->Prop:=Paired RelV
theorem Vals.length {xs:List V} {us:List Value} (r:Vals xs us):xs.length=us.length:=Paired.length r
theorem Vals.get:∀ {xs:List V} {us:List Value} {i:Nat} {x:V},Vals xs us->xs[i]? = some x -> ∃ u,us[i]? = some u/\RelV x u
 | _,_,_,_, .nil,e=>by simp at e
 | _,_,0,_, .cons r _,e=>by simp at e;subst e;exact ⟨_,rfl,r⟩
 | _,_,i+1,x, .cons _ t,e=>by
   obtain ⟨u,h1,h2⟩:=Vals.get (i:=i) (x:=x) t (by simpa using e)
   exact ⟨u,by simpa using h1,h2⟩
theorem Vals.set {x:V} {u:Value} (r:RelV x u):∀ {xs:List V} {us:List Value} (i:Nat),Vals xs us->Vals (xs.set i x) (us.set i u)
 | _,_,_, .nil => .nil
 | _,_,0, .cons _ t => .cons r t
 | _,_,i+1, .cons q t => .cons q (Vals.set r i t)
theorem Vals.append:∀ {xs ys:List V} {us ws:List Value},Vals xs us->Vals ys ws->Vals (xs++ys) (us++ws)
 | _,_,_,_, .nil,s=>s
 | _,_,_,_, .cons r t,s => .cons r (Vals.append t s)
theorem Vals.take:∀ {xs:List V} {us:List Value} (n:Nat),Vals xs us->Vals (xs.take n) (us.take n)
 | _,_,0,_ => .nil
 | _,_,_+1, .nil => .nil
 | _,_,n+1, .cons r t => .cons r (Vals.take n t)
theorem Vals.drop:∀ {xs:List V} {us:List Value} (n:Nat),Vals xs us->Vals (xs.drop n) (us.drop n)
 | _,_,0,r=>r
 | _,_,_+1, .nil => .nil
 | _,_,n+1, .cons _ t=>Vals.drop n t
noncomputable def RelO:Option V->Option Value->Prop
 | some v,some u=>RelV v u
 | none,none=>True
 | _,_=>False
noncomputable def KV {κ:Type}:List (κ × V)->List (κ × Value)->Prop:=Paired fun (p : κ × V) (q : κ × Value)=>p.1=q.1/\RelV p.2 q.2
noncomputable def kV:Key->V
 | .inl i => .int i
 | .inr x => .str x
inductive HO where
 | lst (xs:List V)
 | tup (xs:List V)
 | dK (kvs:List (Key×V)) | dT (kvs:List (List Key×V))
 | set (S:Int->Bool) (n:Nat)
 | ins (C dx:Addr) (fs:List (Str×V))
 | own (x:Addr)
 | xd (fs:List (Str×V))
 | met (f x:Addr)
 | rng (lo hi:Int)
 | frz (o:Obj) (u:HO)
 | tbl (ps:Array Value)
 | ext (φ:Heap->Prop)
noncomputable abbrev Hp:=Addr->Option HO
noncomputable def upd (H:Hp) (a:Addr) (o:HO):Hp:=fun b=>if b=a then some o else H b
theorem aE {H:Hp} {a:Addr} {o:HO}:upd H a o a=some o:=by unfold upd;rw [if_pos rfl]
theorem aj {H:Hp} {a b:Addr} {o:HO} (h:b≠a):upd H a o b=H b:=by unfold upd;rw [if_neg h]
theorem C3 {H:Hp} {a b:Addr} {o u:HO} (h:H a=some o) (h':H b=some u) (d:o≠u):a≠b:=by
 intro e;subst e;rw [h] at h';exact d (Option.some.inj h')
theorem aR {H:Hp} {a b:Addr} {o:HO} (h:H a=some o) (h':H b=none):a≠b:=by
 intro e;subst e;rw [h] at h';cases h'
section
variable (P:Program) (w:World)
noncomputable def ObjOk (H:Hp) (h:Heap) (a:Addr):HO->Prop
 | .lst xs=>xs.length<=sizeLine /\ ∃ (its:List Value) (n:Nat),Vals xs its/\h.get? a=some { cls := .type "list",data := .seq its.toArray n }
 | .tup xs=>xs.length<=sizeLine /\ ∃ its:List Value,Vals xs its/\IsTup h a its.toArray
 | .dK kvs=>kvs.length<=sizeLine/\(a==sysModules)=false /\ ∃ vs,KV kvs vs/\h.DictOf (aI P w) a vs
 | .dT kvs=>kvs.length<=sizeLine/\(a==sysModules)=false /\ ∃ xs:List (List Key×Addr×Value),
  Paired (fun (p:List Key×V) (q:List Key×Addr×Value)=>p.1=q.1/\H q.2.1=some (.tup (p.1.map kV))/\RelV p.2 q.2.2) kvs xs /\
  ∃ o es ep,h.get? a=some o/\o.ExactDict/\o.data = .dict es ep/\es.toList=xs.map (entryOfKey (tupleKind (aI P w)))/\(xs.map (·.1)).Nodup
 | .set S n=>h.SetOf (intKind P w) a S n
 | .ins C dx fs=>H dx=some (.own a)/\fs.length<=1000/\dx≠a/\h.get? a=some (PySem.W.instObj C dx) /\
  ∃ mA,h.Ns1 dx mA/\(∀ f,RelO (fs.lookup f) (mA f))/\PySem.Within mA (fs.map (·.1))
 | .own _ => ∃ o,h.get? a=some o
 | .xd fs => ∃ mA,h.Ns1 a mA /\ ∀ f,RelO (fs.lookup f) (mA f)
 | .rng lo hi => ∃ t u v,h.get? a=some { cls := .type "range",data := .fields #[.int lo t, .int hi u, .int 1 v] }
 | .frz o u=>h.get? a=some o/\ObjOk H h a u
 | .tbl ps=>h.get? a=some { cls := .none,data := .fields ps }
 | .met f x=>h.get? a=some (PySem.W.methodObj (.ref f) (.ref x))
 | .ext φ => φ h/\(∃ o,h.get? a=some o) /\ ∀ h1 h2:Heap, φ h1->(∀ o,h1.get? a=some o->h2.get? a=some o) -> φ h2
noncomputable def HOk (H:Hp) (h:Heap):Prop := ∀ a o,H a=some o->ObjOk P w H h a o
end
section
variable {P:Program} {w:World} {H H':Hp} {h h':Heap} {a:Addr} {o:HO}
theorem ObjOk.lt (x:ObjOk P w H h a o):a < h.objs.size:=by
 cases o with
 | lst xs=>obtain ⟨_,_,_,_,e⟩:=x;exact Heap.lt_size e
 | tup xs=>obtain ⟨_,_,_,p⟩:=x;exact p.lt
 | dK kvs=>obtain ⟨_,_,_,_,o,_,_,e,_⟩:=x;exact Heap.lt_size e
 | dT kvs=>obtain ⟨_,_,_,_,o,_,_,e,_⟩:=x;exact Heap.lt_size e
 | set S n=>obtain ⟨o,_,_,_,e,_⟩:=x;exact Heap.lt_size e
 | ins C dx fs=>obtain ⟨_,_,_,e,_⟩:=x;exact Heap.lt_size e
 | own y=>obtain ⟨_,e⟩:=x;exact Heap.lt_size e
 | xd fs=>obtain ⟨_,⟨_,_,_,e,_⟩,_⟩:=x;exact Heap.lt_size e
 | rng lo hi=>obtain ⟨_,_,_,e⟩:=x;exact Heap.lt_size e
 | frz ob u=>obtain ⟨e,_⟩:=x;exact Heap.lt_size e
 | tbl ps=>exact Heap.lt_size (show h.get? a=some _ from x)
 | met f y=>exact Heap.lt_size (show h.get? a=some _ from x)
 | ext φ => obtain ⟨_,⟨_,e⟩,_⟩:=x;exact Heap.lt_size e
theorem Paired.mapP {α β:Type} {F G : α -> β -> Prop}:∀ {l₁:List α} {l₂:List β},Paired F l₁ l₂ -> (∀ a b,F a b->G a b)->Paired G l₁ l₂
 | _,_, .nil,_ => .nil
 | _,_, .cons r t,f => .cons (f _ _ r) (Paired.mapP t f)
theorem ObjOk.stay (x:ObjOk P w H h a o) (k:∀ b u,(b=a∨H b=some (.own a))->h.get? b=some u->h'.get? b=some u)
 (ho:∀ b,H b=some (.own a)->H' b=some (.own a)) (j:∀ b xs,H b=some (.tup xs)->H' b=some (.tup xs)):ObjOk P w H' h' a o:=by
 induction o with
 | lst xs=>obtain ⟨z,its,n,r,e⟩:=x;exact ⟨z,its,n,r,k _ _ (.inl rfl) e⟩
 | tup xs=>obtain ⟨z,its,r,ob,e,c⟩:=x;exact ⟨z,its,r,ob,k _ _ (.inl rfl) e,c⟩
 | dK kvs=>obtain ⟨z,y,vs,r,ob,es,ep,e,c⟩:=x;exact ⟨z,y,vs,r,ob,es,ep,k _ _ (.inl rfl) e,c⟩
 | dT kvs =>
   obtain ⟨z,y,xs,r,ob,es,ep,e,c⟩:=x
   exact ⟨z,y,xs,Paired.mapP r fun p q z=>⟨z.1,j _ _ z.2.1,z.2.2⟩,ob,es,ep,k _ _ (.inl rfl) e,c⟩
 | set S n=>obtain ⟨ob,es,ep,t,e,c⟩:=x;exact ⟨ob,es,ep,t,k _ _ (.inl rfl) e,c⟩
 | ins C dx fs =>
   obtain ⟨d,z,ne,e,mA,⟨od,es,ep,B,c⟩,r⟩:=x
   exact ⟨ho _ d,z,ne,k _ _ (.inl rfl) e,mA,⟨od,es,ep,k _ _ (.inr d) B,c⟩,r⟩
 | own y=>obtain ⟨ob,e⟩:=x;exact ⟨ob,k _ _ (.inl rfl) e⟩
 | xd fs=>obtain ⟨mA,⟨od,es,ep,e,c⟩,r⟩:=x;exact ⟨mA,⟨od,es,ep,k _ _ (.inl rfl) e,c⟩,r⟩
 | rng lo hi=>obtain ⟨t,u,v,e⟩:=x;exact ⟨t,u,v,k _ _ (.inl rfl) e⟩
 | frz ob u ih=>obtain ⟨e,q⟩:=x;exact ⟨k _ _ (.inl rfl) e,ih q⟩
 | tbl ps =>
   have e:h.get? a=some { cls := .none,data := .fields ps }:=x
   show h'.get? a=some { cls := .none,data := .fields ps }
   exact k a _ (.inl rfl) e
 | met f y =>
   have e:h.get? a=some (PySem.W.methodObj (.ref f) (.ref y)):=x
   show h'.get? a=some (PySem.W.methodObj (.ref f) (.ref y))
   exact k a _ (.inl rfl) e
 | ext φ => obtain ⟨p,⟨o,e⟩,st⟩:=x;exact ⟨st _ _ p fun o q=>k _ _ (.inl rfl) q,⟨o,k _ _ (.inl rfl) e⟩,st⟩
theorem HOk.lt (x:HOk P w H h) (e:H a=some o):a < h.objs.size:=(x a o e).lt
theorem HOk.fresh (x:HOk P w H h) (e:h.objs.size<=a):H a=none:=by
 cases q:H a with
 | none=>rfl
 | some u=>exact absurd (Nat.lt_of_lt_of_le (x.lt q) e) (Nat.lt_irrefl _)
theorem HOk.kept (x:HOk P w H h) (k:∀ b u,h.get? b=some u->h'.get? b=some u):HOk P w H h':=fun a o e =>
 (x a o e).stay (fun b u _ q=>k b u q) (fun _ q=>q) fun _ _ q=>q
theorem HOk.laid (x:HOk P w H h) (k:∀ b u,h.get? b=some u->h'.get? b=some u) (z:h.objs.size<=a) (new:ObjOk P w (upd H a o) h' a o):HOk P w (upd H a o) h':=fun b u e=>by
 have j:=x.fresh z
 by_cases hb:b=a
 ·subst hb;rw [aE] at e;cases e;exact new
 ·rw [aj hb] at e
  exact (x b u e).stay (fun c v _ q=>k c v q) (fun c q=>by rw [aj (aR q j)];exact q) fun c xs q=>by rw [aj (aR q j)];exact q
end
noncomputable def Rd (H:Hp) (a:Addr) (u:HO):Prop:=H a=some u ∨ ∃ o,H a=some (.frz o u)
theorem Rd.of {H:Hp} {a:Addr} {u:HO} (h:H a=some u):Rd H a u := .inl h
theorem Rd.ok {P:Program} {w:World} {H:Hp} {h:Heap} {a:Addr} {u:HO} (r:Rd H a u) (x:HOk P w H h):ObjOk P w H h a u:=by
 rcases r with r | ⟨o,r⟩
 ·exact x a u r
 ·obtain ⟨_,q⟩:=x a _ r
  exact q
noncomputable def Mut:Option HO->Prop
 | some (.lst _)=>True
 | some (.dK _)=>True
 | some (.dT _)=>True
 | some (.set _ _)=>True
 | some (.ins _ _ _)=>True
 | some (.ext _)=>True
 | _=>False
section
variable {P:Program} {w:World} {H:Hp} {h h':Heap} {x e:Addr} {o':HO}
theorem HOk.write (ok:HOk P w H h) (mu:Mut (H x)) (he:e=x∨H e=some (.own x)) (k:∀ b u,b≠e->h.get? b=some u->h'.get? b=some u) (F:∃ u,h'.get? e=some u)
 (new:ObjOk P w (upd H x o') h' x o'):HOk P w (upd H x o') h':=fun b u q=>by
 have nown:∀ c y,H c=some (.own y)->c≠x:=fun c y r z=>by subst z;rw [r] at mu;exact mu
 have ntup:∀ c xs,H c=some (.tup xs)->c≠x:=fun c xs r z=>by subst z;rw [r] at mu;exact mu
 by_cases hb:b=x
 ·subst hb;rw [aE] at q;cases q;exact new
 ·rw [aj hb] at q
  by_cases j:b=e
  ·have q':H b=some (.own x):=by
    rcases he with z | z
    ·exact absurd (j.trans z) hb
    ·rw [j];exact z
   rw [q] at q';cases q'
   obtain ⟨v,G⟩:=F
   exact ⟨v,by rw [j];exact G⟩
  ·refine (ok b u q).stay (fun c v B r=>k c v ?_ r) (fun c r=>by rw [aj (nown c b r)];exact r) fun c xs r=>by rw [aj (ntup c xs r)];exact r
   rcases B with rfl | B
   ·exact j
   ·rintro rfl
    rcases he with z | z
    ·exact nown c b B z
    ·rw [B] at z;cases z;exact hb rfl
end
structure Un (fs ex:List Addr) (H H':Hp) (h h':Heap):Prop where
 keep:∀ b o,h.get? b=some o->H b=none->b∉fs->b∉ex->h'.get? b=some o
 slot:∀ b o,h.get? b=some o->H b=none->b∈fs->b∉ex -> ∃ sl,h'.get? b=some { o with slots:=sl }
 free:∀ b o,h.get? b=some o->H b=none->b∉ex->H' b=none
 there:∀ b o,h.get? b=some o->b∉ex -> ∃ o',h'.get? b=some o'
 tups:∀ b xs,H b=some (.tup xs)->H' b=some (.tup xs)
 frzs:∀ b o u,H b=some (.frz o u)->H' b=some (.frz o u)
 tbls:∀ b ps,H b=some (.tbl ps) -> ∃ more,H' b=some (.tbl (ps++more))
section
variable {fs fs' ex ex':List Addr} {H H1 H2:Hp} {h h1 h2 h':Heap} {a x e:Addr} {o:HO}
theorem Un.any (u:Un fs ex H H1 h h1) {b:Addr} {ob:Obj} (q:h.get? b=some ob) (n:H b=none) (hx:b∉ex):∃ sl,h1.get? b=some { ob with slots:=sl }:=by
 by_cases j:b∈fs
 ·exact u.slot b ob q n j hx
 ·exact ⟨ob.slots,u.keep b ob q n j hx⟩
theorem Un.kept (k:∀ b u,h.get? b=some u->h'.get? b=some u):Un fs ex H H h h' :=
 ⟨fun b ob q _ _ _=>k b ob q,fun b ob q _ _ _=>⟨ob.slots,k b ob q⟩,fun _ _ _ n _=>n,fun b ob q _=>⟨ob,k b ob q⟩,fun _ _ q=>q,fun _ _ _ q=>q,fun _ ps q=>⟨#[],by rw [q];simp⟩⟩
theorem Un.refl:Un fs ex H H h h:=Un.kept fun _ _ q=>q
theorem Un.laid (k:∀ b u,h.get? b=some u->h'.get? b=some u) (z:h.objs.size<=a) (j:H a=none):Un fs ex H (upd H a o) h h' where
 keep:=fun b u q _ _ _=>k b u q
 slot:=fun b u q _ _ _=>⟨u.slots,k b u q⟩
 free:=fun b u q n _=>by rw [aj (Nat.ne_of_lt (Nat.lt_of_lt_of_le (Heap.lt_size q) z))];exact n
 there:=fun b u q _=>⟨u,k b u q⟩
 tups:=fun b xs q=>by rw [aj (aR q j)];exact q
 frzs:=fun b u xs q=>by rw [aj (aR q j)];exact q
 tbls:=fun b ps q=>⟨#[],by rw [aj (aR q j),q];simp⟩
theorem Un.write (mu:Mut (H x)) (he:e=x∨H e=some (.own x)) (k:∀ b u,b≠e->h.get? b=some u->h'.get? b=some u) (B:∃ u,h'.get? e=some u):Un fs ex H (upd H x o) h h':=by
 have hx:∀ b,H b=none->b≠x:=fun b n z=>by subst z;rw [n] at mu;exact mu
 have F:∀ b,H b=none->b≠e:=fun b n z=>by
  subst z
  rcases he with r | r
  ·exact hx b n r
  ·rw [n] at r;cases r
 have hm:∀ b u,H b=some u -> ¬ Mut (some u)->b≠x:=fun b u q nm z=>by subst z;rw [q] at mu;exact nm mu
 refine ⟨fun b u q n _ _=>k b u (F b n) q,fun b u q n _ _=>⟨u.slots,k b u (F b n) q⟩,fun b u q n _=>by rw [aj (hx b n)];exact n,fun b u q _ => ?_,
  fun b xs q=>by rw [aj (hm b _ q fun z=>z)];exact q,fun b u xs q=>by rw [aj (hm b _ q fun z=>z)];exact q,fun b ps q=>⟨#[],by rw [aj (hm b _ q fun z=>z),q];simp⟩⟩
 by_cases j:b=e
 ·subst j;exact B
 ·exact ⟨u,k b u j q⟩
end
noncomputable def trk (h:Heap) (H:Hp):List Addr:=(List.range h.objs.size).filter fun a=>(H a).isSome
noncomputable def eG (h:Heap) (H:Hp):Heap:=PySem.W.hideAll h (trk h H)
theorem rM (h:Heap) (H:Hp):(eG h H).objs.size=h.objs.size:=PySem.W.hideAll_size _ _
theorem uS {h:Heap} {H:Hp} {b:Addr} {o:Obj} (e:h.get? b=some o) (n:H b=none):(eG h H).get? b=some o :=
 PySem.W.hideAll_get _ e fun hm=>by
  have q:(H b).isSome=true:=(List.mem_filter.mp hm).2
  rw [n] at q;simp at q
theorem yj {h:Heap} {H:Hp} {b:Addr} {o:Obj} (e:(eG h H).get? b=some o):h.get? b=some o/\H b=none:=by
 have e':h.get? b=some o:=PySem.W.of_hideAll (trk h H) e
 refine ⟨e', ?_⟩
 cases q:H b with
 | none=>rfl
 | some x =>
   have hm:b∈trk h H:=List.mem_filter.mpr ⟨List.mem_range.mpr (Heap.lt_size e'),by simp [q]⟩
   have z:(eG h H).get? b=none:=PySem.W.hideAll_none (trk h H) hm
   rw [z] at e;cases e
noncomputable def yk (g h:Heap) (L:Addr):List (Addr×Obj):=(List.range h.objs.size).filterMap fun a=>if a=L∨(g.get? a).isSome=true then none else (h.get? a).map fun o=>(a,o)
noncomputable def rest (g h:Heap) (L d:Addr):List (Addr×Obj):=(yk g h L).filter fun p=>decide (p.1≠d)
end
section
structure Mod (K:Frag) (mg:Str->Option Value) (base:Heap):Prop where
 kin:K.In base
 glob:base.Ns mainGlobals mg
 blt:∃ mb,base.Ns builtinsNs mb /\ ∀ x:Str,x ≠ "__name__" -> mb x=bootBuiltins x
 nolimit:base.NoLimit
structure Cx where
 prog:Program
 w:World
 K:Frag
 mg:Str->Option Value
 base:Heap
 A:Around
 N:List Str
 s₀:Shared
 H₀:Hp
 env:Env
 outer:List Env
 stack:List Env
 ex:List Addr
 fn:Str->Bool
 calm:Bool
 pn:List (Addr×Obj)
 xe:Value->Shared->Prop
noncomputable def frs (l:List Env):List Addr:=l.filterMap (·.frame)
noncomputable abbrev Cx.fs (X:Cx):List Addr:=frs X.outer
noncomputable def Vis (sc:Scope) (x:Str):Prop:=sc.names.lookup x=some .local∨sc.names.lookup x=some .cell∨sc.names.lookup x=some .free
noncomputable def Loc (sc:Scope) (x:Str):Prop:=sc.names.lookup x=some .local∨sc.names.lookup x=some .cell
noncomputable def CV (env:Env) (h:Heap) (m:Str->Option Value) (x:Str) (u:Value):Prop :=
 (env.kindOf x=some .local/\m x=some u)∨((env.kindOf x=some .cell∨env.kindOf x=some .free) /\ ∃ c,env.cells.lookup x=some c/\h.IsCell c (some u))
structure Cx.Ok (X:Cx):Prop where
 mod:Mod X.K X.mg X.base
 kind:X.env.scope.kind = .function
 glob:X.env.globals=mainGlobals
 blt:X.env.builtins=builtinsNs
 above:X.s₀.heap.objs.size<=X.env.locals
 inj:∀ x y c,X.env.cells.lookup x=some c->X.env.cells.lookup y=some c->x=y
 has:∀ x,(X.env.kindOf x=some .cell∨X.env.kindOf x=some .free) -> ∃ c,X.env.cells.lookup x=some c
 cab:∀ x c,X.fn x=true->X.env.cells.lookup x=some c->X.s₀.heap.objs.size<=c
 hd:X.calm=true->X.A.handled=none
 frames:X.A.frames=some X.stack
 stk:X.stack=X.outer∨(X.stack=X.env::X.outer/\X.env.frame=some X.env.locals)
 exf:∀ b∈X.ex,b≠X.env.locals /\ ∀ x c,X.env.cells.lookup x=some c->c≠b
 bs:∀ b o,X.base.get? b=some o->X.s₀.heap.get? b=some o/\X.H₀ b=none
 bsz:X.base.objs.size<=X.s₀.heap.objs.size
 noex:∀ b o,X.base.get? b=some o->b∉X.ex
 exfs:∀ b∈X.ex,b∉X.fs
 funs:X.s₀.heap.FunFrames X.base X.outer
 frf:∀ b∈X.fs,X.H₀ b=none
structure Inv (X:Cx) (pins:List (Addr×Obj)) (σ:List (Option V)) (H:Hp) (s:Shared):Prop where
 ok:X.Ok
 os:s.os=X.s₀.os
 bare:AllBare s.gens
 base:Un X.fs X.ex X.H₀ H X.s₀.heap s.heap
 loc:∃ m,s.heap.Ns X.env.locals m /\ ∀ (i:Nat) (x:Str) (v:V),X.N[i]? = some x -> σ[i]? = some (some v)->Vis X.env.scope x -> ∃ u,RelV v u/\CV X.env s.heap m x u
 cell:∀ x c,X.env.cells.lookup x=some c -> ∃ v,s.heap.IsCell c v
 free:H X.env.locals=none
 freeC:∀ x c,X.env.cells.lookup x=some c->H c=none
 pin:∀ p∈X.pn++pins,s.heap.get? p.1=some p.2/\H p.1=none/\p.1≠X.env.locals/\p.1∉X.fs /\ ∀ v,p.2.data ≠ .cell v
 hok:HOk X.prog X.w H s.heap
 len : σ.length=X.N.length
section
variable {X:Cx} {pins:List (Addr×Obj)} {σ:List (Option V)} {H H':Hp} {s:Shared} {h':Heap}
theorem Cx.Ok.nofr (ok:X.Ok) {b:Addr} {o:Obj} (e:X.base.get? b=some o):b∉X.fs:=fun j=>by
 have:=(ok.funs.mem j).1
 rw [e] at this;cases this
theorem Inv.bs (I:Inv X pins σ H s):∀ b o,X.base.get? b=some o->s.heap.get? b=some o/\H b=none:=fun b o e =>
 ⟨I.base.keep b o (I.ok.bs b o e).1 (I.ok.bs b o e).2 (I.ok.nofr e) (I.ok.noex b o e),I.base.free b o (I.ok.bs b o e).1 (I.ok.bs b o e).2 (I.ok.noex b o e)⟩
theorem Inv.bk (I:Inv X pins σ H s):∀ b o,X.base.get? b=some o->s.heap.get? b=some o:=fun b o e=>(I.bs b o e).1
theorem Inv.mod (I:Inv X pins σ H s):Mod X.K X.mg X.base:=I.ok.mod
theorem Inv.kIn (I:Inv X pins σ H s):X.K.In s.heap:=I.ok.mod.kin.keeps I.bk
theorem Inv.lt (I:Inv X pins σ H s):X.env.locals < s.heap.objs.size:=let ⟨_,j,_⟩:=I.loc;j.lt
theorem Inv.sz (I:Inv X pins σ H s):X.s₀.heap.objs.size<=s.heap.objs.size:=Nat.le_trans I.ok.above (Nat.le_of_lt I.lt)
theorem Inv.nofs (I:Inv X pins σ H s) {a:Addr} (h:s.heap.objs.size<=a):a∉X.fs:=fun j=>by
 obtain ⟨_,o,ho,_⟩:=I.ok.funs.mem j
 exact absurd (Nat.lt_of_lt_of_le (Heap.lt_size ho) (Nat.le_trans I.sz h)) (Nat.lt_irrefl _)
theorem Inv.cne (I:Inv X pins σ H s):∀ x c,X.env.cells.lookup x=some c->c≠X.env.locals:=fun x c e z=>by
 obtain ⟨v,o,ho,hd⟩:=I.cell x c e
 obtain ⟨m,⟨o',es,ep,j,q,_⟩,_⟩:=I.loc
 rw [z,j] at ho;cases ho;rw [q] at hd;cases hd
theorem Inv.funs (I:Inv X pins σ H s):s.heap.FunFrames X.base X.outer:=by
 have all:∀ (l:List Env),(∀ b∈frs l,b∈X.fs)->X.s₀.heap.FunFrames X.base l->s.heap.FunFrames X.base l:=by
  intro l
  induction l with
  | nil=>intro _ _;trivial
  | cons env r ih =>
    intro hs B
    obtain ⟨F,⟨L,o,hf,G,ho,hd⟩,J⟩:=B
    have j:L∈X.fs:=hs L (by unfold frs;rw [List.filterMap_cons,hf];exact List.mem_cons_self)
    obtain ⟨sl,e⟩:=I.base.slot L o ho (I.ok.frf L j) j fun z=>I.ok.exfs L z j
    exact ⟨F,⟨L,_,hf,G,e,hd⟩,ih (fun b q=>hs b (by unfold frs;rw [List.filterMap_cons,hf];exact List.mem_cons_of_mem _ q)) J⟩
 exact all X.outer (fun _ q=>q) I.ok.funs
theorem Inv.stack (I:Inv X pins σ H s):s.heap.FunFrames X.base X.stack:=by
 rcases I.ok.stk with e | ⟨e,hf⟩
 ·rw [e];exact I.funs
 ·rw [e]
  obtain ⟨m,j,_⟩:=I.loc
  refine .cons (by rw [I.ok.kind];decide) hf j ?_ I.funs
  exact Heap.get?_none_of_le (Nat.le_trans I.ok.bsz I.ok.above)
theorem Inv.stkSub (I:Inv X pins σ H s):∀ b∈frs X.stack,b∈X.env.locals::X.fs:=fun b j=>by
 rcases I.ok.stk with e | ⟨e,hf⟩
 ·rw [e] at j;exact List.mem_cons_of_mem _ j
 ·rw [e] at j
  unfold frs at j
  rw [List.filterMap_cons,hf] at j
  exact j
theorem Inv.stkFree (I:Inv X pins σ H s):∀ b∈frs X.stack,H b=none:=fun b j=>by
 rcases List.mem_cons.mp (I.stkSub b j) with e | j
 ·rw [e];exact I.free
 ·obtain ⟨_,o,ho,_⟩:=I.ok.funs.mem j
  exact I.base.free b o ho (I.ok.frf b j) fun z=>I.ok.exfs b z j
theorem Inv.step {g':Array GenState} {t':Nat} {d':Drawn} {ch:List Addr} (I:Inv X pins σ H s)
 (j:∀ b∈ch,(b∈X.ex∨X.s₀.heap.objs.size<=b)/\b≠X.env.locals/\(∀ x c,X.env.cells.lookup x=some c->c≠b) /\ ∀ p∈X.pn++pins,p.1≠b)
 (keep:∀ b o,b≠X.env.locals->b∉X.fs->b∉ch->s.heap.get? b=some o->H b=none->h'.get? b=some o)
 (slot:∀ b o,b≠X.env.locals->b∈X.fs->b∉ch->s.heap.get? b=some o->H b=none -> ∃ sl,h'.get? b=some { o with slots:=sl }) (free:∀ b o,b∉ch->s.heap.get? b=some o->H b=none->H' b=none)
 (there:∀ b o,b∉ch->s.heap.get? b=some o -> ∃ o',h'.get? b=some o')
 (tups:∀ b xs,H b=some (.tup xs)->H' b=some (.tup xs)) (frzs:∀ b o u,H b=some (.frz o u)->H' b=some (.frz o u)) (tbls:∀ b ps,H b=some (.tbl ps) -> ∃ more,H' b=some (.tbl (ps++more)))
 (ns:∀ m,s.heap.Ns X.env.locals m->h'.Ns X.env.locals m) (hok:HOk X.prog X.w H' h') (O:AllBare g') :
 Inv X pins σ H' { s with heap:=h',gens:=g',drawn:=d',toks:=t' }:=by
 have neL:∀ b o,X.s₀.heap.get? b=some o->b≠X.env.locals:=fun b o e=>Nat.ne_of_lt (Nat.lt_of_lt_of_le (Heap.lt_size e) I.ok.above)
 have neC:∀ b o,X.s₀.heap.get? b=some o->b∉X.ex->b∉ch:=fun b o e hx F=>by
  rcases (j b F).1 with z | z
  ·exact hx z
  ·exact absurd (Nat.lt_of_lt_of_le (Heap.lt_size e) z) (Nat.lt_irrefl _)
 have cellK:∀ x c,X.env.cells.lookup x=some c -> ∀ v,s.heap.IsCell c v->h'.IsCell c v:=fun x c e v ⟨o,ho,hd⟩=>by
  have nch:c∉ch:=fun z=>(j c z).2.2.1 x c e rfl
  by_cases J:c∈X.fs
  ·obtain ⟨sl,q⟩:=slot c o (I.cne x c e) J nch ho (I.freeC x c e)
   exact ⟨_,q,hd⟩
  ·exact ⟨o,keep c o (I.cne x c e) J nch ho (I.freeC x c e),hd⟩
 refine ⟨I.ok,I.os,O,⟨fun b o e n F hx => ?_,fun b o e n F hx => ?_,fun b o e n hx => ?_,fun b o e hx => ?_,fun b xs e=>tups b xs (I.base.tups b xs e),fun b o xs e=>frzs b o xs (I.base.frzs b o xs e),fun b ps e => ?_⟩, ?_,fun x c e => ?_, ?_,fun x c e => ?_,fun p L => ?_,hok,I.len⟩
 ·exact keep b o (neL b o e) F (neC b o e hx) (I.base.keep b o e n F hx) (I.base.free b o e n hx)
 ·obtain ⟨sl,B⟩:=I.base.slot b o e n F hx
  obtain ⟨sl',G⟩:=slot b _ (neL b o e) F (neC b o e hx) B (I.base.free b o e n hx)
  exact ⟨sl',G⟩
 ·obtain ⟨o',B⟩:=I.base.there b o e hx
  exact free b o' (neC b o e hx) B (I.base.free b o e n hx)
 ·obtain ⟨o',B⟩:=I.base.there b o e hx
  exact there b o' (neC b o e hx) B
 ·obtain ⟨U,B⟩:=I.base.tbls b ps e
  obtain ⟨Y,G⟩:=tbls b _ B
  exact ⟨U++Y,by rw [G,Array.append_assoc]⟩
 ·obtain ⟨m,Z,hl⟩:=I.loc
  refine ⟨m,ns m Z,fun i x v B G e3 => ?_⟩
  obtain ⟨u,r,l⟩:=hl i x v B G e3
  refine ⟨u,r, ?_⟩
  rcases l with l | ⟨k,c,e,z⟩
  ·exact .inl l
  ·exact .inr ⟨k,c,e,cellK x c e _ z⟩
 ·obtain ⟨v,z⟩:=I.cell x c e
  exact ⟨v,cellK x c e v z⟩
 ·obtain ⟨m,⟨o,_,_,ho,_⟩,_⟩:=I.loc
  exact free _ o (fun z=>(j _ z).2.1 rfl) ho I.free
 ·obtain ⟨v,o,ho,hd⟩:=I.cell x c e
  exact free c o (fun z=>(j c z).2.2.1 x c e rfl) ho (I.freeC x c e)
 ·obtain ⟨e,n,ne,nf,d⟩:=I.pin p L
  have nch:p.1∉ch:=fun z=>(j p.1 z).2.2.2 p L rfl
  exact ⟨keep p.1 p.2 ne nf nch e n,free p.1 p.2 nch e n,ne,nf,d⟩
theorem Inv.un {t':Nat} (I:Inv X pins σ H s) (u:Un X.fs [] H H' s.heap h') (hok:HOk X.prog X.w H' h'):Inv X pins σ H' { s with heap:=h',toks:=t' }:=by
 obtain ⟨m,⟨o,es,ep,ho,r⟩,_⟩:=id I.loc
 obtain ⟨sl,B⟩:=u.any ho I.free (by simp)
 exact I.step (g':=s.gens) (d':=s.drawn) (ch := []) (fun _ z=>nomatch z) (fun b o _ q _ e n=>u.keep b o e n q (by simp)) (fun b o _ q _ e n=>u.slot b o e n q (by simp)) (fun b o _ e n=>u.free b o e n (by simp)) (fun b o _ e=>u.there b o e (by simp)) u.tups u.frzs u.tbls (fun m' hm=>by
  obtain ⟨o',es',ep',j,r'⟩:=hm
  rw [ho] at j;cases j
  exact ⟨_,es',ep',B,r'⟩) hok I.bare
theorem Inv.call {g':Array GenState} {t':Nat} {d':Drawn} {ch:List Addr} (I:Inv X pins σ H s) (u:Un (frs X.stack) ch H H' s.heap h') (hok:HOk X.prog X.w H' h') (G:AllBare g')
 (q:∀ b∈ch,(b∈X.ex∨X.s₀.heap.objs.size<=b)/\b≠X.env.locals/\(∀ x c,X.env.cells.lookup x=some c->c≠b) /\ ∀ p∈X.pn++pins,p.1≠b) :
 Inv X pins σ H' { s with heap:=h',gens:=g',drawn:=d',toks:=t' }:=by
 obtain ⟨m,⟨o,es,ep,ho,r⟩,_⟩:=id I.loc
 obtain ⟨sl,F⟩:=u.any ho I.free fun z=>(q _ z).2.1 rfl
 exact I.step (ch:=ch) q (fun b o F J j e n=>u.keep b o e n (fun z=>(List.mem_cons.mp (I.stkSub b z)).elim F J) j) (fun b o _ _ j e n=>u.any e n j) (fun b o j e n=>u.free b o e n j) (fun b o j e=>u.there b o e j) u.tups u.frzs u.tbls (fun m' hm=>by
  obtain ⟨o',es',ep',B,r'⟩:=hm
  rw [ho] at B;cases B
  exact ⟨_,es',ep',F,r'⟩) hok G
theorem Inv.turned {t':Nat} {it:Addr} (I:Inv X pins σ H s) (k:∀ b o,b≠it->s.heap.get? b=some o->h'.get? b=some o) (F:H it=none) (B:it≠X.env.locals)
 (h1:it∈X.ex∨X.s₀.heap.objs.size<=it) (h2:∀ x c,X.env.cells.lookup x=some c->c≠it) (G:∀ p∈X.pn++pins,p.1≠it):Inv X pins σ H { s with heap:=h',toks:=t' }:=by
 have nit:∀ b u,H b=some u->b≠it:=fun b u e z=>by rw [z,F] at e;cases e
 refine I.step (g':=s.gens) (d':=s.drawn) (ch := [it]) (fun b J => ?_) (fun b o _ _ j e _=>k b o (fun z=>j (by simp [z])) e) (fun b o _ _ j e _=>⟨o.slots,k b o (fun z=>j (by simp [z])) e⟩) (fun _ _ _ _ n=>n)
  (fun b o j e=>⟨o,k b o (fun z=>j (by simp [z])) e⟩) (fun _ _ e=>e) (fun _ _ _ e=>e) (fun b ps e=>⟨#[],by rw [e];simp⟩) (fun m hm => ?_) (fun b u e => ?_) I.bare
 ·have e:b=it:=by simpa using J
  subst e
  exact ⟨h1,B,h2,G⟩
 ·obtain ⟨o,es,ep,ho,r⟩:=hm
  exact ⟨o,es,ep,k _ o (Ne.symm B) ho,r⟩
 ·refine (I.hok b u e).stay (fun c v j q=>k c v ?_ q) (fun _ q=>q) fun _ _ q=>q
  rcases j with z | z
  ·rw [z];exact nit b u e
  ·exact nit c _ z
theorem Inv.tok (I:Inv X pins σ H s) (t:Nat):Inv X pins σ H { s with toks:=t }:=I.un (h':=s.heap) (t':=t) Un.refl I.hok
theorem Inv.kept {t':Nat} (I:Inv X pins σ H s) (k:∀ b u,s.heap.get? b=some u->h'.get? b=some u):Inv X pins σ H { s with heap:=h',toks:=t' }:=I.un (Un.kept k) (I.hok.kept k)
theorem Inv.laid {a:Addr} {o:HO} {t':Nat} (I:Inv X pins σ H s) (k:∀ b u,s.heap.get? b=some u->h'.get? b=some u) (j:s.heap.objs.size<=a) (new:ObjOk X.prog X.w (upd H a o) h' a o) :
 Inv X pins σ (upd H a o) { s with heap:=h',toks:=t' }:=I.un (Un.laid k j (I.hok.fresh j)) (I.hok.laid k j new)
theorem Inv.write {x e:Addr} {o:HO} {t':Nat} (I:Inv X pins σ H s) (mu:Mut (H x)) (he:e=x∨H e=some (.own x)) (k:∀ b u,b≠e->s.heap.get? b=some u->h'.get? b=some u) (j:∃ u,h'.get? e=some u)
 (new:ObjOk X.prog X.w (upd H x o) h' x o):Inv X pins σ (upd H x o) { s with heap:=h',toks:=t' }:=I.un (Un.write mu he k j) (I.hok.write mu he k j new)
theorem Inv.pins_of {pins':List (Addr×Obj)} (I:Inv X pins σ H s) (h:∀ p∈pins',s.heap.get? p.1=some p.2/\H p.1=none/\p.1≠X.env.locals/\p.1∉X.fs /\ ∀ v,p.2.data ≠ .cell v):Inv X pins' σ H s :=
 ⟨I.ok,I.os,I.bare,I.base,I.loc,I.cell,I.free,I.freeC,fun p j=>(List.mem_append.mp j).elim (fun z=>I.pin p (List.mem_append_left _ z)) (h p),I.hok,I.len⟩
theorem lD {N:List Str} (q:N.Nodup) {i j:Nat} {x:Str} (a:N[i]? = some x) (b:N[j]? = some x):i=j:=by
 obtain ⟨h1,z⟩:=List.getElem?_eq_some_iff.mp a
 obtain ⟨h2,B⟩:=List.getElem?_eq_some_iff.mp b
 exact (List.getElem_inj q).mp (z.trans B.symm)
theorem rN {M:Model} {A:Around} {E:Value->Shared->Prop} {i:Nat} {x:Str} {v:V} {u:Value} {Q:Unit->Shared->Prop} (I:Inv X pins σ H s) (hN:X.N.Nodup) (hi:X.N[i]? = some x) (hx:Loc X.env.scope x) (r:RelV v u)
 (h:∀ s',Inv X pins (σ.set i (some v)) H s'->(∃ a,Heap.SameBut a s.heap s'.heap/\(a=X.env.locals∨X.env.cells.lookup x=some a))->Q () s') (hf:X.fn x=true∨X.env.scope.names.lookup x=some .local:=by first | exact .inl rfl | exact .inr rfl | assumption):wpAny M A (storeName X.env x u) Q E s:=by
 obtain ⟨m,hn,hl⟩:=id I.loc
 have Z:(X.env.scope.kind == .class || (X.env.scope.kind == .module&&X.env.locals != X.env.globals))=false:=by rw [I.ok.kind];rfl
 have Dv:i < σ.length:=by rw [I.len];exact (List.getElem?_eq_some_iff.mp hi).1
 have cne:=I.cne
 have tracked:∀ {a:Addr} {h':Heap},(∃ o,s.heap.get? a=some o/\H a=none)->Heap.SameBut a s.heap h'->HOk X.prog X.w H h':=fun {a h'} ha hs b ob e=>by
  obtain ⟨_,_,G⟩:=ha
  refine (I.hok b ob e).stay (fun c w' F q=>(hs.2 c ?_).trans q) (fun _ q=>q) fun _ _ q=>q
  rintro rfl
  rcases F with rfl | F
  ·rw [G] at e;cases e
  ·rw [G] at F;cases F
 rcases hx with L | L
 ·refine wpAny_storeName_local L hn (fun h' DA hs => ?_) Z
  obtain ⟨oL,_,_,DB,_⟩:=id hn
  refine h _ ⟨I.ok,I.os,I.bare,⟨fun b o e n O hx => ?_,fun b o e n O hx => ?_,I.base.free,fun b o e hx => ?_,I.base.tups,I.base.frzs,I.base.tbls⟩,⟨_,DA,fun j y v' B J e3 => ?_⟩,fun y c e => ?_,I.free,I.freeC,fun p hp => ?_,tracked ⟨oL,DB,I.free⟩ hs,by simpa using I.len⟩ ⟨_,hs, .inl rfl⟩
  ·exact (hs.2 b (Nat.ne_of_lt (Nat.lt_of_lt_of_le (Heap.lt_size e) I.ok.above))).trans (I.base.keep b o e n O hx)
  ·obtain ⟨sl,B⟩:=I.base.slot b o e n O hx
   exact ⟨sl,(hs.2 b (Nat.ne_of_lt (Nat.lt_of_lt_of_le (Heap.lt_size e) I.ok.above))).trans B⟩
  ·obtain ⟨o',B⟩:=I.base.there b o e hx
   exact ⟨o',(hs.2 b (Nat.ne_of_lt (Nat.lt_of_lt_of_le (Heap.lt_size e) I.ok.above))).trans B⟩
  ·by_cases U:j=i
   ·subst U
    rw [hi] at B;cases B
    rw [List.getElem?_set_self Dv] at J
    cases J
    exact ⟨u,r, .inl ⟨L,by simp⟩⟩
   ·rw [List.getElem?_set_ne (Ne.symm U)] at J
    obtain ⟨u',r',q⟩:=hl j y v' B J e3
    refine ⟨u',r', ?_⟩
    rcases q with ⟨k,e⟩ | ⟨k,c,e,z⟩
    ·refine .inl ⟨k, ?_⟩
     have:y≠x:=fun e=>U (lD hN B (e ▸ hi))
     simp [this,e]
    ·exact .inr ⟨k,c,e,z.sameBut hs (cne y c e)⟩
  ·obtain ⟨w',z⟩:=I.cell y c e
   exact ⟨w',z.sameBut hs (cne y c e)⟩
  ·obtain ⟨e,n,ne,nf,d⟩:=I.pin p hp
   exact ⟨(hs.2 p.1 ne).trans e,n,ne,nf,d⟩
 ·have Y:X.fn x=true:=by
   rcases hf with z | z
   ·exact z
   ·rw [z] at L;cases L
  obtain ⟨c,F⟩:=I.ok.has x (.inl L)
  obtain ⟨w',z⟩:=I.cell x c F
  refine wpAny_storeName_cell I.ok.kind L F z (fun h' Dw hs => ?_)
  obtain ⟨oc,Dx,Dy⟩:=id z
  refine h { s with heap:=h' } ⟨I.ok,I.os,I.bare,⟨fun b o e n O hx => ?_,fun b o e n O hx => ?_,I.base.free,fun b o e hx => ?_,I.base.tups,I.base.frzs,I.base.tbls⟩,⟨m,hn.sameBut hs (Ne.symm (cne x c F)),fun j y v' B J e3 => ?_⟩,fun y c' e => ?_,I.free,I.freeC,fun p hp => ?_,tracked ⟨oc,Dx,I.freeC x c F⟩ hs,by simpa using I.len⟩ ⟨c,hs, .inr F⟩
  ·exact (hs.2 b (Nat.ne_of_lt (Nat.lt_of_lt_of_le (Heap.lt_size e) (I.ok.cab x c Y F)))).trans (I.base.keep b o e n O hx)
  ·obtain ⟨sl,B⟩:=I.base.slot b o e n O hx
   exact ⟨sl,(hs.2 b (Nat.ne_of_lt (Nat.lt_of_lt_of_le (Heap.lt_size e) (I.ok.cab x c Y F)))).trans B⟩
  ·obtain ⟨o',B⟩:=I.base.there b o e hx
   exact ⟨o',(hs.2 b (Nat.ne_of_lt (Nat.lt_of_lt_of_le (Heap.lt_size e) (I.ok.cab x c Y F)))).trans B⟩
  ·by_cases U:j=i
   ·subst U
    rw [hi] at B;cases B
    rw [List.getElem?_set_self Dv] at J
    cases J
    exact ⟨u,r, .inr ⟨.inl L,c,F,Dw⟩⟩
   ·rw [List.getElem?_set_ne (Ne.symm U)] at J
    obtain ⟨u',r',q⟩:=hl j y v' B J e3
    refine ⟨u',r', ?_⟩
    rcases q with q | ⟨k,c',e,z'⟩
    ·exact .inl q
    ·refine .inr ⟨k,c',e,z'.sameBut hs ?_⟩
     rintro rfl
     exact U (lD hN B (I.ok.inj _ _ _ e F ▸ hi))
  ·by_cases Dz:c'=c
   ·subst Dz;exact ⟨_,Dw⟩
   ·obtain ⟨w2,z2⟩:=I.cell y c' e
    exact ⟨w2,z2.sameBut hs Dz⟩
  ·obtain ⟨e,n,ne,nf,d⟩:=I.pin p hp
   refine ⟨(hs.2 p.1 ?_).trans e,n,ne,nf,d⟩
   intro q
   rw [q,Dx] at e
   have q':oc=p.2:=Option.some.inj e
   exact d w' (by rw [<- q'];exact Dy)
theorem gO {M:Model} {A:Around} {E:Value->Shared->Prop} {i:Nat} {x:Str} {v:V} {u:Value} {Q:Unit->Shared->Prop} (I:Inv X pins σ H s) (j:X.N.Nodup) (hi:X.N[i]? = some x) (hx:Loc X.env.scope x) (r:RelV v u)
 (h:∀ s',Inv X pins (σ.set i (some v)) H s'->Q () s') (hf:X.fn x=true∨X.env.scope.names.lookup x=some .local:=by first | exact .inl rfl | exact .inr rfl | assumption):wpAny M A (storeName X.env x u) Q E s :=
 rN I j hi hx r (fun s' I' _=>h s' I') hf
theorem Inv.call' {s':Shared} {ch:List Addr} (I:Inv X pins σ H s) (ho:s'.os=s.os) (u:Un (frs X.stack) ch H H' s.heap s'.heap) (hok:HOk X.prog X.w H' s'.heap) (q:AllBare s'.gens)
 (j:∀ b∈ch,(b∈X.ex∨X.s₀.heap.objs.size<=b)/\b≠X.env.locals/\(∀ x c,X.env.cells.lookup x=some c->c≠b) /\ ∀ p∈X.pn++pins,p.1≠b):Inv X pins σ H' s':=by
 obtain ⟨h',g',d',t',o'⟩:=s'
 have e:o'=s.os:=ho
 subst e
 exact I.call (g':=g') (t':=t') (d':=d') u hok q j
end
noncomputable abbrev XK:=Value->Option Addr->Hp->Prop
noncomputable abbrev St:=List (Option V)
noncomputable abbrev VK:=V->Hp->Prop
noncomputable abbrev TE:=St->Hp->VK->Prop
noncomputable abbrev TT:=St->Hp->(Bool->Hp->Prop)->Prop
noncomputable abbrev TA:=St->Hp->(List V->Hp->Prop)->Prop
structure be where
 nx:St->Hp->Prop
 rt:VK
 bk:St->Hp->Prop:=fun _ _=>False
 ct:St->Hp->Prop:=fun _ _=>False
noncomputable abbrev TS:=be->St->Hp->Prop
noncomputable def EP (X:Cx) (pins:List (Addr×Obj)) (σ:St) (Q:VK) (u:Value) (s':Shared):Prop := ∃ v H',Inv X pins σ H' s'/\RelV v u/\Q v H'
noncomputable def TP (X:Cx) (pins:List (Addr×Obj)) (σ:St) (Q:Bool->Hp->Prop) (b:Bool) (s':Shared):Prop := ∃ H',Inv X pins σ H' s'/\Q b H'
noncomputable def AP (X:Cx) (pins:List (Addr×Obj)) (σ:St) (Q:List V->Hp->Prop) (us:List Value) (s':Shared):Prop := ∃ vs H',Inv X pins σ H' s'/\Vals vs us/\Q vs H'
noncomputable def SP (X:Cx) (pins:List (Addr×Obj)) (D:be) (f:Flow) (s':Shared):Prop :=
 match f with
 | .next => ∃ σ' H',Inv X pins σ' H' s'/\D.nx σ' H'
 | .brk => ∃ σ' H',Inv X pins σ' H' s'/\D.bk σ' H'
 | .cont => ∃ σ' H',Inv X pins σ' H' s'/\D.ct σ' H'
 | .ret u => ∃ v σ' H',Inv X pins σ' H' s'/\RelV v u/\D.rt v H'
noncomputable def PE (X:Cx) (e:Expr) (t:TE):Prop :=
 ∀ (pins:List (Addr×Obj)) (s:Shared) (σ:St) (H:Hp) (Q:VK),Inv X pins σ H s->t σ H Q->wpAny (model X.prog X.w) X.A (eval e X.env) (EP X pins σ Q) X.xe s
noncomputable def PT (X:Cx) (e:Expr) (t:TT):Prop :=
 ∀ (pins:List (Addr×Obj)) (s:Shared) (σ:St) (H:Hp) (Q:Bool->Hp->Prop),Inv X pins σ H s->t σ H Q->wpAny (model X.prog X.w) X.A (isTrue e X.env (eval e X.env)) (TP X pins σ Q) X.xe s
noncomputable def PW (X:Cx) (e:Expr) (t:TT):Prop :=
 ∀ (whole:Sem Value) (pins:List (Addr×Obj)) (s:Shared) (σ:St) (H:Hp) (Q:Bool->Hp->Prop),Inv X pins σ H s->t σ H Q->wpAny (model X.prog X.w) X.A (isTrue e X.env whole) (TP X pins σ Q) X.xe s
theorem PW.pt {X:Cx} {e:Expr} {t:TT} (h:PW X e t):PT X e t:=h _
noncomputable def PA (X:Cx) (es:List Expr) (t:TA):Prop :=
 ∀ (pos:Pos) (pins:List (Addr×Obj)) (s:Shared) (σ:St) (H:Hp) (Q:List V->Hp->Prop),Inv X pins σ H s->t σ H Q->wpAny (model X.prog X.w) X.A (spliced (backTo pos (starEach es X.env))) (AP X pins σ Q) X.xe s
noncomputable def PS (X:Cx) (st:Stmt) (t:TS):Prop :=
 ∀ (pins:List (Addr×Obj)) (s:Shared) (σ:St) (H:Hp) (D:be),Inv X pins σ H s->t D σ H->wpAny (model X.prog X.w) X.A (exec st X.env) (SP X pins D) X.xe s
noncomputable def PSs (X:Cx) (st:List Stmt) (t:TS):Prop :=
 ∀ (pins:List (Addr×Obj)) (s:Shared) (σ:St) (H:Hp) (D:be),Inv X pins σ H s->t D σ H->wpAny (model X.prog X.w) X.A (execs st X.env) (SP X pins D) X.xe s
theorem thn {α:Type} {t:Sem α} {Q Q' : α -> Shared->Prop} {M:Model} {A:Around} {E:Value->Shared->Prop} {s:Shared} (h:wpAny M A t Q E s) (j:∀ a s,Q a s->Q' a s):wpAny M A t Q' E s:=wpAny_mono h j fun _ _ x=>x
end
section
section
variable {X:Cx}
noncomputable def CW (i:Nat):TE:=fun σ H Q => ∃ v, σ[i]? = some (some v)/\Q v H
noncomputable def tC (v:V):TE:=fun _ H Q=>Q v H
theorem Ak {i:Nat} {x:Str} {pos:Pos} (F:X.N[i]? = some x) (G:Vis X.env.scope x) (hd:(x==("__debug__":Str))=false:=by decide) (z:(x==("__classdict__":Str))=false:=by decide):PE X (.Name x pos) (CW i):=by
 intro pins s σ H Q I h
 obtain ⟨v,e,h⟩:=h
 obtain ⟨m,J,L⟩:=I.loc
 obtain ⟨u,r,l⟩:=L i x v F e G
 have fin:EP X pins σ Q u s:=⟨v,H,I,r,h⟩
 rcases l with ⟨q,hm⟩ | ⟨q,c,B,j⟩
 ·exact wpAny_Name (wpAny_loadName_local I.ok.kind q J hm fin) hd
 ·rcases q with q | q
  ·exact wpAny_Name (wpAny_loadName_cell I.ok.kind q B j fin) hd
  ·exact wpAny_Name (wpAny_loadName_free I.ok.kind q B j fin z) hd
theorem Al {i j pos}:PE X (.Constant (.int i) j pos) (tC (.int i)):=fun _ _ _ H _ I h=>wpAny_Constant_int ⟨.int i,H,I.tok _,⟨_,rfl⟩,h⟩
theorem C4 {b j pos}:PE X (.Constant (.bool b) j pos) (tC (.bl b)):=fun _ _ _ H _ I h=>Constant_bool ⟨.bl b,H,I,rfl,h⟩
theorem Am {j pos}:PE X (.Constant .none j pos) (tC .non):=fun _ _ _ H _ I h=>Constant_none ⟨.non,H,I,rfl,h⟩
noncomputable def Gl (X:Cx) (x:Str):Prop:=X.env.kindOf x=some .globalImplicit
theorem jn {E:Value->Shared->Prop} {pins:List (Addr×Obj)} {s:Shared} {σ:St} {H:Hp} {x:Str} {u:Value} {pos:Pos} {Q:Value->Shared->Prop} (I:Inv X pins σ H s) (j:Gl X x) (hm:X.mg x=some u) (h:Q u s)
 (hd:(x==("__debug__":Str))=false:=by decide):wpAny (model X.prog X.w) X.A (eval (.Name x pos) X.env) Q E s :=
 Calls.Name_function_global I.ok.kind j (Calls.loadGlobal_global (by rw [I.ok.glob];exact I.mod.glob.keeps I.bk) hm h) hd
theorem dl {E:Value->Shared->Prop} {pins:List (Addr×Obj)} {s:Shared} {σ:St} {H:Hp} {x:Str} {u:Value} {pos:Pos} {Q:Value->Shared->Prop} (I:Inv X pins σ H s) (j:Gl X x) (hm:X.mg x=none) (q:bootBuiltins x=some u) (h:Q u s)
 (z:x ≠ "__name__" := by decide) (hd:(x==("__debug__":Str))=false:=by decide):wpAny (model X.prog X.w) X.A (eval (.Name x pos) X.env) Q E s:=by
 obtain ⟨mb,h1,h2⟩:=I.mod.blt
 exact Calls.Name_function_global I.ok.kind j (Calls.loadGlobal_builtin (by rw [I.ok.glob];exact I.mod.glob.keeps I.bk) hm (by rw [I.ok.blt];exact h1.keeps I.bk) ((h2 x z).trans q) h) hd
theorem ym {x:Str} {v:V} {u:Value} {pos:Pos} (j:Gl X x) (hm:X.mg x=some u) (r:RelV v u) (hd:(x==("__debug__":Str))=false:=by decide):PE X (.Name x pos) (tC v) :=
 fun _ _ _ H _ I h=>jn I j hm ⟨v,H,I,r,h⟩ hd
theorem yn {x:Str} {v:V} {u:Value} {pos:Pos} (j:Gl X x) (hm:X.mg x=none) (q:bootBuiltins x=some u) (r:RelV v u) (z:x ≠ "__name__" := by decide) (hd:(x==("__debug__":Str))=false:=by decide):PE X (.Name x pos) (tC v) :=
 fun _ _ _ H _ I h=>dl I j hm q ⟨v,H,I,r,h⟩ z hd
variable {a b:Expr} {ta tb:TE} {pos:Pos}
variable {tA tB':TT} {rest:List Expr}
noncomputable def CY (t u:TT):TT:=fun σ H Q=>t σ H fun c H1=>if c=true then u σ H1 Q else Q false H1
noncomputable def tOr (t u:TT):TT:=fun σ H Q=>t σ H fun c H1=>if c=true then Q true H1 else u σ H1 Q
noncomputable def CZ (t:TT):TT:=fun σ H Q=>t σ H fun c H1=>Q (!c) H1
theorem yo (j:PT X a tA):PW X (.BoolOp .And [a] pos) tA:=by
 intro wh pins s σ H Q I h
 refine isTrue_and (thn (j pins s σ H Q I h) fun c s1 e => ?_)
 cases c with
 | true=>exact isTrue_and_nil e
 | false=>exact e
theorem An (j:PT X a tA):PW X (.BoolOp .Or [a] pos) tA:=by
 intro wh pins s σ H Q I h
 refine isTrue_or (thn (j pins s σ H Q I h) fun c s1 e => ?_)
 cases c with
 | false=>exact isTrue_or_nil e
 | true=>exact e
theorem Ao (z:PT X a tA) (B:PW X (.BoolOp .And (b::rest) pos) tB'):PW X (.BoolOp .And (a::b::rest) pos) (CY tA tB'):=by
 intro wh pins s σ H Q I h
 refine isTrue_and (thn (z pins s σ H _ I h) fun c s1 ⟨H1,j,q⟩ => ?_)
 cases c with
 | true=>exact B wh pins s1 σ H1 Q j q
 | false=>exact ⟨H1,j,q⟩
theorem C5 (z:PT X a tA) (B:PW X (.BoolOp .Or (b::rest) pos) tB'):PW X (.BoolOp .Or (a::b::rest) pos) (tOr tA tB'):=by
 intro wh pins s σ H Q I h
 refine isTrue_or (thn (z pins s σ H _ I h) fun c s1 ⟨H1,j,q⟩ => ?_)
 cases c with
 | true=>exact ⟨H1,j,q⟩
 | false=>exact B wh pins s1 σ H1 Q j q
theorem Ap (j:PT X a tA):PT X (.UnaryOp .Not a pos) (CZ tA):=by
 intro pins s σ H Q I h
 exact isTrue_not (j pins s σ H (fun c H1=>Q (!c) H1) I h)
noncomputable def C6 (ta tb:TE):TE:=fun σ H Q=>ta σ H fun x H1 => ∃ c,x = .bl c/\if c=true then tb σ H1 Q else Q (.bl false) H1
noncomputable def D3 (ta tb:TE):TE:=fun σ H Q=>ta σ H fun x H1 => ∃ c,x = .bl c/\if c=true then Q (.bl true) H1 else tb σ H1 Q
noncomputable def C7 (ta:TE):TE:=fun σ H Q=>ta σ H fun x H1 => ∃ c,x = .bl c/\Q (.bl (!c)) H1
theorem Aq {op} {t:TE} (h:PE X a t):PE X (.BoolOp op [a] pos) t:=fun pins s σ H Q I hw=>BoolOp_one (h pins s σ H Q I hw)
theorem Ar (z:PE X a ta) (B:PE X (.BoolOp .And (b::rest) pos) tb):PE X (.BoolOp .And (a::b::rest) pos) (C6 ta tb):=by
 intro pins s σ H Q I h
 refine BoolOp_and (thn (z pins s σ H _ I h) fun v s1 ⟨x,H1,q,F,j⟩ => ?_)
 obtain ⟨c,rfl,j⟩:=j
 cases F
 refine wpAny_truthy_bool ?_
 cases c with
 | true=>exact B pins s1 σ H1 Q q j
 | false=>exact ⟨.bl false,H1,q,rfl,j⟩
theorem C8 (z:PE X a ta) (B:PE X (.BoolOp .Or (b::rest) pos) tb):PE X (.BoolOp .Or (a::b::rest) pos) (D3 ta tb):=by
 intro pins s σ H Q I h
 refine BoolOp_or (thn (z pins s σ H _ I h) fun v s1 ⟨x,H1,q,F,j⟩ => ?_)
 obtain ⟨c,rfl,j⟩:=j
 cases F
 refine wpAny_truthy_bool ?_
 cases c with
 | false=>exact B pins s1 σ H1 Q q j
 | true=>exact ⟨.bl true,H1,q,rfl,j⟩
theorem As (q:PE X a ta):PE X (.UnaryOp .Not a pos) (C7 ta):=by
 intro pins s σ H Q I h
 refine UnaryOp_ (thn (q pins s σ H _ I h) fun v s1 ⟨x,H1,z,B,j⟩ => ?_)
 obtain ⟨c,rfl,j⟩:=j
 cases B
 exact not_of (wpAny_truthy_bool ⟨.bl (!c),H1,z,rfl,j⟩)
noncomputable def tIf (t:TT) (ta tb:TE):TE:=fun σ H Q=>t σ H fun c H1=>if c=true then ta σ H1 Q else tb σ H1 Q
theorem uT {c:Expr} (z:PT X c tA) (B:PE X a ta) (F:PE X b tb):PE X (.IfExp c a b pos) (tIf tA ta tb):=by
 intro pins s σ H Q I h
 refine wpAny_IfExp (thn (z pins s σ H _ I h) fun d s1 ⟨H1,j,q⟩ => ?_)
 cases d with
 | true=>exact B pins s1 σ H1 Q j q
 | false=>exact F pins s1 σ H1 Q j q
end
end
section
noncomputable def SqL (K:Frag) (H:Hp) (a:Addr) (xs:List V):Prop :=
 Rd H a (.lst xs) ∨
  ∃ (o:Obj) (its:Array Value) (n:Nat),K.lookup a=some o/\o.cls = .type "list" /\ o.dict=none/\o.data = .seq its n/\its.size<=sizeLine/\Vals xs its.toList
noncomputable def SqT (K:Frag) (H:Hp) (a:Addr) (xs:List V):Prop :=
 Rd H a (.tup xs) ∨
  ∃ (o:Obj) (its:Array Value) (n:Nat),K.lookup a=some o/\o.cls = .type "tuple" /\ o.data = .seq its n/\its.size<=sizeLine/\Vals xs its.toList
noncomputable def D4:Value->Option V
 | .none=>some .non
 | .bool b=>some (.bl b)
 | .int i _=>some (.int i)
 | .str x _=>some (.str x)
 | .bytes b _=>some (.byt b)
 | .float b _=>some (.flt b)
 | .ref a=>some (.ref a)
 | .type n=>some (.ty n)
 | _=>none
theorem RelV.abs {x:V} {u:Value} (r:RelV x u):D4 u=some x:=by
 cases x with
 | non=>cases r;rfl
 | bl _=>cases r;rfl
 | int _=>obtain ⟨t,rfl⟩:=r;rfl
 | str _=>obtain ⟨t,rfl⟩:=r;rfl
 | byt _=>obtain ⟨t,rfl⟩:=r;rfl
 | flt _=>obtain ⟨t,rfl⟩:=r;rfl
 | ref _=>cases r;rfl
 | ty _=>cases r;rfl
theorem RelV.inj {x y:V} {u:Value} (r:RelV x u) (q:RelV y u):x=y:=Option.some.inj (r.abs.symm.trans q.abs)
theorem Vals.inj:∀ {xs ys:List V} {us:List Value},Vals xs us->Vals ys us->xs=ys
 | _,_,_, .nil, .nil=>rfl
 | _,_,_, .cons r t, .cons r' t'=>by rw [r.inj r',Vals.inj t t']
section
variable {X:Cx} {pins:List (Addr×Obj)} {σ:St} {H:Hp} {s:Shared} {a:Addr} {xs ys:List V}
theorem SqL.of {K:Frag} (h:H a=some (.lst xs)):SqL K H a xs := .inl (.inl h)
theorem SqT.of {K:Frag} (h:H a=some (.tup xs)):SqT K H a xs := .inl (.inl h)
theorem Inv.list (I:Inv X pins σ H s) (h:SqL X.K H a xs):∃ its:List Value,Vals xs its/\PlainL s.heap a its.toArray/\xs.length<=sizeLine:=by
 rcases h with h | ⟨o,its,n,j,q,hd,hs,B,r⟩
 ·obtain ⟨z,its,n,r,e⟩:=h.ok I.hok
  exact ⟨its,r,⟨_,n,e,rfl,rfl,rfl⟩,z⟩
 ·refine ⟨its.toList,r,⟨o,n,I.kIn a o j,q,hd,by simpa using hs⟩, ?_⟩
  have e:=r.length
  simp only [Array.length_toList] at e
  omega
theorem Inv.tuple (I:Inv X pins σ H s) (h:SqT X.K H a xs):∃ its:List Value,Vals xs its/\IsTup s.heap a its.toArray/\xs.length<=sizeLine:=by
 rcases h with h | ⟨o,its,n,j,q,hs,B,r⟩
 ·obtain ⟨z,its,r,p⟩:=h.ok I.hok
  exact ⟨its,r,p,z⟩
 ·refine ⟨its.toList,r,⟨o,I.kIn a o j,q,n,by simpa using hs⟩, ?_⟩
  have e:=r.length
  simp only [Array.length_toList] at e
  omega
theorem Inv.list_inj (I:Inv X pins σ H s) (h:SqL X.K H a xs) (h':SqL X.K H a ys):xs=ys:=by
 obtain ⟨its,r,⟨o,n,e,_,_,d⟩,_⟩:=I.list h
 obtain ⟨its',r',⟨o',n',e',_,_,d'⟩,_⟩:=I.list h'
 rw [e] at e';cases e'
 rw [d] at d'
 injection d' with d1 _
 have:its=its':=by simpa using congrArg Array.toList d1
 subst this
 exact r.inj r'
theorem Inv.tuple_inj (I:Inv X pins σ H s) (h:SqT X.K H a xs) (h':SqT X.K H a ys):xs=ys:=by
 obtain ⟨its,r,⟨o,e,_,n,d⟩,_⟩:=I.tuple h
 obtain ⟨its',r',⟨o',e',_,n',d'⟩,_⟩:=I.tuple h'
 rw [e] at e';cases e'
 rw [d] at d'
 injection d' with d1 _
 have:its=its':=by simpa using congrArg Array.toList d1
 subst this
 exact r.inj r'
end
noncomputable abbrev Cx.wish (X:Cx) (E:Value->Shared->Prop):Cx := { X with xe:=E }
noncomputable abbrev Cx.nox (X:Cx):Cx:=X.wish fun _ _=>False
theorem Cx.Ok.wish {X:Cx} (ok:X.Ok) (E:Value->Shared->Prop):(X.wish E).Ok :=
 ⟨ok.mod,ok.kind,ok.glob,ok.blt,ok.above,ok.inj,ok.has,ok.cab,ok.hd,ok.frames,ok.stk,ok.exf,ok.bs,ok.bsz,ok.noex,ok.exfs,ok.funs,ok.frf⟩
theorem Cx.Ok.unwish {X:Cx} {E:Value->Shared->Prop} (ok:(X.wish E).Ok):X.Ok :=
 ⟨ok.mod,ok.kind,ok.glob,ok.blt,ok.above,ok.inj,ok.has,ok.cab,ok.hd,ok.frames,ok.stk,ok.exf,ok.bs,ok.bsz,ok.noex,ok.exfs,ok.funs,ok.frf⟩
section
variable {X:Cx} {pins:List (Addr×Obj)} {σ:St} {H:Hp} {s:Shared} {E:Value->Shared->Prop}
theorem Inv.wish (I:Inv X pins σ H s) (E:Value->Shared->Prop):Inv (X.wish E) pins σ H s:=⟨I.ok.wish E,I.os,I.bare,I.base,I.loc,I.cell,I.free,I.freeC,I.pin,I.hok,I.len⟩
theorem Inv.unwish (I:Inv (X.wish E) pins σ H s):Inv X pins σ H s:=⟨I.ok.unwish,I.os,I.bare,I.base,I.loc,I.cell,I.free,I.freeC,I.pin,I.hok,I.len⟩
theorem SP.unwish {D:be} {f:Flow} {s':Shared} (h:SP (X.wish E) pins D f s'):SP X pins D f s':=by
 cases f with
 | next=>obtain ⟨σ',H',I,q⟩:=h;exact ⟨σ',H',I.unwish,q⟩
 | brk=>obtain ⟨σ',H',I,q⟩:=h;exact ⟨σ',H',I.unwish,q⟩
 | cont=>obtain ⟨σ',H',I,q⟩:=h;exact ⟨σ',H',I.unwish,q⟩
 | ret u=>obtain ⟨v, σ',H',I,r,q⟩:=h;exact ⟨v, σ',H',I.unwish,r,q⟩
theorem PSs.nox {st:List Stmt} {t:TS} (h:PSs X.nox st t):PSs X st t:=fun pins s σ H D I hw =>
 wpAny_mono (h pins s σ H D (I.wish _) hw) (fun _ _ q=>q.unwish) fun _ _ z=>False.elim z
end
section
variable {X:Cx} {st:Stmt} {rest:List Stmt} {t u:TS} {e:Expr} {te:TE} {pos:Pos}
noncomputable def q8:TS:=fun D σ H=>D.nx σ H
noncomputable def Au (t u:TS):TS:=fun D σ H=>t { D with nx:=u D } σ H
theorem yp:PSs X [] q8:=fun _ _ σ H _ I h=>wpAny_execs_nil ⟨σ,H,I,h⟩
theorem uU (h1:PS X st t) (h2:PSs X rest u):PSs X (st::rest) (Au t u):=by
 intro pins s σ H D I h
 refine wpAny_execs_cons (thn (h1 pins s σ H { D with nx:=u D } I h) fun f s1 q => ?_)
 cases f with
 | next =>
   obtain ⟨σ',H',I',q⟩:=q
   exact h2 pins s1 σ' H' D I' q
 | ret v=>exact q
 | brk=>exact q
 | cont=>exact q
noncomputable def rO:TS:=fun D σ H=>D.bk σ H
noncomputable def xF:TS:=fun D σ H=>D.ct σ H
theorem yq:PS X (.Pass pos) q8:=fun _ _ σ H _ I h=>wpAny_Pass ⟨σ,H,I,h⟩
theorem uV:PS X (.Break pos) rO:=fun _ _ σ H _ I h=>wpAny_Break ⟨σ,H,I,h⟩
theorem ot:PS X (.Continue pos) xF:=fun _ _ σ H _ I h=>wpAny_Continue ⟨σ,H,I,h⟩
theorem Inv.quiet {pins:List (Addr×Obj)} {σ:St} {H:Hp} {s:Shared} (I:Inv X pins σ H s):interactive X.env=false:=by simp [interactive,I.ok.kind]
noncomputable def xG (te:TE):TS:=fun D σ H=>te σ H fun _ H1=>D.nx σ H1
theorem yr (he:PE X e te) (hs:swapsWith e none pos.line X.env=pure false:=by rfl):PS X (.Expr e pos) (xG te):=by
 intro pins s σ H D I h
 exact wpAny_Expr_any (thn (he pins s σ H _ I h) fun v s1 ⟨x,H1,j,z,q⟩=>⟨σ,H1,j,q⟩) I.quiet hs
noncomputable def Av (te:TE):TS:=fun D σ H=>te σ H D.rt
theorem Aw (he:PE X e te):PS X (.Return (some e) pos) (Av te):=by
 intro pins s σ H D I h
 exact wpAny_Return_some (thn (he pins s σ H _ I h) fun v s1 ⟨x,H1,j,q,z⟩=>⟨x, σ,H1,j,q,z⟩)
noncomputable def Ax (c:TT) (t u:TS):TS:=fun D σ H=>c σ H fun b H1=>if b=true then t D σ H1 else u D σ H1
theorem C9 {c:Expr} {a b:List Stmt} {tc:TT} (z:PT X c tc) (B:PSs X a t) (F:PSs X b u):PS X (.If c a b pos) (Ax tc t u):=by
 intro pins s σ H D I h
 refine wpAny_If (thn (z pins s σ H _ I h) fun d s1 ⟨H1,j,q⟩ => ?_)
 cases d with
 | true=>exact B pins s1 σ H1 D j q
 | false=>exact F pins s1 σ H1 D j q
end
noncomputable abbrev TG:=V->St->Hp->(St->Hp->Prop)->Prop
noncomputable abbrev TGs:=List V->St->Hp->(St->Hp->Prop)->Prop
noncomputable def PG (X:Cx) (target:Expr) (t:TG):Prop :=
 ∀ (pins:List (Addr×Obj)) (s:Shared) (σ:St) (H:Hp) (v:V) (u:Value) (Q:St->Hp->Prop),Inv X pins σ H s->RelV v u->t v σ H Q ->
  wpAny (model X.prog X.w) X.A (assign target X.env u) (fun _ s' => ∃ σ' H',Inv X pins σ' H' s'/\Q σ' H') X.xe s
noncomputable def PGs (X:Cx) (ts:List Expr) (t:TGs):Prop :=
 ∀ (pins:List (Addr×Obj)) (s:Shared) (σ:St) (H:Hp) (vs:List V) (us:List Value) (Q:St->Hp->Prop),Inv X pins σ H s->Vals vs us->t vs σ H Q ->
  wpAny (model X.prog X.w) X.A (assignInOrder ((assignEach ts X.env).map (·.2)) us) (fun _ s' => ∃ σ' H',Inv X pins σ' H' s'/\Q σ' H') X.xe s
noncomputable abbrev jo:=V->V->V->Hp->(Hp->Prop)->Prop
noncomputable def PSet (X:Cx) (t:jo):Prop :=
 ∀ (pins:List (Addr×Obj)) (s:Shared) (σ:St) (H:Hp) (o i v:V) (ov iv u:Value) (Q:Hp->Prop),Inv X pins σ H s->RelV o ov->RelV i iv->RelV v u->t o i v H Q ->
  wpAny (model X.prog X.w) X.A (setItem ov iv u) (fun _ s' => ∃ H',Inv X pins σ H' s'/\Q H') X.xe s
noncomputable abbrev TIp:=V->V->Hp->VK->Prop
noncomputable def PIp (X:Cx) (op:Operator) (t:TIp):Prop :=
 ∀ (pins:List (Addr×Obj)) (s:Shared) (σ:St) (H:Hp) (x y:V) (v u:Value) (Q:VK),Inv X pins σ H s->RelV x v->RelV y u->t x y H Q ->
  wpAny (model X.prog X.w) X.A (inplaceOp op v u) (EP X pins σ Q) X.xe s
section
variable {X:Cx} {pos:Pos}
noncomputable def im (i:Nat):TG:=fun v σ H Q=>Q (σ.set i (some v)) H
theorem oH {i:Nat} {x:Str} (j:X.N.Nodup) (hi:X.N[i]? = some x) (hx:Loc X.env.scope x) (hf:X.fn x=true∨X.env.scope.names.lookup x=some .local:=by first | exact .inl rfl | exact .inr rfl | assumption):PG X (.Name x pos) (im i):=by
 intro pins s σ H v u Q I r h
 exact wpAny_assign_Name (gO I j hi hx r (fun s' I'=>⟨_,H,I',h⟩) hf)
noncomputable def D5:TGs:=fun vs σ H Q=>vs=[]/\Q σ H
noncomputable def Ca (t:TG) (u:TGs):TGs:=fun vs σ H Q => ∃ v r,vs=v::r/\t v σ H fun σ' H'=>u r σ' H' Q
theorem yt:PGs X [] D5:=by
 intro pins s σ H vs us Q I r h
 obtain ⟨e,h⟩:=h
 subst e
 cases r
 exact assignInOrder_nil ⟨σ,H,I,h⟩
theorem uW {e:Expr} {es:List Expr} {t:TG} {u:TGs} (h1:PG X e t) (h2:PGs X es u)
 (hs:(assignEach (e::es) X.env).map (·.2)=assign e X.env::(assignEach es X.env).map (·.2):=by rfl):PGs X (e::es) (Ca t u):=by
 intro pins s σ H vs us Q I r h
 obtain ⟨v,vr,j,h⟩:=h
 subst j
 cases r with
 | cons r rr =>
   rw [hs]
   refine assignInOrder_cons (thn (h1 pins s σ H _ _ _ I r h) fun _ s1 ⟨σ1,H1,q,z⟩ => ?_)
   exact h2 pins s1 σ1 H1 _ _ Q q rr z
noncomputable def D6 (K:Frag) (n:Nat) (t:TGs):TG:=fun v σ H Q => ∃ a xs,v = .ref a/\SqT K H a xs/\xs.length=n/\t xs σ H Q
theorem Ay {es:List Expr} {k:Nat} {t:TGs} {n:Nat} (q:X.calm=true) (h:PGs X es t)
 (z:(assignEach es X.env).length=n:=by rfl) (j:(assignEach es X.env).findIdx? (·.1)=none:=by rfl):PG X (.Tuple es k pos) (D6 X.K n t):=by
 intro pins s σ H v u Q I r hw
 obtain ⟨a,xs,B,F,G,hw⟩:=hw
 subst B
 cases r
 obtain ⟨its,rv,J,O⟩:=I.tuple F
 refine assign_Tuple_tuple (I.ok.hd q) J (by simp [z, <- G,rv.length]) j fun h' hx => ?_
 have L:Inv X pins σ H { s with heap:=h' }:=I.kept (t':=s.toks) fun b o e=>hx b o (Nat.ne_of_lt (Heap.lt_size e)) e
 exact h pins _ σ H xs _ Q L (by simpa using rv) hw
noncomputable def D7 (to ti:TE) (t:jo):TG:=fun v σ H Q=>to σ H fun o H1=>ti σ H1 fun i H2=>t o i v H2 fun H3=>Q σ H3
theorem Az {o i:Expr} {to ti:TE} {t:jo} (ho:PE X o to) (hi:PE X i ti) (hs:PSet X t)
 (j:∀ v,assign (.Subscript o i pos) X.env v=(do
   let ov <- holding [v] (eval o X.env)
   let iv <- holding [v,ov] (eval i X.env)
   standAt pos
   holding [v,ov,iv] (setItem ov iv v)
   release [v,ov,iv] []):=by intro _;rfl):PG X (.Subscript o i pos) (D7 to ti t):=by
 intro pins s σ H v u Q I r h
 rw [j]
 refine wpAny_bind (wpAny_holding (thn (ho pins s σ H _ I h) fun ov s1 ⟨x,H1,q,z,B⟩ => ?_))
 refine wpAny_bind (wpAny_holding (thn (hi pins s1 σ H1 _ q B) fun iv s2 ⟨y,H2,F,G,J⟩ => ?_))
 refine wpAny_bind (wpAny_standAt (wpAny_bind (wpAny_holding (thn (hs pins s2 σ H2 x y v ov iv u _ F z G r J) fun _ s3 ⟨L,O,U⟩ => ?_))))
 exact wpAny_release ⟨σ,L,O,U⟩
noncomputable def lF (te:TE) (g:TG):TS:=fun D σ H=>te σ H fun x H1=>g x σ H1 D.nx
theorem lH {tg e:Expr} {te:TE} {g:TG} (he:PE X e te) (j:PG X tg g) (hs:swapsWithSole [tg] e pos.line X.env=pure false:=by rfl) (hw:swappedStores [tg] e X.env=pure none:=by rfl)
 (h1:(assignEach [tg] X.env).map (·.2)=[assign tg X.env]:=by rfl):PS X (.Assign [tg] e pos) (lF te g):=by
 intro pins s σ H D I h
 refine wpAny_Assign_stores (thn (he pins s σ H _ I h) fun v s1 ⟨x,H1,z,B,F⟩ => ?_) hs hw
 rw [h1]
 exact thn (j pins s1 σ H1 x v _ z B F) fun _ s2 q=>q
noncomputable def AA (i j:Nat) (ta:TA):TS:=fun D σ H=>ta σ H fun vs H1 => ∃ v w,vs=[v,w]/\D.nx ((σ.set i (some v)).set j (some w)) H1
theorem AB {i j:Nat} {x y:Str} {a b:Expr} {ta:TA} {px py pt:Pos} {kt G z} (hc:X.calm=true) (U:X.N.Nodup) (hi:X.N[i]? = some x) (hj:X.N[j]? = some y) (J:i≠j)
 (hx:X.env.scope.names.lookup x=some .local) (Y:X.env.scope.names.lookup y=some .local) (ha:PA X [a,b] ta)
 (hw:swappedStores [.Tuple [.Name x px, .Name y py] kt pt] (.Tuple [a,b] G z) X.env=pure (some [x,y]))
 (hs:swapsWithSole [.Tuple [.Name x px, .Name y py] kt pt] (.Tuple [a,b] G z) pos.line X.env=pure false:=by rfl) :
 PS X (.Assign [.Tuple [.Name x px, .Name y py] kt pt] (.Tuple [a,b] G z) pos) (AA i j ta):=by
 intro pins s σ H D I h
 rw [exec_Assign_arm]
 refine wpAny_bind (wpAny_standAt ?_)
 rw [hs]
 refine wpAny_bind (wpAny_pure ?_)
 rw [if_neg (by decide)]
 refine wpAny_bind (Tuple_ (thn (ha _ pins s σ H _ I h) fun us s1 ⟨vs,H1,I1,r1,L⟩ => ?_))
 obtain ⟨v,w,e1,L⟩:=L
 subst e1
 obtain ⟨B,F,rfl,rv,rw'⟩:∃ B F,us=[B,F]/\RelV v B/\RelV w F:=by
  cases r1 with
  | cons p q =>
    cases q with
    | cons p' q' =>
      cases q'
      exact ⟨_,_,rfl,p,p'⟩
 refine wpAny_newObj_type ?_ (by show 2<=sizeLine;decide)
 have I2:Inv X pins σ H1 { s1 with heap:=s1.heap.push { cls := .type "tuple",data := .seq [B,F].toArray } }:=I1.kept (t':=s1.toks) fun b o e=>Heap.get?_push_of_some _ e
 rw [hw]
 refine wpAny_bind (wpAny_pure ?_)
 show wpAny (model X.prog X.w) X.A (do rule "assign.swapped-stores";let items <- unpackItems (.ref s1.heap.objs.size) 2 none;assignInOrder [fun v=>bindName X.env y v,fun v=>bindName X.env x v] items.reverse;pure Flow.next) _ _ _
 refine wpAny_bind (wpAny_rule (wpAny_bind (unpackItems_tuple (items := #[B,F]) (I.ok.hd hc) (IsTup.new s1.heap _) fun h' O => ?_)))
 have I3:=I2.kept (h':=h') (t':=s1.toks) fun b o e=>O b o (Nat.ne_of_lt (Heap.lt_size e)) e
 show wpAny _ _ (assignInOrder [fun v=>bindName X.env y v,fun v=>bindName X.env x v] [F,B] >>= fun _=>pure Flow.next) _ _ _
 refine wpAny_bind (assignInOrder_cons (wpAny_bindName (gO I3 U hj (.inl Y) rw' (fun s2 I4 => ?_) (.inr Y))))
 refine assignInOrder_cons (wpAny_bindName (gO I4 U hi (.inl hx) rv (fun s3 Z=>assignInOrder_nil (wpAny_pure ?_)) (.inr hx)))
 rw [List.set_comm _ _ (Ne.symm J)] at Z
 exact ⟨_,H1,Z,L⟩
noncomputable def Cb (to ti te:TE) (tget:V->V->Hp->VK->Prop) (tip:TIp) (tset:jo):TS:=fun D σ H=>to σ H fun o H1=>ti σ H1 fun i H2=>tget o i H2 fun x H3=>te σ H3 fun y H4=>tip x y H4 fun z H5=>tset o i z H5 fun H6=>D.nx σ H6
noncomputable def AC (X:Cx) (t:V->V->Hp->VK->Prop):Prop :=
 ∀ (pins:List (Addr×Obj)) (s:Shared) (σ:St) (H:Hp) (o i:V) (ov iv:Value) (Q:VK),Inv X pins σ H s->RelV o ov->RelV i iv->t o i H Q ->
  wpAny (model X.prog X.w) X.A (getItem ov iv) (EP X pins σ Q) X.xe s
theorem yu {o i e:Expr} {to ti te:TE} {tget:V->V->Hp->VK->Prop} {tip:TIp} {tset:jo} {op:Operator} {tpos:Pos} (ho:PE X o to) (hi:PE X i ti) (F:AC X tget) (he:PE X e te) (G:PIp X op tip) (hs:PSet X tset)
 (J:∀ ov iv new,augStore i ov iv new=(do holding [new,ov,iv] (setItem ov iv new);release [new,ov,iv] [];pure .next):=by intros;rfl):PS X (.AugAssign (.Subscript o i tpos) op e pos) (Cb to ti te tget tip tset):=by
 intro pins s σ H D I h
 refine wpAny_AugAssign_SubscriptAny (thn (ho pins s σ H _ I h) fun ov s1 ⟨j,H1,L,q,O⟩ => ?_) J
 refine thn (hi pins s1 σ H1 _ L O) fun iv s2 ⟨z,H2,U,B,Y⟩ => ?_
 refine thn (F pins s2 σ H2 j z ov iv _ U q B Y) fun old s3 ⟨Z,H3,I3,r3,q3⟩ => ?_
 refine thn (he pins s3 σ H3 _ I3 q3) fun v s4 ⟨x4,H4,I4,r4,q4⟩ => ?_
 refine thn (G pins s4 σ H4 Z x4 old v _ I4 r3 r4 q4) fun new s5 ⟨x5,H5,I5,r5,q5⟩ => ?_
 exact thn (hs pins s5 σ H5 j z x5 ov iv new _ I5 q B r5 q5) fun _ s6 ⟨H6,I6,q6⟩=>⟨σ,H6,I6,q6⟩
end
section
variable {X:Cx} {pos:Pos}
noncomputable def rP (c:TT) (tb:TS):TS:=fun D σ H => ∃ W:Nat->St->Hp->Prop,(∃ m,W m σ H) /\ ∀ m σ H,W m σ H ->
 c σ H fun b H1=>if b=true then ∃ N:St->Hp->Prop,(∀ σ' H',N σ' H' -> ∃ m',m' < m/\W m' σ' H')/\tb { D with nx:=N,ct:=N,bk:=D.nx } σ H1 else D.nx σ H1
theorem uX {c:Expr} {body:List Stmt} {tc:TT} {tb:TS} (J:PassesOwn (model X.prog X.w) X.A X.env X.xe) (U:PT X c tc) (Y:PSs X body tb):PS X (.While c body [] pos) (rP tc tb):=by
 intro pins s σ H D I h
 obtain ⟨W,⟨m0,Z⟩,turn⟩:=h
 refine wpAny_While (codeAny_whileLoop (fun n s' => ∃ σ' H',Inv X pins σ' H' s'/\W n σ' H') ?_ m0 ⟨σ,H,I,Z⟩)
 rintro n s1 ⟨σ1,H1,I1,w1⟩
 refine wpAny_passesOwn J (thn (U pins s1 σ1 H1 _ I1 (turn n σ1 H1 w1)) fun b s2 ⟨H2,L,q⟩ => ?_)
 cases b with
 | true =>
   obtain ⟨N,O,q⟩:=q
   rw [if_pos rfl]
   refine wpAny_passesOwn J (thn (Y pins s2 σ1 H2 _ L q) fun f s3 z => ?_)
   cases f with
   | next =>
     obtain ⟨σ3,j,B,F⟩:=z
     obtain ⟨m',hm,G⟩:=O σ3 j F
     exact ⟨m',hm, σ3,j,B,G⟩
   | cont =>
     obtain ⟨σ3,j,B,F⟩:=z
     obtain ⟨m',hm,G⟩:=O σ3 j F
     exact ⟨m',hm, σ3,j,B,G⟩
   | brk=>exact z
   | ret v=>exact z
 | false =>
   rw [if_neg Bool.false_ne_true]
   exact wpAny_execs_nil ⟨σ1,H2,L,q⟩
end
structure It where
 go:Nat->Hp->Prop
 yld:Nat->Hp->V->Hp->Prop
 stop:Nat->Hp->Prop
noncomputable def cb (X:Cx) (pins:List (Addr×Obj)) (H:Hp) (b:Addr):Prop :=
 H b=none/\b≠X.env.locals/\b∉X.fs/\(b∈X.ex∨X.s₀.heap.objs.size<=b)/\(∀ x c,X.env.cells.lookup x=some c->c≠b) /\ ∀ p∈X.pn++pins,p.1≠b
theorem Inv.fpOk {X:Cx} {pins:List (Addr×Obj)} {σ:St} {H H':Hp} {s:Shared} {b:Addr} (I:Inv X pins σ H s) (j:s.heap.objs.size<=b) (B:H' b=none):cb X pins H' b:=by
 refine ⟨B,Nat.ne_of_gt (Nat.lt_of_lt_of_le I.lt j),I.nofs j, .inr (Nat.le_trans I.sz j),fun x c e z => ?_,fun p F z => ?_⟩
 ·obtain ⟨v,q⟩:=I.cell x c e
  exact absurd (Nat.lt_of_lt_of_le q.lt (by rw [z];exact j)) (Nat.lt_irrefl _)
 ·exact absurd (Nat.lt_of_lt_of_le (Heap.lt_size (I.pin p F).1) (by rw [z];exact j)) (Nat.lt_irrefl _)
structure fb (P:Program) (w:World) (K:Frag) (tg:Expr) (J:It) (fp:List Addr) (it:Addr) (tn:Nat->Heap->Prop):Prop where
 mem:it∈fp
 obj:∀ i h,tn i h -> ∀ b∈fp, ∃ o,h.get? b=some o /\ ∀ v,o.data ≠ .cell v
 keep:∀ i h h',tn i h->(∀ b∈fp, ∀ o,h.get? b=some o->h'.get? b=some o)->tn i h'
 item:∀ (X:Cx),X.prog=P->X.w=w->X.K=K->X.calm=true -> ∀ (i:Nat) (pins:List (Addr×Obj)) (s:Shared) (σ:St) (H:Hp) (E:Value->Shared->Prop),Inv X pins σ H s->(∀ b∈fp,cb X pins H b)->tn i s.heap->J.go i H ->
  wpAny (model P w) X.A (pyNext (.ref it)) (fun r s1 => ∃ u,r=some u /\
   wpAny (model P w) X.A (letOwnedTupleGo tg (.ref it) u) (fun _ s2 => ∃ x H',Inv X pins σ H' s2/\RelV x u/\J.yld i H x H'/\tn (i+1) s2.heap /\ ∀ b∈fp,H' b=none) E s1) E s
 done:∀ (X:Cx),X.prog=P->X.w=w->X.K=K->X.calm=true -> ∀ (i:Nat) (pins:List (Addr×Obj)) (s:Shared) (σ:St) (H:Hp) (E:Value->Shared->Prop),Inv X pins σ H s->(∀ b∈fp,cb X pins H b)->tn i s.heap->J.stop i H ->
  wpAny (model P w) X.A (pyNext (.ref it)) (fun r s1=>r=none/\Inv X pins σ H s1) E s
 self:∀ (A:Around) (i:Nat) (s:Shared) (Q:Value->Shared->Prop) (E:Value->Shared->Prop),tn i s.heap->Q (.ref it) s->wpAny (model P w) A (pyIter (.ref it)) Q E s
noncomputable abbrev TI:=St->Hp->(It->Hp->Prop)->Prop
noncomputable def PIE (X:Cx) (pins:List (Addr×Obj)) (σ:St) (tg:Expr) (R:It->Hp->Prop) (itv:Value) (s2:Shared):Prop :=
 ∃ (it:Addr) (fp:List Addr) (tn:Nat->Heap->Prop) (J:It) (H':Hp),itv = .ref it/\Inv X pins σ H' s2/\fb X.prog X.w X.K tg J fp it tn/\tn 0 s2.heap/\(∀ b∈fp,cb X pins H' b)/\R J H'
noncomputable def PI (X:Cx) (tg iter:Expr) (wi:TI):Prop :=
 ∀ (pins:List (Addr×Obj)) (s:Shared) (σ:St) (H:Hp) (R:It->Hp->Prop),Inv X pins σ H s->wi σ H R ->
  wpAny (model X.prog X.w) X.A (eval iter X.env) (fun v s1=>wpAny (model X.prog X.w) X.A (pyIter v) (PIE X pins σ tg R) X.xe s1) X.xe s
theorem q9 {M:Model} {A:Around} {E:Value->Shared->Prop} {s:Shared} {tg:Expr} {it:Addr} {u:Value} {o:Obj} {n:String} {vs:Array Value} {Q:Unit->Shared->Prop} (ho:s.heap.get? it=some o) (q:o.cls = .type n) (hd:o.data = .fields vs)
 (z : ["enumerate", "zip", "dict_itemiterator", "dict_reverseitemiterator", "odict_iterator", "itertools.zip_longest", "itertools.pairwise"].contains n=false) (j:Q () s):wpAny M A (letOwnedTupleGo tg (.ref it) u) Q E s:=by
 unfold letOwnedTupleGo
 cases tg <;> first
  | exact wpAny_pure j
  | (cases u <;> first
      | exact wpAny_pure j
      | (refine wpAny_bind (wpAny_load ho ?_)
         rw [q,hd]
         show wpAny M A (if (["enumerate", "zip", "dict_itemiterator", "dict_reverseitemiterator", "odict_iterator", "itertools.zip_longest", "itertools.pairwise"].contains n&&vs[0]? == some (rawInt _))=true then _ else _) Q E s
         rw [if_neg (by intro h;rw [z,Bool.false_and] at h;cases h)]
         exact wpAny_pure j))
noncomputable def Itl (K:Frag) (a:Addr):It :=
 ⟨fun i H => ∃ xs x,SqL K H a xs/\xs[i]? = some x,fun i H x H'=>H'=H /\ ∀ xs,SqL K H a xs->xs[i]? = some x,fun i H => ∃ xs,SqL K H a xs/\xs.length<=i⟩
noncomputable def Itt (K:Frag) (a:Addr):It :=
 ⟨fun i H => ∃ xs x,SqT K H a xs/\xs[i]? = some x,fun i H x H'=>H'=H /\ ∀ xs,SqT K H a xs->xs[i]? = some x,fun i H => ∃ xs,SqT K H a xs/\xs.length<=i⟩
noncomputable def Itr (lo:Int) (n:Nat):It:=⟨fun i _=>i < n,fun i H x H'=>H'=H/\x = .int (lo+i),fun i _=>n<=i⟩
theorem rQ {P:Program} {w:World} {K:Frag} {tg:Expr} (a it:Addr):fb P w K tg (Itl K a) [it] it (fun i h=>h.IsListIter it a i) where
 mem:=by simp
 obj:=fun i h st b j=>by
  have e:b=it:=by simpa using j
  subst e
  obtain ⟨o,e,c,d⟩:=st
  exact ⟨o,e,fun v z=>by rw [d] at z;cases z⟩
 keep:=fun i h h' st k=>st.at fun o e=>k it (by simp) o e
 item:=by
  intro X B hw F L i pins s σ H E I hf st hg
  subst B hw F
  obtain ⟨xs,x,q,hx⟩:=hg
  obtain ⟨its,rv,p,O⟩:=I.list q
  obtain ⟨u,U,ru⟩:=rv.get hx
  obtain ⟨f0,f1,f2,G,f4,J⟩:=hf it (by simp)
  refine wpAny_pyNext_list_item st p.isList (x:=u) (by simpa using U) fun h' st' sb => ?_
  have Y:Inv X pins σ H { s with heap:=h' }:=I.turned (t':=s.toks) (fun b o j e=>(sb.2 b j).trans e) f0 f1 G f4 J
  obtain ⟨o,e,c,d⟩:=id st'
  exact ⟨u,rfl,q9 (s := { s with heap:=h' }) e c d (by decide) ⟨x,H,Y,ru,⟨rfl,fun ys Z=>by rw [I.list_inj Z q];exact hx⟩,st',fun b j=>(hf b j).1⟩⟩
 done:=by
  intro X B hw F L i pins s σ H E I hf st hg
  subst B hw F
  obtain ⟨xs,q,hx⟩:=hg
  obtain ⟨its,rv,p,O⟩:=I.list q
  obtain ⟨f0,f1,f2,G,f4,J⟩:=hf it (by simp)
  have hl:=rv.length
  exact wpAny_pyNext_list_end (I.ok.hd L) st p.isList (by simp;omega) fun h' eb=>⟨rfl,I.turned (t':=s.toks) (fun b o j e=>eb b o j e) f0 f1 G f4 J⟩
 self:=fun _ _ _ _ _ st h=>wpAny_pyIter_listiter st h
theorem qa {P:Program} {w:World} {K:Frag} {tg:Expr} (a it:Addr):fb P w K tg (Itt K a) [it] it (fun i h=>h.IsTupleIter it a i) where
 mem:=by simp
 obj:=fun i h st b j=>by
  have e:b=it:=by simpa using j
  subst e
  obtain ⟨o,e,c,d⟩:=st
  exact ⟨o,e,fun v z=>by rw [d] at z;cases z⟩
 keep:=fun i h h' st k=>st.at fun o e=>k it (by simp) o e
 item:=by
  intro X B hw F L i pins s σ H E I hf st hg
  subst B hw F
  obtain ⟨xs,x,q,hx⟩:=hg
  obtain ⟨its,rv,p,O⟩:=I.tuple q
  obtain ⟨u,U,ru⟩:=rv.get hx
  obtain ⟨f0,f1,f2,G,f4,J⟩:=hf it (by simp)
  refine wpAny_pyNext_tuple_item st (show s.heap.IsTuple a its.toArray from p) (x:=u) (by simpa using U) fun h' st' sb => ?_
  have Y:Inv X pins σ H { s with heap:=h' }:=I.turned (t':=s.toks) (fun b o j e=>(sb.2 b j).trans e) f0 f1 G f4 J
  obtain ⟨o,e,c,d⟩:=id st'
  exact ⟨u,rfl,q9 (s := { s with heap:=h' }) e c d (by decide) ⟨x,H,Y,ru,⟨rfl,fun ys Z=>by rw [I.tuple_inj Z q];exact hx⟩,st',fun b j=>(hf b j).1⟩⟩
 done:=by
  intro X B hw F L i pins s σ H E I hf st hg
  subst B hw F
  obtain ⟨xs,q,hx⟩:=hg
  obtain ⟨its,rv,p,O⟩:=I.tuple q
  obtain ⟨f0,f1,f2,G,f4,J⟩:=hf it (by simp)
  have hl:=rv.length
  exact wpAny_pyNext_tuple_end (I.ok.hd L) st (show s.heap.IsTuple a its.toArray from p) (by simp;omega) fun h' eb=>⟨rfl,I.turned (t':=s.toks) (fun b o j e=>eb b o j e) f0 f1 G f4 J⟩
 self:=fun _ _ _ _ _ st h=>wpAny_pyIter_tupleiter st h
theorem qb {P:Program} {w:World} {K:Frag} {tg:Expr} (it:Addr) (lo:Int) (n:Nat):fb P w K tg (Itr lo n) [it] it (fun i h=>IsRangeIter h it (lo+(i:Nat)*1) ((n:Int) - (i:Nat)) 1) where
 mem:=by simp
 obj:=fun i h st b j=>by
  have e:b=it:=by simpa using j
  subst e
  exact ⟨_,st,fun v z=>by
   have z':Data.fields _=Data.cell v:=z
   cases z'⟩
 keep:=fun i h h' st k=>k it (by simp) _ st
 item:=by
  intro X q hw B F i pins s σ H E I hf st hg
  subst q hw B
  obtain ⟨f0,f1,f2,G,f4,J⟩:=hf it (by simp)
  have W:=Walks.range (prog:=X.prog) (w:=X.w) (I.ok.hd F) it lo 1 n
  refine W.item i s _ _ hg st fun v h' tk L st' kk => ?_
  obtain ⟨t,rfl⟩:=L
  have O:Inv X pins σ H { s with heap:=h',toks:=tk }:=I.turned (fun b o j e=>kk b o (by simpa using j) e) f0 f1 G f4 J
  refine ⟨_,rfl,q9 (s := { s with heap:=h',toks:=tk }) (n := "range_iterator") st' rfl rfl (by decide) ⟨.int (lo+i),H,O,⟨t, ?_⟩,⟨rfl,rfl⟩,st',fun b j=>(hf b j).1⟩⟩
  rw [Int.mul_one]
 done:=by
  intro X q hw B F i pins s σ H E I hf st hg
  subst q hw B
  obtain ⟨f0,f1,f2,G,f4,J⟩:=hf it (by simp)
  exact wpAny_pyNext_range_end (I.ok.hd F) st (by have:n<=i:=hg;omega) fun h' eb=>⟨rfl,I.turned (t':=s.toks) (fun b o j e=>eb b o j e) f0 f1 G f4 J⟩
 self:=fun _ _ _ _ _ st h=>wpAny_pyIter_rangeiter st h
end
section
section
variable {X:Cx} {tg:Expr}
theorem uY {pins:List (Addr×Obj)} {σ:St} {H:Hp} {s:Shared} {R:It->Hp->Prop} {E:Value->Shared->Prop} {lo hi:Int} {t u v:Tok} {tk:Nat} (I:Inv X pins σ H s) (h1 : -(2 ^ 62)<=lo) (h2:lo < 2 ^ 62) (z : -(2 ^ 62)<=hi) (B:hi < 2 ^ 62)
 (q:R (Itr lo (hi - lo).toNat) H):wpAny (model X.prog X.w) X.A (pyIter (.ref s.heap.objs.size)) (PIE X pins σ tg R) E { s with heap:=s.heap.push { cls := .type "range",data := .fields #[.int lo t, .int hi u, .int 1 v] },toks:=tk }:=by
 refine wpAny_pyIter_range (IsRange.new ..) (small_one h1 h2 z B) ?_
 have j:Inv X pins σ H { s with heap:=s.heap.push { cls := .type "range",data := .fields #[.int lo t, .int hi u, .int 1 v] },toks:=tk }:=I.kept fun b o e=>Heap.get?_push_of_some _ e
 refine ⟨(s.heap.push { cls := .type "range",data := .fields #[.int lo t, .int hi u, .int 1 v] }).objs.size,[(s.heap.push { cls := .type "range",data := .fields #[.int lo t, .int hi u, .int 1 v] }).objs.size],_,_,H,rfl,
  j.kept (t':=tk) fun b o e=>Heap.get?_push_of_some _ e,qb _ lo (hi - lo).toNat, ?_,fun b F => ?_,q⟩
 ·have G:lo+((0:Nat):Int)*1=lo:=by simp
  have J:(((hi - lo).toNat:Nat):Int) - ((0:Nat):Int)=Builtin.Range.rangeSize lo hi 1:=by rw [rangeSize_one];split <;> omega
  show IsRangeIter _ _ (lo+((0:Nat):Int)*1) ((((hi - lo).toNat:Nat):Int) - ((0:Nat):Int)) 1
  rw [G,J]
  exact Heap.get?_push_size _ rfl
 ·have e:b=(s.heap.push { cls := .type "range",data := .fields #[.int lo t, .int hi u, .int 1 v] }).objs.size:=by simpa using F
  subst e
  exact j.fpOk (Nat.le_refl _) (j.hok.fresh (Nat.le_refl _))
noncomputable def Cc (ta:TA):TI:=fun σ H R=>ta σ H fun vs H1 => ∃ j:Int,vs=[.int j] /\ -(2 ^ 62)<=j/\j < 2 ^ 62/\R (Itr 0 j.toNat) H1
theorem rR {a:Expr} {ta:TA} {p pos:Pos} (B:Gl X "range") (hm:X.mg "range" = none) (F:PA X [a] ta) (hs:starEach [a] X.env=[(false,eval a X.env)]:=by rfl):PI X tg (.Call (.Name "range" p) [a] [] pos) (Cc ta):=by
 intro pins s σ H R I h
 refine Call_ (dl I B hm boot_range (PyProof.Rows.callWith_type1 (thn (F pos pins s σ H _ I h) fun us s1 ⟨vs,H1,G,J,z⟩ => ?_) hs rfl))
 obtain ⟨j,e,z,L,q⟩:=z
 subst e
 cases J with
 | cons r rr =>
   cases rr
   obtain ⟨t,rfl⟩:=r
   exact call_range_1 (uY G (by omega) (by omega) z L (by simpa using q))
noncomputable def AD (wi:TI) (g:TG) (tb:TS):TS:=fun D σ H=>wi σ H fun J H1 => ∃ W:Nat->Nat->St->Hp->Prop,(∃ m,W 0 m σ H1) /\ ∀ i m σ H,W i m σ H ->
 (J.stop i H/\D.nx σ H)∨(J.go i H /\ ∃ N:St->Hp->Prop,(∀ σ' H',N σ' H' -> ∃ m',m' < m/\W (i+1) m' σ' H') /\ ∀ x H',J.yld i H x H'->g x σ H' fun σ2 H2=>tb { D with nx:=N,ct:=N,bk:=D.nx } σ2 H2)
noncomputable def io (fp:List Addr) (h:Heap):List (Addr×Obj):=fp.filterMap fun b=>(h.get? b).map fun o=>(b,o)
theorem cO {fp:List Addr} {h:Heap} {b:Addr} {o:Obj} (j:b∈fp) (e:h.get? b=some o):(b,o)∈io fp h:=List.mem_filterMap.mpr ⟨b,j,by rw [e];rfl⟩
theorem rS {fp:List Addr} {h:Heap} {p:Addr×Obj} (j:p∈io fp h):p.1∈fp/\h.get? p.1=some p.2:=by
 obtain ⟨b,z,e⟩:=List.mem_filterMap.mp j
 cases q:h.get? b with
 | none=>rw [q] at e;cases e
 | some o =>
   rw [q] at e
   have e':(b,o)=p:=Option.some.inj e
   subst e'
   exact ⟨z,q⟩
theorem Inv.pinned {pins:List (Addr×Obj)} {σ:St} {H:Hp} {s:Shared} {fp:List Addr} (I:Inv X pins σ H s) (hf:∀ b∈fp,cb X pins H b) (ho:∀ b∈fp, ∃ o,s.heap.get? b=some o /\ ∀ v,o.data ≠ .cell v):Inv X (pins++io fp s.heap) σ H s :=
 I.pins_of fun p q=>(List.mem_append.mp q).elim (fun z=>I.pin p (List.mem_append_right _ z)) fun z=>by
  obtain ⟨j,e⟩:=rS z
  obtain ⟨f0,f1,f2,_⟩:=hf p.1 j
  obtain ⟨o,e',d⟩:=ho p.1 j
  rw [e] at e';cases e'
  exact ⟨e,f0,f1,f2,d⟩
theorem Inv.unpinned {pins pl:List (Addr×Obj)} {σ:St} {H:Hp} {s:Shared} (I:Inv X (pins++pl) σ H s):Inv X pins σ H s:=I.pins_of fun p j=>I.pin p (List.mem_append_right _ (List.mem_append_left _ j))
theorem AE {iter:Expr} {body:List Stmt} {wi:TI} {g:TG} {tb:TS} {pos:Pos} (G:PassesOwn (model X.prog X.w) X.A X.env X.xe) (hc:X.calm=true) (hi:PI X tg iter wi) (hg:PG X tg g) (j:PSs X body tb)
 (hs:∀ x,foldedSetIterable iter X.env x=pure x:=by intro _;rfl):PS X (.For tg iter body [] pos) (AD wi g tb):=by
 intro pins s σ H D I h
 refine wpAny_For (thn (hi pins s σ H _ I h) fun v s1 h1=>thn h1 fun itv s2 h2 => ?_) hs
 obtain ⟨it,fp,tn,J,H2,e,I2,T,Z,f2,W,⟨m0,w0⟩,turn⟩:=h2
 subst e
 have stat:∀ {H':Hp},(∀ b∈fp,H' b=none) -> ∀ b∈fp,cb X pins H' b:=fun hn b j=>⟨hn b j,(f2 b j).2⟩
 refine codeAny_forLoop_any (fun n s' => ∃ i σ' H',Inv X pins σ' H' s'/\tn i s'.heap/\(∀ b∈fp,H' b=none)/\W i n σ' H') ?_ m0 ⟨0, σ,H2,I2,Z,fun b j=>(f2 b j).1,w0⟩
 rintro n s3 ⟨i, σ3,Y,I3,L,O,w3⟩
 rcases turn i n σ3 Y w3 with ⟨stop,qn⟩ | ⟨go,N,hN,step⟩
 ·refine wpAny_passesOwn G (thn (T.done X rfl rfl rfl hc i pins s3 σ3 Y X.xe I3 (stat O) L stop) fun r s4 ⟨hr,I4⟩ => ?_)
  subst hr
  exact wpAny_execs_nil ⟨σ3,Y,I4,qn⟩
 ·refine wpAny_passesOwn G (thn (T.item X rfl rfl rfl hc i pins s3 σ3 Y X.xe I3 (stat O) L go) fun r s4 ⟨u,hr,h4⟩ => ?_)
  subst hr
  refine wpAny_passesOwn G (thn h4 fun _ s5 ⟨x,H5,I5,r5,y5,F,Dv⟩ => ?_)
  have Dw:=I5.pinned (stat Dv) (T.obj _ _ F)
  refine wpAny_passesOwn G (thn (hg _ s5 σ3 H5 x u _ Dw r5 (step x H5 y5)) fun _ s6 ⟨σ6,H6,I6,q6⟩ => ?_)
  refine wpAny_passesOwn G (thn (j _ s6 σ6 H6 _ I6 q6) fun f s7 B => ?_)
  have again:∀ {σ7:St} {q:Hp},Inv X (pins++io fp s5.heap) σ7 q s7->N σ7 q -> ∃ m,m < n /\ ∃ i σ' H',Inv X pins σ' H' s7/\tn i s7.heap/\(∀ b∈fp,H' b=none)/\W i m σ' H':=fun {σ7 q} z U=>by
   obtain ⟨m',hm,w7⟩:=hN σ7 q U
   refine ⟨m',hm,i+1, σ7,q,z.unpinned,T.keep _ _ _ F fun b j o e=>(z.pin (b,o) (List.mem_append_right _ (List.mem_append_right _ (cO j e)))).1,fun b j => ?_,w7⟩
   obtain ⟨o,e,d⟩:=T.obj _ _ F b j
   exact (z.pin (b,o) (List.mem_append_right _ (List.mem_append_right _ (cO j e)))).2.1
  cases f with
  | next=>obtain ⟨σ7,q,z,U⟩:=B;exact again z U
  | cont=>obtain ⟨σ7,q,z,U⟩:=B;exact again z U
  | brk=>obtain ⟨σ7,q,z,B⟩:=B;exact ⟨σ7,q,z.unpinned,B⟩
  | ret v=>obtain ⟨x7, σ7,q,z,r7,B⟩:=B;exact ⟨x7, σ7,q,z.unpinned,r7,B⟩
end
end
section
noncomputable abbrev R2:=V->V->Hp->VK->Prop
noncomputable def OpR (X:Cx) (f:Value->Value->Sem Value) (r:R2):Prop :=
 ∀ (pins:List (Addr×Obj)) (s:Shared) (σ:St) (H:Hp) (x y:V) (v u:Value) (Q:VK),Inv X pins σ H s->RelV x v->RelV y u->r x y H Q ->
  wpAny (model X.prog X.w) X.A (f v u) (EP X pins σ Q) X.xe s
noncomputable def UnR (X:Cx) (f:Value->Sem Value) (r:V->Hp->VK->Prop):Prop :=
 ∀ (pins:List (Addr×Obj)) (s:Shared) (σ:St) (H:Hp) (x:V) (v:Value) (Q:VK),Inv X pins σ H s->RelV x v->r x H Q ->
  wpAny (model X.prog X.w) X.A (f v) (EP X pins σ Q) X.xe s
noncomputable def CallR (X:Cx) (f:Value) (r:List V->Hp->VK->Prop):Prop :=
 ∀ (pins:List (Addr×Obj)) (s:Shared) (σ:St) (H:Hp) (xs:List V) (us:List Value) (Q:VK),Inv X pins σ H s->Vals xs us->r xs H Q ->
  wpAny (model X.prog X.w) X.A (call f us) (EP X pins σ Q) X.xe s
noncomputable def D8 (X:Cx) (r:V->Hp->(Bool->Hp->Prop)->Prop):Prop :=
 ∀ (pins:List (Addr×Obj)) (s:Shared) (σ:St) (H:Hp) (x:V) (v:Value) (Q:Bool->Hp->Prop),Inv X pins σ H s->RelV x v->r x H Q ->
  wpAny (model X.prog X.w) X.A (truthy v) (TP X pins σ Q) X.xe s
noncomputable def tOp (r:R2) (ta tb:TE):TE:=fun σ H Q=>ta σ H fun x H1=>tb σ H1 fun y H2=>r x y H2 Q
noncomputable def tUn (r:V->Hp->VK->Prop) (ta:TE):TE:=fun σ H Q=>ta σ H fun x H1=>r x H1 Q
noncomputable def rI (C:Int->Int->Prop) (g:Int->Int->V):R2:=fun x y H Q => ∃ i j,x = .int i/\y = .int j/\C i j/\Q (g i j) H
noncomputable def rI0 (g:Int->Int->V):R2:=fun x y H Q => ∃ i j,x = .int i/\y = .int j/\Q (g i j) H
noncomputable def rU (g:Int->V):V->Hp->VK->Prop:=fun x H Q => ∃ i,x = .int i/\Q (g i) H
section
variable {X:Cx} {a b c:Expr} {ta tb tc:TE} {pos:Pos}
theorem uZ (j:PE X a ta) (q:PE X b tb) {pins:List (Addr×Obj)} {s:Shared} {σ:St} {H:Hp} {R:V->V->Hp->Prop} (I:Inv X pins σ H s)
 (h:ta σ H fun x H1=>tb σ H1 fun y H2=>R x y H2) {Q:Value->Shared->Prop} {f:Value->Value->Sem Value}
 (hf:∀ v u s2 x y H2,Inv X pins σ H2 s2->RelV x v->RelV y u->R x y H2->wpAny (model X.prog X.w) X.A (f v u) Q X.xe s2) :
 wpAny (model X.prog X.w) X.A (eval a X.env) (fun v s₁ => wpAny (model X.prog X.w) X.A (eval b X.env) (fun u s₂ => wpAny (model X.prog X.w) X.A (f v u) Q X.xe s₂) X.xe s₁) X.xe s:=by
 refine thn (j pins s σ H _ I h) fun v s1 ⟨x,H1,z,B,F⟩ => ?_
 refine thn (q pins s1 σ H1 _ z F) fun u s2 ⟨y,H2,G,J,L⟩ => ?_
 exact hf v u s2 x y H2 G B J L
theorem Cd {op:Operator} {r:R2} (ho:OpR X (binaryOp op) r) (j:PE X a ta) (z:PE X b tb):PE X (.BinOp a op b pos) (tOp r ta tb):=by
 intro pins s σ H Q I h
 exact wpAny_BinOp (uZ j z I h fun v u s2 x y H2 B rx ry q=>ho pins s2 σ H2 x y v u Q B rx ry q)
theorem Ce {op:UnaryOp} {r:V->Hp->VK->Prop} (ho:UnR X (unaryOp op) r) (j:PE X a ta):PE X (.UnaryOp op a pos) (tUn r ta):=by
 intro pins s σ H Q I h
 exact UnaryOp_ (thn (j pins s σ H _ I h) fun v s1 ⟨x,H1,q,z,B⟩=>ho pins s1 σ H1 x v Q q z B)
theorem opI {f:Value->Value->Sem Value} {C:Int->Int->Prop} {g:Int->Int->Int}
 (rule:∀ (i j:Int) (t u:Tok) (s:Shared) (Q:Value->Shared->Prop) (E:Value->Shared->Prop),C i j->Q (.int (g i j) s.toks) { s with toks:=s.toks+1 }->wpAny (model X.prog X.w) X.A (f (.int i t) (.int j u)) Q E s) :
 OpR X f (rI C fun i j => .int (g i j)):=by
 intro pins s σ H x y v u Q I rx ry h
 obtain ⟨i,j,rfl,rfl,z,q⟩:=h
 obtain ⟨t,rfl⟩:=rx
 obtain ⟨t',rfl⟩:=ry
 exact rule i j t t' s _ _ z ⟨.int (g i j),H,I.tok _,⟨_,rfl⟩,q⟩
theorem qc {f:Value->Value->Sem Value} {g:Int->Int->Int}
 (rule:∀ (i j:Int) (t u:Tok) (s:Shared) (Q:Value->Shared->Prop) (E:Value->Shared->Prop),Q (.int (g i j) s.toks) { s with toks:=s.toks+1 }->wpAny (model X.prog X.w) X.A (f (.int i t) (.int j u)) Q E s) :
 OpR X f (rI0 fun i j => .int (g i j)):=by
 intro pins s σ H x y v u Q I rx ry h
 obtain ⟨i,j,rfl,rfl,q⟩:=h
 obtain ⟨t,rfl⟩:=rx
 obtain ⟨t',rfl⟩:=ry
 exact rule i j t t' s _ _ ⟨.int (g i j),H,I.tok _,⟨_,rfl⟩,q⟩
theorem qd {f:Value->Value->Sem Value} {g:Int->Int->Bool}
 (rule:∀ (i j:Int) (t u:Tok) (s:Shared) (Q:Value->Shared->Prop) (E:Value->Shared->Prop),Q (.bool (g i j)) s->wpAny (model X.prog X.w) X.A (f (.int i t) (.int j u)) Q E s) :
 OpR X f (rI0 fun i j => .bl (g i j)):=by
 intro pins s σ H x y v u Q I rx ry h
 obtain ⟨i,j,rfl,rfl,q⟩:=h
 obtain ⟨t,rfl⟩:=rx
 obtain ⟨t',rfl⟩:=ry
 exact rule i j t t' s _ _ ⟨.bl (g i j),H,I,rfl,q⟩
noncomputable def D9 (i j:Int):Prop := 0<=j/\j<=1000000/\i.natAbs < 2 ^ 64
theorem op_add:OpR X (binaryOp .Add) (rI0 fun i j => .int (i+j)):=qc fun _ _ _ _ _ _ _ q=>add_int q
theorem AF:OpR X (binaryOp .Sub) (rI0 fun i j => .int (i - j)):=qc fun _ _ _ _ _ _ _ q=>sub_int q
theorem AG:OpR X (binaryOp .Mod) (rI (fun _ j => 0 < j) fun i j => .int (i % j)):=opI fun i j _ _ _ _ _ z q=>by
 have h1:(0:Int) < j:=z
 exact mod_int' (by omega) (by rw [Int.fmod_eq_emod_of_nonneg i (by omega)];exact q)
theorem AH:OpR X (binaryOp .Pow) (rI D9 fun i j => .int (i ^ j.toNat)):=opI fun _ _ _ _ _ _ _ z q=>pow_int_small z.1 z.2.1 z.2.2 q
theorem yv:OpR X (inplaceOp .Add) (rI0 fun i j => .int (i+j)):=qc fun _ _ _ _ _ _ _ q=>iadd_int q
theorem yw:OpR X (inplaceOp .Sub) (rI0 fun i j => .int (i - j)):=qc fun _ _ _ _ _ _ _ q=>isub_int q
theorem unI {f:Value->Sem Value} {g:Int->Int}
 (rule:∀ (i:Int) (t:Tok) (s:Shared) (Q:Value->Shared->Prop) (E:Value->Shared->Prop),Q (.int (g i) s.toks) { s with toks:=s.toks+1 }->wpAny (model X.prog X.w) X.A (f (.int i t)) Q E s) :
 UnR X f (rU fun i => .int (g i)):=by
 intro pins s σ H x v Q I rx h
 obtain ⟨i,rfl,q⟩:=h
 obtain ⟨t,rfl⟩:=rx
 exact rule i t s _ _ ⟨.int (g i),H,I.tok _,⟨_,rfl⟩,q⟩
theorem AI:UnR X (unaryOp .USub) (rU fun i => .int (-i)):=unI fun _ _ _ _ _ q=>neg_int q
end
section
variable {X:Cx} {a b c:Expr} {ta tb tc:TE} {pos:Pos}
theorem Cf:OpR X (compareOp .Lt) (rI0 fun i j => .bl (decide (i < j))):=qd fun _ _ _ _ _ _ _ q=>lt_int q
theorem Cg:OpR X (compareOp .LtE) (rI0 fun i j => .bl (decide (i<=j))):=qd fun _ _ _ _ _ _ _ q=>le_int q
theorem Ch:OpR X (compareOp .Gt) (rI0 fun i j => .bl (decide (j < i))):=qd fun _ _ _ _ _ _ _ q=>gt_int q
theorem Ci:OpR X (compareOp .GtE) (rI0 fun i j => .bl (decide (j<=i))):=qd fun _ _ _ _ _ _ _ q=>ge_int q
theorem OpR.or {f:Value->Value->Sem Value} {r r':R2} (h:OpR X f r) (h':OpR X f r'):OpR X f (fun x y H Q=>r x y H Q∨r' x y H Q):=by
 intro pins s σ H x y v u Q I rx ry q
 rcases q with q | q
 ·exact h pins s σ H x y v u Q I rx ry q
 ·exact h' pins s σ H x y v u Q I rx ry q
theorem yz {op:CmpOp} {r:R2} (ho:OpR X (compareOp op) r) (j:PE X a ta) (z:PE X b tb) (hm:behindInMarks op b=false):PE X (.Compare a [op] [b] pos) (tOp r ta tb):=by
 intro pins s σ H Q I h
 exact wpAny_Compare1 (uZ j z I h fun v u s2 x y H2 B rx ry q=>ho pins s2 σ H2 x y v u Q B rx ry q) hm
noncomputable def qe (t:TE):TT:=fun σ H Q=>t σ H fun x H' => ∃ k,x = .bl k/\Q k H'
theorem yA {op:CmpOp} {r:R2} (ho:OpR X (compareOp op) r) (j:PE X a ta) (q:PE X b tb) (hm:behindInMarks op b=false):PT X (.Compare a [op] [b] pos) (qe (tOp r ta tb)):=by
 intro pins s σ H Q I h
 refine wpAny_isTrue_Compare1 (thn (j pins s σ H _ I h) fun v s1 ⟨x,H1,B,F,G⟩=>thn (q pins s1 σ H1 _ B G) fun u s2 ⟨y,H2,J,L,O⟩ =>
  thn (ho pins s2 σ H2 x y v u _ J F L O) fun c s3 ⟨z,U,Y,Z,k,e,q3⟩ => ?_) hm
 subst e
 cases Z
 exact wpAny_truthy_bool ⟨U,Y,q3⟩
noncomputable def lJ (r r':R2) (ta tb tc:TE):TE:=fun σ H Q=>ta σ H fun x H1=>tb σ H1 fun y H2=>r x y H2 fun z H3 => ∃ k,z = .bl k /\
 (if k=true then tc σ H3 fun w' H4=>r' y w' H4 Q else Q (.bl false) H3)
theorem v9 {op op':CmpOp} {r r':R2} (ho:OpR X (compareOp op) r) (j:OpR X (compareOp op') r') (J:PE X a ta) (L:PE X b tb) (O:PE X c tc)
 (hm:lastMarks [op,op'] [b,c]=false:=by with_unfolding_all rfl):PE X (.Compare a [op,op'] [b,c] pos) (lJ r r' ta tb tc):=by
 intro pins s σ H Q I h
 refine Compare_chain (thn (J pins s σ H _ I h) fun v s1 ⟨x,H1,U,Y,Z⟩=>chain_link (thn (L pins s1 σ H1 _ U Z) fun u s2 ⟨y,H2,I2,q,q2⟩ =>
  thn (ho pins s2 σ H2 x y v u _ I2 Y q q2) fun d s3 ⟨z,B,F,r3,k,e,G⟩ => ?_)) hm
 subst e
 cases r3
 refine wpAny_truthy_bool ?_
 cases k with
 | false=>exact ite_ff ⟨.bl false,B,F,rfl,G⟩
 | true=>exact ite_tt (chain_last (thn (O pins s3 σ B _ F G) fun w' s4 ⟨z',H4,I4,r4,q4⟩=>j pins s4 σ H4 y z' u w' Q I4 q r4 q4))
theorem va {op op':CmpOp} {r r':R2} (ho:OpR X (compareOp op) r) (j:OpR X (compareOp op') r') (J:PE X a ta) (L:PE X b tb) (O:PE X c tc)
 (hm:lastMarks [op,op'] [b,c]=false:=by with_unfolding_all rfl):PT X (.Compare a [op,op'] [b,c] pos) (qe (lJ r r' ta tb tc)):=by
 intro pins s σ H Q I h
 refine isTrue_chain (thn (J pins s σ H _ I h) fun v s1 ⟨x,H1,U,Y,Z⟩=>test_link (thn (L pins s1 σ H1 _ U Z) fun u s2 ⟨y,H2,I2,q,q2⟩ =>
  thn (ho pins s2 σ H2 x y v u _ I2 Y q q2) fun d s3 ⟨z,B,F,r3,k,e,G⟩ => ?_)) hm
 subst e
 cases r3
 refine wpAny_truthy_bool ?_
 cases k with
 | false =>
   obtain ⟨k',e',q'⟩:=G
   cases e'
   exact ite_ff ⟨B,F,q'⟩
 | true =>
   refine ite_tt (test_last (thn (O pins s3 σ B _ F G) fun w' s4 ⟨z',H4,I4,r4,q4⟩=>thn (j pins s4 σ H4 y z' u w' _ I4 q r4 q4) fun d' s5 ⟨z2,H5,I5,r5,k2,e2,q5⟩ => ?_))
   subst e2
   cases r5
   exact wpAny_truthy_bool ⟨H5,I5,q5⟩
noncomputable def vc (K:Frag) (x:V) (H:Hp) (k:Bool):Prop :=
 match x with
 | .non=>k=false
 | .bl b=>k=b
 | .int i=>k=(i != 0)
 | .str y=>y.length<=sizeLine/\k=((y.length:Int) != 0)
 | .byt y=>y.size<=sizeLine/\k=((y.size:Int) != 0)
 | .ref p=>(∃ xs,SqL K H p xs/\k = !xs.isEmpty)∨(∃ xs,SqT K H p xs/\k = !xs.isEmpty) ∨ ∃ kvs,H p=some (.dK kvs)/\k = !kvs.isEmpty
 | _=>False
theorem qf {κ:Type} {kvs:List (κ × V)} {vs:List (κ × Value)} (r:KV kvs vs):(!vs.isEmpty) = !kvs.isEmpty:=by
 cases r <;> rfl
theorem iq {xs:List V} {its:List Value} (r:Vals xs its):(!its.toArray.isEmpty) = !xs.isEmpty:=by
 cases r <;> simp
theorem dW:(sizeLine:Nat) < 2 ^ 63:=by rw [sizeLine_eq];decide
theorem AJ:D8 X (fun x H Q => ∃ k,vc X.K x H k/\Q k H):=by
 intro pins s σ H x v Q I rx h
 obtain ⟨k,e,q⟩:=h
 have F:=dW
 have hs:sizeLine=16777216:=sizeLine_eq
 cases x with
 | non =>
   cases rx
   have e':k=false:=e
   subst e'
   exact truthy_none ⟨H,I,q⟩
 | bl b =>
   cases rx
   have e':k=b:=e
   subst e'
   exact wpAny_truthy_bool ⟨H,I,q⟩
 | int i =>
   obtain ⟨t,rfl⟩:=rx
   have e':k=(i != 0):=e
   subst e'
   exact PySem.P.truthy_int ⟨H,I,q⟩
 | str y =>
   obtain ⟨t,rfl⟩:=rx
   obtain ⟨z,e'⟩:y.length<=sizeLine/\k=((y.length:Int) != 0):=e
   subst e'
   exact PySem.P.truthy_str (by omega) ⟨H,I.tok _,q⟩
 | byt y =>
   obtain ⟨t,rfl⟩:=rx
   obtain ⟨z,e'⟩:y.size<=sizeLine/\k=((y.size:Int) != 0):=e
   subst e'
   exact PySem.W.truthy_bytes (by omega) ⟨H,I.tok _,q⟩
 | ref p =>
   cases rx
   have e':(∃ xs,SqL X.K H p xs/\k = !xs.isEmpty)∨(∃ xs,SqT X.K H p xs/\k = !xs.isEmpty) ∨ ∃ kvs,H p=some (.dK kvs)/\k = !kvs.isEmpty:=e
   rcases e' with ⟨xs,hx,e'⟩ | ⟨xs,hx,e'⟩ | ⟨kvs,hx,e'⟩
   ·subst e'
    obtain ⟨its,r,pl,j⟩:=I.list hx
    have hlen:=r.length
    exact wpAny_truthy_list pl.isList (by simp only [List.size_toArray];omega) ⟨H,I.tok _,by rw [iq r];exact q⟩
   ·subst e'
    obtain ⟨its,r,pl,j⟩:=I.tuple hx
    have hlen:=r.length
    exact truthy_tuple pl (by simp only [List.size_toArray];omega) ⟨H,I.tok _,by rw [iq r];exact q⟩
   ·subst e'
    obtain ⟨j,B,vs,r,m⟩:kvs.length<=sizeLine/\(p==sysModules)=false /\ ∃ vs,KV kvs vs/\s.heap.DictOf (aI X.prog X.w) p vs:=I.hok p _ hx
    have hlen:kvs.length=vs.length:=Paired.length r
    exact wpAny_truthy_dict B m (by omega) ⟨H,I.tok _,by rw [qf r];exact q⟩
 | _=>exact (show False from e).elim
theorem vd (j:PE X a ta) (he:∀ whole,isTrue a X.env whole=(do let v <- whole;standAt a.pos;holding [v] (truthy v))) :
 PT X a (fun σ H Q=>ta σ H fun x H' => ∃ k,vc X.K x H' k/\Q k H'):=by
 intro pins s σ H Q I h
 exact isTrue_plain (thn (j pins s σ H _ I h) fun v s1 ⟨x,H1,q,z,B⟩=>AJ pins s1 σ H1 x v Q q z B) (he _)
theorem qg:OpR X (binaryOp .Add) (fun x y H Q => ∃ i j,x = .str i/\y = .str j/\i.length+j.length<=sizeLine/\Q (.str (i++j)) H):=by
 intro pins s σ H x y v u Q I rx ry h
 obtain ⟨i,j,rfl,rfl,z,q⟩:=h
 obtain ⟨t,rfl⟩:=rx
 obtain ⟨t',rfl⟩:=ry
 exact add_str (fun t' tk=>⟨.str (i++j),H,I.tok _,⟨_,rfl⟩,q⟩) z
theorem cP {x:V} {us:List Value} (r:Vals [x] us):∃ u,us=[u]/\RelV x u:=by
 cases r with
 | cons j q=>cases q;exact ⟨_,rfl,j⟩
theorem xH {x y:V} {us:List Value} (r:Vals [x,y] us):∃ u w',us=[u,w']/\RelV x u/\RelV y w':=by
 cases r with
 | cons j q =>
   cases q with
   | cons z B=>cases B;exact ⟨_,_,rfl,j,z⟩
theorem ve:CallR X (.builtin "abs") (fun xs H Q => ∃ i,xs=[.int i]/\Q (.int (if i < 0 then -i else i)) H):=by
 intro pins s σ H xs us Q I r h
 obtain ⟨i,rfl,q⟩:=h
 obtain ⟨u,rfl,t,rfl⟩:=cP r
 exact call_abs_int fun u tk=>⟨.int (if i < 0 then -i else i),H,I.tok _,⟨_,rfl⟩,q⟩
theorem rT (B:X.calm=true):CallR X (.builtin "min") (fun xs H Q => ∃ i j,xs=[.int i, .int j]/\Q (.int (if j < i then j else i)) H):=by
 intro pins s σ H xs us Q I r h
 obtain ⟨i,j,rfl,q⟩:=h
 obtain ⟨u,w',rfl,⟨t,rfl⟩,⟨t',rfl⟩⟩:=xH r
 refine min_two_ints (I.ok.hd B) fun h' tk k=>⟨_,H,I.kept k, ?_,q⟩
 by_cases z:j < i
 ·rw [if_pos z,if_pos z];exact ⟨_,rfl⟩
 ·rw [if_neg z,if_neg z];exact ⟨_,rfl⟩
theorem rV:CallR X (.type "int") (fun xs H Q=>(∃ i,xs=[.int i]/\Q (.int i) H) ∨ ∃ k,xs=[.bl k]/\Q (.int (if k then 1 else 0)) H):=by
 intro pins s σ H xs us Q I r h
 rcases h with ⟨i,rfl,q⟩ | ⟨k,rfl,q⟩
 ·obtain ⟨u,rfl,t,rfl⟩:=cP r
  exact call_int_int ⟨.int i,H,I,⟨_,rfl⟩,q⟩
 ·obtain ⟨u,rfl,j⟩:=cP r
  cases j
  exact call_int_bool ⟨.int (if k then 1 else 0),H,I.tok _,⟨_,rfl⟩,q⟩
noncomputable def Da (K:Frag) (x:V) (H:Hp) (n:Nat):Prop :=
 match x with
 | .str y=>y.length<=sizeLine/\n=y.length
 | .byt y=>y.size<=sizeLine/\n=y.size
 | .ref p=>(∃ xs,SqL K H p xs/\n=xs.length) ∨ ∃ xs,SqT K H p xs/\n=xs.length
 | _=>False
theorem vf:CallR X (.builtin "len") (fun xs H Q => ∃ x n,xs=[x]/\Da X.K x H n/\Q (.int n) H):=by
 intro pins s σ H xs us Q I r h
 obtain ⟨x,n,rfl,e,q⟩:=h
 obtain ⟨u,rfl,rx⟩:=cP r
 have B:=dW
 have hs:sizeLine=16777216:=sizeLine_eq
 cases x with
 | str y =>
   obtain ⟨t,rfl⟩:=rx
   obtain ⟨j,e'⟩:y.length<=sizeLine/\n=y.length:=e
   subst e'
   exact len_str (by omega) ⟨.int _,H,I.tok _,⟨_,rfl⟩,q⟩
 | byt y =>
   obtain ⟨t,rfl⟩:=rx
   obtain ⟨j,e'⟩:y.size<=sizeLine/\n=y.size:=e
   subst e'
   exact PySem.W.len_bytes (by omega) ⟨.int _,H,I.tok _,⟨_,rfl⟩,q⟩
 | ref p =>
   cases rx
   have e':(∃ xs,SqL X.K H p xs/\n=xs.length) ∨ ∃ xs,SqT X.K H p xs/\n=xs.length:=e
   rcases e' with ⟨xs,hx,e'⟩ | ⟨xs,hx,e'⟩
   ·subst e'
    obtain ⟨its,r',pl,z⟩:=I.list hx
    have hlen:=r'.length
    exact Calls.call_len_list pl.isList (by simp only [List.size_toArray];omega) ⟨.int xs.length,H,I.tok _,⟨_,by simp only [List.size_toArray];rw [hlen]⟩,q⟩
   ·subst e'
    obtain ⟨its,r',pl,z⟩:=I.tuple hx
    have hlen:=r'.length
    exact len_tuple pl (by simp only [List.size_toArray];omega) ⟨.int xs.length,H,I.tok _,⟨_,by simp only [List.size_toArray];rw [hlen]⟩,q⟩
 | _=>exact (show False from e).elim
end
end
section
structure ObjM (h:Heap) (x dx C:Addr) (mA:Str->Option Value):Prop where
 obj:h.get? x=some (PySem.W.instObj C dx)
 ns:h.Ns1 dx mA
 ne:dx≠x
theorem rW {h:Heap} {dx:Addr} {mA:Str->Option Value} (n:h.Ns1 dx mA):∃ od,h.get? dx=some od /\ ∀ name,PySem.W.lookIn name od=some (mA name):=by
 obtain ⟨o,es,ep,ho,hd,B,_,hm⟩:=n
 refine ⟨o,ho,fun name => ?_⟩
 have e:=hm name
 unfold nsFind findBy at e
 rw [<- Array.find?_toList] at e
 unfold PySem.W.lookIn
 rw [hd]
 dsimp only
 split
 ·rename_i y q
  rw [q] at e
  exact congrArg some e
 ·rename_i q
  rw [q] at e
  have a:es.toList.any (·.refKey)=false:=by
   rw [List.any_eq_false]
   intro y F
   obtain ⟨z,t,j⟩:=B y (Array.mem_toList_iff.mp F)
   simp [DictEntry.refKey,j]
  have a' : ¬ es.toList.any (·.refKey)=true:=by rw [a];exact Bool.false_ne_true
  rw [if_neg a']
  exact congrArg some e
theorem ObjM.look {h:Heap} {x dx C:Addr} {mA:Str->Option Value} (I:ObjM h x dx C mA):∃ od,PySem.W.InstAt h x (PySem.W.instObj C dx) C (some od) /\ ∀ name,PySem.W.lookIn name od=some (mA name) :=
 let ⟨od,ho,j⟩:=rW I.ns
 ⟨od,⟨I.obj,rfl,rfl,ho⟩,j⟩
theorem RelO.some_of {v:V} {o:Option Value} (r:RelO (some v) o):∃ u,o=some u/\RelV v u:=by
 cases o with
 | none=>exact (show False from r).elim
 | some u=>exact ⟨u,rfl,r⟩
section
variable {P:Program} {w:World} {H H':Hp} {h h':Heap} {a C dx:Addr} {fs fs':List (Str×V)}
theorem yB (hok:HOk P w H h) (e:H a=some (.ins C dx fs)):∃ mA,ObjM h a dx C mA/\(∀ f,RelO (fs.lookup f) (mA f))/\PySem.Within mA (fs.map (·.1))/\fs.length<=1000/\H dx=some (.own a):=by
 obtain ⟨d,z,ne,ob,mA,n,r,q⟩:=(show ObjOk P w H h a (.ins C dx fs) from hok a _ e)
 exact ⟨mA,⟨ob,n,ne⟩,r,q,z,d⟩
end
structure Cls (K:Frag) (C:Addr):Prop where
 pg:PySem.W.plainGet K C Str.empty=true
 hd:PySem.W.hasDictIn K C=true
 po:PySem.W.plainOver K C=true
 sa:PySem.W.findIn K (.ref C) "__setattr__" = some (some (.builtin "object.__setattr__"))
theorem Cls.get {K:Frag} {C:Addr} (c:Cls K C) (f:Str):PySem.W.plainGet K C f=true:=c.pg
section
variable {X:Cx} {pins:List (Addr×Obj)} {σ:St} {H:Hp} {s:Shared} {A:Around} {E:Value->Shared->Prop} {Q:Value->Shared->Prop} {c:Value} {b:Bool}
inductive cc (K:Frag) (H:Hp):V->Value->Prop where
 | non:cc K H .non (.type "NoneType")
 | bl (x:Bool):cc K H (.bl x) (.type "bool")
 | int (i:Int):cc K H (.int i) (.type "int")
 | str (x:Str):cc K H (.str x) (.type "str")
 | flt (x:UInt64):cc K H (.flt x) (.type "float")
 | lst {a:Addr} {xs:List V} (e:H a=some (.lst xs)):cc K H (.ref a) (.type "list")
 | frz {a:Addr} {o:Obj} {xs:List V} (e:H a=some (.frz o (.lst xs))):cc K H (.ref a) (.type "list")
 | tup {a:Addr} {xs:List V} (e:SqT K H a xs):cc K H (.ref a) (.type "tuple")
 | dK {a:Addr} {kvs:List (Key×V)} (e:H a=some (.dK kvs)):cc K H (.ref a) (.type "dict")
 | dT {a:Addr} {kvs:List (List Key×V)} (e:H a=some (.dT kvs)):cc K H (.ref a) (.type "dict")
 | ins {a C dx:Addr} {fs:List (Str×V)} (e:H a=some (.ins C dx fs)) (cl:Cls K C) (ha:PySem.W.findIn K (.ref C) "__class__" = some (some (.builtin "object.__class__")))
    (hn:PySem.W.specialIn K (.builtin "object.__class__") "__get__" = some (some (.builtin "getset_descriptor.__get__"))) (htk:PySem.W.takesIn K (.builtin "object.__class__")=some true)
    (hm:PySem.W.mroIn K C (.type "object")=some true):cc K H (.ref a) (.ref C)
theorem rX {x:V} {u t:Value} (I:Inv X pins σ H s) (rx:RelV x u) (ty:cc X.K H x t) (e:PySem.W.kitOne X.K t c=some b) (h:∀ tk,Q (.bool b) { s with toks:=tk }) :
 wpAny (model X.prog X.w) A (call (.builtin "isinstance") [u,c]) Q E s:=by
 cases ty with
 | non=>cases (show u=Value.none from rx);exact PySem.W.kia_one PySem.W.kitx_none I.kIn True.intro e (fun z=>nomatch z) h
 | bl y=>cases (show u=Value.bool y from rx);exact PySem.W.kia_one PySem.W.kitx_bool I.kIn True.intro e (fun z=>nomatch z) h
 | int i=>obtain ⟨t,q⟩:=(show ∃ t,u=Value.int i t from rx);cases q;exact PySem.W.kia_one PySem.W.kitx_int I.kIn True.intro e (fun z=>nomatch z) h
 | str y=>obtain ⟨t,q⟩:=(show ∃ t,u=Value.str y t from rx);cases q;exact PySem.W.kia_one PySem.W.kitx_str I.kIn True.intro e (fun z=>nomatch z) h
 | flt y=>obtain ⟨t,q⟩:=(show ∃ t,u=Value.float y t from rx);cases q;exact PySem.W.kia_one PySem.W.kitx_float I.kIn True.intro e (fun z=>nomatch z) h
 | @lst a xs ea =>
  cases (show u=Value.ref a from rx)
  obtain ⟨_,_,n,_,h1⟩:=(show ObjOk X.prog X.w H s.heap a (.lst xs) from I.hok a _ ea)
  exact PySem.W.kia_one PySem.W.kitx_list I.kIn ⟨_,h1,rfl⟩ e (fun z=>nomatch z) h
 | @frz a ob xs ea =>
  cases (show u=Value.ref a from rx)
  obtain ⟨_,_,_,n,_,h1⟩:=(show ObjOk X.prog X.w H s.heap a (.frz ob (.lst xs)) from I.hok a _ ea)
  exact PySem.W.kia_one PySem.W.kitx_list I.kIn ⟨_,h1,rfl⟩ e (fun z=>nomatch z) h
 | @tup a xs ea =>
  cases (show u=Value.ref a from rx)
  obtain ⟨_,_,p,_⟩:=I.tuple ea
  obtain ⟨o,h1,h2,_⟩:=p
  exact PySem.W.kia_one PySem.W.kitx_tuple I.kIn ⟨o,h1,h2⟩ e (fun z=>nomatch z) h
 | @dK a kvs ea =>
  cases (show u=Value.ref a from rx)
  obtain ⟨_,_,vs,_,p⟩:=(show ObjOk X.prog X.w H s.heap a (.dK kvs) from I.hok a _ ea)
  obtain ⟨o,es,ep,h1,h2,_⟩:=p
  exact PySem.W.kia_one PySem.W.kitx_dict I.kIn ⟨o,h1,h2.1⟩ e (fun z=>nomatch z) h
 | @dT a kvs ea =>
  cases (show u=Value.ref a from rx)
  obtain ⟨_,_,xs,_,o,es,ep,h1,h2,_⟩:=(show ObjOk X.prog X.w H s.heap a (.dT kvs) from I.hok a _ ea)
  exact PySem.W.kia_one PySem.W.kitx_dict I.kIn ⟨o,h1,h2.1⟩ e (fun z=>nomatch z) h
 | @ins a C dx fs ea cl ha hn htk hm =>
  cases (show u=Value.ref a from rx)
  obtain ⟨mA,O,_⟩:=yB I.hok ea
  obtain ⟨od,J,_⟩:=O.look
  exact PySem.W.kia_one (PySem.W.kitx_own (cl.get _) cl.hd ha hn htk hm) I.kIn J e (fun z=>nomatch z) h
end
end
section
structure Room (k:Nat) (A:Around):Prop where
 hd:A.handled=none
 dp:A.depth+3*k+5 < recursionLimit
 un:A.units+16*k+200 < cLine
theorem Room.deeper {k:Nat} {A:Around} (r:Room (k+1) A) (env:Env):Room k (A.deeper env) :=
 ⟨r.hd,by have:=r.dp;show A.depth+1+3*k+5 < _;omega,by have:=r.un;show A.units+3+16*k+200 < _;omega⟩
theorem Room.depth {k:Nat} {A:Around} (r:Room k A):A.depth < recursionLimit:=by have:=r.dp;omega
theorem Room.units {k:Nat} {A:Around} (r:Room k A):A.units+64 < cLine:=by have:=r.un;omega
noncomputable def AK:TA:=fun _ H Q=>Q [] H
noncomputable def xI (ta:TE) (tr:TA):TA:=fun σ H Q=>ta σ H fun x H1=>tr σ H1 fun xs H2=>Q (x::xs) H2
section
variable {X:Cx} {e:Expr} {es:List Expr} {te:TE} {t:TA} {pos:Pos}
theorem rY:PA X [] AK:=fun _ _ _ _ H Q I h=>Calls.spliced_nil ⟨[],H,I, .nil,h⟩
theorem jq (j:PE X e te) (q:PA X es t) (hs:starEach (e::es) X.env=(false,eval e X.env)::starEach es X.env:=by rfl):PA X (e::es) (xI te t):=by
 intro pos pins s σ H Q I h
 rw [hs]
 show wpAny _ _ (spliced ((false,eval e X.env)::backTo pos (starEach es X.env))) _ _ s
 refine Calls.spliced_cons (thn (j pins s σ H _ I h) fun u s1 ⟨x,H1,z,B,F⟩ => ?_)
 exact thn (q pos pins s1 σ H1 _ z F) fun us s2 ⟨xs,H2,G,J,L⟩=>⟨x::xs,H2,G, .cons B J,L⟩
noncomputable def Db (t:TA):TE:=fun σ H Q=>t σ H fun xs H1=>xs.length<=sizeLine /\ ∀ p,H1 p=none->Q (.ref p) (upd H1 p (.tup xs))
noncomputable def Dc (t:TA):TE:=fun σ H Q=>t σ H fun xs H1=>xs.length<=sizeLine /\ ∀ p,H1 p=none->Q (.ref p) (upd H1 p (.lst xs))
theorem AL {B} (h:PA X es t):PE X (.Tuple es B pos) (Db t):=by
 intro pins s σ H Q I hq
 refine wpAny_Tuple_spliced (thn (h pos pins s σ H _ I hq) fun us s1 ⟨xs,H1,j,r,z,q⟩=>⟨by rw [<- r.length];exact z, ?_⟩)
 have hf:H1 s1.heap.objs.size=none:=j.hok.fresh (Nat.le_refl _)
 refine ⟨.ref s1.heap.objs.size,upd H1 s1.heap.objs.size (.tup xs),j.laid (t':=s1.toks) (fun b u e=>Heap.get?_push_of_some _ e) (Nat.le_refl _) ?_,rfl,q _ hf⟩
 exact ⟨z,us,r,⟨_,Heap.get?_push_size _ rfl,rfl,_,rfl⟩⟩
theorem AM (h:PA X es t):PE X (.List es pos) (Dc t):=by
 intro pins s σ H Q I hq
 refine wpAny_List_spliced (thn (h pos pins s σ H _ I hq) fun us s1 ⟨xs,H1,j,r,z,q⟩=>⟨by rw [<- r.length];exact z, ?_⟩)
 have hf:H1 s1.heap.objs.size=none:=j.hok.fresh (Nat.le_refl _)
 refine ⟨.ref s1.heap.objs.size,upd H1 s1.heap.objs.size (.lst xs),j.laid (t':=s1.toks) (fun b u e=>Heap.get?_push_of_some _ e) (Nat.le_refl _) ?_,rfl,q _ hf⟩
 exact ⟨z,us,0,r,Heap.get?_push_size _ rfl⟩
end
noncomputable abbrev Sp:=List V->Hp->VK->XK->Prop
noncomputable abbrev CXT:=List Env->Hp->Shared->XK->Value->Shared->Prop
structure qh (P:Program) (w:World) (K:Frag) (mg:Str->Option Value) (base:Heap) (A:Around) (outer:List Env) (s:Shared) (H:Hp):Prop where
 frames:A.frames=some outer
 mod:Mod K mg base
 bs:∀ b o,base.get? b=some o->s.heap.get? b=some o/\H b=none
 bsz:base.objs.size<=s.heap.objs.size
 funs:s.heap.FunFrames base outer
 frf:∀ b∈frs outer,H b=none
 hok:HOk P w H s.heap
 bare:AllBare s.gens
noncomputable def CE (outer:List Env) (P:Program) (w:World) (H:Hp) (s:Shared) (Q:VK) (u:Value) (s':Shared):Prop :=
 ∃ v H',s'.os=s.os/\AllBare s'.gens/\Un (frs outer) [] H H' s.heap s'.heap/\HOk P w H' s'.heap/\RelV v u/\Q v H'
noncomputable def CR (CX:CXT) (outer:List Env) (P:Program) (w:World) (H:Hp) (s:Shared) (Q:VK) (E:XK) (r:Result) (s':Shared):Prop :=
 match r with
 | .ok (.ret u)=>CE outer P w H s Q u s'
 | .ok _=>False
 | .error e=>CX outer H s E e s'
structure dm (P:Program) (w:World) (K:Frag) (mg:Str->Option Value) (base:Heap) (CX:CXT) (k:Nat) (f:Addr) (fd:FuncData) (ps:List Str) (sp:Sp):Prop where
 len:∀ vs H Q E,sp vs H Q E->vs.length=ps.length
 run:∀ (A:Around) (outer:List Env) (s:Shared) (H:Hp) (args:Args) (us:List Value) (vs:List V) (Q:VK) (E:XK),Room k A->qh P w K mg base A outer s H->BindsTo s fd args (ps.zip us)->Vals vs us->sp vs H Q E ->
  codeAny (model P w) A (.call (.ref f) args) (CR CX outer P w H s Q E) s
section
variable {X:Cx} {pins:List (Addr×Obj)} {σ:St} {H:Hp} {s s':Shared}
theorem Inv.env0 (I:Inv X pins σ H s):qh X.prog X.w X.K X.mg X.base X.A X.stack s H :=
 ⟨I.ok.frames,I.ok.mod,I.bs,Nat.le_trans I.ok.bsz I.sz,I.stack,I.stkFree,I.hok,I.bare⟩
theorem Inv.after {Q:VK} {u:Value} (I:Inv X pins σ H s) (h:CE X.stack X.prog X.w H s Q u s'):EP X pins σ Q u s':=by
 obtain ⟨v,H',os,bare,un,hok,r,q⟩:=h
 obtain ⟨j,g,d,t,os'⟩:=s'
 obtain rfl:os'=s.os:=os
 exact ⟨v,H',I.call (h':=j) (g':=g) (d':=d) (t':=t) (ch := []) un hok bare (fun b z=>absurd z (by simp)),r,q⟩
end
noncomputable def xJ (sp:Sp) (dvs:List V) (E:XK) (t:TA):TE:=fun σ H Q=>t σ H fun vs H1=>sp (vs++dvs) H1 Q E
noncomputable def Binds (K:Frag) (fd:FuncData) (ps:List Str) (ds:List Value):Prop :=
 ∀ (s:Shared) (us:List Value),K.In s.heap->(us++ds).length=ps.length->BindsTo s fd ⟨us,[]⟩ (ps.zip (us++ds))
theorem Binds.all {K:Frag} {fd:FuncData} {ps:List Str} (h:∀ us:List Value,us.length=ps.length->bindArgs fd ⟨us,[]⟩=pure (ps.zip us)):Binds K fd ps []:=fun s us _ j=>by
 rw [List.append_nil] at j ⊢
 exact .of_eq (h us j)
noncomputable def ir (CX:CXT) (X:Cx) (E:XK):Prop := ∀ (pins:List (Addr×Obj)) (σ:St) (H:Hp) (s:Shared) (e:Value) (s':Shared),Inv X pins σ H s->CX X.stack H s E e s'->X.xe e s'
section
variable {X:Cx} {CX:CXT} {k:Nat} {f C:Addr} {fd:FuncData} {ps:List Str} {sp:Sp} {dvs:List V} {ds:List Value} {E:XK} {x m:Str} {p pos apos:Pos} {e o:Expr} {es:List Expr} {ta:TE} {t:TA}
theorem rZ {pins:List (Addr×Obj)} {σ:St} {H:Hp} {s:Shared} {Q:VK} {us:List Value} {vs:List V} (F:dm X.prog X.w X.K X.mg X.base CX k f fd ps sp) (z:Room k X.A) (B:Binds X.K fd ps ds) (hd:Vals dvs ds) (hx:ir CX X E)
 (I:Inv X pins σ H s) (r:Vals vs us) (h:sp (vs++dvs) H Q E):wpAny (model X.prog X.w) X.A (call (.ref f) us) (EP X pins σ Q) X.xe s:=by
 have q:Vals (vs++dvs) (us++ds):=r.append hd
 have G:(us++ds).length=ps.length:=by rw [<- q.length];exact F.len _ _ _ _ h
 refine wpAny_call (codeAny_mono (F.run X.A X.stack s H ⟨us,[]⟩ (us++ds) (vs++dvs) Q E z I.env0 (B s us I.kIn G) q h) fun r s' j => ?_)
 cases r with
 | error e=>exact hx pins σ H s e s' I j
 | ok fl =>
   cases fl with
   | ret u=>exact I.after j
   | next=>exact False.elim j
   | brk=>exact False.elim j
   | cont=>exact False.elim j
theorem yC (F:dm X.prog X.w X.K X.mg X.base CX k f fd ps sp) (G:Room k X.A) (J:Gl X x) (hm:X.mg x=some (.ref f)) (L:PySem.W.keepIn X.K (.ref f)=true) (O:Binds X.K fd ps ds) (hd:Vals dvs ds) (hx:ir CX X E)
 (U:PA X (e::es) t) (j:(x==("__debug__":Str))=false:=by decide) (he:starEach (e::es) X.env=(false,eval e X.env)::starEach es X.env:=by rfl) (z:(backTo pos (starEach es X.env)).any (·.1)=false:=by rfl) :
 PE X (.Call (.Name x p) (e::es) [] pos) (xJ sp dvs E t):=by
 intro pins s σ H Q I h
 refine wpAny_Call_Name_kw (jn I J hm ?_ j)
 refine PySem.W.callWith_K (h₀ := X.base) I.ok.mod.kin L (thn (U pos pins s σ H _ I h) fun us s1 ⟨vs,H1,B,r,q⟩=>⟨B.kIn, ?_⟩) he z
 exact rZ F G O hd hx B r q
theorem vg (F:dm X.prog X.w X.K X.mg X.base CX k f fd ps sp) (q:Room k X.A) (z:Gl X x) (hm:X.mg x=some (.ref f)) (B:PySem.W.keepIn X.K (.ref f)=true) (G:Binds X.K fd ps ds) (hd:Vals dvs ds) (hx:ir CX X E)
 (j:(x==("__debug__":Str))=false:=by decide):PE X (.Call (.Name x p) [] [] pos) (xJ sp dvs E AK):=by
 intro pins s σ H Q I h
 refine wpAny_Call_Name_kw (jn I z hm ?_ j)
 exact PySem.W.callWith_K0 I.kIn B (rZ (us := []) F q G hd hx I .nil h)
end
structure fS (N P:List Str) (sc:Scope):Prop where
 kind:sc.kind = .function
 co:sc.isCoroutine=false
 gen:sc.isGenerator=false
 nd:N.Nodup
 pre:N.take P.length=P
 par:∀ x∈P,sc.names.lookup x=some .local∨sc.names.lookup x=some .cell
 nofree:∀ y∈sc.names,y.2 ≠ .free
theorem jX {kindOf:Str->Option NameKind} {x:Str}:∀ {binds:List (Str×Value)} {m:Str->Option Value},(∀ v,(x,v)∉binds)->bindL kindOf binds m x=m x
 | [],_,_=>rfl
 | (n,v)::r,m,h=>by
  unfold bindL
  rw [jX fun w hw=>h w (List.mem_cons_of_mem _ hw)]
  split
  ·have:x≠n:=by rintro rfl;exact h v List.mem_cons_self
   simp [this]
  ·rfl
theorem jY {kindOf:Str->Option NameKind} {x:Str}:∀ {binds:List (Str×Value)} {m:Str->Option Value},(∀ v,(x,v)∉binds)->bindC kindOf binds m x=m x
 | [],_,_=>rfl
 | (n,v)::r,m,h=>by
  unfold bindC
  rw [jY fun w hw=>h w (List.mem_cons_of_mem _ hw)]
  split
  ·rfl
  ·have:x≠n:=by rintro rfl;exact h v List.mem_cons_self
   simp [this]
theorem jZ {kindOf:Str->Option NameKind} {x:Str} {v:Value}:∀ {P:List Str} {vs:List Value} {i:Nat} {m:Str->Option Value},P.Nodup->P[i]? = some x->vs[i]? = some v->kindOf x=some .local ->
 bindL kindOf (P.zip vs) m x=some v
 | [],_,_,_,_,h,_,_=>by simp at h
 | _::_,[],_,_,_,_,h,_=>by simp at h
 | p::P,w::vs,0,m,nd,h1,h2,j=>by
   simp at h1 h2;subst h1;subst h2
   show bindL kindOf ((p,w)::P.zip vs) m p=_
   unfold bindL
   rw [jX fun v q=>(List.nodup_cons.mp nd).1 (List.of_mem_zip q).1,if_pos j]
   simp
 | p::P,w::vs,i+1,m,nd,h1,h2,j=>by
   show bindL kindOf ((p,w)::P.zip vs) m x=_
   unfold bindL
   exact jZ (i:=i) (List.nodup_cons.mp nd).2 (by simpa using h1) (by simpa using h2) j
theorem ka {kindOf:Str->Option NameKind} {x:Str} {v:Value}:∀ {P:List Str} {vs:List Value} {i:Nat} {m:Str->Option Value},P.Nodup->P[i]? = some x->vs[i]? = some v->kindOf x≠some .local ->
 bindC kindOf (P.zip vs) m x=some v
 | [],_,_,_,_,h,_,_=>by simp at h
 | _::_,[],_,_,_,_,h,_=>by simp at h
 | p::P,w::vs,0,m,nd,h1,h2,j=>by
   simp at h1 h2;subst h1;subst h2
   show bindC kindOf ((p,w)::P.zip vs) m p=_
   unfold bindC
   rw [jY fun v q=>(List.nodup_cons.mp nd).1 (List.of_mem_zip q).1,if_neg j]
   simp
 | p::P,w::vs,i+1,m,nd,h1,h2,j=>by
   show bindC kindOf ((p,w)::P.zip vs) m x=_
   unfold bindC
   exact ka (i:=i) (List.nodup_cons.mp nd).2 (by simpa using h1) (by simpa using h2) j
noncomputable def cC (N:List Str) (vs:List V):St:=vs.map some++List.replicate (N.length - vs.length) none
noncomputable def gP (CX:CXT) (P:Program) (w:World) (K:Frag) (mg:Str->Option Value) (base:Heap) (N:List Str) (qual:Str) (scope:Scope) (f:Addr) (cd:Value) (A:Around) (outer:List Env) (s:Shared) (H:Hp) (E:XK):Cx where
 prog:=P
 w:=w
 K:=K
 mg:=mg
 base:=base
 A:=A.deeper (envOfC qual scope s.heap.objs.size f cd)
 N:=N
 s₀ := s
 H₀ := H
 env:=envOfC qual scope s.heap.objs.size f cd
 outer:=outer
 stack:=envOfC qual scope s.heap.objs.size f cd::outer
 ex := []
 calm:=true
 fn:=fun _=>true
 pn := []
 xe:=fun e s'=>wpAny (model P w) (A.deeper (envOfC qual scope s.heap.objs.size f cd)) (leaving (envOfC qual scope s.heap.objs.size f cd) e) (fun _ s''=>CX outer H s E e s'') (fun e' s''=>CX outer H s E e' s'') s'
theorem lK {sc:Scope} {n:Nat} {x:Str} (h:sc.names.lookup x=some .cell):∃ c,(cellsFrom n sc.names []).lookup x=some c:=by
 have q:=PySem.W.cellsFrom_some sc.names n [] (.inl h)
 exact Option.isSome_iff_exists.mp q
theorem s9 {CX:CXT} {P:Program} {w:World} {K:Frag} {mg:Str->Option Value} {base:Heap} {N ps:List Str} {qual:Str} {scope:Scope} {f:Addr} {cd:Value} {A:Around} {outer:List Env} {s s1:Shared} {H:Hp} {E:XK} {us:List Value} {vs:List V}
 (S:fS N ps scope) (hd:A.handled=none) (j:qh P w K mg base A outer s H) (U:vs.length=ps.length) (r:Vals vs us)
 (x:InCallC s s.heap.objs.size (bindL (envOfC qual scope s.heap.objs.size f cd).kindOf (ps.zip us) fun _=>none) (cellsFrom (s.heap.objs.size+1) scope.names []) (bindC (envOfC qual scope s.heap.objs.size f cd).kindOf (ps.zip us) fun _=>none) s1) :
 Inv (gP CX P w K mg base N qual scope f cd A outer s H E) [] (cC N vs) H s1:=by
 have L:ps.length<=N.length:=by have:=congrArg List.length S.pre;rw [List.length_take] at this;omega
 obtain ⟨h1,tk,rfl,G⟩:=x.done
 have noA:∀ b:Addr,b∉(gP CX P w K mg base N qual scope f cd A outer s H E).ex:=fun b z=>absurd (show b∈([]:List Addr) from z) (by simp)
 refine ⟨⟨j.mod,S.kind,rfl,rfl,Nat.le_refl _,fun y z c h1 h2 => ?_,fun y B => ?_,fun y c _ h => ?_,fun _=>hd,Around.frames_deeper j.frames, .inr ⟨rfl,rfl⟩,fun b z=>absurd z (noA b),j.bs,j.bsz,fun b _ _=>noA b,fun b z=>absurd z (noA b),j.funs,j.frf⟩,
  rfl,j.bare,Un.kept G,⟨_,x.toInCall.ns,fun i y v h1 h2 Y => ?_⟩,fun y c h=>⟨_,x.cell y c h⟩,j.hok.fresh (Nat.le_refl _),fun y c h => ?_,fun p F=>absurd (show p∈([]:List (Addr×Obj)) from F) (by simp),j.hok.kept G, ?_⟩
 ·exact name_of_addr x.apart (PySem.mem_of_lookup h1) (PySem.mem_of_lookup h2)
 ·have B:scope.names.lookup y=some .cell∨scope.names.lookup y=some .free:=B
  rcases B with B | B
  ·exact lK B
  ·exact absurd rfl (S.nofree _ (PySem.mem_of_lookup B))
 ·exact Nat.le_of_lt (x.above y c (PySem.mem_of_lookup h))
 ·have hi:i < vs.length:=by
   unfold cC at h2
   by_cases hi:i < vs.length
   ·exact hi
   ·rw [List.getElem?_append_right (by simpa using hi)] at h2
    rw [List.getElem?_replicate] at h2
    split at h2 <;> cases h2
  have O:vs[i]? = some v:=by
   unfold cC at h2
   rw [List.getElem?_append_left (by simpa using hi),List.getElem?_map] at h2
   cases e:vs[i]? with
   | none=>rw [e] at h2;cases h2
   | some a=>rw [e] at h2;cases h2;rfl
  obtain ⟨u,J,rv⟩:=r.get O
  have F:ps[i]? = some y:=by
   rw [<- S.pre,List.getElem?_take_of_lt (by omega)];exact h1
  have ndP:ps.Nodup:=by rw [<- S.pre];exact S.nd.sublist (List.take_sublist _ _)
  refine ⟨u,rv, ?_⟩
  rcases S.par y (List.mem_of_getElem? F) with k | k
  ·exact .inl ⟨k,jZ ndP F J k⟩
  ·obtain ⟨c,e⟩:=lK (n:=s.heap.objs.size+1) k
   refine .inr ⟨.inl k,c,e, ?_⟩
   have q:=x.cell y c e
   rw [ka ndP F J (by show scope.names.lookup y≠_;rw [k];decide)] at q
   exact q
 ·exact j.hok.fresh (Nat.le_of_lt (x.above y c (PySem.mem_of_lookup h)))
 ·unfold cC
  show _=N.length
  rw [List.length_append,List.length_map,List.length_replicate]
  omega
theorem Cj {CX:CXT} {P:Program} {w:World} {K:Frag} {mg:Str->Option Value} {base:Heap} {k:Nat} {f:Addr} {name qual:Str} {params:Arguments} {body:List Stmt} {scope:Scope} {dV kV doc pm cdv ct oc:Value} {an od:Option Addr}
 {osl:Array (Option Value)} {N ps:List Str} {sp:Sp} (lk:K.lookup f=some ⟨oc,od, .func (PySem.W.fnOf name qual params body scope dV kV doc pm an cdv ct),osl⟩) (G:PySem.W.codeIn K cdv qual=true) (S:fS N ps scope)
 (len:∀ vs H Q E,sp vs H Q E->vs.length=ps.length)
 (j:∀ (A:Around) (outer:List Env) (s:Shared) (H:Hp) (vs:List V) (Q:VK) (E:XK),Room k (A.deeper (envOfC qual scope s.heap.objs.size f cdv))->sp vs H Q E ->
   ∃ t,PSs (gP CX P w K mg base N qual scope f cdv A outer s H E) body t/\t { nx:=fun _ H'=>Q .non H',rt:=Q } (cC N vs) H) :
 dm P w K mg base CX (k+1) f (PySem.W.fnOf name qual params body scope dV kV doc pm an cdv ct) ps sp:=by
 refine ⟨len,fun A outer s H args us vs Q E L B O r F => ?_⟩
 have U:=len _ _ _ _ F
 have KX:K.In s.heap:=B.mod.kin.keeps fun b o e=>(B.bs b o e).1
 have lim:s.heap.NoLimit:=B.mod.nolimit.keeps fun b o e=>(B.bs b o e).1
 have z:∀ y∈ps.zip us,scope.names.lookup y.1=some .local∨(scope.names.lookup y.1=some .cell/\((cellsFrom (s.heap.objs.size+1) scope.names []).lookup y.1).isSome=true):=fun ⟨n,v⟩ hy=>by
  rcases S.par n (List.of_mem_zip hy).1 with q | q
  ·exact .inl q
  ·exact .inr ⟨q,PySem.W.cellsFrom_some _ _ _ (.inl q)⟩
 refine codeAny_call_function L.depth (KX _ _ lk) rfl S.co S.gen rfl (PySem.W.codeRec_of KX G) (O _ _ _ _ ?_)
 refine wpAny_newFunctionEnv_cells S.kind z fun env he s1 x => ?_
 subst he
 refine ⟨lim.keeps x.toInCall.keep,codeAny_func ?_⟩
 obtain ⟨t,Y,Z⟩:=j A outer s H vs Q E (L.deeper _) F
 have I:Inv (gP CX P w K mg base N qual scope f cdv A outer s H E) [] (cC N vs) H s1:=s9 S L.hd B U r x
 refine wpAny_mono (Y [] s1 (cC N vs) H _ I Z) (fun fl s' hs => ?_) fun e s' hs=>hs
 have fin:∀ {σ':St} {H':Hp} {v:V} {u:Value},Inv (gP CX P w K mg base N qual scope f cdv A outer s H E) [] σ' H' s'->RelV v u->Q v H'->CE outer P w H s Q u s' :=
  fun {σ' H' v u} J rv q=>⟨v,H',J.os,J.bare,J.base,J.hok,rv,q⟩
 cases fl with
 | ret u =>
   obtain ⟨v, σ',H',J,rv,q⟩:=hs
   exact fin J rv q
 | next =>
   obtain ⟨σ',H',J,q⟩:=hs
   exact fin (v:=V.non) (u:=Value.none) J rfl q
 | brk =>
   obtain ⟨_,_,_,q⟩:=hs
   exact False.elim q
 | cont =>
   obtain ⟨_,_,_,q⟩:=hs
   exact False.elim q
end
section
section
variable {X:Cx} {x:Str} {p pos:Pos} {e:Expr} {es:List Expr} {t:TA} {id T:String} {r:List V->Hp->VK->Prop}
noncomputable def tCB (r:List V->Hp->VK->Prop) (t:TA):TE:=fun σ H Q=>t σ H fun vs H1=>r vs H1 Q
theorem bU (z:CallR X (.builtin id) r) (B:Gl X x) (hm:X.mg x=none) (F:bootBuiltins x=some (.builtin id)) (G:PA X (e::es) t) (J:x ≠ "__name__" := by decide) (j:(x==("__debug__":Str))=false:=by decide)
 (he:starEach (e::es) X.env=(false,eval e X.env)::starEach es X.env:=by rfl) (q:(backTo pos (starEach es X.env)).any (·.1)=false:=by rfl):PE X (.Call (.Name x p) (e::es) [] pos) (tCB r t):=by
 intro pins s σ H Q I h
 refine wpAny_Call_Name_kw (dl I B hm F ?_ J j)
 exact PyProof.Rows.callWith_builtin1 (thn (G pos pins s σ H _ I h) fun us s1 ⟨vs,H1,L,O,U⟩=>z pins s1 σ H1 vs us Q L O U) he q
theorem fe (z:CallR X (.type T) r) (B:Gl X x) (hm:X.mg x=none) (F:bootBuiltins x=some (.type T)) (G:PA X (e::es) t) (J:x ≠ "__name__" := by decide) (j:(x==("__debug__":Str))=false:=by decide)
 (he:starEach (e::es) X.env=(false,eval e X.env)::starEach es X.env:=by rfl) (q:(backTo pos (starEach es X.env)).any (·.1)=false:=by rfl):PE X (.Call (.Name x p) (e::es) [] pos) (tCB r t):=by
 intro pins s σ H Q I h
 refine wpAny_Call_Name_kw (dl I B hm F ?_ J j)
 exact PyProof.Rows.callWith_type1 (thn (G pos pins s σ H _ I h) fun us s1 ⟨vs,H1,L,O,U⟩=>z pins s1 σ H1 vs us Q L O U) he q
end
end
end L2
namespace HT
open PySem PyProof.Rows
noncomputable def bP:List Int->List Int->Bool
 | [],[] => false
 | [],_::_=>true
 | _::_,[] => false
 | x::xs,y::ys=>if x=y then bP xs ys else decide (x < y)
theorem qi (x y:Int) (xs ys:List Int):bP (x::xs) (y::ys)=if x=y then bP xs ys else decide (x < y):=rfl
theorem kW:bP [] []=false:=rfl
theorem jr (y:Int) (ys:List Int):bP [] (y::ys)=true:=rfl
theorem jt (x:Int) (xs:List Int):bP (x::xs) []=false:=rfl
theorem vh (A:Around) (s:Shared) (a:Int) (t:Tok) (c:Int) (u:Tok):∃ e,SeqAt.EqAt A s (.int a t) (.int c u) e/\(e=true↔a=c) :=
 ⟨(a==c),SeqAt.EqAt.int_int a t c u,by simp⟩
theorem vj (A:Around) (s:Shared) (a:Int) (t:Tok) (c:Int) (u:Tok) (prog:Program) (w:World) (E:Value->Shared->Prop) (Q:Value->Shared->Prop) (h:Q (.bool (decide (a < c))) s) :
 wpAny (model prog w) A (richCompare .Lt (.int a t) (.int c u)) Q E s :=
 (PyProof.Rows.lt_int h:wpAny (model prog w) A (compareOp .Lt (.int a t) (.int c u)) Q E s)
section
open PySem.SeqAt
open PySem.AutoSeq1 (wpAny_loadPart')
open PySem.MeetsSeq PySem.MeetsSeq2 PySem.MeetsSeq3
theorem kX (l b:Addr) (items j:Array Value) (n n2:Nat) (dd Dv:Option Addr) (sl Dw:Array (Option Value)) (ns ms:List Int) (hi:IntsAre items.toList ns) (hj:IntsAre j.toList ms) :
 Meets (Builtin.«tuple.__lt__» ⟨[.ref l, .ref b],[]⟩)
  (fun _ R s=>s.heap.get? l=some { cls := .type "tuple",dict:=dd,data := .seq items n,slots:=sl }/\s.heap.get? b=some { cls := .type "tuple",dict:=Dv,data := .seq j n2,slots:=Dw } /\
    R (.ok (.ret (.bool (bP ns ms)))) s) :=
 .of_wp fun prog w A R s h=>by
  obtain ⟨Z,g,d,tk,os⟩:=s;obtain ⟨hl,hb,h⟩:=h
  have f2:=AutoSeq1.sub_tuple_tuple
  have z1:items.size=ns.length:=by rw [<- hi.length];simp
  have z2:j.size=ms.length:=by rw [<- hj.length];simp
  wp_walk using wpAny_loadPart' hl,wpAny_loadPart' hb,wpAny_forIn_list _ (fun rest b s'=>b.1=none/\s'=⟨Z,g,d,tk,os⟩ /\ ∃ (vs ws:List Value) (ns' ms':List Int),rest=vs.zip ws /\
   IntsAre vs ns'/\IntsAre ws ms'/\ns'.length+j.size=ms'.length+items.size/\R (.ok (.ret (.bool (bP ns' ms')))) ⟨Z,g,d,tk,os⟩) _
  case turn =>
   rintro ⟨y,x⟩ rest b s' ⟨J,rfl,vs,ws,ns',ms',z,L,B,hlen,F⟩
   cases L with
   | nil=>rw [List.zip_nil_left] at z;cases z
   | cons a t U =>
     cases B with
     | nil=>rw [List.zip_nil_right] at z;cases z
     | cons c u Y =>
       rw [List.zip_cons_cons] at z
       injection z with hyx O
       injection hyx with hy hx
       subst hy hx
       rw [qi] at F
       simp only [List.length_cons] at hlen
       obtain ⟨e,he,G⟩:=vh A.in1 ⟨Z,g,d,tk,os⟩ a t c u
       refine wpAny_bind (he prog w _ _ ?_)
       cases e with
       | true =>
         rw [if_pos (G.mp rfl)] at F
         wp_walk
         exact ⟨rfl,rfl,_,_,_,_,O,U,Y,by omega,F⟩
       | false =>
         rw [if_neg (fun q=>absurd (G.mpr q) Bool.false_ne_true)] at F
         have Dx:=vj A.in1 ⟨Z,g,d,tk,os⟩ a t c u prog w
         wp_walk using Dx
         exact ⟨_,rfl,by simpa using F⟩
  case fin =>
   rintro ⟨b1,b2⟩ s' ⟨J,rfl,vs,ws,ns',ms',z,L,B,hlen,F⟩
   simp only at J
   subst J
   have hv:bP ns' ms'=decide (items.size < j.size):=by
    cases L with
    | nil =>
      cases B with
      | nil =>
        simp only [List.length_nil] at hlen
        rw [kW]
        exact (decide_eq_false (by omega)).symm
      | cons c u hw =>
        simp only [List.length_nil,List.length_cons] at hlen
        rw [jr]
        exact (decide_eq_true (by omega)).symm
    | cons a t hv =>
      cases B with
      | nil =>
        simp only [List.length_nil,List.length_cons] at hlen
        rw [jt]
        exact (decide_eq_false (by omega)).symm
      | cons c u hw =>
        rw [List.zip_cons_cons] at z
        cases z
   rw [hv] at F
   wp_walk
   exact ⟨_,rfl,by simpa [Builtin.Tuple.tupleCompareSizes] using F⟩
  case h =>
   exact ⟨rfl,rfl,items.toList,j.toList,ns,ms,rfl,hi,hj,by omega,h⟩
end
section
variable {prog:Program} {w:World} {A:Around} {E:Value->Shared->Prop} {s:Shared}
theorem lt_tupInts {l b:Addr} {items j:Array Value} {ns ms:List Int} {Q:Value->Shared->Prop} (O:IsTup s.heap l items) (U:IsTup s.heap b j) (hi:IntsAre items.toList ns) (Y:IntsAre j.toList ms)
 (Z:A.units < cLine) (h:Q (.bool (bP ns ms)) s):wpAny (model prog w) A (compareOp .Lt (.ref l) (.ref b)) Q E s:=by
 obtain ⟨⟨cls,dd,data,sl⟩,ho,J,n,hd⟩:=id O
 obtain ⟨⟨L,B,data2,G⟩,q,z,n2,hd2⟩:=id U
 simp only at J hd z hd2
 subst J hd z hd2
 exact richCompare_meets_room (op := .Lt) ⟨_,ho,rfl⟩ ⟨_,q,rfl⟩ PySem.F.slot_tuple_lt PySem.F.entry_tuple_lt (PySem.F.args_tuple_lt_2 _ _) (kX l b items j n n2 dd B sl G ns ms hi Y)
  ⟨ho,q,show Value.bool (bP ns ms)≠Value.notImplemented/\Q (.bool (bP ns ms)) s from ⟨(fun x=>nomatch x),h⟩⟩ Z
theorem cat_tup {t b:Addr} {vs ws:List Value} {Q:Value->Shared->Prop} (U:IsTup s.heap t vs.toArray) (Y:IsTup s.heap b ws.toArray) (G:vs≠[])
 (h1:ws=[]->Q (.ref t) s) (h2:ws≠[]->Q (.ref s.heap.objs.size) { s with heap:=s.heap.push { cls := .type "tuple",data := .seq (vs++ws).toArray } })
 (hsz:vs.length+ws.length<=sizeLine):wpAny (model prog w) A (binaryOp .Add (.ref t) (.ref b)) Q E s:=by
 obtain ⟨⟨cls,dd,data,sl⟩,ho,J,n,hd⟩:=id U
 obtain ⟨⟨L,q,data2,z⟩,j,B,O,hd2⟩:=id Y
 simp only at J hd B hd2
 subst J hd B hd2
 have e:vs.toArray++ws.toArray=(vs++ws).toArray:=by simp
 by_cases hw:ws=[]
 ·exact concat_meets ⟨_,ho,rfl⟩ ⟨_,j,rfl⟩ noFill_tuple_add seq_tuple_add PySem.F.slot_tuple_add PySem.F.entry_tuple_add (PySem.F.args_tuple_add_2 _ _)
   (tuple_addW1 t b vs.toArray ws.toArray n O dd q sl z (by simpa using G) (by simp [hw])) ⟨ho,j,h1 hw⟩
 ·refine concat_meets ⟨_,ho,rfl⟩ ⟨_,j,rfl⟩ noFill_tuple_add seq_tuple_add PySem.F.slot_tuple_add PySem.F.entry_tuple_add (PySem.F.args_tuple_add_2 _ _)
   (tuple_addW2 t b vs.toArray ws.toArray n O dd q sl z (by simpa using G) (by simpa using hw) (by rw [List.size_toArray,List.size_toArray];exact hsz)) ⟨ho,j, ?_⟩
  rw [e]
  exact h2 hw
noncomputable def sIx (n d:Nat):Option Int->Nat
 | none=>d
 | some v=>if v < 0 then (v+(n:Int)).toNat else min v.toNat n
theorem sIx_none (n d:Nat):sIx n d none=d:=rfl
theorem sIx_nat (n d k:Nat):sIx n d (some (k:Int))=min k n:=by
 show (if (k:Int) < 0 then ((k:Int)+(n:Int)).toNat else min (k:Int).toNat n)=min k n
 rw [if_neg (by omega),Int.toNat_natCast]
theorem AN (n d:Nat) (hd:d<=n) (o:Option Int):sIx n d o<=n:=by
 cases o with
 | none=>exact hd
 | some v =>
   show (if v < 0 then (v+(n:Int)).toNat else min v.toNat n)<=n
   by_cases hv:v < 0
   ·rw [if_pos hv];omega
   ·rw [if_neg hv];exact Nat.min_le_right _ _
theorem oI (v:Int) (n d:Nat):(if v < 0 then max (v+(n:Int)) 0 else min v (n:Int))=((sIx n d (some v):Nat):Int):=by
 show (if v < 0 then max (v+(n:Int)) 0 else min v (n:Int))=(((if v < 0 then (v+(n:Int)).toNat else min v.toNat n):Nat):Int)
 by_cases hv:v < 0
 ·simp only [if_pos hv];omega
 ·simp only [if_neg hv];omega
theorem qj (lo hi:Option Int) (n:Nat):Builtin.Slice.sliceAdjust lo hi 1 (n:Int)=(((sIx n 0 lo:Nat):Int),((sIx n n hi:Nat):Int)):=by
 have h1 : ¬ ((1:Int) < 0):=by omega
 unfold Builtin.Slice.sliceAdjust
 simp only [h1,if_false]
 refine Prod.ext ?_ ?_
 ·cases lo with
  | none=>rfl
  | some v=>exact oI v n 0
 ·cases hi with
  | none=>rfl
  | some v=>exact oI v n n
theorem qk (i j:Nat):Builtin.Slice.slicePlaces (i:Int) (j:Int) 1=j - i:=by
 unfold Builtin.Slice.slicePlaces
 have h1:(1:Int) > 0:=by omega
 simp only [h1,if_true,Int.ediv_one]
 split <;> omega
theorem iu {v:Value} {o:Option Int} {Q:Option Int->Shared->Prop} (p:IsPart v o) (h:Q o s):wpAny (model prog w) A (Builtin.Slice.slicePartIndex v) Q E s:=by
 cases p with
 | none=>exact slicePart_none h
 | int i t=>exact slicePart_int h
theorem dq {sl:Addr} {vl vu:Value} {lo hi:Option Int} {n:Nat} {Q:Int×Int×Nat->Shared->Prop} (hs:s.heap.IsSliceOf sl vl vu .none) (pl:IsPart vl lo) (pu:IsPart vu hi)
 (h:Q (((sIx n 0 lo:Nat):Int),1,sIx n n hi - sIx n 0 lo) s):wpAny (model prog w) A (Builtin.Slice.sliceApplied (.ref sl) (pure (n:Int))) Q E s:=by
 obtain ⟨os,j,z,q⟩:=id hs
 unfold Builtin.Slice.sliceApplied Builtin.Slice.sliceFields
 refine wpAny_bind (wpAny_bind (wpAny_field j q (x:=vl) rfl (wpAny_bind (wpAny_field j q (x:=vu) rfl (wpAny_bind (wpAny_field j q (x := .none) rfl (wpAny_pure ?_)))))))
 refine wpAny_bind (slicePart_none ?_)
 show wpAny _ _ (if ((1:Int)==0)=true then _ else _) _ _ s
 rw [if_neg (by decide)]
 refine wpAny_bind (iu pl (wpAny_bind (iu pu (wpAny_bind (wpAny_pure ?_)))))
 show wpAny _ _ (match Builtin.Slice.sliceAdjust lo hi 1 (n:Int) with | (lo,hi)=>pure (lo,(1:Int),Builtin.Slice.slicePlaces lo hi 1)) _ _ s
 rw [qj lo hi n]
 show wpAny _ _ (pure (((sIx n 0 lo:Nat):Int),(1:Int),Builtin.Slice.slicePlaces ((sIx n 0 lo:Nat):Int) ((sIx n n hi:Nat):Int) 1)) _ _ s
 rw [qk]
 exact wpAny_pure h
theorem vm (xs:Array Value) (i k:Nat):((List.range k).filterMap fun (m:Nat)=>xs[((i:Int)+(m:Int)*1).toNat]?).toArray=((xs.toList.drop i).take k).toArray:=by
 have e:(fun (m:Nat)=>xs[((i:Int)+(m:Int)*1).toNat]?)=fun m=>xs[i+m]? := by
  funext m
  have:((i:Int)+(m:Int)*1).toNat=i+m:=by omega
  rw [this]
 rw [e]
 have:=pick_run xs i k
 rw [List.filterMap_map] at this
 have j:((fun x=>xs[x]?) ∘ fun x=>i+x)=fun m=>xs[i+m]? := rfl
 rw [j] at this
 rw [this]
theorem getItem_tuple_cut {t sl:Addr} {items:Array Value} {vl vu:Value} {lo hi:Option Int} {Q:Value->Shared->Prop} (z:IsTup s.heap t items) (hs:s.heap.IsSliceOf sl vl vu .none) (pl:IsPart vl lo) (pu:IsPart vu hi)
 (hw : ¬ (sIx items.size 0 lo=0/\sIx items.size items.size hi=items.size))
 (h:Q (.ref s.heap.objs.size) { s with heap:=s.heap.push { cls := .type "tuple",data := .seq ((items.toList.drop (sIx items.size 0 lo)).take (sIx items.size items.size hi - sIx items.size 0 lo)).toArray } })
 (hsz:items.size<=sizeLine):wpAny (model prog w) A (getItem (.ref t) (.ref sl)) Q E s:=by
 have j:sizeOk (.seq ((items.toList.drop (sIx items.size 0 lo)).take (sIx items.size items.size hi - sIx items.size 0 lo)).toArray):=by
  show ((items.toList.drop (sIx items.size 0 lo)).take (sIx items.size items.size hi - sIx items.size 0 lo)).toArray.size<=sizeLine
  rw [List.size_toArray,List.length_take,List.length_drop,Array.length_toList]
  omega
 have O:sIx items.size items.size hi<=items.size:=AN _ _ (Nat.le_refl _) hi
 obtain ⟨os,B,F,L⟩:=id hs
 have G:s.TypeIs (.ref sl) "slice" := ⟨os,B,F⟩
 unfold getItem
 try with_reducible refine wpAny_holding ?_
 first | refine wpAny_bind (wpAny_pure ?_) | skip
 refine wpAny_bind (wpAny_sequenceKey z.typeIs (by decide) ?_)
 refine wpAny_bind (wpAny_callSpecial?_slot (name:=Str.ofString "__getitem__") z.typeIs PyProof.Rows.slot_tuple_getitem
  (wpAny_call_entry PyProof.Rows.slot_tuple_getitem z.typeIs entry_tuple_getitem ?_ (args_tuple_getitem _ _)))
 show wpAny _ _ (Builtin.Tuple.tupleItemsOf (.ref t) >>= _) _ _ s
 refine wpAny_bind (tupleItemsOf_ z ?_)
 refine wpAny_bind (wpAny_typeOf G ?_)
 rw [if_pos (by decide)]
 refine wpAny_bind (dq hs pl pu ?_)
 have J : ¬ ((((sIx items.size 0 lo:Nat):Int)==0&&(1:Int)==1&&(sIx items.size items.size hi - sIx items.size 0 lo)==items.size)=true):=by
  intro q
  rw [Bool.and_eq_true,Bool.and_eq_true] at q
  have U:((sIx items.size 0 lo:Nat):Int)=0:=eq_of_beq q.1.1
  have Y:sIx items.size items.size hi - sIx items.size 0 lo=items.size:=eq_of_beq q.2
  exact hw ⟨by omega,by omega⟩
 show wpAny _ _ (if (((sIx items.size 0 lo:Nat):Int)==0&&(1:Int)==1&&(sIx items.size items.size hi - sIx items.size 0 lo)==items.size)=true then _ else _) _ _ s
 rw [if_neg J,vm]
 first
  | exact wpAny_bind (m:=Builtin.Tuple.tupleExact _) (wpAny_newObj_type (wpAny_pure ⟨_,rfl,wpAny_pure h⟩) j)
  | exact wpAny_bind (m:=Builtin.Tuple.tupleExact _) (wpAny_newObj_type (wpAny_bind (wpAny_pure (wpAny_pure ⟨_,rfl,wpAny_pure h⟩))) j)
  | exact wpAny_bind (wpAny_bind (m:=Builtin.Tuple.tupleExact _) (wpAny_newObj_type (wpAny_pure (wpAny_pure ⟨_,rfl,wpAny_pure h⟩)) j))
  | exact wpAny_bind (wpAny_bind (m:=Builtin.Tuple.tupleExact _) (wpAny_newObj_type (wpAny_pure ⟨_,rfl,wpAny_pure h⟩) j))
end
end HT
namespace L2
open PySem PySem.Spec PyProof.Rows
section
noncomputable abbrev TO:=St->Hp->(Option Int->Hp->Prop)->Prop
noncomputable def PO (X:Cx) (e:Option Expr) (t:TO):Prop :=
 ∀ (pins:List (Addr×Obj)) (s:Shared) (σ:St) (H:Hp) (Q:Option Int->Hp->Prop),Inv X pins σ H s->t σ H Q ->
  wpAny (model X.prog X.w) X.A (evalPart e X.env) (fun u s' => ∃ o H',Inv X pins σ H' s'/\IsPart u o/\Q o H') X.xe s
noncomputable def yD:TO:=fun _ H Q=>Q none H
noncomputable def Ck (t:TE):TO:=fun σ H Q=>t σ H fun x H1 => ∃ i,x = .int i/\Q (some i) H1
theorem ql {ns:List Int}:∀ {us:List Value},Vals (ns.map V.int) us->IntsAre us ns:=by
 induction ns with
 | nil=>intro us r;rw [List.map_nil] at r;cases r;exact .nil
 | cons n ns ih =>
   intro us r
   rw [List.map_cons] at r
   cases r with
   | cons j q =>
     obtain ⟨t,e⟩:=j
     subst e
     exact .cons n t (ih q)
section
variable {X:Cx} {e:Expr} {te:TE} {lo hi:Option Expr} {tl th:TO} {pos p2:Pos}
theorem yE:PO X none yD:=by
 intro pins s σ H Q I h
 rw [evalPart_none]
 exact wpAny_pure ⟨none,H,I, .none,h⟩
theorem yF (h:PE X e te):PO X (some e) (Ck te):=by
 intro pins s σ H Q I hw
 rw [evalPart_some]
 refine thn (h pins s σ H _ I hw) fun u s1 ⟨x,H1,j,z,B⟩ => ?_
 obtain ⟨i,rfl,q⟩:=B
 obtain ⟨t,rfl⟩:=z
 exact ⟨some i,H1,j, .int i t,q⟩
noncomputable def SlR (X:Cx) (r:V->Option Int->Option Int->Hp->VK->Prop):Prop :=
 ∀ (pins:List (Addr×Obj)) (s:Shared) (σ:St) (H:Hp) (x:V) (v vl vu:Value) (lo hi:Option Int) (sl:Addr) (Q:VK),Inv X pins σ H s->RelV x v->s.heap.IsSliceOf sl vl vu .none->IsPart vl lo->IsPart vu hi->r x lo hi H Q ->
  ∃ T id,typeLookup (.type T) "__getitem__" = pure (some (.builtin id))/\s.TypeIs v T/\wpAny (model X.prog X.w) X.A (getItem v (.ref sl)) (EP X pins σ Q) X.xe s
theorem SlR.or {r r':V->Option Int->Option Int->Hp->VK->Prop} (h:SlR X r) (h':SlR X r'):SlR X (fun x lo hi H Q=>r x lo hi H Q∨r' x lo hi H Q):=by
 intro pins s σ H x v vl vu lo hi sl Q I rx hs pl pu q
 rcases q with q | q
 ·exact h pins s σ H x v vl vu lo hi sl Q I rx hs pl pu q
 ·exact h' pins s σ H x v vl vu lo hi sl Q I rx hs pl pu q
noncomputable def tSl (r:V->Option Int->Option Int->Hp->VK->Prop) (te:TE) (tl th:TO):TE:=fun σ H Q=>te σ H fun x H1=>tl σ H1 fun l H2=>th σ H2 fun u H3=>r x l u H3 Q
theorem vp {r:V->Option Int->Option Int->Hp->VK->Prop} (z:SlR X r) (he:PE X e te) (B:PO X lo tl) (F:PO X hi th):PE X (.Subscript e (.Slice lo hi none p2) pos) (tSl r te tl th):=by
 intro pins s σ H Q I h
 refine Subscript_ (thn (he pins s σ H _ I h) fun v s1 ⟨x,H1,G,J,L⟩ => ?_)
 refine wpAny_Slice (thn (B pins s1 σ H1 _ G L) fun vl s2 ⟨l,H2,O,pl,U⟩=>thn (F pins s2 σ H2 _ O U) fun vu s3 ⟨u,j,Y,pu,Z⟩ => ?_)
 rw [evalPart_none]
 refine wpAny_pure ?_
 have I4:Inv X pins σ j { s3 with heap:=s3.heap.push { cls := .type "slice",data := .fields #[vl,vu, .none] } }:=Y.kept (t':=s3.toks) fun b ob q=>Heap.get?_push_of_some _ q
 obtain ⟨T,id,hT,ht,hg⟩:=z pins { s3 with heap:=s3.heap.push { cls := .type "slice",data := .fields #[vl,vu, .none] } } σ j x v vl vu l u s3.heap.objs.size Q I4 J (Heap.IsSliceOf.new ..) pl pu Z
 show wpAny (model X.prog X.w) X.A (subscriptTail e (.Slice lo hi none p2) v (.ref s3.heap.objs.size)) (EP X pins σ Q) X.xe { s3 with heap:=s3.heap.push { cls := .type "slice",data := .fields #[vl,vu, .none] } }
 exact tail_any (ops := [.ref s3.heap.objs.size,v]) ht hT hg (by with_unfolding_all rfl)
noncomputable def fg (xs:List V) (lo hi:Option Int):List V:=(xs.drop (HT.sIx xs.length 0 lo)).take (HT.sIx xs.length xs.length hi - HT.sIx xs.length 0 lo)
theorem gF (xs:List V) (lo hi:Option Int):(fg xs lo hi).length<=xs.length:=by
 unfold fg
 rw [List.length_take,List.length_drop]
 omega
noncomputable def Dd (K:Frag):V->Option Int->Option Int->Hp->VK->Prop:=fun x lo hi H Q => ∃ a xs,x = .ref a/\SqT K H a xs /\
 ¬ (HT.sIx xs.length 0 lo=0/\HT.sIx xs.length xs.length hi=xs.length) /\ ∀ p,H p=none->Q (.ref p) (upd H p (.tup (fg xs lo hi)))
theorem sl_tup:SlR X (Dd X.K):=by
 intro pins s σ H x v vl vu lo hi sl Q I rx hs pl pu h
 obtain ⟨a,xs,rfl,hx,hw,q⟩:=h
 cases rx
 obtain ⟨its,r,j,z⟩:=I.tuple hx
 have hlen:its.toArray.size=xs.length:=by rw [List.size_toArray];exact r.length.symm
 refine ⟨"tuple",_,PyProof.Rows.slot_tuple_getitem.lookup,j.typeIs, ?_⟩
 refine HT.getItem_tuple_cut j hs pl pu (by rw [hlen];exact hw) ?_ (by rw [hlen];exact z)
 rw [hlen]
 refine ⟨.ref s.heap.objs.size,_,I.laid (t':=s.toks) (o := .tup (fg xs lo hi)) (fun b ob q=>Heap.get?_push_of_some _ q) (Nat.le_refl _) ?_,rfl,q _ (I.hok.fresh (Nat.le_refl _))⟩
 exact ⟨Nat.le_trans (gF xs lo hi) z,_,(r.drop (HT.sIx xs.length 0 lo)).take (HT.sIx xs.length xs.length hi - HT.sIx xs.length 0 lo),IsTup.new _ _⟩
noncomputable def xK (K:Frag):R2:=fun x y H Q => ∃ a b xs ys,x = .ref a/\y = .ref b/\SqT K H a xs/\SqT K H b ys/\xs≠[]/\xs.length+ys.length<=sizeLine /\
 (ys=[]->Q (.ref a) H)/\(ys≠[] -> ∀ p,H p=none->Q (.ref p) (upd H p (.tup (xs++ys))))
theorem Vals.nil_iff {xs:List V} {us:List Value} (r:Vals xs us):us=[]↔xs=[]:=by
 cases r with
 | nil=>simp
 | cons _ _=>simp
theorem op_catT:OpR X (binaryOp .Add) (xK X.K):=by
 intro pins s σ H x y v u Q I rx ry h
 obtain ⟨a,b,xs,ys,rfl,rfl,J,L,hx,F,O,U⟩:=h
 cases rx
 cases ry
 obtain ⟨its,B,Y,_⟩:=I.tuple J
 obtain ⟨G,j,p2,_⟩:=I.tuple L
 refine HT.cat_tup Y p2 (fun z=>hx (B.nil_iff.mp z)) (fun z=>⟨.ref a,H,I,rfl,O (j.nil_iff.mp z)⟩) (fun z => ?_) (by rw [<- B.length, <- j.length];exact F)
 refine ⟨.ref s.heap.objs.size,_,I.laid (t':=s.toks) (o := .tup (xs++ys)) (fun b ob q=>Heap.get?_push_of_some _ q) (Nat.le_refl _) ?_,rfl,U (fun w=>z (j.nil_iff.mpr w)) _ (I.hok.fresh (Nat.le_refl _))⟩
 exact ⟨by rw [List.length_append];exact F,_,B.append j,IsTup.new _ _⟩
end
end
section
noncomputable def ixN (n:Nat) (i:Int):Option Nat:=if 0<=i then (if i < n then some i.toNat else none) else if -(n:Int)<=i then some (i+n).toNat else none
noncomputable def atI {α:Type} (xs:List α) (i:Int):Option α := (ixN xs.length i).bind fun j=>xs[j]?
theorem oJ {n:Nat} {i:Int} {j:Nat} (h:ixN n i=some j):seqIndex? i n=some j/\j < n /\ -(n:Int)<=i/\i < n:=by
 unfold ixN at h
 by_cases h0 : 0<=i
 ·rw [if_pos h0] at h
  by_cases h1:i < n
  ·rw [if_pos h1] at h
   have e:i.toNat=j:=Option.some.inj h
   exact ⟨by rw [seqIndex_of h0 h1,e],by omega,by omega,h1⟩
  ·rw [if_neg h1] at h;cases h
 ·rw [if_neg h0] at h
  by_cases h1 : -(n:Int)<=i
  ·rw [if_pos h1] at h
   have e:(i+n).toNat=j:=Option.some.inj h
   exact ⟨by rw [seqIndex_neg (by omega) h1,e],by omega,h1,by omega⟩
  ·rw [if_neg h1] at h;cases h
theorem ju {α:Type} {xs:List α} {i:Int} {v : α} (h:atI xs i=some v):∃ j,seqIndex? i xs.length=some j/\xs[j]? = some v/\j < xs.length /\ -(xs.length:Int)<=i/\i < xs.length:=by
 unfold atI at h
 cases e:ixN xs.length i with
 | none=>rw [e] at h;cases h
 | some j =>
   rw [e] at h
   obtain ⟨h1,h2,q,z⟩:=oJ e
   exact ⟨j,h1,h,h2,q,z⟩
noncomputable def jv (b:Expr):Prop := ∀ o i,subscripted b false o i=operate [o,i] (getItem o i)
noncomputable def IxR (X:Cx) (r:R2):Prop :=
 ∀ (value slice:Expr) (pins:List (Addr×Obj)) (s:Shared) (σ:St) (H:Hp) (x y:V) (v u:Value) (Q:VK),Inv X pins σ H s->RelV x v->RelV y u->r x y H Q ->
  subscripted slice false v u=operate [v,u] (getItem v u)->wpAny (model X.prog X.w) X.A (subscriptTail value slice v u) (EP X pins σ Q) X.xe s
noncomputable def MtR (X:Cx) (id:String) (r:V->List V->Hp->VK->Prop):Prop :=
 ∀ (pins:List (Addr×Obj)) (s:Shared) (σ:St) (H:Hp) (x:V) (xs:List V) (v:Value) (us:List Value) (Q:VK),Inv X pins σ H s->RelV x v->Vals xs us->r x xs H Q ->
  wpAny (model X.prog X.w) X.A (call (.builtin id) (v::us)) (EP X pins σ Q) X.xe s
section
variable {X:Cx} {a b:Expr} {ta tb:TE} {pos:Pos}
theorem IxR.or {r r':R2} (h:IxR X r) (h':IxR X r'):IxR X (fun x y H Q=>r x y H Q∨r' x y H Q):=by
 intro value slice pins s σ H x y v u Q I rx ry q hs
 rcases q with q | q
 ·exact h value slice pins s σ H x y v u Q I rx ry q hs
 ·exact h' value slice pins s σ H x y v u Q I rx ry q hs
theorem Cl {r:R2} (j:IxR X r) (z:PE X a ta) (B:PE X b tb) (hs:jv b):PE X (.Subscript a b pos) (tOp r ta tb):=by
 intro pins s σ H Q I h
 exact Subscript_ (uZ z B I h fun v u s2 x y H2 F rx ry q=>j a b pins s2 σ H2 x y v u Q F rx ry q (hs _ _))
noncomputable def De (K:Frag):R2:=fun x y H Q => ∃ p xs i v,x = .ref p/\y = .int i/\SqL K H p xs/\atI xs i=some v/\Q v H
noncomputable def Df (K:Frag):R2:=fun x y H Q => ∃ p xs i v,x = .ref p/\y = .int i/\SqT K H p xs/\atI xs i=some v/\Q v H
theorem ix_list:IxR X (De X.K):=by
 intro value slice pins s σ H x y v u Q I rx ry h hs
 obtain ⟨p,xs,i,z,rfl,rfl,F,he,q⟩:=h
 cases rx
 obtain ⟨t,rfl⟩:=ry
 obtain ⟨its,r,pl,O⟩:=I.list F
 obtain ⟨j,h1,h2,U,G,J⟩:=ju he
 obtain ⟨w,ew,rw'⟩:=r.get h2
 have L:=r.length
 have Y:=dW
 have fin:EP X pins σ Q w s:=⟨z,H,I,rw',q⟩
 by_cases h0 : 0<=i
 ·have B:i.toNat=j:=by
   rw [seqIndex_of h0 J] at h1
   exact Option.some.inj h1
  exact item_listR pl.isList h0 (by omega) (by rw [B];simpa using ew) fin hs
 ·have B:(i+(its.toArray.size:Int)).toNat=j:=by
   rw [seqIndex_neg (by omega) G] at h1
   rw [List.size_toArray, <- L]
   exact Option.some.inj h1
  exact subscriptTail_builtinR (x:=w) pl.isList.typeIs slot_list_getitem.lookup
   (wpAny_getItem_list_neg (Q:=fun r s'=>r=w/\EP X pins σ Q r s') pl.isList (by omega) (by rw [List.size_toArray] <;> omega) (by omega) (by rw [B];simpa using ew) ⟨rfl,fin⟩) hs
theorem ix_tup:IxR X (Df X.K):=by
 intro value slice pins s σ H x y v u Q I rx ry h hs
 obtain ⟨p,xs,i,z,rfl,rfl,B,he,q⟩:=h
 cases rx
 obtain ⟨t,rfl⟩:=ry
 obtain ⟨its,r,pl,G⟩:=I.tuple B
 obtain ⟨j,h1,h2,J,L,O⟩:=ju he
 obtain ⟨w,ew,rw'⟩:=r.get h2
 have F:=r.length
 have U:=dW
 have fin:EP X pins σ Q w s:=⟨z,H,I,rw',q⟩
 exact subscriptTail_builtinR (x:=w) pl.typeIs slot_tuple_getitem.lookup
  (getItem_tuple (j:=j) (Q:=fun r s'=>r=w/\EP X pins σ Q r s') pl (by omega) (by omega) (by rw [List.size_toArray, <- F];exact h1) (by simpa using ew) ⟨rfl,fin⟩) hs
theorem qm (its:List Value) (n j:Nat) (u:Value):Obj.mapSeq (·.setIfInBounds j u) { cls := .type "list",data := .seq its.toArray n } = { cls := .type "list",data := .seq (its.set j u).toArray n }:=by
 simp [Obj.mapSeq]
theorem Inv.lst {pins:List (Addr×Obj)} {σ:St} {H:Hp} {s:Shared} {p:Addr} {xs:List V} (I:Inv X pins σ H s) (h:H p=some (.lst xs)) :
 ∃ (its:List Value) (n:Nat),Vals xs its/\s.heap.get? p=some { cls := .type "list",data := .seq its.toArray n }/\xs.length<=sizeLine:=by
 obtain ⟨z,its,n,r,e⟩:=I.hok p _ h
 exact ⟨its,n,r,e,z⟩
theorem Inv.lstUpd {pins:List (Addr×Obj)} {σ:St} {H:Hp} {s:Shared} {p:Addr} {xs ys:List V} {its its':List Value} {n n':Nat} {f:Obj->Obj} (I:Inv X pins σ H s) (h:H p=some (.lst xs))
 (ho:s.heap.get? p=some { cls := .type "list",data := .seq its.toArray n }) (hf:f { cls := .type "list",data := .seq its.toArray n } = { cls := .type "list",data := .seq its'.toArray n' }) (r:Vals ys its') (j:ys.length<=sizeLine) (t:Nat) :
 Inv X pins σ (upd H p (.lst ys)) { s with heap:=s.heap.update p f,toks:=t }:=by
 have e:(s.heap.update p f).get? p=some { cls := .type "list",data := .seq its'.toArray n' }:=by
  rw [Heap.get?_update_self f ho (by rw [hf] <;> rfl),hf]
 refine I.write (x:=p) (e:=p) (by rw [h];trivial) (.inl rfl) (fun b u z q=>(Heap.get?_update_other _ _ (Ne.symm z)).trans q) ⟨_,e⟩ ?_
 exact ⟨j,its',n',r,e⟩
noncomputable def xL:V->V->V->Hp->(Hp->Prop)->Prop:=fun o i v H Q => ∃ p xs k j,o = .ref p/\i = .int k/\H p=some (.lst xs)/\ixN xs.length k=some j/\Q (upd H p (.lst (xs.set j v)))
theorem lL:PSet X xL:=by
 intro pins s σ H o i v ov iv u Q I ro ri rv h
 obtain ⟨p,xs,k,j,rfl,rfl,F,L,q⟩:=h
 cases ro
 obtain ⟨t,rfl⟩:=ri
 obtain ⟨its,n,r,ho,O⟩:=I.lst F
 obtain ⟨h1,h2,G,J⟩:=oJ L
 have z:=r.length
 have U:=dW
 have I':Inv X pins σ (upd H p (.lst (xs.set j v))) { s with heap:=s.heap.update p (Obj.mapSeq (·.setIfInBounds j u)) } :=
  I.lstUpd F ho (qm its n j u) (r.set rv j) (by rw [List.length_set];exact O) s.toks
 by_cases h0 : 0<=k
 ·have B:k.toNat=j:=by
   rw [seqIndex_of h0 J] at h1
   exact Option.some.inj h1
  exact PySem.W.ki_setAt ho h0 (by omega) (by rw [List.size_toArray, <- z];exact J) (by rw [B];exact ⟨_,I',q⟩)
 ·have B:(k+(its.toArray.size:Int)).toNat=j:=by
   rw [seqIndex_neg (by omega) G] at h1
   rw [List.size_toArray, <- z]
   exact Option.some.inj h1
  exact PySem.W.ki_setBack ho (by omega) (by rw [List.size_toArray, <- z];exact G) (by omega) (by rw [B];exact ⟨_,I',q⟩)
theorem lM (lo hi:Option Int) (n:Nat):(sliceBounds lo hi none n).1=((HT.sIx n 0 lo:Nat):Int)/\(sliceBounds lo hi none n).2.1=((HT.sIx n n hi:Nat):Int)/\(sliceBounds lo hi none n).2.2=1:=by
 refine ⟨?_, ?_,rfl⟩
 ·cases lo with
  | none=>simp [sliceBounds,HT.sIx]
  | some i =>
    simp only [sliceBounds,HT.sIx,Option.getD_none,show (1:Int) > 0 by decide,if_true]
    by_cases h:i < 0
    ·simp only [h,if_true] <;> omega
    ·simp only [h,if_false] <;> omega
 ·cases hi with
  | none=>simp [sliceBounds,HT.sIx]
  | some i =>
    simp only [sliceBounds,HT.sIx,Option.getD_none,show (1:Int) > 0 by decide,if_true]
    by_cases h:i < 0
    ·simp only [h,if_true] <;> omega
    ·simp only [h,if_false] <;> omega
theorem kY (its:List Value) (lo hi:Option Int):slicePick its.toArray lo hi none=((its.drop (HT.sIx its.length 0 lo)).take (HT.sIx its.length its.length hi - HT.sIx its.length 0 lo)).toArray:=by
 obtain ⟨h1,h2,j⟩:=lM lo hi its.toArray.size
 unfold slicePick
 rw [h1,h2,j]
 simp only [sliceRange_one,pick_run,List.size_toArray] <;> rfl
noncomputable def Dg (K:Frag):V->Option Int->Option Int->Hp->VK->Prop:=fun x lo hi H Q => ∃ a xs,x = .ref a/\SqL K H a xs /\ ∀ p,H p=none->Q (.ref p) (upd H p (.lst (fg xs lo hi)))
theorem sl_list:SlR X (Dg X.K):=by
 intro pins s σ H x v vl vu lo hi sl Q I rx hs pl pu h
 obtain ⟨a,xs,rfl,hx,q⟩:=h
 cases rx
 obtain ⟨its,r,j,z⟩:=I.list hx
 have hlen:=r.length
 refine ⟨"list",_,slot_list_getitem.lookup,j.isList.typeIs, ?_⟩
 refine wpAny_getItem_list_slice j.isList hs pl pu .none (by simp) ?_ (by rw [List.size_toArray] <;> omega)
 rw [kY, <- hlen]
 refine ⟨.ref s.heap.objs.size,_,I.laid (t':=s.toks) (o := .lst (fg xs lo hi)) (fun b ob q=>Heap.get?_push_of_some _ q) (Nat.le_refl _) ?_,rfl,q _ (I.hok.fresh (Nat.le_refl _))⟩
 exact ⟨Nat.le_trans (gF xs lo hi) z,_,0,(r.drop (HT.sIx xs.length 0 lo)).take (HT.sIx xs.length xs.length hi - HT.sIx xs.length 0 lo),Heap.get?_push_size _ rfl⟩
theorem lN:CallR X (.type "list") (fun xs H Q => ∃ p ys,xs=[.ref p]/\(SqL X.K H p ys∨SqT X.K H p ys) /\ ∀ l,H l=none->Q (.ref l) (upd H l (.lst ys))):=by
 intro pins s σ H xs us Q I r h
 obtain ⟨p,ys,rfl,j,q⟩:=h
 obtain ⟨u,rfl,rx⟩:=cP r
 cases rx
 have fin:∀ (its:List Value),Vals ys its->ys.length<=sizeLine -> ∀ (h':Heap) (c':Nat),(∀ b o',s.heap.get? b=some o'->h'.get? b=some o') ->
  h'.get? s.heap.objs.size=some { cls := .type "list",dict:=none,data := .seq its.toArray c',slots := #[] }->EP X pins σ Q (.ref s.heap.objs.size) { s with heap:=h' }:=fun its r' z h' c' kp e =>
  ⟨.ref s.heap.objs.size,_,I.laid (t':=s.toks) kp (Nat.le_refl _) (show ObjOk X.prog X.w _ h' _ (.lst ys) from ⟨z,its,c',r',e⟩),rfl,q _ (I.hok.fresh (Nat.le_refl _))⟩
 rcases j with j | j
 ·obtain ⟨its,r',pl,z⟩:=I.list j
  have hlen:=r'.length
  obtain ⟨o,ho,B,n,hd⟩:=pl.isList
  exact call_list_seq p (.inl rfl) ho B hd (fun h' c' kp e=>fin its r' z h' c' kp e) (by simp only [List.size_toArray] <;> omega)
 ·obtain ⟨its,r',pl,z⟩:=I.tuple j
  have hlen:=r'.length
  obtain ⟨o,ho,B,n,hd⟩:=pl
  exact call_list_seq p (.inr rfl) ho B hd (fun h' c' kp e=>fin its r' z h' c' kp e) (by simp only [List.size_toArray] <;> omega)
theorem kZ:CallR X (.type "tuple") (fun xs H Q => ∃ p ys,xs=[.ref p]/\((SqL X.K H p ys /\ ∀ l,H l=none->Q (.ref l) (upd H l (.tup ys)))∨(SqT X.K H p ys/\Q (.ref p) H))):=by
 intro pins s σ H xs us Q I r h
 obtain ⟨p,ys,rfl,h⟩:=h
 obtain ⟨u,rfl,rx⟩:=cP r
 cases rx
 rcases h with ⟨j,q⟩ | ⟨j,q⟩
 ·obtain ⟨its,r',pl,z⟩:=I.list j
  have hlen:=r'.length
  refine call_tuple_list pl.isList (fun h' kp => ?_) (by simp only [List.size_toArray] <;> omega)
  have B:Inv X pins σ H { s with heap:=h' }:=I.kept (t':=s.toks) kp
  have F:Inv X pins σ (upd H h'.objs.size (.tup ys)) { s with heap:=h'.push { cls := .type "tuple",data := .seq its.toArray } } :=
   B.laid (t':=s.toks) (fun b o e=>Heap.get?_push_of_some _ e) (Nat.le_refl _) (show ObjOk X.prog X.w _ _ _ (.tup ys) from ⟨z,its,r',IsTup.new _ _⟩)
  exact ⟨.ref h'.objs.size,_,F,rfl,q _ (B.hok.fresh (Nat.le_refl _))⟩
 ·obtain ⟨its,r',pl,z⟩:=I.tuple j
  exact call_tuple_same pl ⟨.ref p,H,I,rfl,q⟩
noncomputable def tyV (K:Frag) (T:String) (x:V) (H:Hp):Prop:=match x with
 | .str _=>T = "str"
 | .int _=>T = "int"
 | .ref p=>(T = "list" /\ ∃ xs,SqL K H p xs)∨(T = "tuple" /\ ∃ o,K.lookup p=some o/\o.cls = .type "tuple" /\ o.dict=none) ∨
  (T = "dict" /\ ((∃ kvs,H p=some (.dK kvs)) ∨ ∃ kvs,H p=some (.dT kvs)))∨(T = "set" /\ ∃ S n,H p=some (.set S n))
 | _=>False
theorem sd {pins:List (Addr×Obj)} {σ:St} {H:Hp} {s:Shared} {T:String} {x:V} {v:Value} (I:Inv X pins σ H s) (r:RelV x v) (ty:tyV X.K T x H) :
 s.TypeIs v T /\ ∀ a,v = .ref a -> ∃ ob,s.heap.get? a=some ob/\ob.dict=none:=by
 cases x with
 | str z =>
   obtain ⟨t,rfl⟩:=r
   cases (show T = "str" from ty)
   exact ⟨typeIs_str s z t,fun _ e=>nomatch e⟩
 | int i =>
   obtain ⟨t,rfl⟩:=r
   cases (show T = "int" from ty)
   exact ⟨typeIs_int s i t,fun _ e=>nomatch e⟩
 | ref p =>
   cases r
   rcases ty with ⟨rfl,xs,B⟩ | ⟨rfl,o,j,F,hd⟩ | ⟨rfl,j⟩ | ⟨rfl,S,n,j⟩
   ·obtain ⟨its,_,pl,_⟩:=I.list B
    refine ⟨pl.isList.typeIs,fun a e => ?_⟩
    cases e
    obtain ⟨o,n,e,c,hd,_⟩:=pl
    exact ⟨o,e,hd⟩
   ·refine ⟨⟨o,I.kIn p o j,F⟩,fun a e => ?_⟩
    cases e
    exact ⟨o,I.kIn _ o j,hd⟩
   ·have z:∃ o,s.heap.get? p=some o/\o.ExactDict:=by
     rcases j with ⟨kvs,j⟩ | ⟨kvs,j⟩
     ·obtain ⟨_,_,_,_,o,_,_,e,ex,_⟩:=I.hok p _ j
      exact ⟨o,e,ex⟩
     ·obtain ⟨_,_,_,_,o,_,_,e,ex,_⟩:=I.hok p _ j
      exact ⟨o,e,ex⟩
    obtain ⟨o,e,ex⟩:=z
    refine ⟨⟨o,e,ex.1⟩,fun a q => ?_⟩
    cases q
    exact ⟨o,e,ex.2.1⟩
   ·obtain ⟨o,_,_,_,e,ex,_⟩:=I.hok p _ j
    refine ⟨⟨o,e,ex.1⟩,fun a q => ?_⟩
    cases q
    exact ⟨o,e,ex.2.1⟩
 | _=>exact False.elim ty
noncomputable def AO (K:Frag) (T:String) (r:V->List V->Hp->VK->Prop) (to:TE):TE:=fun σ H Q=>to σ H fun x H1=>tyV K T x H1/\r x [] H1 Q
noncomputable def tBM (K:Frag) (T:String) (r:V->List V->Hp->VK->Prop) (to:TE) (t:TA):TE:=fun σ H Q=>to σ H fun x H1=>tyV K T x H1/\t σ H1 fun xs H2=>r x xs H2 Q
variable {o e:Expr} {es:List Expr} {to:TE} {t:TA} {name:Str} {apos cpos:Pos} {T id:String} {r:V->List V->Hp->VK->Prop}
theorem se (pa:PlainAttrs T) (slot:Slot T name id) (z:typeOf (.builtin id)=pure (.type "method_descriptor")) (hm:MtR X id r) (ho:PE X o to)
 (j:attributeBase o name X.env (eval o X.env)=eval o X.env:=by rfl) (q:(apos.endLine==cpos.line)=true:=by rfl):PE X (.Call (.Attribute o name apos) [] [] cpos) (AO X.K T r to):=by
 intro pins s σ H Q I h
 refine wpAny_Call_method0_late j q (thn (ho pins s σ H _ I h) fun v s1 ⟨x,H1,B,F,ty,G⟩ => ?_)
 obtain ⟨h1,h2⟩:=sd B F ty
 exact ⟨T,id,pa,slot,z,h1,h2,Calls.callWith_builtin rfl (PySem.evalArgs_none (hm pins s1 σ H1 x [] v [] Q B F .nil G))⟩
theorem Cn (pa:PlainAttrs T) (slot:Slot T name id) (F:typeOf (.builtin id)=pure (.type "method_descriptor")) (hm:MtR X id r) (ho:PE X o to) (O:PA X (e::es) t)
 (q:attributeBase o name X.env (eval o X.env)=eval o X.env:=by rfl)
 (B:((backTo cpos (starEach (e::es) X.env)).all (fun x => !x.1)&&(backToKw cpos (keywordEach [] X.env)).all (fun x=>x.1.isSome)
   && decide ((e::es).length+([]:List Keyword).length+(if ([]:List Keyword).isEmpty then 0 else 1) < 30))=true:=by rfl)
 (z:(apos.endLine==cpos.line)=true:=by rfl) (hs:starEach (e::es) X.env=(false,eval e X.env)::starEach es X.env:=by rfl) (j:(backTo cpos (starEach es X.env)).any (·.1)=false:=by rfl) :
 PE X (.Call (.Attribute o name apos) (e::es) [] cpos) (tBM X.K T r to t):=by
 intro pins s σ H Q I h
 refine wpAny_Call_method_late q B z rfl (thn (ho pins s σ H _ I h) fun v s1 ⟨x,H1,G,J,ty,U⟩ => ?_)
 obtain ⟨h1,h2⟩:=sd G J ty
 refine ⟨T,id,pa,slot,F,h1,h2, ?_⟩
 have L:=O cpos pins s1 σ H1 _ G U
 rw [hs] at L ⊢
 refine Calls.callWith_builtin (by show (false || (backTo cpos (starEach es X.env)).any (·.1))=false;rw [j] <;> rfl) (Calls.evalArgs_plain ?_)
 exact thn L fun us s2 ⟨vs,H2,Y,Z,q2⟩=>hm pins s2 σ H2 x vs v us Q Y J Z q2
end
end
section
noncomputable def MtM (X:Cx) (id:String) (r:V->List V->Hp->VK->Prop):Prop :=
 ∀ (pins:List (Addr×Obj)) (s:Shared) (σ:St) (H:Hp) (x:V) (xs:List V) (v:Value) (us:List Value) (Q:VK),Inv X pins σ H s->RelV x v->Vals xs us->r x xs H Q ->
  wpAny (model X.prog X.w) X.A (call (.builtin id) (v::us)) (EP X pins σ Q) X.xe s
theorem Vals.one:∀ {x:V} {us:List Value},Vals [x] us -> ∃ u,us=[u]/\RelV x u
 | _,_, .cons r .nil=>⟨_,rfl,r⟩
theorem Vals.zero:∀ {us:List Value},Vals [] us->us=[]
 | _, .nil=>rfl
theorem Vals.reverse {xs:List V} {us:List Value} (h:Vals xs us):Vals xs.reverse us.reverse:=by
 induction h with
 | nil=>exact .nil
 | cons r t ih=>rw [List.reverse_cons,List.reverse_cons];exact Vals.append ih (.cons r .nil)
theorem Vals.rep {xs:List V} {us:List Value} (h:Vals xs us):∀ k:Nat,Vals (List.replicate k xs).flatten (List.replicate k us).flatten
 | 0 => .nil
 | k+1=>by
   rw [List.replicate_succ,List.replicate_succ,List.flatten_cons,List.flatten_cons]
   exact Vals.append h (Vals.rep h k)
theorem fh (its:List Value):∀ (k:Nat) (acc:List Value),
 List.foldl (fun j q=>j++q) acc.toArray (List.replicate k its.toArray)=(acc++(List.replicate k its).flatten).toArray
 | 0,acc=>by simp
 | k+1,acc=>by
   have e:acc.toArray++its.toArray=(acc++its).toArray:=by simp
   have z:(acc++its)++(List.replicate k its).flatten=acc++(List.replicate (k+1) its).flatten:=by
    rw [List.replicate_succ,List.flatten_cons,List.append_assoc]
   rw [<- z, <- fh its k (acc++its), <- e,List.replicate_succ,List.foldl_cons]
section
variable {X:Cx} {pins:List (Addr×Obj)} {σ:St} {H:Hp} {s:Shared} {l b:Addr} {xs ys zs:List V}
theorem Inv.lset {its its':List Value} {n:Nat} {f:Array Value->Array Value} {t':Nat} (I:Inv X pins σ H s) (j:H l=some (.lst xs))
 (e:s.heap.get? l=some { cls := .type "list",data := .seq its.toArray n }) (hf:f its.toArray=its'.toArray) (z:Vals ys its') (B:ys.length<=sizeLine) :
 Inv X pins σ (upd H l (.lst ys)) { s with heap:=s.heap.update l (Obj.mapSeq f),toks:=t' }:=by
 have q:=PySem.IsL.update e f
 rw [hf] at q
 refine I.write (x:=l) (e:=l) (by rw [j];exact trivial) (.inl rfl) (fun b' u F G=>(Heap.get?_update_other s.heap (Obj.mapSeq f) (Ne.symm F)).trans G) ⟨_,q⟩ ?_
 exact ⟨B,its',_,z,q⟩
theorem Inv.lnew {its:List Value} {t':Nat} (I:Inv X pins σ H s) (j:Vals ys its) (z:ys.length<=sizeLine) :
 Inv X pins σ (upd H s.heap.objs.size (.lst ys)) { s with heap:=s.heap.push { cls := .type "list",data := .seq its.toArray },toks:=t' } :=
 I.laid (fun _ _ q=>Heap.get?_push_of_some _ q) (Nat.le_refl _) ⟨z,its,0,j,Heap.get?_push_size _ rfl⟩
theorem Inv.fresh (I:Inv X pins σ H s):H s.heap.objs.size=none:=I.hok.fresh (Nat.le_refl _)
theorem Inv.lstM (I:Inv X pins σ H s) (j:H l=some (.lst xs)):xs.length<=sizeLine /\ ∃ (its:List Value) (n:Nat),Vals xs its/\xs.length=its.length/\s.heap.get? l=some { cls := .type "list",data := .seq its.toArray n }:=by
 obtain ⟨z,its,n,r,e⟩:=I.hok l _ j
 exact ⟨z,its,n,r,r.length,e⟩
theorem vq {n:Nat} (h:n<=sizeLine):Builtin.List.listTooLong n=false:=by
 unfold Builtin.List.listTooLong
 exact decide_eq_false (by omega)
end
section
variable {X:Cx}
noncomputable def oK:V->List V->Hp->VK->Prop:=fun x vs H Q => ∃ l xs y,x = .ref l/\vs=[y]/\H l=some (.lst xs)/\xs.length < sizeLine/\Q .non (upd H l (.lst (xs++[y])))
theorem kb:MtM X "list.append" oK:=by
 intro pins s σ H x vs v us Q I rx rv h
 obtain ⟨l,xs,y,rfl,rfl,j,B,q⟩:=h
 cases rx
 obtain ⟨u,rfl,ru⟩:=rv.one
 obtain ⟨z,its,n,r,G,e⟩:=I.lstM j
 refine call_meets F.slot_list_append ⟨_,e,rfl⟩ F.entry_list_append (F.args_list_append_2 _ _) (PySem.list_append l its.toArray n u (by rw [List.size_toArray];omega)) ⟨e, ?_⟩
 refine ⟨.non,_,I.lset (its':=its++[u]) j e (by simp) (r.append (.cons ru .nil)) ?_,rfl,q⟩
 rw [List.length_append,List.length_singleton]
 omega
noncomputable def lP:V->List V->Hp->VK->Prop:=fun x vs H Q => ∃ l xs,x = .ref l/\vs=[]/\H l=some (.lst xs)/\Q .non (upd H l (.lst xs.reverse))
theorem qo:MtM X "list.reverse" lP:=by
 intro pins s σ H x vs v us Q I rx rv h
 obtain ⟨l,xs,rfl,rfl,B,q⟩:=h
 cases rx
 have j:=rv.zero
 subst j
 obtain ⟨z,its,n,r,G,e⟩:=I.lstM B
 refine call_meets F.slot_list_reverse ⟨_,e,rfl⟩ F.entry_list_reverse (F.args_list_reverse_1 _) (AutoSeq1.list_reverse_list_0 l its.toArray n (by rw [List.size_toArray];omega)) ⟨e, ?_⟩
 refine ⟨.non,_,I.lset (its':=its.reverse) B e (by simp) r.reverse ?_,rfl,q⟩
 rw [List.length_reverse]
 omega
noncomputable def sg:V->List V->Hp->VK->Prop:=fun x vs H Q => ∃ l xs,x = .ref l/\vs=[]/\H l=some (.lst xs)/\Q .non (upd H l (.lst []))
theorem vt:MtM X "list.clear" sg:=by
 intro pins s σ H x vs v us Q I rx rv h
 obtain ⟨l,xs,rfl,rfl,B,q⟩:=h
 cases rx
 have j:=rv.zero
 subst j
 obtain ⟨z,its,n,r,G,e⟩:=I.lstM B
 refine call_meets F.slot_list_clear ⟨_,e,rfl⟩ F.entry_list_clear (F.args_list_clear_1 _) (AutoSeq1.list_clear_list_0 l its.toArray n (by rw [List.size_toArray];omega)) ⟨e, ?_⟩
 exact ⟨.non,_,I.lset (its' := []) (ys := []) B e rfl .nil (Nat.zero_le _),rfl,q⟩
noncomputable def Dh:R2:=fun x y H Q => ∃ l b xs zs,x = .ref l/\y = .ref b/\H l=some (.lst xs)/\H b=some (.lst zs)/\xs.length+zs.length<=sizeLine /\ ∀ p,H p=none->Q (.ref p) (upd H p (.lst (xs++zs)))
theorem op_cat:OpR X (binaryOp .Add) Dh:=by
 intro pins s σ H x y v u Q I rx ry h
 obtain ⟨l,b,xs,zs,rfl,rfl,B,F,O,q⟩:=h
 cases rx
 cases ry
 obtain ⟨z,its,n,r,U,e⟩:=I.lstM B
 obtain ⟨Y,j,Z,G,J,L⟩:=I.lstM F
 refine PySem.P.add_list e L ?_ (by rw [List.size_toArray,List.size_toArray];omega)
 have ea:its.toArray++j.toArray=(its++j).toArray:=by simp
 rw [ea]
 exact ⟨.ref _,_,I.lnew (t':=s.toks) (r.append G) (by rw [List.length_append];omega),rfl,q _ I.fresh⟩
noncomputable def Di:R2:=fun x y H Q => ∃ l k xs,x = .ref l/\y = .int k/\H l=some (.lst xs) /\ -(2 ^ 63)<=k/\k < 2 ^ 63/\xs.length*k.toNat<=sizeLine /\
 ∀ p,H p=none->Q (.ref p) (upd H p (.lst (List.replicate k.toNat xs).flatten))
theorem oM {α:Type} (xs:List α) (k:Nat):(List.replicate k xs).flatten.length=k*xs.length:=by
 induction k with
 | zero=>simp
 | succ k ih=>rw [List.replicate_succ,List.flatten_cons,List.length_append,ih,Nat.succ_mul,Nat.add_comm]
theorem op_rep:OpR X (binaryOp .Mult) Di:=by
 intro pins s σ H x y v u Q I rx ry h
 obtain ⟨l,k,xs,rfl,rfl,Z,h1,h2,Y,q⟩:=h
 cases rx
 obtain ⟨t,rfl⟩:=ry
 obtain ⟨z,its,n,r,hl,e⟩:=I.lstM Z
 have hlen:its.toArray.size*k.toNat<=sizeLine:=by rw [List.size_toArray, <- hl];exact Y
 have B : ¬ its.toArray.size*k.toNat > (2 ^ 63 - 1) / 8:=by
  have:(sizeLine:Nat)<=(2 ^ 63 - 1) / 8:=by decide
  omega
 have G : ¬ (!Builtin.List.listFitsIndex k)=true:=by
  rw [fitsIndex_both h1 h2]
  exact Bool.false_ne_true
 have j : ¬ Builtin.List.listTooLong (its.toArray.size*k.toNat)=true:=by
  rw [vq hlen]
  exact Bool.false_ne_true
 have J:List.foldl (fun L O=>L++O) #[] (List.replicate (if its.toArray.isEmpty=true then 0 else k.toNat) its.toArray)=(List.replicate k.toNat its).flatten.toArray:=by
  have f0:∀ m:Nat,List.foldl (fun L O=>L++O) #[] (List.replicate m its.toArray)=(List.replicate m its).flatten.toArray:=fun m=>by
   have:=fh its m []
   rw [List.nil_append] at this
   exact this
  rw [f0]
  cases its with
  | nil=>simp
  | cons a r'=>rw [if_neg (by simp)]
 refine wpAny_binaryOp_repeat_ref (T := "list") (U := "int") (by decide) ⟨_,e,rfl⟩ (fun s'=>typeIs_int s' k t) noFill_list_mul F.fills_int_mul F.slot_int_rmul repeat_list F.slot_int_index.lookup
  (call_meets F.slot_int_rmul (typeIs_int s k t) F.entry_int_rmul (F.args_int_rmul_2 _ _) (int___rmul___int_list k t l its.toArray n)
    ⟨e,rfl,⟨_,e,rfl⟩,call_meets F.slot_list_mul ⟨_,e,rfl⟩ F.entry_list_mul (F.args_list_mul_2 _ _) (AutoListH.list___mul___list_int_3 l its.toArray n k t G B j) ⟨e, ?_⟩⟩)
 rw [J]
 exact ⟨.ref _,_,I.lnew (t':=s.toks) (r.rep k.toNat) (by rw [oM,Nat.mul_comm];exact Y),rfl,q _ I.fresh⟩
end
end
end L2
namespace Att
open PySem PySem.W PySem.Calls PyProof.Rows
theorem iw {P:Params} {h:Heap}:∀ (ns:List Int) (vs:List Value),WellAll P h vs (ns.map WData.int)->IntsAre vs ns:=by
 intro ns
 induction ns with
 | nil =>
   intro vs w
   rw [List.map_nil] at w
   cases w
   exact .nil
 | cons n ns ih =>
   intro vs w
   rw [List.map_cons] at w
   cases w with
   | cons a b =>
     cases a
     exact .cons _ _ (ih _ b)
theorem si {l:OpenLaw} {n:Nat} (O:l.most=some n) {P:Params} {h:Heap} {args:List WData} {vals:List Value}
 (j:l.row.toRowW.claim.pre args=true) (G:WellAll P h vals args) :
 ∃ a vs ns,vals=[Value.ref a]/\args=[WData.list (ns.map WData.int)]/\h.get? a=some { cls := .type "list",data := .seq vs.toArray }/\IntsAre vs ns/\ns.length<=n:=by
 have J:WShape.hasAll [] args [.list .int]=true:=(pre_splitW j).1
 have L:l.pre.holds [] { args:=args }=true:=(pre_splitW j).2
 obtain ⟨d,r,rfl,h1,h2⟩:=hasAllW_cons J
 obtain rfl:=hasAllW_nil h2
 obtain ⟨xs,rfl,U⟩:=hasW_list h1
 obtain ⟨ns,rfl⟩:=items_int U
 have hlen:ns.length<=n:=by
  unfold OpenLaw.pre at L
  have B:(WTm.not (.lt (.lit (.int (n:Int))) (.len (.arg 0)))).holds [] { args := [.list (ns.map .int)] }=true:=by
   have B:=(holds_andW L).1
   rw [O] at B
   exact B
  have F:=condW_of B (w_not (w_lt w_lit (w_len_list (w_arg rfl))))
  rw [List.length_map] at F
  refine Nat.le_of_not_lt fun q => ?_
  have q':(n:Int) < ((ns.length:Nat):Int):=by omega
  first
   | (rw [decide_eq_true q'] at F;exact absurd F (by decide))
   | (simp at F;omega)
 cases G with
 | cons Y Z =>
   cases Z
   cases Y with
   | list ho z=>exact ⟨_,_,ns,rfl,rfl,ho,iw ns _ z,hlen⟩
theorem sj (l:OpenLaw) (args:List WData):l.row.toRowW.claim.post args (.bool true) args=true :=
 postW_of (r:=l.row.toRowW) (X:=(true==true))
  (show WShape.has [] (.bool true) .bool=true by first | rfl | decide | simp [WShape.has,WShape.arms,WShape.armsAll])
  (show (WTm.eq .res (.lit (.bool true))).value [] { args:=args,res:=some (.bool true),after:=args }=some (.bool (true==true)) from w_eq_bool (w_res rfl) w_lit) rfl
theorem attach_call {l:OpenLaw} {n:Nat} {q:Program} {loose:List Str} {XP:(Str->Option Value)->Heap->Prop} {YP:World->Heap->Prop} {d:DefRec}
 (Z:l.most=some n) (B:d.params.defaults=[])
 (call:∀ (w:World) (s₀ s₁:Shared) (mg mb:Str->Option Value) (fa:Addr) (o:Obj) (pm cd doc:Value) (a:Addr) (vs:List Value) (ns:List Int),
   Ground q loose [] XP w s₀ mg mb s₁.heap->YP w s₁.heap ->
   s₁.heap.get? fa=some o->o.data = .func (docDef d.name d.params d.body d.scope pm cd doc)->s₁.heap.CodeRec cd d.name->mg d.name=some (.ref fa) ->
   s₁.heap.get? a=some { cls := .type "list",data := .seq vs.toArray }->IntsAre vs ns->ns.length<=n->s₁.gens = #[] ->
   codeAny (model l.prog w) callerA (.call (.ref fa) ⟨[.ref a],[]⟩) (fun r s'=>r = .ok (.ret (.bool true))/\OldK s₁.heap s'.heap/\s'.os=s₁.os/\AllBare s'.gens) s₁) :
 WalkO q loose XP YP l.row.toRowW d [] (fun f vs=>PySem.call f vs):=by
 intro w s₀ s₁ mg mb G Y fa o pm cd doc dV kV ho hd F O J hg args vals as j U Dv L Dw
 obtain rfl:dV = .none:=Dflts.none O B
 obtain rfl:kV = .none:=Dflts.noKw O
 obtain ⟨a,vs,ns,rfl,rfl,z,hints,hlen⟩:=si Z j L
 refine enter_call (codeAny_mono (call w s₀ s₁ mg mb fa o pm cd doc a vs ns G Y ho (fd_plain hd) F J z hints hlen hg) fun r s' hq => ?_)
 obtain ⟨rfl,h2,h3,h4⟩:=hq
 exact ⟨.inl ⟨.bool true, .bool true,[],rfl,fun _=>rfl, .bool true,sj l _,fun _=>⟨List.Pairwise.nil,fun _ hm=>(nomatch hm)⟩⟩,h2,h3,h4⟩
section
variable {prog:Program} {w:World} {A:Around} {E:Value->Shared->Prop} {s:Shared} {K:Frag}
noncomputable def Du (h:Heap) (L d:Addr):List (Addr×Obj):=(List.range h.objs.size).filterMap fun a=>if a=L∨a=d then none else (h.get? a).map fun o=>(a,o)
end
end Att
namespace L2
open PySem PySem.Spec PyProof.Rows
section
theorem kc:∀ {vs:List Value} {ns:List Int},IntsAre vs ns->Vals (ns.map V.int) vs
 | _,_, .nil => .nil
 | _,_, .cons n t h => .cons ⟨t,rfl⟩ (kc h)
noncomputable def qp (H:Hp):Prop := ∀ b,H b=none ∨ ∃ o xs,H b=some (.frz o (.lst xs))
theorem vw {P:Program} {w:World} {K:Frag} {mg mb:Str->Option Value} {CX:CXT} {k:Nat} {fa a:Addr} {fd:FuncData} {x:Str} {sp:Sp} {s₁:Shared} {vs:List Value} {ns:List Int}
 (KX:K.In s₁.heap) (G:s₁.heap.Ns mainGlobals mg) (j:s₁.heap.Ns builtinsNs mb) (Y:∀ x:Str,x ≠ "__name__" -> mb x=bootBuiltins x) (J:s₁.heap.NoLimit) (hg:s₁.gens = #[])
 (U:s₁.heap.get? a=some { cls := .type "list",data := .seq vs.toArray }) (hi:IntsAre vs ns) (hl:ns.length<=sizeLine) (hr:Room k callerA)
 (F:∀ base:Heap,K.In base->base.Ns mainGlobals mg->dm P w K mg base CX k fa fd [x] sp) (B:∀ (s:Shared) (u:Value),BindsTo s fd ⟨[u],[]⟩ [(x,u)])
 (Z:∀ H:Hp,qp H->SqL K H a (ns.map V.int)->sp [.ref a] H (fun v _=>v = .bl true) fun _ _ _=>False)
 (Dv:∀ H e s',CX [] H s₁ (fun _ _ _=>False) e s'->False) :
 codeAny (model P w) callerA (.call (.ref fa) ⟨[.ref a],[]⟩) (fun r s'=>r = .ok (.ret (.bool true))/\OldK s₁.heap s'.heap/\s'.os=s₁.os/\AllBare s'.gens) s₁ := by
 have rv:=kc hi
 have lenV:=hi.length
 have core:∀ H:Hp,qp H->SqL K H a (ns.map V.int)->HOk P w H s₁.heap->(∀ b,H b≠none->b=a)->(H a≠none->K.lookup a=none) ->
  codeAny (model P w) callerA (.call (.ref fa) ⟨[.ref a],[]⟩) (fun r s'=>r = .ok (.ret (.bool true))/\OldK s₁.heap s'.heap/\s'.os=s₁.os/\AllBare s'.gens) s₁ := by
  intro H hO hS hok hA hK
  have base_of:∀ {b:Addr} {o:Obj},s₁.heap.get? b=some o->H b=none->(eG s₁.heap H).get? b=some o:=fun e n=>uS e n
  have noA:∀ {b:Addr} {o:Obj} {es:Array DictEntry} {ep:Nat},s₁.heap.get? b=some o->o.data = .dict es ep->H b=none:=fun {b o es ep} e d=>by
   cases q:H b with
   | none=>rfl
   | some u =>
     have e':b=a:=hA b (by rw [q];simp)
     subst e'
     rw [U] at e;cases e
     have d':Data.seq vs.toArray _=Data.dict es ep:=d
     cases d'
  have nsK:∀ {b:Addr} {m:Str->Option Value},s₁.heap.Ns b m->(eG s₁.heap H).Ns b m:=fun {b m} ⟨o,es,ep,e,d,r⟩=>⟨o,es,ep,base_of e (noA e d),d,r⟩
  have L:K.In (eG s₁.heap H):=fun b o e=>base_of (KX b o e) (by
   cases q:H b with
   | none=>rfl
   | some u =>
     have e':b=a:=hA b (by rw [q];simp)
     subst e'
     rw [hK (by rw [q];simp)] at e;cases e)
  have hM:Mod K mg (eG s₁.heap H):=⟨L,nsK G,⟨mb,nsK j,Y⟩,let ⟨mc,h1,h2⟩:=J; ⟨mc,nsK h1,h2⟩⟩
  have e0:qh P w K mg (eG s₁.heap H) callerA [] s₁ H:=⟨rfl,hM,fun b o e=>yj e,Nat.le_of_eq (rM _ _),trivial,fun b j=>absurd (show b∈([]:List Addr) from j) (by simp),hok, .of_eq hg⟩
  refine codeAny_mono ((F _ L (nsK G)).run callerA [] s₁ H ⟨[.ref a],[]⟩ [.ref a] [.ref a] _ _ hr e0 (B s₁ (.ref a)) (.cons rfl .nil) (Z H hO hS)) fun r s' h => ?_
  cases r with
  | error e=>exact (Dv H e s' h).elim
  | ok fl =>
    cases fl with
    | next=>exact False.elim h
    | brk=>exact False.elim h
    | cont=>exact False.elim h
    | ret u =>
      obtain ⟨v,H',os,bare,un,O,r',q⟩:=h
      have q':v = .bl true:=q
      subst q'
      obtain rfl:u=Value.bool true:=r'
      refine ⟨rfl,OldK.of_keep fun b o e => ?_,os,bare⟩
      cases q:H b with
      | none=>exact un.keep b o e q (by intro z;exact absurd (show b∈([]:List Addr) from z) (by simp)) (by simp)
      | some u =>
        rcases hO b with z | ⟨ob,xs,z⟩
        ·rw [q] at z;cases z
        ·have z2:=un.frzs b ob _ z
         obtain ⟨e1,_⟩:=hok b _ z
         obtain ⟨e2,_⟩:=O b _ z2
         rw [e] at e1;cases e1
         exact e2
 cases hk:K.lookup a with
 | some o =>
   have e:=KX a o hk
   rw [U] at e
   cases e
   refine core (fun _=>none) (fun _ => .inl rfl) (.inr ⟨_,vs.toArray,_,hk,rfl,rfl,rfl,by rw [List.size_toArray,lenV];exact hl,by simpa using rv⟩) (fun b u z=>by have z':(none:Option HO)=some u:=z;cases z') (fun b z=>absurd rfl z) fun z=>absurd rfl z
 | none =>
   refine core (fun b=>if b=a then some (.frz { cls := .type "list",data := .seq vs.toArray } (.lst (ns.map V.int))) else none) (fun b => ?_) (.inl (.inr ⟨{ cls := .type "list",data := .seq vs.toArray },if_pos rfl⟩)) (fun b u z => ?_) (fun b z => ?_) fun _=>hk
   ·by_cases j:b=a
    ·exact .inr ⟨_,_,if_pos j⟩
    ·exact .inl (if_neg j)
   ·by_cases j:b=a
    ·have z':=(if_pos j).symm.trans z
     cases z'
     subst j
     exact ⟨U,by rw [List.length_map];exact hl,vs,_,rv,U⟩
    ·have z':=(if_neg j).symm.trans z
     cases z'
   ·by_cases j:b=a
    ·exact j
    ·exact absurd (if_neg j) z
end
section
theorem walk_of {l:PySem.W.OpenLaw} {n k:Nat} {q:Program} {loose:List Str} {XP:(Str->Option Value)->Heap->Prop} {YP:World->Heap->Prop} {d:DefRec} {K:Params->Frag} {CX:World->CXT} {sp:World->Sp} {x:Str}
 (U:l.most=some n) (z:n<=sizeLine) (B:d.params.defaults=[]) (Z:Room k callerA)
 (hY:∀ (w:World) (h:Heap),YP w h->(K w.params).In h)
 (F:∀ (w:World) (mg:Str->Option Value) (fa:Addr) (h:Heap),(K w.params).In h->h.Ns mainGlobals mg->mg d.name=some (.ref fa) ->
   ∃ fd:FuncData,(∀ (s:Shared) (u:Value),BindsTo s fd ⟨[u],[]⟩ [(x,u)]) /\
    ∀ base:Heap,(K w.params).In base->base.Ns mainGlobals mg->dm l.prog w (K w.params) mg base (CX w) k fa fd [x] (sp w))
 (J:∀ (w:World) (H:Hp) (a:Addr) (ns:List Int),ns.length<=n->qp H->SqL (K w.params) H a (ns.map V.int)->sp w [.ref a] H (fun v _=>v = .bl true) fun _ _ _=>False)
 (L:∀ (w:World) (H:Hp) (s:Shared) (e:Value) (s':Shared),CX w [] H s (fun _ _ _=>False) e s'->False) :
 PySem.W.WalkO q loose XP YP l.row.toRowW d [] (fun f vs=>PySem.call f vs):=by
 refine Att.attach_call U B fun w s₀ s₁ mg mb fa o pm cd doc a vs ns G Y ho hd Dv O j hints hlen hg => ?_
 have KX:=hY w _ Y
 obtain ⟨fd,hb,hF⟩:=F w mg fa _ KX G.T.g O
 exact vw KX G.T.g G.T.b G.T.builtins G.T.nolimit hg j hints (Nat.le_trans hlen z) Z hF hb (fun H hO hS=>J w H a ns hlen hO hS) fun H e s'=>L w H s₁ e s'
end
section
noncomputable def cY (s:Stmt):Arguments:=match s with
 | .FunctionDef _ a _ _ _ _ _ _ _ _=>a
 | _ => { posonlyargs := [],args := [],vararg:=none,kwonlyargs := [],kw_defaults := [],kwarg:=none,defaults := [] }
noncomputable def bF (s:Stmt):List Stmt:=match s with
 | .FunctionDef _ _ b _ _ _ _ _ _ _=>b
 | _ => []
noncomputable def av (s:Stmt):Scope:=match s with
 | .FunctionDef _ _ _ _ _ _ sc _ _ _=>sc
 | _ => { kind := .function,names := [],isGenerator:=false,isCoroutine:=false }
noncomputable abbrev CX0:CXT:=fun _ _ _ _ _ _=>False
noncomputable abbrev E0:XK:=fun _ _ _=>False
theorem xM {X:Cx}:ir CX0 X E0:=fun _ _ _ _ _ _ _ h=>h.elim
structure Fun (K:Frag) (x qual:Str) (st:Stmt) (f:Addr) (fd:FuncData):Prop where
 ex:∃ (oc:Value) (od:Option Addr) (kV doc pm:Value) (an:Option Addr) (cdv ct:Value) (osl:Array (Option Value)),
  fd=PySem.W.fnOf x qual (cY st) (bF st) (av st) .none kV doc pm an cdv ct/\K.lookup f=some ⟨oc,od, .func fd,osl⟩/\PySem.W.codeIn K cdv qual=true
 kp:PySem.W.keepIn K (.ref f)=true
section
variable {P:Program} {w:World} {K:Frag} {mg:Str->Option Value} {base:Heap}
theorem Fun.ok {x qual:Str} {st:Stmt} {f:Addr} {fd:FuncData} {N ps:List Str} {k:Nat} {sp:Sp} (F:Fun K x qual st f fd) (S:fS N ps (av st)) (len:∀ vs H Q E,sp vs H Q E->vs.length=ps.length)
 (j:∀ (cdv:Value) (A:Around) (outer:List Env) (s:Shared) (H:Hp) (vs:List V) (Q:VK) (E:XK),Room k (A.deeper (envOfC qual (av st) s.heap.objs.size f cdv))->sp vs H Q E ->
   ∃ t,PSs (gP CX0 P w K mg base N qual (av st) f cdv A outer s H E).nox (bF st) t/\t { nx:=fun _ H'=>Q .non H',rt:=Q } (cC N vs) H):dm P w K mg base CX0 (k+1) f fd ps sp:=by
 obtain ⟨oc,od,kV,doc,pm,an,cdv,ct,osl,rfl,lk,z⟩:=F.ex
 refine Cj lk z S len fun A outer s H vs Q E G B => ?_
 obtain ⟨t,h,q⟩:=j cdv A outer s H vs Q E G B
 exact ⟨t,h.nox,q⟩
theorem Fun.binds {x qual:Str} {st:Stmt} {f:Addr} {fd:FuncData} {ps:List Str} (F:Fun K x qual st f fd)
 (h:∀ (kV doc pm:Value) (an:Option Addr) (cdv ct:Value) (us:List Value),us.length=ps.length->bindArgs (PySem.W.fnOf x qual (cY st) (bF st) (av st) .none kV doc pm an cdv ct) ⟨us,[]⟩=pure (ps.zip us)):Binds K fd ps []:=by
 obtain ⟨oc,od,kV,doc,pm,an,cdv,ct,osl,rfl,lk,j⟩:=F.ex
 exact .all (h kV doc pm an cdv ct)
theorem ah {x qual:Str} {st:Stmt} {f:Addr} {oc:Value} {od an:Option Addr} {osl:Array (Option Value)} {kV doc pm cdv ct:Value} (l:K.lookup f=some ⟨oc,od, .func (PySem.W.fnOf x qual (cY st) (bF st) (av st) .none kV doc pm an cdv ct),osl⟩)
 (c:PySem.W.codeIn K cdv qual=true) (k:PySem.W.keepIn K (.ref f)=true):Fun K x qual st f (PySem.W.fnOf x qual (cY st) (bF st) (av st) .none kV doc pm an cdv ct):=⟨⟨oc,od,kV,doc,pm,an,cdv,ct,osl,rfl,l,c⟩,k⟩
end
end
end L2
namespace HT
open PySem PySem.Spec PyProof.Rows
section
variable {prog:Program} {w:World} {A:Around} {E:Value->Shared->Prop} {s:Shared}
theorem getItem_tuple_whole {t sl:Addr} {items:Array Value} {vl vu:Value} {lo hi:Option Int} {Q:Value->Shared->Prop} (j:IsTup s.heap t items) (hs:s.heap.IsSliceOf sl vl vu .none) (pl:IsPart vl lo) (pu:IsPart vu hi)
 (hw:sIx items.size 0 lo=0/\sIx items.size items.size hi=items.size) (h:Q (.ref t) s):wpAny (model prog w) A (getItem (.ref t) (.ref sl)) Q E s:=by
 obtain ⟨os,q,z,G⟩:=id hs
 have B:s.TypeIs (.ref sl) "slice" := ⟨os,q,z⟩
 unfold getItem
 try with_reducible refine wpAny_holding ?_
 first | refine wpAny_bind (wpAny_pure ?_) | skip
 refine wpAny_bind (wpAny_sequenceKey j.typeIs (by decide) ?_)
 refine wpAny_bind (wpAny_callSpecial?_slot (name:=Str.ofString "__getitem__") j.typeIs PyProof.Rows.slot_tuple_getitem
  (wpAny_call_entry PyProof.Rows.slot_tuple_getitem j.typeIs entry_tuple_getitem ?_ (args_tuple_getitem _ _)))
 show wpAny _ _ (Builtin.Tuple.tupleItemsOf (.ref t) >>= _) _ _ s
 refine wpAny_bind (tupleItemsOf_ j ?_)
 refine wpAny_bind (wpAny_typeOf B ?_)
 rw [if_pos (by decide)]
 refine wpAny_bind (dq hs pl pu ?_)
 have F:(((sIx items.size 0 lo:Nat):Int)==0&&(1:Int)==1&&(sIx items.size items.size hi - sIx items.size 0 lo)==items.size)=true:=by
  rw [hw.1,hw.2];simp
 show wpAny _ _ (if (((sIx items.size 0 lo:Nat):Int)==0&&(1:Int)==1&&(sIx items.size items.size hi - sIx items.size 0 lo)==items.size)=true then _ else _) _ _ s
 rw [if_pos F]
 refine wpAny_bind (m:=Builtin.Tuple.tupleIsExact (.ref t)) ?_
 unfold Builtin.Tuple.tupleIsExact
 refine wpAny_bind (wpAny_typeOf j.typeIs (wpAny_pure ?_))
 show wpAny _ _ (if true=true then _ else _) _ _ s
 rw [if_pos rfl]
 exact wpAny_bind (wpAny_rule (wpAny_pure ⟨_,rfl,wpAny_pure h⟩))
end
end HT
namespace L2
open PySem PySem.Spec PyProof.Rows
section
section
variable {X:Cx}
noncomputable def Dj (K:Frag):V->Option Int->Option Int->Hp->VK->Prop:=fun x lo hi H Q => ∃ a xs,x = .ref a/\SqT K H a xs/\(HT.sIx xs.length 0 lo=0/\HT.sIx xs.length xs.length hi=xs.length)/\Q x H
theorem vx:SlR X (Dj X.K):=by
 intro pins s σ H x v vl vu lo hi sl Q I rx hs pl pu h
 obtain ⟨a,xs,rfl,hx,hw,q⟩:=h
 cases rx
 obtain ⟨its,r,j,z⟩:=I.tuple hx
 have hlen:=r.length
 refine ⟨"tuple",_,slot_tuple_getitem.lookup,j.typeIs, ?_⟩
 refine HT.getItem_tuple_whole j hs pl pu (by rw [List.size_toArray, <- hlen];exact hw) ⟨.ref a,H,I,rfl,q⟩
end
end
section
section
variable {κ:Type} [DecidableEq κ]
noncomputable def bw (kvs:List (κ × V)) (k : κ):Option V:=(kvs.find? fun kv=>decide (kv.1=k)).map (·.2)
noncomputable def bJ (kvs:List (κ × V)) (k : κ) (v:V):List (κ × V) :=
 if (kvs.any fun kv=>decide (kv.1=k))=true then kvs.map (fun kv=>if kv.1=k then (kv.1,v) else kv) else kvs++[(k,v)]
theorem eI {p : κ × V} {r:List (κ × V)} {k : κ} (e:p.1=k):bw (p::r) k=some p.2:=by simp [bw,List.find?_cons,e]
theorem eJ {p : κ × V} {r:List (κ × V)} {k : κ} (e : ¬ p.1=k):bw (p::r) k=bw r k:=by simp [bw,List.find?_cons,e]
theorem lQ (k : κ):∀ kvs:List (κ × V),(kvs.any fun kv=>decide (kv.1=k))=(bw kvs k).isSome
 | [] => rfl
 | p::r=>by
   rw [List.any_cons]
   by_cases e:p.1=k
   ·simp only [eI e,decide_eq_true e,Bool.true_or,Option.isSome_some]
   ·rw [eJ e,decide_eq_false e,Bool.false_or];exact lQ k r
theorem gG (kvs:List (κ × V)) (k : κ) (v:V):(bJ kvs k v).length<=kvs.length+1:=by
 unfold bJ
 split
 ·rw [List.length_map];omega
 ·rw [List.length_append,List.length_cons,List.length_nil];omega
theorem RelO.isSome_eq {o:Option V} {u:Option Value} (r:RelO o u):o.isSome=u.isSome:=by
 cases o with
 | none=>cases u with
   | none=>rfl
   | some _=>exact (show False from r).elim
 | some _=>cases u with
   | none=>exact (show False from r).elim
   | some _=>rfl
theorem RelO.getD {o:Option V} {u:Option Value} {d:V} {d':Value} (r:RelO o u) (rd:RelV d d'):RelV (o.getD d) (u.getD d'):=by
 cases o with
 | none=>cases u with
   | none=>exact rd
   | some _=>exact (show False from r).elim
 | some _=>cases u with
   | none=>exact (show False from r).elim
   | some _=>exact r
theorem KV.val {kvs:List (κ × V)} {vs:List (κ × Value)} (r:KV kvs vs) (k : κ):RelO (bw kvs k) (valueAt vs k):=by
 unfold KV at r
 induction r with
 | nil=>exact True.intro
 | @cons p q ps qs h t ih =>
  obtain ⟨h1,h2⟩:=h
  by_cases e:p.1=k
  ·have e':q.1=k:=h1.symm.trans e
   have b:valueAt (q::qs) k=some q.2:=by simp [valueAt,List.find?_cons,e']
   rw [eI e,b];exact h2
  ·have e' : ¬ q.1=k:=fun z=>e (h1.trans z)
   have b:valueAt (q::qs) k=valueAt qs k:=by simp [valueAt,List.find?_cons,e']
   rw [eJ e,b];exact ih
theorem KV.any {kvs:List (κ × V)} {vs:List (κ × Value)} (r:KV kvs vs) (k : κ):(kvs.any fun kv=>decide (kv.1=k))=vs.any fun kv=>decide (kv.1=k):=by
 unfold KV at r
 induction r with
 | nil=>rfl
 | cons h t ih=>rw [List.any_cons,List.any_cons,ih,h.1]
theorem KV.repl {kvs:List (κ × V)} {vs:List (κ × Value)} (r:KV kvs vs) (k : κ) {y:V} {u:Value} (ry:RelV y u) :
 KV (kvs.map fun kv=>if kv.1=k then (kv.1,y) else kv) (vs.map fun kv=>if kv.1=k then (kv.1,u) else kv):=by
 unfold KV at r ⊢
 induction r with
 | nil=>exact .nil
 | @cons p q ps qs h t ih =>
  rw [List.map_cons,List.map_cons]
  refine .cons ?_ ih
  obtain ⟨h1,h2⟩:=h
  by_cases e:p.1=k
  ·rw [if_pos e,if_pos (h1.symm.trans e)];exact ⟨h1,ry⟩
  ·rw [if_neg e,if_neg (fun z=>e (h1.trans z))];exact ⟨h1,h2⟩
theorem KV.put {kvs:List (κ × V)} {vs:List (κ × Value)} (r:KV kvs vs) (k : κ) {y:V} {u:Value} (ry:RelV y u):KV (bJ kvs k y) (stored vs k u):=by
 unfold bJ stored
 rw [r.any k]
 by_cases e:(vs.any fun kv=>decide (kv.1=k))=true
 ·rw [if_pos e,if_pos e];exact r.repl k ry
 ·rw [if_neg e,if_neg e];exact Paired.snoc r ⟨rfl,ry⟩
theorem KV.length {kvs:List (κ × V)} {vs:List (κ × Value)} (r:KV kvs vs):kvs.length=vs.length:=Paired.length r
end
theorem iy {P:Program} {w:World} {k:Key} {u:Value} (r:RelV (kV k) u):(aI P w).is k u=true:=by
 cases k with
 | inl i=>obtain ⟨t,e⟩:=(show ∃ t,u=Value.int i t from r);subst e;exact on P w i t
 | inr x=>obtain ⟨t,e⟩:=(show ∃ t,u=Value.str x t from r);subst e;exact oo P w x t
theorem ke {P:Program} {w:World}:∀ {ks:List Key} {us:List Value},Vals (ks.map kV) us->ItemsAre (aI P w) ks us
 | [],_,r=>by rw [List.map_nil] at r;cases r;exact .nil
 | k::ks,_,r=>by
   rw [List.map_cons] at r
   cases r with
   | cons h t=>exact .cons (iy h) (ke t)
noncomputable abbrev KT (H:Hp):List (List Key×V)->List (List Key×Addr×Value)->Prop:=Paired fun p q=>p.1=q.1/\H q.2.1=some (.tup (p.1.map kV))/\RelV p.2 q.2.2
theorem KT.val {H:Hp} {kvs:List (List Key×V)} {xs:List (List Key×Addr×Value)} (r:KT H kvs xs) (k:List Key):RelO (bw kvs k) ((atKey xs k).map (·.2)):=by
 induction r with
 | nil=>exact True.intro
 | @cons p q ps qs h t ih =>
  obtain ⟨h1,_,h2⟩:=h
  by_cases e:p.1=k
  ·have e':q.1=k:=h1.symm.trans e
   have b:atKey (q::qs) k=some q.2:=by simp [atKey,List.find?_cons,e']
   rw [eI e,b];exact h2
  ·have e' : ¬ q.1=k:=fun z=>e (h1.trans z)
   have b:atKey (q::qs) k=atKey qs k:=by simp [atKey,List.find?_cons,e']
   rw [eJ e,b];exact ih
theorem KT.repl {H:Hp} {kvs:List (List Key×V)} {xs:List (List Key×Addr×Value)} (r:KT H kvs xs) (k:List Key) {y:V} {u:Value} (ry:RelV y u) :
 KT H (kvs.map fun kv=>if kv.1=k then (kv.1,y) else kv) (xs.map (putAt k u)):=by
 induction r with
 | nil=>exact .nil
 | @cons p q ps qs h t ih =>
  rw [List.map_cons,List.map_cons]
  refine .cons ?_ ih
  obtain ⟨h1,h2,j⟩:=h
  unfold putAt
  by_cases e:p.1=k
  ·rw [if_pos e,if_pos (h1.symm.trans e)];exact ⟨h1,h2,ry⟩
  ·rw [if_neg e,if_neg (fun z=>e (h1.trans z))];exact ⟨h1,h2,j⟩
theorem KT.put {H:Hp} {kvs:List (List Key×V)} {xs:List (List Key×Addr×Value)} (r:KT H kvs xs) (k:List Key) {b:Addr} {y:V} {u:Value} (j:H b=some (.tup (k.map kV))) (ry:RelV y u) :
 KT H (bJ kvs k y) (storedH xs k b u):=by
 have e:(kvs.any fun kv=>decide (kv.1=k))=(atKey xs k).isSome:=by
  rw [lQ,(r.val k).isSome_eq,Option.isSome_map]
 unfold bJ storedH
 rw [e]
 by_cases q:(atKey xs k).isSome=true
 ·rw [if_pos q,if_pos q];exact r.repl k ry
 ·rw [if_neg q,if_neg q];exact Paired.snoc r ⟨rfl,j,ry⟩
theorem KT.keeps {H H':Hp} {kvs:List (List Key×V)} {xs:List (List Key×Addr×Value)} (r:KT H kvs xs) (j:∀ b ys,H b=some (.tup ys)->H' b=some (.tup ys)):KT H' kvs xs :=
 Paired.mapP r fun _ _ z=>⟨z.1,j _ _ z.2.1,z.2.2⟩
section
variable {P:Program} {w:World} {H:Hp} {h:Heap} {a:Addr}
theorem xN {u:HO} (ok:HOk P w H h) (e:Rd H a u):ObjOk P w H h a u:=e.ok ok
theorem iz {kvs:List (Key×V)} (ok:HOk P w H h) (e:Rd H a (.dK kvs)):kvs.length<=sizeLine/\(a==sysModules)=false /\ ∃ vs,KV kvs vs/\h.DictOf (aI P w) a vs :=
 show ObjOk P w H h a (.dK kvs) from xN ok e
theorem Co {kvs:List (Key×V)} (ok:HOk P w H h) (e:H a=some (.dK kvs)):kvs.length<=sizeLine/\(a==sysModules)=false /\ ∃ vs,KV kvs vs/\h.DictOf (aI P w) a vs:=iz ok (.inl e)
theorem fi {ks:List Key} (ok:HOk P w H h) (e:H a=some (.tup (ks.map kV))):(tupleKind (aI P w)).is h ks a:=by
 obtain ⟨_,its,r,o,h1,h2,n,j⟩:=(show ObjOk P w H h a (.tup (ks.map kV)) from ok a _ e)
 exact ⟨o,its.toArray,n,h1,h2,j,by simpa using ke r⟩
theorem iA {kvs:List (List Key×V)} (ok:HOk P w H h) (e:Rd H a (.dT kvs)):kvs.length<=sizeLine/\(a==sysModules)=false /\
 ∃ xs,KT H kvs xs/\h.DictOfH (tupleKind (aI P w)) a xs:=by
 obtain ⟨z,y,xs,r,o,es,ep,h1,h2,j,B,F⟩:=(show ObjOk P w H h a (.dT kvs) from xN ok e)
 refine ⟨z,y,xs,r,o,es,ep,h1,h2,j,B,fun x hx => ?_,F⟩
 have all:∀ {l:List (List Key×V)} {m:List (List Key×Addr×Value)},KT H l m -> ∀ x∈m,(tupleKind (aI P w)).is h x.1 x.2.1:=by
  intro l m q
  induction q with
  | nil=>intro x hx;exact nomatch hx
  | @cons p q ps qs hq t ih =>
   intro x hx
   rcases List.mem_cons.mp hx with e | hx
   ·subst e
    exact fi ok (by rw [<- hq.1];exact hq.2.1)
   ·exact ih x hx
 exact all r x hx
theorem Cp {kvs:List (List Key×V)} (ok:HOk P w H h) (e:H a=some (.dT kvs)):kvs.length<=sizeLine/\(a==sysModules)=false /\
 ∃ xs,KT H kvs xs/\h.DictOfH (tupleKind (aI P w)) a xs:=iA ok (.inl e)
end
noncomputable def DGet (H:Hp) (a:Addr) (y:V) (r:Option V):Prop :=
 (∃ kvs k,Rd H a (.dK kvs)/\y=kV k/\r=bw kvs k) ∨ ∃ kvs k b,Rd H a (.dT kvs)/\y = .ref b/\H b=some (.tup (k.map kV))/\r=bw kvs k
noncomputable def DPut (H:Hp) (a:Addr) (y v:V) (H':Hp):Prop :=
 (∃ kvs k,H a=some (.dK kvs)/\y=kV k/\kvs.length < sizeLine/\H'=upd H a (.dK (bJ kvs k v))) ∨
 ∃ kvs k b,H a=some (.dT kvs)/\y = .ref b/\H b=some (.tup (k.map kV))/\kvs.length < sizeLine/\H'=upd H a (.dT (bJ kvs k v))
theorem DGet.k {H:Hp} {a:Addr} {kvs:List (Key×V)} {k:Key} (e:H a=some (.dK kvs)):DGet H a (kV k) (bw kvs k) := .inl ⟨kvs,k, .inl e,rfl,rfl⟩
theorem DPut.k {H:Hp} {a:Addr} {kvs:List (Key×V)} {k:Key} {v:V} (e:H a=some (.dK kvs)) (j:kvs.length < sizeLine):DPut H a (kV k) v (upd H a (.dK (bJ kvs k v))) := .inl ⟨kvs,k,e,rfl,j,rfl⟩
theorem DPut.t {H:Hp} {a b:Addr} {kvs:List (List Key×V)} {k:List Key} {v:V} (e:H a=some (.dT kvs)) (eb:H b=some (.tup (k.map kV))) (j:kvs.length < sizeLine) :
 DPut H a (.ref b) v (upd H a (.dT (bJ kvs k v))) := .inr ⟨kvs,k,b,e,rfl,eb,j,rfl⟩
section
variable {X:Cx} {pins:List (Addr×Obj)} {σ:St} {H:Hp} {s:Shared} {a:Addr} {y v:V} {u r:Value} {o:Option V} {A:Around} {E:Value->Shared->Prop}
theorem Inv.big (I:Inv X pins σ H s):sysModules < s.heap.objs.size:=by
 have h:mainGlobals < s.heap.objs.size:=(I.mod.glob.keeps I.bk).lt
 exact Nat.lt_trans (by decide) h
theorem so {Q:Value->Shared->Prop} (q:A.units+1 < cLine) (I:Inv X pins σ H s) (g:DGet H a y (some v)) (ry:RelV y u) (h:∀ w' s',Inv X pins σ H s'->RelV v w'->Q w' s') :
 wpAny (model X.prog X.w) A (getItem (.ref a) u) Q E s:=by
 rcases g with ⟨kvs,k,e,ey,l⟩ | ⟨kvs,k,b,e,ey,eb,l⟩
 ·subst ey
  obtain ⟨z,hd,vs,rel,dd⟩:=iz I.hok e
  obtain ⟨w',hw,rw'⟩:=RelO.some_of (v:=v) (o:=valueAt vs k) (by rw [l];exact rel.val k)
  exact wpAny_getItem_of (iy ry) dd.mapOf hw (h w' _ (I.tok _) rw')
 ·subst ey
  cases (show u=Value.ref b from ry)
  obtain ⟨z,hd,xs,rel,dd⟩:=iA I.hok e
  obtain ⟨w',hw,rw'⟩:=RelO.some_of (v:=v) (o:=(atKey xs k).map (·.2)) (by rw [l];exact rel.val k)
  obtain ⟨p,B,j⟩:=Option.map_eq_some_iff.mp hw
  refine wpAny_getItem_heap (tupleKind_room_in1 q) (fi I.hok eb) dd B ?_
  rw [j]
  exact h w' _ (I.tok _) rw'
theorem yG {Q:Value->Shared->Prop} (j:A.units+1 < cLine) (I:Inv X pins σ H s) (g:DGet H a y o) (ry:RelV y u) (h:∀ s',Inv X pins σ H s'->Q (.bool (!o.isSome)) s') :
 wpAny (model X.prog X.w) A (compareOp .NotIn u (.ref a)) Q E s:=by
 rcases g with ⟨kvs,k,e,ey,l⟩ | ⟨kvs,k,b,e,ey,eb,l⟩
 ·subst ey
  obtain ⟨z,hd,vs,rel,dd⟩:=iz I.hok e
  refine wpAny_notIn_of (iy ry) hd dd.mapOf ?_
  rw [<- (rel.val k).isSome_eq, <- l]
  exact h _ (I.tok _)
 ·subst ey
  cases (show u=Value.ref b from ry)
  obtain ⟨z,hd,xs,rel,dd⟩:=iA I.hok e
  refine wpAny_notIn_heap (tupleKind_room_in1 j) (fi I.hok eb) hd dd ?_
  have q:=(rel.val k).isSome_eq
  rw [Option.isSome_map] at q
  rw [<- q, <- l]
  exact h _ (I.tok _)
theorem oO {h':Heap} {t':Nat} {ob:HO} (I:Inv X pins σ H s) (mu:Mut (H a)) (hs:Heap.SameBut a s.heap h') (he:∃ q,h'.get? a=some q) (new:ObjOk X.prog X.w (upd H a ob) h' a ob) :
 Inv X pins σ (upd H a ob) { s with heap:=h',toks:=t' } :=
 I.write (x:=a) (e:=a) mu (.inl rfl) (fun b q j z=>(hs.2 b j).trans z) he new
theorem AQ {P:Program} {w:World} {H':Hp} {h':Heap} {kvs:List (Key×V)} {vs:List (Key×Value)} (z:kvs.length<=sizeLine) (hd:(a==sysModules)=false) (rel:KV kvs vs) (dd:h'.DictOf (aI P w) a vs) :
 ObjOk P w H' h' a (.dK kvs):=⟨z,hd,vs,rel,dd⟩
theorem su {H':Hp} {Q:Unit->Shared->Prop} (G:A.units+1 < cLine) (I:Inv X pins σ H s) (g:DPut H a y v H') (ry:RelV y u) (rv:RelV v r) (h:∀ s',Inv X pins σ H' s'->Q () s') :
 wpAny (model X.prog X.w) A (setItem (.ref a) u r) Q E s:=by
 rcases g with ⟨kvs,k,e,ey,l,eH⟩ | ⟨kvs,k,b,e,ey,eb,l,eH⟩
 ·subst ey eH
  obtain ⟨z,hd,vs,rel,dd⟩:=Co I.hok e
  have B:vs.length<=sizeLine:=by rw [<- rel.length];exact z
  have F:(bJ kvs k v).length<=sizeLine:=by have:=gG kvs k v;omega
  refine wpAny_setItem_pairs (hsz:=B) (iy ry) dd fun h' dd' hs=>h _ ?_
  have he:∃ q,h'.get? a=some q:=let ⟨q,_,_,j,_⟩:=dd'; ⟨q,j⟩
  exact oO I (by rw [e];exact True.intro) hs he (AQ F hd (rel.put k rv) dd')
 ·subst ey eH
  cases (show u=Value.ref b from ry)
  obtain ⟨z,hd,xs,rel,dd⟩:=Cp I.hok e
  have B:xs.length<=sizeLine:=by rw [<- Paired.length rel];exact z
  have F:(bJ kvs k v).length<=sizeLine:=by have:=gG kvs k v;omega
  refine wpAny_setItem_heap (hsz:=B) (tupleKind_room_in1 G) (fi I.hok eb) dd fun h' dd' hs=>h _ ?_
  obtain ⟨q,es,ep,j,h2,J,L,_,O⟩:=dd'
  refine oO I (by rw [e];exact True.intro) hs ⟨q,j⟩ ⟨F,hd,_,(rel.put k eb rv).keeps fun c ys ec => ?_,q,es,ep,j,h2,J,L,O⟩
  rw [aj (C3 ec e (fun z=>nomatch z))]
  exact ec
end
theorem vy {P:Program} {w:World} {H:Hp} (h:Heap) (j:sysModules < h.objs.size):ObjOk P w H (h.push { cls := .type "dict",data := .dict #[] }) h.objs.size (.dK []) :=
 ⟨Nat.zero_le _,beq_eq_false_iff_ne.mpr (Ne.symm (Nat.ne_of_lt j)),[], .nil,Heap.DictOf.new h⟩
theorem vz {P:Program} {w:World} {H:Hp} (h:Heap) (j:sysModules < h.objs.size):ObjOk P w H (h.push { cls := .type "dict",data := .dict #[] }) h.objs.size (.dT []) :=
 ⟨Nat.zero_le _,beq_eq_false_iff_ne.mpr (Ne.symm (Nat.ne_of_lt j)),[], .nil,_, #[],0,Heap.get?_push_size _ rfl,⟨rfl,rfl,rfl⟩,rfl,rfl,List.nodup_nil⟩
noncomputable def AR:TE:=fun _ H Q => ∀ p,H p=none->Q (.ref p) (upd H p (.dK []))
noncomputable def AS:TE:=fun _ H Q => ∀ p,H p=none->Q (.ref p) (upd H p (.dT []))
section
variable {X:Cx} {pos:Pos}
theorem vA:PE X (.Dict [] [] pos) AR:=fun pins s σ H Q I h =>
 wpAny_Dict_empty ⟨.ref s.heap.objs.size,_,I.laid (a:=s.heap.objs.size) (o := .dK []) (t':=s.toks) (fun _ _ q=>Heap.get?_push_of_some _ q) (Nat.le_refl _) (vy s.heap I.big),rfl,h _ (I.hok.fresh (Nat.le_refl _))⟩
theorem vB:PE X (.Dict [] [] pos) AS:=fun pins s σ H Q I h =>
 wpAny_Dict_empty ⟨.ref s.heap.objs.size,_,I.laid (a:=s.heap.objs.size) (o := .dT []) (t':=s.toks) (fun _ _ q=>Heap.get?_push_of_some _ q) (Nat.le_refl _) (vz s.heap I.big),rfl,h _ (I.hok.fresh (Nat.le_refl _))⟩
end
structure M2 (X:Cx) (o:Expr) (m:Str) (apos:Pos) (e f:Expr) (cpos:Pos):Prop where
 base:attributeBase o m X.env (eval o X.env)=eval o X.env
 few:((backTo cpos (starEach [e,f] X.env)).all (fun x => !x.1)&&(backToKw cpos (keywordEach [] X.env)).all (fun x=>x.1.isSome)
  && decide (([e,f]:List Expr).length+([]:List Keyword).length+(if ([]:List Keyword).isEmpty then 0 else 1) < 30))=true
 line:(apos.endLine==cpos.line)=true
 trees:backTo cpos (starEach [e,f] X.env)=[(false,eval e X.env),(false,eval f X.env)]
noncomputable def IsD (H:Hp) (a:Addr):Prop:=(∃ kvs,Rd H a (.dK kvs)) ∨ ∃ kvs,Rd H a (.dT kvs)
theorem iB {X:Cx} {pins:List (Addr×Obj)} {σ:St} {H:Hp} {s:Shared} {a:Addr} (I:Inv X pins σ H s) (d:IsD H a) :
 s.TypeIs (.ref a) "dict" /\ (∀ b,Value.ref a = .ref b -> ∃ ob,s.heap.get? b=some ob/\ob.dict=none)/\(a==sysModules)=false:=by
 rcases d with ⟨kvs,e⟩ | ⟨kvs,e⟩
 ·obtain ⟨_,hd,vs,_,dd⟩:=iz I.hok e
  refine ⟨dd.typeIs,fun b q => ?_,hd⟩
  cases q
  obtain ⟨ob,_,_,h1,h2,_⟩:=dd
  exact ⟨ob,h1,h2.2.1⟩
 ·obtain ⟨_,hd,xs,_,dd⟩:=iA I.hok e
  refine ⟨dd.typeIs,fun b q => ?_,hd⟩
  cases q
  obtain ⟨ob,_,_,h1,h2,_⟩:=dd
  exact ⟨ob,h1,h2.2.1⟩
section
variable {X:Cx} {pins:List (Addr×Obj)} {σ:St} {H:Hp} {s:Shared} {a:Addr} {y d:V} {u r:Value} {o:Option V} {A:Around} {E:Value->Shared->Prop}
theorem AT {Q:Value->Shared->Prop} (j:A.units+1 < cLine) (I:Inv X pins σ H s) (g:DGet H a y o) (ry:RelV y u) (rd:RelV d r) (h:∀ w' s',Inv X pins σ H s'->RelV (o.getD d) w'->Q w' s') :
 wpAny (model X.prog X.w) A (call (.builtin "dict.get") [.ref a,u,r]) Q E s:=by
 rcases g with ⟨kvs,k,e,ey,l⟩ | ⟨kvs,k,b,e,ey,eb,l⟩
 ·subst ey
  obtain ⟨z,hd,vs,rel,dd⟩:=iz I.hok e
  refine call_meetsIn PySem.F.slot_dict_get dd.typeIs PySem.F.entry_dict_get (PySem.F.args_dict_get_3 _ _ _) (meets_dict_get_default (aI X.prog X.w) a (iy ry) hd r) ⟨_,dd.mapOf,h _ _ (I.tok _) ?_⟩
  rw [l]
  exact (rel.val k).getD rd
 ·subst ey
  cases (show u=Value.ref b from ry)
  obtain ⟨z,hd,xs,rel,dd⟩:=iA I.hok e
  refine call_meetsIn PySem.F.slot_dict_get dd.typeIs PySem.F.entry_dict_get (PySem.F.args_dict_get_3 _ _ _) (meetsH_dict_get_default (tupleKind (aI X.prog X.w)) a b hd r) ⟨tupleKind_room_in1 j,k,xs,fi I.hok eb,dd,h _ _ (I.tok _) ?_⟩
  rw [l]
  exact (rel.val k).getD rd
end
noncomputable def AU (td ty tx:TE):TE:=fun σ H Q=>td σ H fun x H1 => ∃ a,x = .ref a/\IsD H1 a/\ty σ H1 fun y H2=>tx σ H2 fun z H3 => ∃ o,DGet H3 a y o/\Q (o.getD z) H3
section
variable {X:Cx} {o e f:Expr} {apos cpos:Pos} {td ty tx:TE}
theorem vC (q:X.A.units+1 < cLine) (ho:PE X o td) (he:PE X e ty) (hf:PE X f tx) (m:M2 X o "get" apos e f cpos):PE X (.Call (.Attribute o "get" apos) [e,f] [] cpos) (AU td ty tx):=by
 intro pins s σ H Q I h
 refine wpAny_Call_method m.base m.few m.line PySem.F.plainAttrs_dict PySem.F.slot_dict_get PySem.F.type_dict_get (thn (ho pins s σ H _ I h) fun u s1 ⟨x,H1,j,rx,a,ex,d,B⟩ => ?_)
 subst ex
 obtain rfl:u=Value.ref a:=rx
 obtain ⟨t1,G,_⟩:=iB j d
 refine ⟨t1,G, ?_⟩
 rw [m.trees]
 refine Calls.callWith_builtin rfl (Calls.evalArgs_plain (Calls.spliced_cons (thn (he pins s1 σ H1 _ j B) fun iv s2 ⟨y,H2,J,ry,L⟩ =>
  Calls.spliced_cons (thn (hf pins s2 σ H2 _ J L) fun fv s3 ⟨z,O,U,rz,ov,g,Y⟩=>Calls.spliced_nil ?_))))
 exact AT q U g ry rz fun w' s4 Z rw'=>⟨_,O,Z,rw',Y⟩
end
end
section
noncomputable def aU (elt:Expr) (gens:List Comprehension) (scope:Scope) (pos:Pos) (d:Nat) (acc:Value) (env:Env) (k:Sem Fin):Sem Fin :=
 match gens[d+1]? with
 | some g'=>eval g'.iter env >>= fun x=>standAt g'.iter.pos >>= fun _=>foldedSetIterable g'.iter env x >>= fun x=>holding [x] (pyIter x) >>= fun it' =>
    runOwn (.compStart (.ListComp elt gens scope pos) (d+1) it' acc env) env >>= fun _=>k
 | none=>(eval elt env >>= fun x=>call (.builtin "list.append") [acc,x] >>= fun _=>pure ()) >>= fun _=>k
noncomputable def b4 (ifs:List Expr) (env:Env):Sem Bool :=
 forIn ifs true fun c r=>if r=true then do let ok <- isTrue c env (eval c env);pure (ForInStep.yield ok) else pure (ForInStep.yield r)
theorem lU (elt target iter:Expr) (ifs:List Expr) (gens:List Comprehension) (scope:Scope) (pos:Pos) (d:Nat) (it acc:Value) (env:Env)
 (hd:gens[d]? = some ⟨target,iter,ifs,0⟩) (j:∀ g',gens[d+1]? = some g'->g'.is_async=0) :
 compTurn (.ListComp elt gens scope pos) d it acc env=(standAt iter.pos >>= fun _=>pyNext it >>= fun r=>match r with
  | none=>pure (.done .next)
  | some v=>letOwnedTupleGo target it v >>= fun _=>assign target env v >>= fun _=>b4 ifs env >>= fun ok =>
    (if ok=true then aU elt gens scope pos d acc env (again (.compLoop (.ListComp elt gens scope pos) d it acc env)) else again (.compLoop (.ListComp elt gens scope pos) d it acc env))):=by
 unfold compTurn
 simp only [hd]
 unfold aU b4
 cases hn:gens[d+1]? with
 | none=>rfl
 | some g' =>
   obtain ⟨t',i',f',a'⟩:=g'
   have e:a'=0:=j _ hn
   subst e
   rfl
noncomputable abbrev TC:=St->Hp->(St->Hp->Prop)->Prop
noncomputable def ce (J:It) (g:TG) (tb:TC) (N:St->Hp->Prop) (σ:St) (H:Hp):Prop :=
 ∃ W:Nat->Nat->St->Hp->Prop,(∃ m,W 0 m σ H) /\ ∀ i m σ H,W i m σ H ->
  (J.stop i H/\N σ H)∨(J.go i H /\ ∃ N':St->Hp->Prop,(∀ σ' H',N' σ' H' -> ∃ m',m' < m/\W (i+1) m' σ' H') /\ ∀ x H',J.yld i H x H'->g x σ H' fun σ2 H2=>tb σ2 H2 N')
noncomputable def PB (X:Cx) (F:Sem Fin->Sem Fin) (t:TC):Prop :=
 ∀ (pins:List (Addr×Obj)) (s:Shared) (σ:St) (H:Hp) (N:St->Hp->Prop) (k:Sem Fin) (Q:Fin->Shared->Prop) (E:Value->Shared->Prop),Inv X pins σ H s->t σ H N ->
  (∀ s' σ' H',Inv X pins σ' H' s'->N σ' H'->wpAny (model X.prog X.w) X.A k Q E s')->wpAny (model X.prog X.w) X.A (F k) Q E s
section
variable {X:Cx}
theorem nox {α:Type} {m:Sem α} {Q : α -> Shared->Prop} {E:Value->Shared->Prop} {s:Shared} (hx:∀ e s,X.xe e s->False) (h:wpAny (model X.prog X.w) X.A m Q X.xe s):wpAny (model X.prog X.w) X.A m Q E s :=
 wpAny_mono h (fun _ _ q=>q) fun e s' q=>(hx e s' q).elim
noncomputable def iC (ts:List TT) (tb:TC):TC:=match ts with
 | [] => tb
 | t::r=>fun σ H N=>t σ H fun b H1=>if b=true then iC r tb σ H1 N else N σ H1
theorem iD {env:Env} {M:Model} {A:Around} {Q:Bool->Shared->Prop} {E:Value->Shared->Prop} {s:Shared} (h:Q false s):∀ ifs:List Expr,
 wpAny M A (forIn ifs false fun c r=>if r=true then do let ok <- isTrue c env (eval c env);pure (ForInStep.yield ok) else pure (ForInStep.yield r)) Q E s
 | [] => wpAny_pure h
 | c::r=>by
   rw [List.forIn_cons]
   simp only [Bool.false_eq_true,if_false]
   exact wpAny_bind (wpAny_pure (iD h r))
theorem lV (hx:∀ e s,X.xe e s->False) {tb:TC} {N:St->Hp->Prop}:∀ {ifs:List Expr} {ts:List TT},Paired (fun c t=>PT X c t) ifs ts ->
 ∀ (pins:List (Addr×Obj)) (s:Shared) (σ:St) (H:Hp) (E:Value->Shared->Prop),Inv X pins σ H s->iC ts tb σ H N ->
 wpAny (model X.prog X.w) X.A (b4 ifs X.env) (fun ok s' => ∃ H',Inv X pins σ H' s'/\if ok=true then tb σ H' N else N σ H') E s
 | _,_, .nil=>fun pins s σ H E I h=>wpAny_pure ⟨H,I,by rw [if_pos rfl];exact h⟩
 | c::ifs,_, .cons (b:=t) z hr=>by
   intro pins s σ H E I h
   have ih:=lV hx hr (tb:=tb) (N:=N) pins
   unfold b4 at ih ⊢
   rw [List.forIn_cons]
   simp only [if_true]
   refine wpAny_bind (wpAny_bind (nox hx (thn (z pins s σ H _ I h) fun b s1 ⟨H1,q,j⟩=>wpAny_pure ?_)))
   cases b with
   | false =>
     rw [if_neg Bool.false_ne_true] at j
     exact iD ⟨H1,q,by rw [if_neg Bool.false_ne_true];exact j⟩ ifs
   | true =>
     rw [if_pos rfl] at j
     exact ih s1 σ H1 E q j
theorem vD (hx:∀ e s,X.xe e s->False) {F:Sem Fin->Sem Fin} {tb:TC} (z:PB X F tb) {ifs:List Expr} {ts:List TT} (B:Paired (fun c t=>PT X c t) ifs ts) :
 PB X (fun k=>b4 ifs X.env >>= fun ok=>if ok=true then F k else k) (iC ts tb):=by
 intro pins s σ H N k Q E I h hk
 refine wpAny_bind (thn (lV hx B pins s σ H E I h) fun ok s1 ⟨H1,q,j⟩ => ?_)
 cases ok with
 | false =>
   rw [if_neg Bool.false_ne_true] at j ⊢
   exact hk s1 σ H1 q j
 | true =>
   rw [if_pos rfl] at j ⊢
   exact z pins s1 σ H1 N k Q E q j hk
noncomputable def xO (p:Addr) (te:TE):TC:=fun σ H N=>te σ H fun x H1 => ∃ xs,H1 p=some (.lst xs)/\xs.length < sizeLine/\N σ (upd H1 p (.lst (xs++[x])))
theorem jw (hx:∀ e s,X.xe e s->False) {elt:Expr} {gens:List Comprehension} {scope:Scope} {pos:Pos} {d:Nat} {p:Addr} {te:TE} (he:PE X elt te) (hd:gens[d+1]? = none) :
 PB X (aU elt gens scope pos d (.ref p) X.env) (xO p te):=by
 intro pins s σ H N k Q E I h j
 unfold aU
 rw [hd]
 refine wpAny_bind (wpAny_bind (nox hx (thn (he pins s σ H _ I h) fun u s1 ⟨x,H1,q,z,xs,B,l1,F⟩ => ?_)))
 refine wpAny_bind (nox hx (thn (kb (X:=X) pins s1 σ H1 (.ref p) [x] (.ref p) [u] (fun _ H2=>N σ H2) q rfl (.cons z .nil) ⟨p,xs,x,rfl,rfl,B,l1,F⟩) fun v s2 ⟨_,H2,G,_,J⟩ => ?_))
 exact wpAny_pure (j s2 σ H2 G J)
theorem kf (hx:∀ e s,X.xe e s->False) (Y:X.calm=true) {elt target iter:Expr} {ifs:List Expr} {gens:List Comprehension} {scope:Scope} {pos:Pos} {d:Nat} {acc:Value}
 (hd:gens[d]? = some ⟨target,iter,ifs,0⟩) (ha:∀ g',gens[d+1]? = some g'->g'.is_async=0) {g:TG} (hg:PG X target g) {tb:TC}
 (j:PB X (fun k=>b4 ifs X.env >>= fun ok=>if ok=true then aU elt gens scope pos d acc X.env k else k) tb)
 {pins:List (Addr×Obj)} {s:Shared} {σ:St} {H:Hp} {N:St->Hp->Prop} {it:Addr} {fp:List Addr} {tn:Nat->Heap->Prop} {J:It} (I:Inv X pins σ H s) (T:fb X.prog X.w X.K target J fp it tn)
 (t0:tn 0 s.heap) (f2:∀ b∈fp,cb X pins H b) (h:ce J g tb N σ H) :
 codeAny (model X.prog X.w) X.A (.compLoop (.ListComp elt gens scope pos) d (.ref it) acc X.env) (fun r s'=>match r with | .ok _ => ∃ σ' H',Inv X pins σ' H' s'/\N σ' H' | .error _=>False) s:=by
 obtain ⟨W,⟨m0,w0⟩,turn⟩:=h
 have stat:∀ {H':Hp},(∀ b∈fp,H' b=none) -> ∀ b∈fp,cb X pins H' b:=fun hn b j=>⟨hn b j,(f2 b j).2⟩
 refine codeAny_loop rfl (fun n s' => ∃ i σ' H',Inv X pins σ' H' s'/\tn i s'.heap/\(∀ b∈fp,H' b=none)/\W i n σ' H') ?_ m0 ⟨0, σ,H,I,t0,fun b j=>(f2 b j).1,w0⟩
 rintro n s3 ⟨i, σ3,F,Z,z,B,w3⟩
 show wpAny _ _ ((compTurn (.ListComp elt gens scope pos) d (.ref it) acc X.env).onRaise (fun x=>do noteFrame x X.env;theTreesLotGoes x)) _ _ s3
 refine wpAny_noted ?_
 rw [lU elt target iter ifs gens scope pos d (.ref it) acc X.env hd ha]
 refine wpAny_bind (wpAny_standAt (wpAny_bind ?_))
 show wpAny (model X.prog X.w) X.A _ _ _ s3
 rcases turn i n σ3 F w3 with ⟨stop,qn⟩ | ⟨go,N',hN,step⟩
 ·refine thn (T.done X rfl rfl rfl Y i pins s3 σ3 F _ Z (stat B) z stop) fun r s4 ⟨G,I4⟩ => ?_
  subst G
  exact wpAny_pure ⟨σ3,F,I4,qn⟩
 ·refine thn (T.item X rfl rfl rfl Y i pins s3 σ3 F _ Z (stat B) z go) fun r s4 ⟨u,G,h4⟩ => ?_
  subst G
  refine wpAny_bind (thn h4 fun _ s5 ⟨x,H5,I5,r5,y5,q,L⟩ => ?_)
  have O:=I5.pinned (stat L) (T.obj _ _ q)
  refine wpAny_bind (nox hx (thn (hg _ s5 σ3 H5 x u _ O r5 (step x H5 y5)) fun _ s6 ⟨σ6,H6,I6,q6⟩ => ?_))
  refine j _ s6 σ6 H6 N' (again (.compLoop (.ListComp elt gens scope pos) d (.ref it) acc X.env)) _ _ I6 q6 fun s7 σ7 H7 U n7 => ?_
  obtain ⟨m',hm,w7⟩:=hN σ7 H7 n7
  refine wpAny_pure ⟨rfl,m',hm,i+1, σ7,H7,U.unpinned,T.keep _ _ _ q fun b j o e=>(U.pin (b,o) (List.mem_append_right _ (List.mem_append_right _ (cO j e)))).1,fun b j => ?_,w7⟩
  obtain ⟨o,e,dd⟩:=T.obj _ _ q b j
  exact (U.pin (b,o) (List.mem_append_right _ (List.mem_append_right _ (cO j e)))).2.1
theorem iE {elt target iter:Expr} {ifs:List Expr} {gens:List Comprehension} {scope:Scope} {pos:Pos} {d:Nat} {it acc:Value} {env:Env} {prog:Program} {w:World} {A:Around} {R:Result->Shared->Prop} {s:Shared}
 (hd:gens[d]? = some ⟨target,iter,ifs,0⟩)
 (h0:codeAny (model prog w) A (.compLoop (.ListComp elt gens scope pos) d it acc env) R s)
 (h:wpAny (model prog w) A (pyIter it) (fun it' s'=>codeAny (model prog w) A (.compLoop (.ListComp elt gens scope pos) d it' acc env) R s')
   (notedBy (model prog w) A env fun x s'=>R (.error x) s') s) :
 codeAny (model prog w) A (.compStart (.ListComp elt gens scope pos) d it acc env) R s:=by
 refine codeAny_of_tree ?_
 show wpAny _ _ ((compStart (.ListComp elt gens scope pos) d it acc env).onRaise (fun x=>do noteFrame x env;standAt theWindowsPlace)) _ _ s
 refine wpAny_notedAt ?_
 unfold compStart
 have j:(clausesOf (.ListComp elt gens scope pos))[d]? = some ⟨target,iter,ifs,0⟩:=hd
 rw [j]
 show wpAny _ _ (ask >>= _) _ _ s
 refine wpAny_bind (wpAny_askSetting (wpAny_ite ?_))
 split
 ·first
   | exact wpAny_bind (wpAny_pure (wpAny_pure (And.intro rfl h0)))
   | exact wpAny_pure (And.intro rfl h0)
 ·first
   | exact wpAny_bind (wpAny_rule (wpAny_bind (wpAny_standAt (wpAny_bind (wpAny_mono h (fun it' s' h'=>wpAny_pure (And.intro rfl h')) fun _ _ x=>x)))))
   | (refine wpAny_bind (wpAny_rule ?_);show wpAny _ _ (standAt iter.pos >>= _) _ _ s;exact wpAny_bind (wpAny_standAt (wpAny_bind (wpAny_mono h (fun it' s' h'=>wpAny_pure (And.intro rfl h')) fun _ _ x=>x))))
theorem kg (hx:∀ e s,X.xe e s->False) (z:X.calm=true) {elt target iter:Expr} {ifs:List Expr} {gens:List Comprehension} {scope:Scope} {pos:Pos} {d:Nat} {acc:Value}
 (hd:gens[d+1]? = some ⟨target,iter,ifs,0⟩) (B:∀ g',gens[d+1+1]? = some g'->g'.is_async=0) {wi:TI} (hi:PI X target iter wi) {g:TG} (F:PG X target g) {tb:TC}
 (G:PB X (fun k=>b4 ifs X.env >>= fun ok=>if ok=true then aU elt gens scope pos (d+1) acc X.env k else k) tb)
 (hs:∀ x,foldedSetIterable iter X.env x=pure x) :
 PB X (aU elt gens scope pos d acc X.env) (fun σ H N=>wi σ H fun J H1=>ce J g tb N σ H1):=by
 intro pins s σ H N k Q E I h hk
 unfold aU
 rw [hd]
 refine wpAny_bind (nox hx (thn (hi pins s σ H _ I h) fun v s1 h1 => ?_))
 refine wpAny_bind (wpAny_standAt (wpAny_bind (wpAny_of_eq (hs v) ?_)))
 refine wpAny_bind (wpAny_holding (nox hx (thn h1 fun itv s2 h2 => ?_)))
 obtain ⟨it,fp,tn,J,H2,e,L,T,j,f2,hw⟩:=h2
 subst e
 have loop:=kf (acc:=acc) hx z hd B F G L T j f2 hw
 refine wpAny_bind (wpAny_runOwn (codeAny_mono (iE (R:=fun r s'=>match r with | .ok _ => ∃ σ' H',Inv X pins σ' H' s'/\N σ' H' | .error _=>False) hd loop (T.self _ 0 _ _ _ j loop)) fun r s3 q => ?_))
 cases r with
 | error e=>exact q.elim
 | ok f =>
   obtain ⟨σ3,O,U,Y⟩:=q
   exact hk s3 σ3 O U Y
noncomputable def aP (cells:List (Str×Addr)):List (Str×NameKind)->List (Str×Addr)->List (Str×Addr)
 | [],acc=>acc
 | (n,k)::r,acc=>if k == .free then (match cells.lookup n with | some c=>aP cells r ((n,c)::acc) | none=>aP cells r acc) else aP cells r acc
theorem gH {env:Env}:∀ (names:List (Str×NameKind)) (acc:List (Str×Addr)),(∀ x∈names,x.2 = .free->(env.cells.lookup x.1).isSome=true) ->
 (forIn names acc fun (x:Str×NameKind) (r:List (Str×Addr))=>(match x with | (name,kind)=>if (kind==NameKind.free)=true then do let c <- cellOf env name;pure (ForInStep.yield ((name,c)::r)) else pure (ForInStep.yield r):Sem (ForInStep (List (Str×Addr)))))=(pure (aP env.cells names acc):Sem (List (Str×Addr)))
 | [],acc,_=>rfl
 | (n,k)::r,acc,h=>by
  rw [List.forIn_cons]
  have ih:=fun acc'=>gH r acc' fun x hx=>h x (List.mem_cons_of_mem _ hx)
  unfold aP
  by_cases hk:(k==NameKind.free)=true
  ·obtain ⟨c,q⟩:=Option.isSome_iff_exists.mp (h (n,k) List.mem_cons_self (beq_iff_eq.mp hk))
   have j:env.cells.lookup n=some c:=q
   have z:cellOf env n=pure c:=by unfold cellOf;rw [j]
   simp only [hk,if_true,z,j,pure_bind]
   exact ih _
  ·simp only [hk,if_false,pure_bind]
   exact ih _
theorem iF {scope:Scope} {env:Env} (h:∀ x∈scope.names,x.2 = .free->(env.cells.lookup x.1).isSome=true):closureFor scope env=pure (aP env.cells scope.names []):=by
 unfold closureFor
 have e:=gH (env:=env) scope.names [] h
 simp only [bind_pure]
 exact e
theorem cQ {cells:List (Str×Addr)} {y:Str} {c:Addr}:∀ {names:List (Str×NameKind)} {acc:List (Str×Addr)},(y,c)∈aP cells names acc->(y,c)∈acc∨(cells.lookup y=some c/\(y,NameKind.free)∈names)
 | [],acc,h => .inl h
 | (n,k)::r,acc,h=>by
  unfold aP at h
  by_cases hk:(k==NameKind.free)=true
  ·rw [if_pos hk] at h
   have B:k = .free:=beq_iff_eq.mp hk
   subst B
   cases F:cells.lookup n with
   | none =>
     rw [F] at h
     rcases cQ h with z | ⟨j,q⟩
     ·exact .inl z
     ·exact .inr ⟨j,List.mem_cons_of_mem _ q⟩
   | some c' =>
     rw [F] at h
     rcases cQ h with z | ⟨j,q⟩
     ·rcases List.mem_cons.mp z with e | z
      ·cases e
       exact .inr ⟨F,List.mem_cons_self⟩
      ·exact .inl z
     ·exact .inr ⟨j,List.mem_cons_of_mem _ q⟩
  ·rw [if_neg hk] at h
   rcases cQ h with z | ⟨j,q⟩
   ·exact .inl z
   ·exact .inr ⟨j,List.mem_cons_of_mem _ q⟩
theorem cR {cells:List (Str×Addr)} {y:Str} {c:Addr} (j:cells.lookup y=some c):∀ {names:List (Str×NameKind)} {acc:List (Str×Addr)},((y,c)∈acc∨(y,NameKind.free)∈names)->(y,c)∈aP cells names acc
 | [],acc,h=>by
  rcases h with h | h
  ·exact h
  ·simp at h
 | (n,k)::r,acc,h=>by
  unfold aP
  by_cases hk:(k==NameKind.free)=true
  ·rw [if_pos hk]
   have q:k = .free:=beq_iff_eq.mp hk
   subst q
   cases hl:cells.lookup n with
   | none =>
     refine cR j ?_
     rcases h with h | h
     ·exact .inl h
     ·rcases List.mem_cons.mp h with e | h
      ·cases e;rw [hl] at j;cases j
      ·exact .inr h
   | some c' =>
     refine cR j ?_
     rcases h with h | h
     ·exact .inl (List.mem_cons_of_mem _ h)
     ·rcases List.mem_cons.mp h with e | h
      ·cases e;rw [hl] at j;cases j;exact .inl List.mem_cons_self
      ·exact .inr h
  ·rw [if_neg hk]
   refine cR j ?_
   rcases h with h | h
   ·exact .inl h
   ·rcases List.mem_cons.mp h with e | h
    ·cases e;exact absurd rfl hk
    ·exact .inr h
theorem cJ:∀ (names:List (Str×NameKind)) (n:Nat) (acc acc':List (Str×Addr)),cellsFrom n names (acc++acc')=cellsFrom n names acc++acc'
 | [],_,_,_=>rfl
 | (x,k)::r,n,acc,acc'=>by
  unfold cellsFrom
  by_cases j:(k==NameKind.cell)=true
  ·rw [if_pos j,if_pos j]
   exact cJ r (n+1) ((x,n)::acc) acc'
  ·rw [if_neg j,if_neg j]
   exact cJ r n acc acc'
theorem cK:∀ {names:List (Str×NameKind)} {n:Nat} {acc:List (Str×Addr)} {y:Str} {c:Addr},(y,c)∈cellsFrom n names acc->(y,c)∈acc∨(n<=c/\(y,NameKind.cell)∈names)
 | [],_,_,_,_,h => .inl h
 | (x,k)::r,n,acc,y,c,h=>by
  unfold cellsFrom at h
  by_cases hk:(k==NameKind.cell)=true
  ·rw [if_pos hk] at h
   have j:k = .cell:=beq_iff_eq.mp hk
   subst j
   rcases cK h with z | ⟨q,B⟩
   ·rcases List.mem_cons.mp z with e | z
    ·cases e;exact .inr ⟨Nat.le_refl _,List.mem_cons_self⟩
    ·exact .inl z
   ·exact .inr ⟨Nat.le_of_succ_le q,List.mem_cons_of_mem _ B⟩
  ·rw [if_neg hk] at h
   rcases cK h with z | ⟨q,B⟩
   ·exact .inl z
   ·exact .inr ⟨q,List.mem_cons_of_mem _ B⟩
structure aV (sc osc:Scope) (oN N':List Str) (fr:List (Option Nat)):Prop where
 kind:sc.kind = .function
 nd:(sc.names.map (·.1)).Nodup
 ndN:N'.Nodup
 free:∀ x∈sc.names,x.2 = .free->osc.names.lookup x.1=some .cell∨osc.names.lookup x.1=some .free
 len:fr.length=N'.length
 fr:∀ (i j:Nat) (x:Str),N'[i]? = some x->fr[i]? = some (some j)->oN[j]? = some x/\(x,NameKind.free)∈sc.names
noncomputable def inh (fr:List (Option Nat)) (σ:St):St:=fr.map fun o=>o.bind fun j=>(σ[j]?).join
noncomputable def aW (X:Cx) (sc:Scope) (L:Addr):Env :=
 { scope:=relabel sc X.env,locals:=L,globals:=X.env.globals,cells:=cellsFrom (L+1) sc.names (aP X.env.cells sc.names []),qual:=X.env.qual,func:=none,code:=X.env.code,frame:=X.env.frame,builtins:=X.env.builtins }
noncomputable def aC (X:Cx) (sc:Scope) (N':List Str) (s:Shared) (H:Hp) (fp:List Addr):Cx :=
 { X with N:=N',s₀ := s,H₀ := H,env:=aW X sc s.heap.objs.size,outer:=X.stack,stack:=X.stack,ex:=fp,fn:=fun x=>sc.names.lookup x==some .cell,pn := [],xe:=fun _ _=>False }
theorem aO:∀ {l:List (Str×NameKind)} {x:Str} {k:NameKind},(l.map (·.1)).Nodup->(x,k)∈l->l.lookup x=some k
 | (y,k')::r,x,k,nd,h=>by
  have nd':(y::r.map (·.1)).Nodup:=nd
  obtain ⟨q,z⟩:=List.nodup_cons.mp nd'
  rw [List.lookup_cons]
  rcases List.mem_cons.mp h with e | hm
  ·cases e;simp
  ·have j:(x==y)=false:=by
    refine beq_eq_false_iff_ne.mpr fun e => ?_
    subst e
    exact q (List.mem_map.mpr ⟨(x,k),hm,rfl⟩)
   rw [j]
   exact aO z hm
theorem cg {env:Env}:∀ {names:List (Str×NameKind)} {x:Str},
 (names.map fun (n,k)=>if (k==NameKind.free&&env.scope.kind == .function&&env.kindOf n==some .cell) then (n,NameKind.cell) else (n,k)).lookup x =
   (names.lookup x).map fun k=>if (k==NameKind.free&&env.scope.kind == .function&&env.kindOf x==some .cell) then NameKind.cell else k
 | [],_=>rfl
 | (n,k)::r,x=>by
  have ih:=cg (env:=env) (names:=r) (x:=x)
  show List.lookup x ((if (k==NameKind.free&&env.scope.kind == .function&&env.kindOf n==some .cell)=true then (n,NameKind.cell) else (n,k))::_)=_
  rw [List.lookup_cons (a:=x) (b:=k)]
  by_cases hx:x=n
  ·subst hx
   simp only [beq_self_eq_true]
   show _=some (if (k==NameKind.free&&env.scope.kind == .function&&env.kindOf x==some .cell)=true then NameKind.cell else k)
   by_cases j:(k==NameKind.free&&env.scope.kind == .function&&env.kindOf x==some .cell)=true
   ·rw [if_pos j,if_pos j,List.lookup_cons];simp only [beq_self_eq_true]
   ·rw [if_neg j,if_neg j,List.lookup_cons];simp only [beq_self_eq_true]
  ·have q:(x==n)=false:=beq_eq_false_iff_ne.mpr hx
   rw [q]
   by_cases j:(k==NameKind.free&&env.scope.kind == .function&&env.kindOf n==some .cell)=true
   ·rw [if_pos j,List.lookup_cons,q];exact ih
   ·rw [if_neg j,List.lookup_cons,q];exact ih
section
variable {pins:List (Addr×Obj)} {σ:St} {H:Hp} {s:Shared} {sc:Scope} {N':List Str} {fr:List (Option Nat)} {fp:List Addr}
theorem fj (I:Inv X pins σ H s) (B:aV sc X.env.scope X.N N' fr):∀ x∈sc.names,x.2 = .free->(X.env.cells.lookup x.1).isSome=true:=fun x hx e=>by
 obtain ⟨c,j⟩:=I.ok.has x.1 (B.free x hx e)
 rw [j];rfl
theorem sv (I:Inv X pins σ H s) (f2:∀ b∈fp,cb X pins H b) (Z:∀ b∈fp,b < s.heap.objs.size) (B:aV sc X.env.scope X.N N' fr) :
 Inv (aC X sc N' s H fp) [] (inh fr σ) H { s with heap:=pushCells (s.heap.push { cls := .type "dict",data := .dict #[] }) sc.names }:=by
 have G:∀ b o,s.heap.get? b=some o->(pushCells (s.heap.push { cls := .type "dict",data := .dict #[] }) sc.names).get? b=some o:=fun b o e=>pushCells_keeps _ _ b o (Heap.get?_push_of_some _ e)
 have ok:=cellsFrom_ok sc.names (s.heap.push { cls := .type "dict",data := .dict #[] }) (s.heap.objs.size+1) [] ⟨fun _ _ hm=>(nomatch hm),List.Pairwise.nil⟩ (by rw [Heap.size_push];exact Nat.le_refl _)
 rw [Heap.size_push] at ok
 have capp:cellsFrom (s.heap.objs.size+1) sc.names (aP X.env.cells sc.names [])=cellsFrom (s.heap.objs.size+1) sc.names []++aP X.env.cells sc.names []:=cJ sc.names _ [] _
 have cof:∀ x c,(aW X sc s.heap.objs.size).cells.lookup x=some c->((x,c)∈cellsFrom (s.heap.objs.size+1) sc.names []/\s.heap.objs.size < c)∨(X.env.cells.lookup x=some c/\(x,NameKind.free)∈sc.names):=fun x c e=>by
  have m:=PySem.mem_of_lookup e
  have m':(x,c)∈cellsFrom (s.heap.objs.size+1) sc.names (aP X.env.cells sc.names []):=m
  rw [capp] at m'
  rcases List.mem_append.mp m' with z | z
  ·exact .inl ⟨z,(ok.empty x c z).2⟩
  ·rcases cQ z with q | q
   ·simp at q
   ·exact .inr q
 have cOld:∀ x c,X.env.cells.lookup x=some c->c < s.heap.objs.size:=fun x c e=>by
  obtain ⟨v,q⟩:=I.cell x c e
  exact q.lt
 have kindF:∀ x,(x,NameKind.free)∈sc.names->(aW X sc s.heap.objs.size).kindOf x=some .cell∨(aW X sc s.heap.objs.size).kindOf x=some .free:=fun x hx=>by
  have e1:sc.names.lookup x=some .free:=aO B.nd hx
  have O:(aW X sc s.heap.objs.size).kindOf x=_:=cg (env:=X.env) (names:=sc.names) (x:=x)
  rw [e1] at O
  rw [O]
  by_cases J:(NameKind.free==NameKind.free&&X.env.scope.kind == .function&&X.env.kindOf x==some .cell)=true
  ·exact .inl (by simp only [Option.map_some,if_pos J])
  ·exact .inr (by simp only [Option.map_some,if_neg J])
 have cellF:∀ x c,(x,NameKind.free)∈sc.names->X.env.cells.lookup x=some c->(aW X sc s.heap.objs.size).cells.lookup x=some c:=fun x c hx J=>by
  have m:=cR (acc := []) J (.inr hx)
  have m2:(x,c)∈(aW X sc s.heap.objs.size).cells:=by
   show (x,c)∈cellsFrom (s.heap.objs.size+1) sc.names (aP X.env.cells sc.names [])
   rw [capp]
   exact List.mem_append_right _ m
  cases F:(aW X sc s.heap.objs.size).cells.lookup x with
  | none =>
    exfalso
    have:∀ {l:List (Str×Addr)},(x,c)∈l->l.lookup x=none->False:=by
     intro l
     induction l with
     | nil=>intro h;simp at h
     | cons a r ih =>
       intro h e
       obtain ⟨y,d⟩:=a
       rw [List.lookup_cons] at e
       rcases List.mem_cons.mp h with z | z
       ·cases z;simp at e
       ·by_cases hxy:(x==y)=true
        ·rw [hxy] at e;cases e
        ·simp only [Bool.not_eq_true] at hxy
         rw [hxy] at e
         exact ih z e
    exact this m2 F
  | some c' =>
    rcases cof x c' F with ⟨z,_⟩ | ⟨z,_⟩
    ·rcases cK z with q | ⟨_,q⟩
     ·simp at q
     ·have a1:=aO B.nd hx
      have a2:=aO B.nd q
      rw [a1] at a2;cases a2
    ·rw [J] at z;rw [z]
 have kindC:∀ x,(aW X sc s.heap.objs.size).kindOf x=some .cell->(x,NameKind.cell)∈sc.names∨(x,NameKind.free)∈sc.names:=fun x e=>by
  have O:(aW X sc s.heap.objs.size).kindOf x=_:=cg (env:=X.env) (names:=sc.names) (x:=x)
  rw [O] at e
  cases F:sc.names.lookup x with
  | none=>rw [F] at e;cases e
  | some k =>
    rw [F] at e
    have m:=PySem.mem_of_lookup F
    cases k with
    | cell=>exact .inl m
    | free=>exact .inr m
    | «local» => simp at e
    | globalImplicit=>simp at e
    | globalExplicit=>simp at e
 have kindFr:∀ x,(aW X sc s.heap.objs.size).kindOf x=some .free->(x,NameKind.free)∈sc.names:=fun x e=>by
  have O:(aW X sc s.heap.objs.size).kindOf x=_:=cg (env:=X.env) (names:=sc.names) (x:=x)
  rw [O] at e
  cases F:sc.names.lookup x with
  | none=>rw [F] at e;cases e
  | some k =>
    rw [F] at e
    have m:=PySem.mem_of_lookup F
    cases k with
    | free=>exact m
    | cell=>simp at e
    | «local» => simp at e
    | globalImplicit=>simp at e
    | globalExplicit=>simp at e
 refine ⟨⟨I.ok.mod,B.kind,I.ok.glob,I.ok.blt,Nat.le_refl _,fun y z c h1 h2 => ?_,fun y hy => ?_,fun y c hf h => ?_,I.ok.hd,I.ok.frames, .inl rfl,fun b U=>⟨?_,fun x c e => ?_⟩,fun b o e=>I.bs b o e, ?_,fun b o e U => ?_,fun b U => ?_,I.stack,I.stkFree⟩,
  rfl,I.bare,Un.kept G,⟨_,(Heap.Ns.new s.heap (.type "dict")).keeps (pushCells_keeps _ _),fun i x v h1 h2 h3 => ?_⟩,fun y c h => ?_,I.hok.fresh (Nat.le_refl _),fun y c h => ?_,fun p hp=>absurd (show p∈([]:List (Addr×Obj)) from hp) (by simp),I.hok.kept G, ?_⟩
 ·rcases cof y c h1 with ⟨a1,a2⟩ | ⟨a1,a2⟩
  ·rcases cof z c h2 with ⟨b1,b2⟩ | ⟨b1,b2⟩
   ·exact name_of_addr ok.apart a1 b1
   ·exact absurd (cOld z c b1) (Nat.not_lt.mpr (Nat.le_of_lt a2))
  ·rcases cof z c h2 with ⟨b1,b2⟩ | ⟨b1,b2⟩
   ·exact absurd (cOld y c a1) (Nat.not_lt.mpr (Nat.le_of_lt b2))
   ·exact I.ok.inj y z c a1 b1
 ·have Dx:(y,NameKind.cell)∈sc.names∨(y,NameKind.free)∈sc.names:=by
   rcases hy with hy | hy
   ·exact kindC y hy
   ·exact .inr (kindFr y hy)
  rcases Dx with q | q
  ·exact Option.isSome_iff_exists.mp (PySem.W.cellsFrom_some sc.names _ _ (.inl (aO B.nd q)))
  ·obtain ⟨c,J⟩:=Option.isSome_iff_exists.mp (fj I B _ q rfl)
   exact ⟨c,cellF y c q J⟩
 ·have Dy:(sc.names.lookup y==some .cell)=true:=hf
  have Dv:sc.names.lookup y=some .cell:=by simpa using Dy
  rcases cof y c h with ⟨_,a2⟩ | ⟨_,a2⟩
  ·exact Nat.le_of_lt a2
  ·rw [aO B.nd a2] at Dv;cases Dv
 ·exact Nat.ne_of_lt (Z b U)
 ·rcases cof x c e with ⟨_,a2⟩ | ⟨a1,_⟩
  ·exact Nat.ne_of_gt (Nat.lt_trans (Z b U) a2)
  ·exact (f2 b U).2.2.2.2.1 x c a1
 ·exact Nat.le_trans I.ok.bsz I.sz
 ·obtain ⟨f0,f1,f3,f4,f5,f6⟩:=f2 b U
  rcases f4 with z | z
  ·exact I.ok.noex b o e z
  ·exact absurd (Nat.lt_of_lt_of_le (Nat.lt_of_lt_of_le (Heap.lt_size e) I.ok.bsz) z) (Nat.lt_irrefl _)
 ·obtain ⟨f0,f1,f3,f4,f5,f6⟩:=f2 b U
  exact fun z=>(List.mem_cons.mp (I.stkSub b z)).elim f1 f3
 ·have hi:∃ j,fr[i]? = some (some j) /\ σ[j]? = some (some v):=by
   unfold inh at h2
   rw [List.getElem?_map] at h2
   cases e:fr[i]? with
   | none=>rw [e] at h2;cases h2
   | some o =>
     rw [e] at h2
     cases o with
     | none=>cases h2
     | some j =>
       refine ⟨j,rfl, ?_⟩
       have L:some ((σ[j]?).join)=some (some v):=h2
       cases e' : σ[j]? with
       | none=>rw [e'] at L;cases L
       | some w=>rw [e'] at L;cases L;rfl
  obtain ⟨j,e1,O⟩:=hi
  obtain ⟨n1,n2⟩:=B.fr i j x h1 e1
  obtain ⟨m,hn,F⟩:=I.loc
  have hv:Vis X.env.scope x := .inr (B.free (x, .free) n2 rfl)
  obtain ⟨u,ru,lk⟩:=F j x v n1 O hv
  refine ⟨u,ru, .inr ⟨kindF x n2, ?_⟩⟩
  rcases lk with ⟨k1,_⟩ | ⟨_,c,J,Y⟩
  ·have Dw:X.env.scope.names.lookup x=some .local:=k1
   rcases B.free (x, .free) n2 rfl with z | z
   ·rw [Dw] at z;cases z
   ·rw [Dw] at z;cases z
  ·exact ⟨c,cellF x c n2 J,Y.keeps G⟩
 ·rcases cof y c h with ⟨a1,a2⟩ | ⟨a1,a2⟩
  ·exact ⟨_,(ok.empty y c a1).1⟩
  ·obtain ⟨v,q⟩:=I.cell y c a1
   exact ⟨v,q.keeps G⟩
 ·rcases cof y c h with ⟨a1,a2⟩ | ⟨a1,a2⟩
  ·exact I.hok.fresh (Nat.le_of_lt a2)
  ·exact I.freeC y c a1
 ·show (inh fr σ).length=N'.length
  unfold inh
  rw [List.length_map]
  exact B.len
theorem kh {σ':St} {H':Hp} {s':Shared} {h':Heap} (I:Inv X pins σ H s) (f2:∀ b∈fp,cb X pins H b) (J:Inv (aC X sc N' s H fp) [] σ' H' s') (hs:Heap.SameBut s.heap.objs.size s'.heap h') :
 Inv X pins σ H' { s' with heap:=h' }:=by
 have u:Un (frs X.stack) fp H H' s.heap s'.heap:=J.base
 have ne:∀ b o,s.heap.get? b=some o->b≠s.heap.objs.size:=fun b o e=>Nat.ne_of_lt (Heap.lt_size e)
 refine I.call' (s' := { s' with heap:=h' }) (ch:=fp) J.os ⟨fun b o e n j hx => ?_,fun b o e n j hx => ?_,u.free,fun b o e hx => ?_,u.tups,u.frzs,u.tbls⟩ (fun b v e => ?_) J.bare fun b j => ?_
 ·exact (hs.2 b (ne b o e)).trans (u.keep b o e n j hx)
 ·obtain ⟨sl,q⟩:=u.slot b o e n j hx
  exact ⟨sl,(hs.2 b (ne b o e)).trans q⟩
 ·obtain ⟨o',q⟩:=u.there b o e hx
  exact ⟨o',(hs.2 b (ne b o e)).trans q⟩
 ·refine (J.hok b v e).stay (fun c w F q=>(hs.2 c ?_).trans q) (fun _ q=>q) fun _ _ q=>q
  have fr:H' s.heap.objs.size=none:=J.free
  rcases F with z | z
  ·rw [z];intro B;rw [B,fr] at e;cases e
  ·intro B;rw [B,fr] at z;cases z
 ·obtain ⟨f0,f1,O,f4,G,L⟩:=f2 b j
  exact ⟨f4,f1,G,L⟩
theorem lc {Q:Env->Shared->Prop} {E:Value->Shared->Prop} {M:Model} {A:Around}
 (h:Q { scope:=sc,locals:=s.heap.objs.size,globals:=X.env.globals,cells:=cellsFrom (s.heap.objs.size+1) sc.names (aP X.env.cells sc.names []),qual:=X.env.qual,func:=none,code:=X.env.code,frame:=X.env.frame,builtins:=X.env.builtins }
   { s with heap:=pushCells (s.heap.push { cls := .type "dict",data := .dict #[] }) sc.names }) :
 wpAny M A (newFunctionEnv sc X.env.globals (aP X.env.cells sc.names []) [] X.env.qual none .none (some X.env)) Q E s:=by
 simp only [newFunctionEnv,Option.isSome_some,if_true]
 refine wpAny_bind (wpAny_alloc ?_)
 refine wpAny_bind (wpAny_layCells _ (fun name kind cells=>by cases hkc:kind==NameKind.cell <;> simp [hkc]) _ _ _ _ ?_)
 rw [show ({ s with heap:=s.heap.push { cls := .type "dict",data := .dict #[] } }:Shared).heap.objs.size=s.heap.objs.size+1 from Heap.size_push ..]
 exact wpAny_bind (wpAny_pure (wpAny_pure h))
theorem lW (hc:X.calm=true) {elt target iter:Expr} {ifs:List Expr} {rest:List Comprehension} {pos:Pos} {E:Value->Shared->Prop}
 (hx:∀ e s,X.xe e s->False) (B:aV sc X.env.scope X.N N' fr) (ha:∀ g',rest[0]? = some g'->g'.is_async=0) {wi:TI} (hi:PI X target iter wi) {g:TG} {tb:Addr->TC}
 (hg:∀ s H fp,PG (aC X sc N' s H fp) target g)
 (j:∀ s H fp p,PB (aC X sc N' s H fp) (fun k=>b4 ifs (aC X sc N' s H fp).env >>= fun ok=>if ok=true then aU elt (⟨target,iter,ifs,0⟩::rest) sc pos 0 (.ref p) (aC X sc N' s H fp).env k else k) (tb p))
 {Nn:Addr->St->Hp->Prop} {RR:Value->Addr->Result->Shared->Prop} (I:Inv X pins σ H s)
 (h:wi σ H fun J H1 => ∀ p,H1 p=none->ce J g (tb p) (Nn p) (inh fr σ) (upd H1 p (.lst [])))
 (hR:∀ p fp s3 L s' σ' H' f,Inv X pins σ L s3->(∀ b∈fp,cb X pins L b)->Inv (aC X sc N' s3 L fp) [] σ' H' s'->Nn p σ' H'->RR (.ref p) s3.heap.objs.size (.ok f) s') :
 wpAny (model X.prog X.w) X.A (eval iter X.env) (fun x s₁ => wpAny (model X.prog X.w) X.A (pyIter x) (fun it s₂ => wpAny (model X.prog X.w) X.A (newList []) (fun acc s₃ =>
  wpAny (model X.prog X.w) X.A (newFunctionEnv sc X.env.globals (aP X.env.cells sc.names []) [] X.env.qual none .none (some X.env)) (fun cenv s₄ =>
   codeAny (model X.prog X.w) X.A (.compStart (.ListComp elt (⟨target,iter,ifs,0⟩::rest) sc pos) 0 it acc { cenv with scope:=relabel sc X.env }) (RR acc cenv.locals) s₄) E s₃) E s₂) E s₁) E s:=by
 refine nox hx (thn (hi pins s σ H _ I h) fun v s1 h1=>nox hx (thn h1 fun itv s2 h2 => ?_))
 obtain ⟨it,fp,tn,J,H2,e,Z,T,q,f2,hw⟩:=h2
 subst e
 have hf:H2 s2.heap.objs.size=none:=Z.hok.fresh (Nat.le_refl _)
 refine wpAny_newList ?_
 have I3:Inv X pins σ (upd H2 s2.heap.objs.size (.lst [])) { s2 with heap:=s2.heap.push { cls := .type "list",dict:=none,data := .seq ([]:List Value).toArray } } :=
  Z.laid (t':=s2.toks) (fun b u e=>Heap.get?_push_of_some _ e) (Nat.le_refl _) ⟨Nat.zero_le _,[],0, .nil,Heap.get?_push_size _ rfl⟩
 have fneq:∀ b∈fp,b≠s2.heap.objs.size:=fun b j z=>by
  obtain ⟨o,e,_⟩:=T.obj _ _ q b j
  exact absurd (Heap.lt_size e) (by rw [z];exact Nat.lt_irrefl _)
 have O:∀ b∈fp,cb X pins (upd H2 s2.heap.objs.size (.lst [])) b:=fun b j=>⟨by rw [aj (fneq b j)];exact (f2 b j).1,(f2 b j).2⟩
 have U:∀ b∈fp,b < (s2.heap.push { cls := .type "list",dict:=none,data := .seq ([]:List Value).toArray }).objs.size:=fun b j=>by
  obtain ⟨o,e,_⟩:=T.obj _ _ q b j
  rw [Heap.size_push]
  exact Nat.lt_succ_of_lt (Heap.lt_size e)
 have Y:tn 0 (s2.heap.push { cls := .type "list",dict:=none,data := .seq ([]:List Value).toArray }):=T.keep _ _ _ q fun b _ o e=>Heap.get?_push_of_some _ e
 refine lc ?_
 have G:=sv (N':=N') I3 O U B
 have F:=T.keep _ (h':=pushCells (({ s2 with heap:=s2.heap.push { cls := .type "list",dict:=none,data := .seq ([]:List Value).toArray } }:Shared).heap.push { cls := .type "dict",data := .dict #[] }) sc.names) _ Y fun b _ o e=>pushCells_keeps _ _ b o (Heap.get?_push_of_some _ e)
 have f4:∀ b∈fp,cb (aC X sc N' { s2 with heap:=s2.heap.push { cls := .type "list",dict:=none,data := .seq ([]:List Value).toArray } } (upd H2 s2.heap.objs.size (.lst [])) fp) [] (upd H2 s2.heap.objs.size (.lst [])) b:=fun b j =>
  ⟨(O b j).1,(G.ok.exf b j).1,G.ok.exfs b j, .inl j,(G.ok.exf b j).2,fun p hp=>absurd (show p∈([]:List (Addr×Obj)) from hp) (by simp)⟩
 have loop:=kf (X:=aC X sc N' { s2 with heap:=s2.heap.push { cls := .type "list",dict:=none,data := .seq ([]:List Value).toArray } } (upd H2 s2.heap.objs.size (.lst [])) fp) (fun _ _ z=>z) hc
  (elt:=elt) (pos:=pos) (scope:=sc) (gens:=⟨target,iter,ifs,0⟩::rest) (d := 0) (acc := .ref s2.heap.objs.size) rfl (fun g' e=>ha g' (by simpa using e)) (hg _ _ _) (j _ _ _ _) G T F f4 (hw _ hf)
 refine codeAny_mono (iE (R:=fun r s'=>match r with | .ok _ => ∃ σ' H',Inv (aC X sc N' { s2 with heap:=s2.heap.push { cls := .type "list",dict:=none,data := .seq ([]:List Value).toArray } } (upd H2 s2.heap.objs.size (.lst [])) fp) [] σ' H' s'/\Nn s2.heap.objs.size σ' H' | .error _=>False)
  (gens:=⟨target,iter,ifs,0⟩::rest) (d := 0) rfl loop (T.self _ 0 _ _ _ F loop)) fun r s5 hr => ?_
 cases r with
 | error e=>exact hr.elim
 | ok f =>
   obtain ⟨σ5,H5,I5,n5⟩:=hr
   exact hR _ fp _ _ s5 σ5 H5 f I3 O I5 n5
noncomputable def qq (wi:TI) (g:TG) (tb:Addr->TC) (fr:List (Option Nat)):TE:=fun σ H Q=>wi σ H fun J H1 => ∀ p,H1 p=none->ce J g (tb p) (fun _ H2=>Q (.ref p) H2) (inh fr σ) (upd H1 p (.lst []))
theorem ki (B:aV sc X.env.scope X.N N' fr):∀ x∈sc.names,x.2 = .local->sc.names.lookup x.1=some .local:=fun x hx e=>by
 obtain ⟨n,k⟩:=x
 have e':k = .local:=e
 subst e'
 exact aO B.nd hx
theorem gI (z:X.calm=true) {elt target iter:Expr} {ifs:List Expr} {rest:List Comprehension} {pos:Pos}
 (hx:∀ e s,X.xe e s->False) (B:aV sc X.env.scope X.N N' fr) (F:∀ g',rest[0]? = some g'->g'.is_async=0) {wi:TI} (hi:PI X target iter wi) {g:TG} {tb:Addr->TC}
 (G:∀ s H fp,PG (aC X sc N' s H fp) target g)
 (L:∀ s H fp p,PB (aC X sc N' s H fp) (fun k=>b4 ifs (aC X sc N' s H fp).env >>= fun ok=>if ok=true then aU elt (⟨target,iter,ifs,0⟩::rest) sc pos 0 (.ref p) (aC X sc N' s H fp).env k else k) (tb p))
 (hs:∀ x,foldedSetIterable iter X.env x=pure x) :
 PE X (.ListComp elt (⟨target,iter,ifs,0⟩::rest) sc pos) (qq wi g tb fr):=by
 intro pins s σ H Q I h
 rw [eval_ListComp]
 refine wpAny_comprehension_free (use:=none) rfl hs (iF (fj I B)) B.kind (ki B) (lW (Nn:=fun p _ H2=>Q (.ref p) H2) (RR:=fun acc C=>compPost (model X.prog X.w) X.A X.xe none (EP X pins σ Q) acc C) z hx B F hi G L I h ?_)
 intro p fp s3 Z s' σ' H' f O U J q
 obtain ⟨m,Y,_⟩:=J.loc
 exact ⟨m,Y,fun h' j=>⟨.ref p,H',kh O U J j,rfl,q⟩⟩
theorem iG (hc:X.calm=true) {elt target iter:Expr} {ifs:List Expr} {rest:List Comprehension} {pos pos' spos:Pos} {x:Str} {i:Nat}
 (hx:∀ e s,X.xe e s->False) (B:aV sc X.env.scope X.N N' fr) (ha:∀ g',rest[0]? = some g'->g'.is_async=0) {wi:TI} (hi:PI X target iter wi) {g:TG} {tb:Addr->TC}
 (hg:∀ s H fp,PG (aC X sc N' s H fp) target g)
 (F:∀ s H fp p,PB (aC X sc N' s H fp) (fun k=>b4 ifs (aC X sc N' s H fp).env >>= fun ok=>if ok=true then aU elt (⟨target,iter,ifs,0⟩::rest) sc pos 0 (.ref p) (aC X sc N' s H fp).env k else k) (tb p))
 (hs:∀ x,foldedSetIterable iter X.env x=pure x) (G:PG X (.Name x pos') (im i))
 (L:swapsWith (.ListComp elt (⟨target,iter,ifs,0⟩::rest) sc pos) (some (.Name x pos')) spos.line X.env=pure true) :
 PS X (.Assign [.Name x pos'] (.ListComp elt (⟨target,iter,ifs,0⟩::rest) sc pos) spos) (lF (qq wi g tb fr) (im i)):=by
 intro pins s σ H D I h
 rw [exec_Assign_Name_used _ _ _ _ L]
 refine wpAny_bind (wpAny_standAt (wpAny_bind ?_))
 show wpAny _ X.A (do let _ <- comprehension (.ListComp elt (⟨target,iter,ifs,0⟩::rest) sc pos) sc X.env _ (newList []) false (eval iter X.env) (some (assign (.Name x pos') X.env))) _ _ s
 refine wpAny_bind (wpAny_mono (wpAny_comprehension_free (use:=some (assign (.Name x pos') X.env)) (Q:=fun _ s'=>SP X pins D .next s') rfl hs (iF (fj I B)) B.kind (ki B)
  (lW (Nn:=fun p _ H2=>D.nx (σ.set i (some (.ref p))) H2) (RR:=fun acc C=>compPost (model X.prog X.w) X.A X.xe (some (assign (.Name x pos') X.env)) (fun _ s'=>SP X pins D .next s') acc C) hc hx B ha hi hg F I h ?_)) (fun _ s' hq=>wpAny_pure (wpAny_pure hq)) fun _ _ e=>e)
 intro p fp s3 H3 s' σ' H' f j f3 J q
 obtain ⟨m,⟨o,es,ep,ho,hd,hk,hm⟩,_⟩:=J.loc
 have I4:Inv X pins σ H' s':=kh (h':=s'.heap) j f3 J ⟨rfl,fun _ _=>rfl⟩
 have hL:(aC X sc N' s3 H3 fp).env.locals=s3.heap.objs.size:=rfl
 rw [hL] at ho
 have O:H' s3.heap.objs.size=none:=J.free
 have neL:s3.heap.objs.size≠X.env.locals:=Nat.ne_of_gt j.lt
 have nfs:s3.heap.objs.size∉X.fs:=j.nofs (Nat.le_refl _)
 have I5:Inv X (pins++[(s3.heap.objs.size,o)]) σ H' s':=I4.pins_of fun pr U=>by
  rcases List.mem_append.mp U with z | z
  ·exact I4.pin pr (List.mem_append_right _ z)
  ·have e:pr=(s3.heap.objs.size,o):=by simpa using z
   subst e
   exact ⟨ho,O,neL,nfs,fun v z=>by rw [hd] at z;cases z⟩
 show wpAny _ X.A (assign (.Name x pos') X.env (.ref p)) _ _ _
 refine thn (G _ s' σ H' (.ref p) (.ref p) D.nx I5 rfl q) fun _ s6 ⟨σ6,H6,I6,q6⟩ => ?_
 obtain ⟨Y,Z,_⟩:=I6.pin (s3.heap.objs.size,o) (List.mem_append_right _ (List.mem_append_right _ (by simp)))
 refine ⟨m,⟨o,es,ep,Y,hd,hk,hm⟩,fun h' Dv=>⟨σ6,H6, ?_,q6⟩⟩
 refine (I6.unpinned).turned (t':=s6.toks) (it:=s3.heap.objs.size) (fun b o F e=>(Dv.2 b F).trans e) Z neL (.inr j.sz) (fun y c e z => ?_) fun pr U z => ?_
 ·obtain ⟨v,q⟩:=j.cell y c e
  exact absurd q.lt (by rw [z];exact Nat.lt_irrefl _)
 ·exact absurd (Heap.lt_size (j.pin pr U).1) (by rw [z];exact Nat.lt_irrefl _)
end
end
end
end L2
namespace L2
namespace Zp
open PySem PySem.Spec PyProof.Rows
noncomputable def At (t:Bool) (h:Heap) (i l:Addr) (k:Nat):Prop:=match t with | true=>h.IsTupleIter i l k | false=>h.IsListIter i l k
noncomputable def Sq (t:Bool) (h:Heap) (l:Addr) (xs:Array Value):Prop:=match t with | true=>h.IsTuple l xs | false=>h.IsList l xs
theorem At.up {t:Bool} {h h':Heap} {i l:Addr} {k:Nat} (x:At t h i l k) (e:∀ o,h.get? i=some o->h'.get? i=some o):At t h' i l k:=by
 cases t <;> (obtain ⟨o,ho,r⟩:=x;exact ⟨o,e o ho,r⟩)
theorem Sq.up {t:Bool} {h h':Heap} {l:Addr} {xs:Array Value} (x:Sq t h l xs) (e:∀ o,h.get? l=some o->h'.get? l=some o):Sq t h' l xs:=by
 cases t <;> (obtain ⟨o,ho,r⟩:=x;exact ⟨o,e o ho,r⟩)
theorem At.lt {t:Bool} {h:Heap} {i l:Addr} {k:Nat} (x:At t h i l k):∃ o,h.get? i=some o /\ ∀ v,o.data ≠ .cell v:=by
 cases t <;> (obtain ⟨o,ho,j,hd⟩:=x;exact ⟨o,ho,fun v z=>by rw [hd] at z;cases z⟩)
section
variable {prog:Program} {w:World} {A:Around} {E:Value->Shared->Prop} {s:Shared}
open Builtin.SmallTypes in
theorem vE {i l:Addr} {k:Nat} {xs:Array Value} {x:Value} {Q:Value->Shared->Prop} (hi:s.heap.IsTupleIter i l k) (L:s.heap.IsTuple l xs) (hx:xs[k]? = some x)
 (q:∀ h',h'.IsTupleIter i l (k+1)->Heap.SameBut i s.heap h'->Q x { s with heap:=h' }):wpAny (model prog w) A (nextOf (.ref i)) Q E s:=by
 obtain ⟨ob,z,B,j⟩:=id hi
 obtain ⟨oq,G,_,nq,J⟩:=L
 unfold nextOf
 refine wpAny_bind (wpAny_callSpecial?_slot (name:=Str.ofString "__next__") hi.typeIs F.slot_tuple_iterator_next (wpAny_call_entry F.slot_tuple_iterator_next hi.typeIs F.entry_tuple_iterator_next ?_ (F.args_tuple_iterator_next_1 _)))
 refine wpAny_bind (m:=field (.ref i) 0) (wpAny_field z j (x := .ref l) rfl ?_)
 refine (if_neg (c:=(Value.ref l==Value.none)=true) Bool.false_ne_true) ▸ ?_
 refine wpAny_bind (m:=field (.ref i) 1) (wpAny_field z j (x := .int k 0) rfl ?_)
 refine wpAny_bind (m:=seqItems? (.ref l)) (wpAny_seqItems G J ?_)
 simp only [Int.toNat_natCast,hx]
 refine wpAny_bind (wpAny_setField z j (by simp) (wpAny_pure ⟨x,rfl,wpAny_pure (q _ ⟨_,Heap.get?_update_self _ z (Obj.isFreed_of_fields (Obj.data_mapFields j _)),(Obj.cls_mapFields ..).trans B, ?_⟩ (Heap.SameBut.update ..))⟩))
 rw [Obj.data_mapFields j];simp [rawInt]
open Builtin.SmallTypes in
theorem yH {i l:Addr} {k:Nat} {xs:Array Value} {Q:Value->Shared->Prop} (J:A.handled=none) (hi:s.heap.IsTupleIter i l k) (L:s.heap.IsTuple l xs) (hx:xs[k]? = none)
 (q:∀ h' e,Heap.ExtBut i s.heap h'->(∃ o,h'.get? e=some o/\o.cls = .type "StopIteration")->E (.ref e) { s with heap:=h' }):wpAny (model prog w) A (nextOf (.ref i)) Q E s:=by
 obtain ⟨ob,j,O,z⟩:=id hi
 obtain ⟨oq,B,_,nq,G⟩:=L
 unfold nextOf
 refine wpAny_bind (wpAny_callSpecial?_slot (name:=Str.ofString "__next__") hi.typeIs F.slot_tuple_iterator_next (wpAny_call_entry F.slot_tuple_iterator_next hi.typeIs F.entry_tuple_iterator_next ?_ (F.args_tuple_iterator_next_1 _)))
 refine wpAny_bind (m:=field (.ref i) 0) (wpAny_field j z (x := .ref l) rfl ?_)
 refine (if_neg (c:=(Value.ref l==Value.none)=true) Bool.false_ne_true) ▸ ?_
 refine wpAny_bind (m:=field (.ref i) 1) (wpAny_field j z (x := .int k 0) rfl ?_)
 refine wpAny_bind (m:=seqItems? (.ref l)) (wpAny_seqItems B G ?_)
 simp only [Int.toNat_natCast,hx]
 refine wpAny_bind (wpAny_rule (wpAny_bind (wpAny_setField j z (by simp) ?_)))
 refine wpAny_bind (m:=newExc (.type "StopIteration") []) ?_
 simp only [newExc,newTuple]
 refine wpAny_bind (wpAny_newObj_type ?_ (by size_fits))
 refine wpAny_bind (m:=firstArgMember _ _) (wpAny_of_eq (a:=Value.none) (by first | rfl | (simp only [firstArgMember];rfl)) (wpAny_newObj_type ?_ (by size_fits)))
 simp only [raiseNew]
 refine wpAny_bind (wpAny_handled ?_)
 first | rw [show A.in1.handled=none from J] | rw [J]
 exact wpAny_bind (wpAny_pure (wpAny_throw (q _ _ (((Heap.SameBut.update ..).extBut.push _).push _) ⟨_,Heap.get?_push_size _ rfl,rfl⟩)))
open Builtin.SmallTypes in
theorem fT {t:Bool} {i l:Addr} {k:Nat} {xs:Array Value} {x:Value} {Q:Value->Shared->Prop} (hi:At t s.heap i l k) (j:Sq t s.heap l xs) (hx:xs[k]? = some x)
 (q:∀ h',At t h' i l (k+1)->Heap.SameBut i s.heap h'->Q x { s with heap:=h' }):wpAny (model prog w) A (nextOf (.ref i)) Q E s:=by
 cases t with
 | true=>exact vE hi j hx q
 | false=>exact wpAny_nextOf_list_item hi j hx q
open Builtin.SmallTypes in
theorem nx_end {t:Bool} {i l:Addr} {k:Nat} {xs:Array Value} {Q:Value->Shared->Prop} (j:A.handled=none) (hi:At t s.heap i l k) (z:Sq t s.heap l xs) (hx:xs[k]? = none)
 (q:∀ h' e,Heap.ExtBut i s.heap h'->(∃ o,h'.get? e=some o/\o.cls = .type "StopIteration")->E (.ref e) { s with heap:=h' }):wpAny (model prog w) A (nextOf (.ref i)) Q E s:=by
 cases t with
 | true=>exact yH j hi z hx q
 | false=>exact wpAny_nextOf_list_end j hi z hx q
open Builtin.SmallTypes in
theorem AV {z T O i j a b:Addr} {t u:Bool} {k:Nat} {xs ys:Array Value} {x y p r:Value} {Q:Value->Shared->Prop} (D:ZipApart z T O i j a b)
 (G:IsZip s.heap z T O .none) (hT:IsPair s.heap T (.ref i) (.ref j)) (hO:IsPair s.heap O p r)
 (hi:At t s.heap i a k) (hj:At u s.heap j b k) (ha:Sq t s.heap a xs) (hb:Sq u s.heap b ys) (hx:xs[k]? = some x) (hy:ys[k]? = some y)
 (q:∀ h',IsZip h' z T O (rawInt s.heap.objs.size)->IsPair h' O x y->At t h' i a (k+1)->At u h' j b (k+1)->IsPair h' s.heap.objs.size x y ->
   (∀ c o,c≠z->c≠O->c≠i->c≠j->s.heap.get? c=some o->h'.get? c=some o)->Q (.ref s.heap.objs.size) { s with heap:=h' }) :
 wpAny (model prog w) A (Builtin.«zip.__next__» ⟨[.ref z],[]⟩) (fun fin s' => ∃ v,fin = .done (.ret v)/\Q v s') E s:=by
 refine wpAny_bind (m:=field (.ref z) 2) (wpAny_field G rfl (x := .bool false) rfl ?_)
 refine wpAny_bind (m:=field (.ref z) 3) (wpAny_field G rfl (x := .ref T) rfl ?_)
 refine wpAny_bind (wpAny_seqItems hT rfl ?_)
 refine wpAny_bind (m:=ownedTupleIsFree (.ref z)) ?_
 unfold ownedTupleIsFree
 refine wpAny_bind (wpAny_field G rfl (x := .none) rfl (wpAny_pure ?_))
 simp only [if_true]
 refine wpAny_bind (wpAny_rule (wpAny_bind (wpAny_field G rfl (x := .ref O) rfl (wpAny_bind (wpAny_setField_rec G (by simp) fun g1 z1 s1 => ?_)))))
 have Z1:IsZip g1 z T O .ellipsis:=z1
 clear z1
 refine wpAny_bind ?_
 simp only [List.zipIdx_cons,List.zipIdx_nil,List.forIn_cons,List.forIn_nil]
 refine wpAny_bind (wpAny_bind (wpAny_onRaise (wpAny_bind (m:=nextOf (.ref i)) ?_)))
 refine fT (hi.up fun o e=>s1.extBut _ o D.i1z e) (ha.up fun o e=>s1.extBut _ o D.l1z e) hx fun g2 U s2=>wpAny_pure ?_
 have O2:IsPair g2 O p r:=s2.extBut _ _ D.TOi1 (s1.extBut _ _ D.TOz hO)
 refine wpAny_bind (wpAny_seqItems O2 rfl (wpAny_bind (wpAny_updateSeq_pair O2 fun g3 o3 s3 => ?_)))
 have O3:IsPair g3 O x r:=o3
 clear o3
 refine wpAny_bind (wpAny_letGo (wpAny_pure (wpAny_bind (wpAny_bind (wpAny_onRaise (wpAny_bind (m:=nextOf (.ref j)) ?_))))))
 refine fT (hj.up fun o e=>s3.extBut _ o D.TOi2.symm (s2.extBut _ o D.i12.symm (s1.extBut _ o D.i2z e))) (hb.up fun o e=>s3.extBut _ o D.l2TO (s2.extBut _ o D.l2i1 (s1.extBut _ o D.l2z e))) hy fun g4 Y s4=>wpAny_pure ?_
 have O4:IsPair g4 O x r:=s4.extBut _ _ D.TOi2 O3
 refine wpAny_bind (wpAny_seqItems O4 rfl (wpAny_bind (wpAny_updateSeq_pair O4 fun B o5 s5 => ?_)))
 have O5:IsPair B O x y:=o5
 clear o5
 refine wpAny_bind (wpAny_letGo (wpAny_pure (wpAny_pure (wpAny_bind (wpAny_seqItems O5 rfl (wpAny_bind (wpAny_newTuple ?_)))))))
 have sz:B.objs.size=s.heap.objs.size:=by rw [s5.1,s4.1,s3.1,s2.1,s1.1]
 have k5:∀ c o,c≠z->c≠O->c≠i->c≠j->s.heap.get? c=some o->B.get? c=some o:=fun c o F J Z c4 e =>
  s5.extBut _ _ J (s4.extBut _ _ c4 (s3.extBut _ _ J (s2.extBut _ _ Z (s1.extBut _ _ F e))))
 have Z5:IsZip B z T O .ellipsis:=s5.extBut _ _ D.TOz.symm (s4.extBut _ _ D.i2z.symm (s3.extBut _ _ D.TOz.symm (s2.extBut _ _ D.i1z.symm Z1)))
 have I5:At t B i a (k+1):=U.up fun o e=>s5.extBut _ o D.TOi1.symm (s4.extBut _ o D.i12 (s3.extBut _ o D.TOi1.symm e))
 have J5:At u B j b (k+1):=Y.up fun o e=>s5.extBut _ o D.TOi2.symm e
 have zl:z < B.objs.size:=Heap.lt_size Z5
 refine wpAny_bind (m:=ownedTupleHandOut (.ref z) (.ref B.objs.size)) ?_
 unfold ownedTupleHandOut
 refine wpAny_bind (wpAny_setField_rec (Heap.get?_push_of_some _ Z5) (by simp) fun g7 z7 s7 => ?_)
 have Z7:IsZip g7 z T O (rawInt B.objs.size):=z7
 clear z7
 refine wpAny_setField_rec Z7 (by simp) fun L z8 s8 => ?_
 have Z8:IsZip L z T O (rawInt B.objs.size):=z8
 clear z8
 have up:∀ c o,c≠z->B.get? c=some o->L.get? c=some o:=fun c o F e=>s8.extBut _ _ F (s7.extBut _ _ F (Heap.get?_push_of_some _ e))
 have P8:IsPair L B.objs.size x y:=s8.extBut _ _ (Nat.ne_of_gt zl) (s7.extBut _ _ (Nat.ne_of_gt zl) (Heap.get?_push_size _ rfl))
 rw [sz] at Z8 P8
 refine wpAny_pure ⟨_,rfl, ?_⟩
 show Q (.ref B.objs.size) _
 rw [sz]
 exact q L Z8 (up _ _ D.TOz O5) (I5.up fun o e=>up _ o D.i1z e) (J5.up fun o e=>up _ o D.i2z e) P8 fun c o F J Z c4 e=>up c o F (k5 c o F J Z c4 e)
open Builtin.SmallTypes in
theorem Cq {z T O i j a b:Addr} {t u:Bool} {k:Nat} {xs ys:Array Value} {p r:Value} {Q:Fin->Shared->Prop} (hn:A.handled=none) (D:ZipApart z T O i j a b)
 (G:IsZip s.heap z T O .none) (hT:IsPair s.heap T (.ref i) (.ref j)) (hO:IsPair s.heap O p r)
 (hi:At t s.heap i a k) (hj:At u s.heap j b k) (ha:Sq t s.heap a xs) (hb:Sq u s.heap b ys) (J:xs[k]? = none∨ys[k]? = none)
 (q:∀ h' e,(∀ c o,c≠z->c≠O->c≠i->c≠j->s.heap.get? c=some o->h'.get? c=some o)->(∃ o,h'.get? e=some o/\o.cls = .type "StopIteration")->E (.ref e) { s with heap:=h' }) :
 wpAny (model prog w) A (Builtin.«zip.__next__» ⟨[.ref z],[]⟩) Q E s:=by
 refine wpAny_bind (m:=field (.ref z) 2) (wpAny_field G rfl (x := .bool false) rfl ?_)
 refine wpAny_bind (m:=field (.ref z) 3) (wpAny_field G rfl (x := .ref T) rfl ?_)
 refine wpAny_bind (wpAny_seqItems hT rfl ?_)
 refine wpAny_bind (m:=ownedTupleIsFree (.ref z)) ?_
 unfold ownedTupleIsFree
 refine wpAny_bind (wpAny_field G rfl (x := .none) rfl (wpAny_pure ?_))
 simp only [if_true]
 refine wpAny_bind (wpAny_rule (wpAny_bind (wpAny_field G rfl (x := .ref O) rfl (wpAny_bind (wpAny_setField_rec G (by simp) fun g1 z1 s1 => ?_)))))
 have Z1:IsZip g1 z T O .ellipsis:=z1
 clear z1
 refine wpAny_bind ?_
 simp only [List.zipIdx_cons,List.zipIdx_nil,List.forIn_cons,List.forIn_nil]
 refine wpAny_bind (wpAny_bind (wpAny_onRaise (wpAny_bind (m:=nextOf (.ref i)) ?_)))
 have L:At t g1 i a k:=hi.up fun o e=>s1.extBut _ o D.i1z e
 have U:Sq t g1 a xs:=ha.up fun o e=>s1.extBut _ o D.l1z e
 cases hx:xs[k]? with
 | none =>
   refine nx_end hn L U hx fun g2 e s2 he => ?_
   obtain ⟨oe,B,F⟩:=he
   have Z2:IsZip g2 z T O .ellipsis:=s2 _ _ D.i1z.symm Z1
   have ez:e≠z:=fun x=>by subst x;rw [Z2] at B;cases B;simp at F
   exact wpAny_setField_rec Z2 (by simp) fun g3 _ s3=>q g3 e (fun c o Y _ Z _ x=>s3.extBut _ _ Y (s2 _ _ Z (s1.extBut _ _ Y x))) ⟨oe,s3.extBut _ _ ez B,F⟩
 | some x =>
   have hy:ys[k]? = none:=J.elim (fun z=>by rw [hx] at z;cases z) id
   refine fT L U hx fun g2 Dv s2=>wpAny_pure ?_
   have O2:IsPair g2 O p r:=s2.extBut _ _ D.TOi1 (s1.extBut _ _ D.TOz hO)
   refine wpAny_bind (wpAny_seqItems O2 rfl (wpAny_bind (wpAny_updateSeq_pair O2 fun g3 o3 s3 => ?_)))
   refine wpAny_bind (wpAny_letGo (wpAny_pure (wpAny_bind (wpAny_bind (wpAny_onRaise (wpAny_bind (m:=nextOf (.ref j)) ?_))))))
   refine nx_end hn (hj.up fun o e=>s3.extBut _ o D.TOi2.symm (s2.extBut _ o D.i12.symm (s1.extBut _ o D.i2z e))) (hb.up fun o e=>s3.extBut _ o D.l2TO (s2.extBut _ o D.l2i1 (s1.extBut _ o D.l2z e))) hy fun g4 e s4 he => ?_
   obtain ⟨oe,B,F⟩:=he
   have Z4:IsZip g4 z T O .ellipsis:=s4 _ _ D.i2z.symm (s3.extBut _ _ D.TOz.symm (s2.extBut _ _ D.i1z.symm Z1))
   have ez:e≠z:=fun x=>by subst x;rw [Z4] at B;cases B;simp at F
   exact wpAny_setField_rec Z4 (by simp) fun g5 _ s5=>q g5 e (fun c o Y c2 Z c4 x=>s5.extBut _ _ Y (s4 _ _ c4 (s3.extBut _ _ c2 (s2.extBut _ _ Z (s1.extBut _ _ Y x))))) ⟨oe,s5.extBut _ _ ez B,F⟩
theorem nxt_item {z T O i j a b:Addr} {t u:Bool} {k:Nat} {xs ys:Array Value} {x y p r:Value} {Q:Option Value->Shared->Prop} (D:ZipApart z T O i j a b)
 (B:IsZip s.heap z T O .none) (G:IsPair s.heap T (.ref i) (.ref j)) (J:IsPair s.heap O p r)
 (hi:At t s.heap i a k) (L:At u s.heap j b k) (U:Sq t s.heap a xs) (Y:Sq u s.heap b ys) (hx:xs[k]? = some x) (Z:ys[k]? = some y)
 (q:∀ h',IsZip h' z T O (rawInt s.heap.objs.size)->IsPair h' O x y->At t h' i a (k+1)->At u h' j b (k+1)->IsPair h' s.heap.objs.size x y ->
   (∀ c o,c≠z->c≠O->c≠i->c≠j->s.heap.get? c=some o->h'.get? c=some o)->Q (some (.ref s.heap.objs.size)) { s with heap:=h' }) :
 wpAny (model prog w) A (pyNext (.ref z)) Q E s:=by
 have ty:s.TypeIs (.ref z) "zip" := ⟨_,B,rfl⟩
 unfold pyNext
 exact wpAny_bind (wpAny_attempt (wpAny_callSpecial?_slot (name:=Str.ofString "__next__") ty F.slot_zip_next (wpAny_call_entry F.slot_zip_next ty F.entry_zip_next
  (AV D B G J hi L U Y hx Z fun h' a1 a2 a3 a4 a5 a6=>wpAny_pure (q h' a1 a2 a3 a4 a5 a6)) (F.args_zip_next_1 _))))
theorem nxt_end {z T O i j a b:Addr} {t u:Bool} {k:Nat} {xs ys:Array Value} {p r:Value} {Q:Option Value->Shared->Prop} (J:A.handled=none) (D:ZipApart z T O i j a b)
 (G:IsZip s.heap z T O .none) (L:IsPair s.heap T (.ref i) (.ref j)) (U:IsPair s.heap O p r)
 (hi:At t s.heap i a k) (Y:At u s.heap j b k) (Z:Sq t s.heap a xs) (hb:Sq u s.heap b ys) (B:xs[k]? = none∨ys[k]? = none)
 (q:∀ h',(∀ c o,c≠z->c≠O->c≠i->c≠j->s.heap.get? c=some o->h'.get? c=some o)->Q none { s with heap:=h' }):wpAny (model prog w) A (pyNext (.ref z)) Q E s:=by
 have ty:s.TypeIs (.ref z) "zip" := ⟨_,G,rfl⟩
 unfold pyNext
 refine wpAny_bind (wpAny_attempt (wpAny_callSpecial?_slot (name:=Str.ofString "__next__") ty F.slot_zip_next (wpAny_call_entry F.slot_zip_next ty F.entry_zip_next
  (Cq J D G L U hi Y Z hb B fun h' e hk he => ?_) (F.args_zip_next_1 _))))
 obtain ⟨o,ho,hc⟩:=he
 exact wpAny_bind (wpAny_isInstance (T := "StopIteration") (b:=true) ⟨o,ho,hc⟩ isSubtype_stop (wpAny_pure (q _ hk)))
noncomputable def itO (t:Bool) (l:Addr):Obj:=match t with | true => { cls := .type "tuple_iterator",data := .fields #[.ref l, .int 0 0] } | false => { cls := .type "list_iterator",data := .fields #[.ref l, .int 0 0] }
noncomputable def zH1 (h:Heap) (t:Bool) (a:Addr):Heap:=h.push (itO t a)
noncomputable def zH2 (h:Heap) (t u:Bool) (a b:Addr):Heap:=(zH1 h t a).push (itO u b)
noncomputable def zH3 (h:Heap) (t u:Bool) (a b:Addr):Heap:=(zH2 h t u a b).push { cls := .type "tuple",data := .seq #[.ref h.objs.size, .ref (zH1 h t a).objs.size] }
noncomputable def zH4 (h:Heap) (t u:Bool) (a b:Addr):Heap:=(zH3 h t u a b).push { cls := .type "tuple",data := .seq #[.none, .none] }
noncomputable def zH5 (h:Heap) (t u:Bool) (a b:Addr):Heap:=(zH4 h t u a b).push { cls := .type "zip",data := .fields #[.none, .bool false, .bool false, .ref (zH2 h t u a b).objs.size, .ref (zH3 h t u a b).objs.size] }
theorem sx (t u:Bool) (a b:Addr) (xs ys:Array Value) :
 Meets (Builtin.«zip.__new__» ⟨[.type "zip", .ref a, .ref b],[]⟩) (fun _ R s=>Sq t s.heap a xs/\Sq u s.heap b ys/\R (.ok (.ret (.ref (zH4 s.heap t u a b).objs.size))) { s with heap:=zH5 s.heap t u a b }) :=
 .of_wp fun prog w A R s h=>by
  obtain ⟨j,g,d,tk,os⟩:=s;obtain ⟨B,F,h⟩:=h
  have hs:=sub_zip
  cases t <;> cases u
  ·have q:Heap.IsList (Shared.heap ⟨j,g,d,tk,os⟩) a xs:=B
   have z:Heap.IsList (Shared.heap ⟨j.push { cls := .type "list_iterator",data := .fields #[.ref a, .int 0 0] },g,d,tk,os⟩) b ys:=Heap.IsList.push F _
   wp_walk using wpAny_pyIter_list q,wpAny_pyIter_list z
   exact ⟨_,rfl,h⟩
  ·have q:Heap.IsList (Shared.heap ⟨j,g,d,tk,os⟩) a xs:=B
   have z:Heap.IsTuple (Shared.heap ⟨j.push { cls := .type "list_iterator",data := .fields #[.ref a, .int 0 0] },g,d,tk,os⟩) b ys:=Heap.IsTuple.push F _
   wp_walk using wpAny_pyIter_list q,wpAny_pyIter_tuple z
   exact ⟨_,rfl,h⟩
  ·have q:Heap.IsTuple (Shared.heap ⟨j,g,d,tk,os⟩) a xs:=B
   have z:Heap.IsList (Shared.heap ⟨j.push { cls := .type "tuple_iterator",data := .fields #[.ref a, .int 0 0] },g,d,tk,os⟩) b ys:=Heap.IsList.push F _
   wp_walk using wpAny_pyIter_tuple q,wpAny_pyIter_list z
   exact ⟨_,rfl,h⟩
  ·have q:Heap.IsTuple (Shared.heap ⟨j,g,d,tk,os⟩) a xs:=B
   have z:Heap.IsTuple (Shared.heap ⟨j.push { cls := .type "tuple_iterator",data := .fields #[.ref a, .int 0 0] },g,d,tk,os⟩) b ys:=Heap.IsTuple.push F _
   wp_walk using wpAny_pyIter_tuple q,wpAny_pyIter_tuple z
   exact ⟨_,rfl,h⟩
theorem at_new {t:Bool} {h:Heap} {i l:Addr} (e:h.get? i=some (itO t l)):At t h i l 0:=by
 cases t <;> exact ⟨_,e,rfl,rfl⟩
theorem call_zip {t u:Bool} {a b:Addr} {xs ys:Array Value} {Q:Value->Shared->Prop} (ha:Sq t s.heap a xs) (hb:Sq u s.heap b ys)
 (q:∀ h',IsZip h' (s.heap.objs.size+4) (s.heap.objs.size+2) (s.heap.objs.size+3) .none->IsPair h' (s.heap.objs.size+2) (.ref s.heap.objs.size) (.ref (s.heap.objs.size+1)) ->
   IsPair h' (s.heap.objs.size+3) .none .none->At t h' s.heap.objs.size a 0->At u h' (s.heap.objs.size+1) b 0->h'.objs.size=s.heap.objs.size+5 ->
   (∀ c o,s.heap.get? c=some o->h'.get? c=some o)->Q (.ref (s.heap.objs.size+4)) { s with heap:=h' }) :
 wpAny (model prog w) A (call (.type "zip") [.ref a, .ref b]) Q E s:=by
 refine callType_new F.called_zip (by decide) (F.typeCall_zip_2 _ _) (F.newCall_zip_2 _ _) (fun obj=>F.args_object_init_3 obj _ _) F.entry_zip_new (sx t u a b xs ys) ⟨ha,hb, ?_⟩
 have B:(zH1 s.heap t a).objs.size=s.heap.objs.size+1:=Heap.size_push ..
 have G:(zH2 s.heap t u a b).objs.size=s.heap.objs.size+2:=by unfold zH2;rw [Heap.size_push,B]
 have J:(zH3 s.heap t u a b).objs.size=s.heap.objs.size+3:=by unfold zH3;rw [Heap.size_push,G]
 have L:(zH4 s.heap t u a b).objs.size=s.heap.objs.size+4:=by unfold zH4;rw [Heap.size_push,J]
 have z5:(zH5 s.heap t u a b).objs.size=s.heap.objs.size+5:=by unfold zH5;rw [Heap.size_push,L]
 have j:∀ {c o},(zH4 s.heap t u a b).get? c=some o->(zH5 s.heap t u a b).get? c=some o:=fun e=>Heap.get?_push_of_some _ e
 have z:∀ {c o},(zH3 s.heap t u a b).get? c=some o->(zH4 s.heap t u a b).get? c=some o:=fun e=>Heap.get?_push_of_some _ e
 have O:∀ {c o},(zH2 s.heap t u a b).get? c=some o->(zH3 s.heap t u a b).get? c=some o:=fun e=>Heap.get?_push_of_some _ e
 have Y:∀ {c o},(zH1 s.heap t a).get? c=some o->(zH2 s.heap t u a b).get? c=some o:=fun e=>Heap.get?_push_of_some _ e
 have k1:∀ {c o},s.heap.get? c=some o->(zH1 s.heap t a).get? c=some o:=fun e=>Heap.get?_push_of_some _ e
 have f:∀ t l,(itO t l).isFreed=false:=fun t l=>by cases t <;> rfl
 have U:(zH5 s.heap t u a b).get? (zH4 s.heap t u a b).objs.size=some _:=Heap.get?_push_size _ rfl
 have Z:(zH5 s.heap t u a b).get? (zH3 s.heap t u a b).objs.size=some _:=j (Heap.get?_push_size _ rfl)
 have g3:(zH5 s.heap t u a b).get? (zH2 s.heap t u a b).objs.size=some _:=j (z (Heap.get?_push_size _ rfl))
 have g2:(zH5 s.heap t u a b).get? (zH1 s.heap t a).objs.size=some _:=j (z (O (Heap.get?_push_size _ (f u b))))
 have g1:(zH5 s.heap t u a b).get? s.heap.objs.size=some _:=j (z (O (Y (Heap.get?_push_size _ (f t a)))))
 show _/\_
 rw [G,J,L] at U
 rw [B,G] at g3
 rw [J] at Z
 rw [B] at g2
 rw [L]
 exact ⟨⟨_,U,rfl⟩,q _ U g3 Z (at_new g1) (at_new g2) z5 fun c o x=>j (z (O (Y (k1 x))))⟩
end
end Zp
end L2
namespace L2
open PySem PySem.Spec PyProof.Rows
section
section
variable {X:Cx} {pins:List (Addr×Obj)} {σ:St} {H:Hp} {s:Shared} {h':Heap}
theorem Inv.turnedL {t':Nat} {fp:List Addr} (I:Inv X pins σ H s) (hf:∀ b∈fp,cb X pins H b) (k:∀ b o,b∉fp->s.heap.get? b=some o->h'.get? b=some o):Inv X pins σ H { s with heap:=h',toks:=t' }:=by
 have nit:∀ b u,H b=some u->b∉fp:=fun b u e z=>by rw [(hf b z).1] at e;cases e
 refine I.step (g':=s.gens) (d':=s.drawn) (ch:=fp) (fun b B => ?_) (fun b o _ _ j e _=>k b o j e) (fun b o _ _ j e _=>⟨o.slots,k b o j e⟩) (fun _ _ _ _ n=>n)
  (fun b o j e=>⟨o,k b o j e⟩) (fun _ _ e=>e) (fun _ _ _ e=>e) (fun b ps e=>⟨#[],by rw [e];simp⟩) (fun m hm => ?_) (fun b u e => ?_) I.bare
 ·obtain ⟨_,f1,_,F,f4,G⟩:=hf b B
  exact ⟨F,f1,f4,G⟩
 ·obtain ⟨o,es,ep,ho,r⟩:=hm
  exact ⟨o,es,ep,k _ o (fun z=>(hf _ z).2.1 rfl) ho,r⟩
 ·refine (I.hok b u e).stay (fun c v j q=>k c v ?_ q) (fun _ q=>q) fun _ _ q=>q
  rcases j with z | z
  ·rw [z];exact nit b u e
  ·exact nit c _ z
end
noncomputable def SqV (K:Frag) (t:Bool) (H:Hp) (a:Addr) (xs:List V):Prop:=match t with | true=>SqT K H a xs | false=>SqL K H a xs
theorem Inv.sqv {X:Cx} {pins:List (Addr×Obj)} {σ:St} {H:Hp} {s:Shared} {t:Bool} {a:Addr} {xs:List V} (I:Inv X pins σ H s) (h:SqV X.K t H a xs):∃ its:List Value,Vals xs its/\Zp.Sq t s.heap a its.toArray:=by
 cases t with
 | true=>obtain ⟨its,r,p,_⟩:=I.tuple h;exact ⟨its,r,p⟩
 | false=>obtain ⟨its,r,p,_⟩:=I.list h;exact ⟨its,r,p.isList⟩
theorem Inv.sqv_inj {X:Cx} {pins:List (Addr×Obj)} {σ:St} {H:Hp} {s:Shared} {t:Bool} {a:Addr} {xs ys:List V} (I:Inv X pins σ H s) (h:SqV X.K t H a xs) (h':SqV X.K t H a ys):xs=ys:=by
 cases t with
 | true=>exact I.tuple_inj h h'
 | false=>exact I.list_inj h h'
noncomputable def Itz (K:Frag) (t u:Bool) (a b:Addr):It :=
 ⟨fun i H => ∃ xs ys x y,SqV K t H a xs/\SqV K u H b ys/\xs[i]? = some x/\ys[i]? = some y,
  fun i H v H' => ∃ p x y,H p=none/\v = .ref p/\H'=upd H p (.tup [x,y]) /\ ∀ xs ys,SqV K t H a xs->SqV K u H b ys->xs[i]? = some x/\ys[i]? = some y,
  fun i H => ∃ xs ys,SqV K t H a xs/\SqV K u H b ys/\(xs.length<=i∨ys.length<=i)⟩
theorem vF {P:Program} {w:World} {K:Frag} {elts:List Expr} {cx} {pos:Pos} {t u:Bool} {z T O i j a b:Addr} (D:ZipApart z T O i j a b) :
 fb P w K (.Tuple elts cx pos) (Itz K t u a b) [z,T,O,i,j] z (fun k h=>IsZip h z T O .none/\IsPair h T (.ref i) (.ref j)/\(∃ p r,IsPair h O p r)/\Zp.At t h i a k/\Zp.At u h j b k) where
 mem:=by simp
 obj:=fun k h ⟨B,F,⟨p,r,G⟩,hi,J⟩ c q=>by
  simp only [List.mem_cons,List.not_mem_nil,or_false] at q
  rcases q with rfl | rfl | rfl | rfl | rfl
  ·exact ⟨_,B,fun v e=>by cases e⟩
  ·exact ⟨_,F,fun v e=>by cases e⟩
  ·exact ⟨_,G,fun v e=>by cases e⟩
  ·exact hi.lt
  ·exact J.lt
 keep:=fun k h h' ⟨B,F,⟨p,r,G⟩,hi,J⟩ kk=>⟨kk z (by simp) _ B,kk T (by simp) _ F,⟨p,r,kk O (by simp) _ G⟩,hi.up fun o e=>kk i (by simp) o e,J.up fun o e=>kk j (by simp) o e⟩
 item:=by
  intro X Y hw Z q k pins s σ H E I hf st hg
  subst Y hw Z
  obtain ⟨B,F,⟨p,r,G⟩,hi,J⟩:=st
  obtain ⟨xs,ys,x,y,qx,qy,ex,ey⟩:=hg
  obtain ⟨is,rx,px⟩:=I.sqv qx
  obtain ⟨js,ry,py⟩:=I.sqv qy
  obtain ⟨ux,Dv,rux⟩:=rx.get ex
  obtain ⟨uy,Dw,ruy⟩:=ry.get ey
  refine Zp.nxt_item D B F G hi J px py (by simpa using Dv) (by simpa using Dw) fun h1 z1 o1 i1 j1 p1 U=>⟨_,rfl, ?_⟩
  refine wpAny_letOwnedTupleGo_zip (s := { s with heap:=h1 }) z1 fun h2 z2 s2 => ?_
  have lt:∀ {c o},s.heap.get? c=some o->c≠s.heap.objs.size:=fun e=>Nat.ne_of_lt (Heap.lt_size e)
  have nz:s.heap.objs.size≠z:=(lt B).symm
  have Dx:∃ o,s.heap.get? i=some o:=hi.lt.imp fun _ h=>h.1
  have Dy:∃ o,s.heap.get? j=some o:=J.lt.imp fun _ h=>h.1
  have up:∀ c o,c≠z->h1.get? c=some o->h2.get? c=some o:=fun c o n e=>s2.extBut _ _ n e
  have IL:Inv X pins σ (upd H s.heap.objs.size (.tup [x,y])) { s with heap:=s.heap.push { cls := .type "tuple",data := .seq #[ux,uy] },toks:=s.toks } :=
   I.laid (fun b o e=>Heap.get?_push_of_some _ e) (Nat.le_refl _) ⟨by rw [sizeLine_eq];simp,[ux,uy], .cons rux (.cons ruy .nil),IsTup.new _ _⟩
  have fr:∀ c∈[z,T,O,i,j],c≠s.heap.objs.size:=fun c q=>by
   simp only [List.mem_cons,List.not_mem_nil,or_false] at q
   rcases q with rfl | rfl | rfl | rfl | rfl
   ·exact lt B
   ·exact lt F
   ·exact lt G
   ·obtain ⟨o,e⟩:=Dx;exact lt e
   ·obtain ⟨o,e⟩:=Dy;exact lt e
  have un:∀ c∈[z,T,O,i,j],upd H s.heap.objs.size (.tup [x,y]) c=none:=fun c q=>by
   rw [aj (fr c q)];exact (hf c q).1
  have kk:∀ c o,c∉[z,T,O,i,j]->(s.heap.push { cls := .type "tuple",data := .seq #[ux,uy] }).get? c=some o->h2.get? c=some o:=fun c o q e=>by
   simp only [List.mem_cons,List.not_mem_nil,or_false,not_or] at q
   rcases Heap.get?_push_cases e with ⟨rfl,rfl⟩ | e
   ·exact up _ _ nz p1
   ·exact up _ _ q.1 (U c o q.1 q.2.2.1 q.2.2.2.1 q.2.2.2.2 e)
  have I2:Inv X pins σ (upd H s.heap.objs.size (.tup [x,y])) { s with heap:=h2,toks:=s.toks } :=
   (Inv.turnedL (s := { s with heap:=s.heap.push { cls := .type "tuple",data := .seq #[ux,uy] },toks:=s.toks }) (h':=h2) (t':=s.toks) (fp := [z,T,O,i,j]) IL (fun c q=>⟨un c q,(hf c q).2⟩) kk)
  refine ⟨.ref s.heap.objs.size,_,I2,rfl,⟨_,x,y,I.hok.fresh (Nat.le_refl _),rfl,rfl,fun xs' ys' q1 q2 => ?_⟩,⟨z2,up _ _ D.TIz (U _ _ D.TIz D.TITO D.TIi1 D.TIi2 F),⟨_,_,up _ _ D.TOz o1⟩,i1.up fun o e=>up _ o D.i1z e,j1.up fun o e=>up _ o D.i2z e⟩,un⟩
  rw [I.sqv_inj q1 qx,I.sqv_inj q2 qy];exact ⟨ex,ey⟩
 done:=by
  intro X Y hw Z q k pins s σ H E I hf st hg
  subst Y hw Z
  obtain ⟨B,F,⟨p,r,G⟩,hi,J⟩:=st
  obtain ⟨xs,ys,qx,qy,L⟩:=hg
  obtain ⟨is,rx,px⟩:=I.sqv qx
  obtain ⟨js,ry,py⟩:=I.sqv qy
  have lx:=rx.length
  have ly:=ry.length
  refine Zp.nxt_end (I.ok.hd q) D B F G hi J px py (L.imp (fun e=>by simp;lia) (fun e=>by simp;lia)) fun h1 U=>⟨rfl,I.turnedL (t':=s.toks) hf fun c o q e => ?_⟩
  simp only [List.mem_cons,List.not_mem_nil,or_false,not_or] at q
  exact U c o q.1 q.2.2.1 q.2.2.2.1 q.2.2.2.2 e
 self:=fun A k s Q E st h=>wpAny_pyIter_zip st.1 h
section
variable {X:Cx}
noncomputable def Dl (K:Frag) (ta:TA):TI:=fun σ H R=>ta σ H fun vs H1 => ∃ a b t u xs ys,vs=[.ref a, .ref b]/\SqV K t H1 a xs/\SqV K u H1 b ys/\R (Itz K t u a b) H1
theorem AW {elts:List Expr} {cx} {pos p pos':Pos} {a b:Expr} {ta:TA} (G:Gl X "zip") (hm:X.mg "zip" = none) (J:PA X [a,b] ta) (hs:starEach [a,b] X.env=[(false,eval a X.env),(false,eval b X.env)]) (j:starEach [b] X.env=[(false,eval b X.env)]) :
 PI X (.Tuple elts cx pos) (.Call (.Name "zip" p) [a,b] [] pos') (Dl X.K ta):=by
 intro pins s σ H R I h
 refine Call_ (dl I G hm (u := .type "zip") (by decide +kernel) (PyProof.Rows.callWith_type1 (thn (J pos' pins s σ H _ I h) fun us s1 ⟨vs,H1,z,L,O⟩ => ?_) (by rw [hs,j]) (by rw [j];rfl)))
 obtain ⟨a',b',t,u,xs,ys,rfl,qx,qy,q⟩:=O
 cases L with
 | cons r rr =>
   cases rr with
   | cons r' rr =>
     cases rr
     cases r
     cases r'
     obtain ⟨is,rx,px⟩:=z.sqv qx
     obtain ⟨js,ry,py⟩:=z.sqv qy
     refine Zp.call_zip px py fun h1 B t1 U Y Z sz k1 => ?_
     refine wpAny_pyIter_zip B ?_
     have la:a' < s1.heap.objs.size:=by cases t <;> (obtain ⟨o,e,_⟩:=px;exact Heap.lt_size e)
     have lb:b' < s1.heap.objs.size:=by cases u <;> (obtain ⟨o,e,_⟩:=py;exact Heap.lt_size e)
     have D:ZipApart (s1.heap.objs.size+4) (s1.heap.objs.size+2) (s1.heap.objs.size+3) s1.heap.objs.size (s1.heap.objs.size+1) a' b':=by constructor <;> (intro e;subst_vars;first | lia | (simp only [Addr] at *;lia))
     refine ⟨_,_,_,_,H1,rfl,z.kept (t':=s1.toks) k1,vF (t:=t) (u:=u) D,⟨B,t1,⟨_,_,U⟩,Y,Z⟩,fun c F => ?_,q⟩
     have hle:s1.heap.objs.size<=c:=by
      simp only [List.mem_cons,List.not_mem_nil,or_false] at F
      rcases F with rfl | rfl | rfl | rfl | rfl <;> lia
     exact z.fpOk hle (z.hok.fresh hle)
end
end
end L2
namespace L2
namespace Zp
open PySem PySem.Spec PyProof.Rows
end Zp
open PySem PySem.Spec PyProof.Rows
end L2
namespace L2
namespace En
open PySem PySem.Spec PyProof.Rows
section
variable {prog:Program} {w:World} {A:Around} {E:Value->Shared->Prop} {s:Shared}
open Builtin.SmallTypes Zp in
theorem AX {z i a:Addr} {t:Bool} {k:Nat} {xs:Array Value} {x old:Value} {Q:Value->Shared->Prop} (U:IsEnum s.heap z i k old) (hi:At t s.heap i a k) (ha:Sq t s.heap a xs) (hx:xs[k]? = some x) (j:z≠i)
 (q:∀ h',IsEnumOut h' z i ((k:Int)+1) x s.heap.objs.size->At t h' i a (k+1)->h'.get? s.heap.objs.size=some { cls := .type "tuple",data := .seq #[.int k s.toks,x] } ->
   (∀ b o,b≠z->b≠i->s.heap.get? b=some o->h'.get? b=some o)->Q (.ref s.heap.objs.size) { s with heap:=h',toks:=s.toks+1 }) :
 wpAny (model prog w) A (Builtin.«enumerate.__next__» ⟨[.ref z],[]⟩) (fun fin s' => ∃ v,fin = .done (.ret v)/\Q v s') E s:=by
 obtain ⟨B,g,d,tk,os⟩:=s
 refine wpAny_bind (m:=field (.ref z) 2) (wpAny_field U rfl (x := .ref i) rfl (wpAny_bind (fT hi ha hx fun g1 i1 s1 => ?_)))
 have S1:Heap.SameBut i B g1:=s1
 clear s1
 have Y:IsEnum g1 z i k old:=(S1.2 z j).trans U
 refine wpAny_bind (m:=field (.ref z) 3) (wpAny_field (s:=⟨g1,g,d,tk,os⟩) Y rfl (x:=rawInt k) rfl ?_)
 refine wpAny_bind (m:=field (.ref z) 4) (wpAny_field (s:=⟨g1,g,d,tk,os⟩) Y rfl (x := .none) rfl ?_)
 refine wpAny_bind (m:=mkInt k) (wpAny_mkInt ?_)
 refine wpAny_bind (m:=setField (.ref z) 3 (rawInt ((k:Int)+1))) (wpAny_setField_rec (s:=⟨g1,g,d,tk+1,os⟩) Y (by simp) fun g2 z2 s2 => ?_)
 have Z:Heap.SameBut z g1 g2:=s2
 have Z2:IsEnum g2 z i ((k:Int)+1) old:=z2
 clear s2 z2
 refine wpAny_bind (m:=setField (.ref z) 4 .none) (wpAny_setField_rec (s:=⟨g2,g,d,tk+1,os⟩) Z2 (by simp) fun g3 z3 s3 => ?_)
 have S3:Heap.SameBut z g2 g3:=s3
 have Z3:IsEnum g3 z i ((k:Int)+1) old:=z3
 clear s3 z3
 refine wpAny_bind (m:=newTuple [.int k tk,x]) (wpAny_newTuple ?_)
 have G:IsEnum (g3.push { cls := .type "tuple",data := .seq #[.int k tk,x] }) z i ((k:Int)+1) old:=Heap.get?_push_of_some _ Z3
 have sz:g3.objs.size=B.objs.size:=by rw [S3.1,Z.1,S1.1]
 have zl:z < B.objs.size:=Heap.lt_size U
 have T4:(g3.push { cls := .type "tuple",data := .seq #[.int k tk,x] }).get? B.objs.size=some { cls := .type "tuple",data := .seq #[.int k tk,x] }:=by rw [<- sz];exact Heap.get?_push_size _ rfl
 have K4:∀ b o,b≠z->b≠i->B.get? b=some o->(g3.push { cls := .type "tuple",data := .seq #[.int k tk,x] }).get? b=some o:=fun b o bz bi e =>
  Heap.get?_push_of_some _ (S3.extBut b o bz (Z.extBut b o bz (S1.extBut b o bi e)))
 have I4:At t (g3.push { cls := .type "tuple",data := .seq #[.int k tk,x] }) i a (k+1):=i1.up fun o e=>Heap.get?_push_of_some _ (S3.extBut i o j.symm (Z.extBut i o j.symm e))
 rw [sz]
 generalize g3.push { cls := .type "tuple",data := .seq #[.int k tk,x] }=F at G T4 K4 I4
 refine wpAny_bind (m:=ownedTupleIsFree (.ref z)) ?_
 unfold ownedTupleIsFree
 refine wpAny_bind (wpAny_field (s:=⟨F,g,d,tk+1,os⟩) G rfl (x := .none) rfl (wpAny_pure ?_))
 simp only [if_true]
 refine wpAny_bind (wpAny_rule (wpAny_bind (wpAny_field (s:=⟨F,g,d,tk+1,os⟩) G rfl (x:=old) rfl (wpAny_bind (wpAny_setField_rec (s:=⟨F,g,d,tk+1,os⟩) G (by simp) fun J z5 s5 => ?_)))))
 have S5:Heap.SameBut z F J:=s5
 have Z5:IsEnum J z i ((k:Int)+1) x:=z5
 clear s5 z5
 refine wpAny_bind (m:=ownedTupleHandOut (.ref z) (.ref B.objs.size)) ?_
 unfold ownedTupleHandOut
 refine wpAny_bind (wpAny_setField_rec (s:=⟨J,g,d,tk+1,os⟩) Z5 (by simp) fun L z6 s6 => ?_)
 have S6:Heap.SameBut z J L:=s6
 have Z6:IsEnumOut L z i ((k:Int)+1) x B.objs.size:=z6
 clear s6 z6
 refine wpAny_setField_rec (s:=⟨L,g,d,tk+1,os⟩) Z6 (by simp) fun O z7 s7 => ?_
 have S7:Heap.SameBut z L O:=s7
 have Z7:IsEnumOut O z i ((k:Int)+1) x B.objs.size:=z7
 clear s7 z7
 have up:∀ b o,b≠z->F.get? b=some o->O.get? b=some o:=fun b o bz e=>S7.extBut b o bz (S6.extBut b o bz (S5.extBut b o bz e))
 exact wpAny_bind (wpAny_letGo (wpAny_pure ⟨_,rfl,q O Z7 (I4.up fun o e=>up i o j.symm e) (up _ _ (Nat.ne_of_gt zl) T4) fun b o bz bi e=>up b o bz (K4 b o bz bi e)⟩))
theorem nxt_item {z i a:Addr} {t:Bool} {k:Nat} {xs:Array Value} {x old:Value} {Q:Option Value->Shared->Prop} (B:IsEnum s.heap z i k old) (hi:Zp.At t s.heap i a k) (G:Zp.Sq t s.heap a xs) (hx:xs[k]? = some x) (j:z≠i)
 (q:∀ h',IsEnumOut h' z i ((k:Int)+1) x s.heap.objs.size->Zp.At t h' i a (k+1)->h'.get? s.heap.objs.size=some { cls := .type "tuple",data := .seq #[.int k s.toks,x] } ->
   (∀ b o,b≠z->b≠i->s.heap.get? b=some o->h'.get? b=some o)->Q (some (.ref s.heap.objs.size)) { s with heap:=h',toks:=s.toks+1 }) :
 wpAny (model prog w) A (pyNext (.ref z)) Q E s:=by
 have ty:s.TypeIs (.ref z) "enumerate" := ⟨_,B,rfl⟩
 unfold pyNext
 exact wpAny_bind (wpAny_attempt (wpAny_callSpecial?_slot (name:=Str.ofString "__next__") ty F.slot_enumerate_next (wpAny_call_entry F.slot_enumerate_next ty F.entry_enumerate_next
  (AX B hi G hx j fun h' a1 a2 J L=>wpAny_pure (q h' a1 a2 J L)) (F.args_enumerate_next_1 _))))
theorem nxt_end {z i a:Addr} {t:Bool} {k:Nat} {xs:Array Value} {old:Value} {Q:Option Value->Shared->Prop} (B:A.handled=none) (j:IsEnum s.heap z i k old) (hi:Zp.At t s.heap i a k) (G:Zp.Sq t s.heap a xs) (hx:xs[k]? = none)
 (q:∀ h',Heap.ExtBut i s.heap h'->Q none { s with heap:=h' }):wpAny (model prog w) A (pyNext (.ref z)) Q E s:=by
 have ty:s.TypeIs (.ref z) "enumerate" := ⟨_,j,rfl⟩
 unfold pyNext
 refine wpAny_bind (wpAny_attempt (wpAny_callSpecial?_slot (name:=Str.ofString "__next__") ty F.slot_enumerate_next (wpAny_call_entry F.slot_enumerate_next ty F.entry_enumerate_next ?_ (F.args_enumerate_next_1 _))))
 refine wpAny_bind (m:=field (.ref z) 2) (wpAny_field j rfl (x := .ref i) rfl (wpAny_bind (Zp.nx_end B hi G hx fun h' x he hs => ?_)))
 obtain ⟨o,ho,J⟩:=hs
 exact wpAny_bind (wpAny_isInstance (T := "StopIteration") (b:=true) ⟨o,ho,J⟩ isSubtype_stop (wpAny_pure (q _ he)))
open AutoSeq1 (wpAny_loadPart') in
theorem yI (l:Addr) (items:Array Value) (n:Nat) (dct:Option Addr) (sl:Array (Option Value)) :
 Meets (Builtin.«enumerate.__new__» ⟨[.type "enumerate", .ref l],[]⟩) (fun _ R s=>s.heap.get? l=some { cls := .type "tuple",dict:=dct,data := .seq items n,slots:=sl } /\
  R (.ok (.ret (.ref (s.heap.push (Zp.itO true l)).objs.size))) { s with heap:=(s.heap.push (Zp.itO true l)).push { cls := .type "enumerate",data := .fields #[.none, .bool false, .ref s.heap.objs.size,rawInt 0, .none, .none] } }) :=
 .of_wp fun prog w A R s h=>by
  obtain ⟨B,g,d,tk,os⟩:=s;obtain ⟨j,h⟩:=h
  have q:=sub_enumerate
  have z:Heap.IsTuple (Shared.heap ⟨B,g,d,tk,os⟩) l items:=⟨_,j,rfl,n,rfl⟩
  wp_walk using wpAny_loadPart' j
  refine wpAny_stack_any fun st=>wpAny_pure ?_
  split
  ·rename_i c _ _ _ _ _
   cases (c==Value.type "enumerate") <;> (wp_walk using wpAny_loadPart' j,wpAny_pyIter_tuple z;exact ⟨_,rfl,h⟩)
  ·wp_walk using wpAny_loadPart' j,wpAny_pyIter_tuple z
   exact ⟨_,rfl,h⟩
theorem call_enum {t:Bool} {l:Addr} {items:Array Value} {Q:Value->Shared->Prop} (B:Zp.Sq t s.heap l items)
 (q:∀ h',IsEnum h' (s.heap.objs.size+1) s.heap.objs.size 0 .none->Zp.At t h' s.heap.objs.size l 0->(∀ b o,s.heap.get? b=some o->h'.get? b=some o)->Q (.ref (s.heap.objs.size+1)) { s with heap:=h' }) :
 wpAny (model prog w) A (call (.type "enumerate") [.ref l]) Q E s:=by
 cases t with
 | false=>exact call_enumerate_list B fun h' a b _ k=>q h' a b k
 | true =>
   obtain ⟨⟨c,dct,dt,sl⟩,J,L,n,hd⟩:=B
   have j:c = .type "tuple" := L
   have z:dt = .seq items n:=hd
   subst j z
   refine callType_new F.called_enumerate (by decide) (F.typeCall_enumerate_1 _) (F.newCall_enumerate_1 _) (fun obj=>F.args_object_init_2 obj _) F.entry_enumerate_new (yI l items n dct sl) ⟨J, ?_⟩
   have G:(s.heap.push (Zp.itO true l)).objs.size=s.heap.objs.size+1:=Heap.size_push ..
   have e:((s.heap.push (Zp.itO true l)).push { cls := .type "enumerate",data := .fields #[.none, .bool false, .ref s.heap.objs.size,rawInt 0, .none, .none] }).get? (s.heap.push (Zp.itO true l)).objs.size=some _:=Heap.get?_push_size _ rfl
   rw [G] at e
   show _/\_
   rw [G]
   exact ⟨⟨_,e,rfl⟩,q _ e (Zp.at_new (Heap.get?_push_of_some _ (Heap.get?_push_size _ rfl))) fun b o x=>Heap.get?_push_of_some _ (Heap.get?_push_of_some _ x)⟩
end
end En
open PySem PySem.Spec PyProof.Rows
noncomputable def Ite (K:Frag) (t:Bool) (a:Addr):It :=
 ⟨fun i H => ∃ xs x,SqV K t H a xs/\xs[i]? = some x,
  fun i H v H' => ∃ p x,H p=none/\v = .ref p/\H'=upd H p (.tup [.int (i:Nat),x]) /\ ∀ xs,SqV K t H a xs->xs[i]? = some x,
  fun i H => ∃ xs,SqV K t H a xs/\xs.length<=i⟩
theorem sy {P:Program} {w:World} {K:Frag} {elts:List Expr} {cx} {pos:Pos} {t:Bool} {z i a:Addr} (B:z≠i) :
 fb P w K (.Tuple elts cx pos) (Ite K t a) [z,i] z (fun k h=>(∃ old,IsEnum h z i k old)/\Zp.At t h i a k) where
 mem:=by simp
 obj:=fun k h ⟨⟨old,q⟩,hi⟩ c j=>by
  simp only [List.mem_cons,List.not_mem_nil,or_false] at j
  rcases j with rfl | rfl
  ·exact ⟨_,q,fun v e=>by cases e⟩
  ·exact hi.lt
 keep:=fun k h h' ⟨⟨old,q⟩,hi⟩ kk=>⟨⟨old,kk z (by simp) _ q⟩,hi.up fun o e=>kk i (by simp) o e⟩
 item:=by
  intro X F hw G j k pins s σ H E I hf st hg
  subst F hw G
  obtain ⟨⟨old,q⟩,hi⟩:=st
  obtain ⟨xs,x,qx,ex⟩:=hg
  obtain ⟨is,rx,px⟩:=I.sqv qx
  obtain ⟨ux,J,rux⟩:=rx.get ex
  refine En.nxt_item q hi px (by simpa using J) B fun h1 Y Z p1 L=>⟨_,rfl, ?_⟩
  refine wpAny_letOwnedTupleGo_enum (s := { s with heap:=h1,toks:=s.toks+1 }) Y fun h2 z2 s2 => ?_
  have lt:∀ {c o},s.heap.get? c=some o->c≠s.heap.objs.size:=fun e=>Nat.ne_of_lt (Heap.lt_size e)
  have nz:s.heap.objs.size≠z:=(lt q).symm
  have O:∃ o,s.heap.get? i=some o:=hi.lt.imp fun _ h=>h.1
  have up:∀ c o,c≠z->h1.get? c=some o->h2.get? c=some o:=fun c o n e=>s2.extBut _ _ n e
  have IL:Inv X pins σ (upd H s.heap.objs.size (.tup [.int (k:Nat),x])) { s with heap:=s.heap.push { cls := .type "tuple",data := .seq #[.int k s.toks,ux] },toks:=s.toks+1 } :=
   I.laid (fun b o e=>Heap.get?_push_of_some _ e) (Nat.le_refl _) ⟨by rw [sizeLine_eq];simp,[.int k s.toks,ux], .cons ⟨_,rfl⟩ (.cons rux .nil),IsTup.new _ _⟩
  have fr:∀ c∈[z,i],c≠s.heap.objs.size:=fun c j=>by
   simp only [List.mem_cons,List.not_mem_nil,or_false] at j
   rcases j with rfl | rfl
   ·exact lt q
   ·obtain ⟨o,e⟩:=O;exact lt e
  have un:∀ c∈[z,i],upd H s.heap.objs.size (.tup [.int (k:Nat),x]) c=none:=fun c j=>by
   rw [aj (fr c j)];exact (hf c j).1
  have kk:∀ c o,c∉[z,i]->(s.heap.push { cls := .type "tuple",data := .seq #[.int k s.toks,ux] }).get? c=some o->h2.get? c=some o:=fun c o j e=>by
   simp only [List.mem_cons,List.not_mem_nil,or_false,not_or] at j
   rcases Heap.get?_push_cases e with ⟨rfl,rfl⟩ | e
   ·exact up _ _ nz p1
   ·exact up _ _ j.1 (L c o j.1 j.2 e)
  have I2:Inv X pins σ (upd H s.heap.objs.size (.tup [.int (k:Nat),x])) { s with heap:=h2,toks:=s.toks+1 } :=
   Inv.turnedL (s := { s with heap:=s.heap.push { cls := .type "tuple",data := .seq #[.int k s.toks,ux] },toks:=s.toks+1 }) (h':=h2) (t':=s.toks+1) (fp := [z,i]) IL (fun c j=>⟨un c j,(hf c j).2⟩) kk
  refine ⟨.ref s.heap.objs.size,_,I2,rfl,⟨_,x,I.hok.fresh (Nat.le_refl _),rfl,rfl,fun xs' q1 => ?_⟩,⟨⟨ux,by simpa using z2⟩,Z.up fun o e=>up _ o B.symm e⟩,un⟩
  rw [I.sqv_inj q1 qx];exact ex
 done:=by
  intro X F hw G j k pins s σ H E I hf st hg
  subst F hw G
  obtain ⟨⟨old,q⟩,hi⟩:=st
  obtain ⟨xs,qx,U⟩:=hg
  obtain ⟨is,rx,px⟩:=I.sqv qx
  have lx:=rx.length
  refine En.nxt_end (I.ok.hd j) q hi px (by simp;lia) fun h1 L=>⟨rfl,I.turnedL (t':=s.toks) hf fun c o j e => ?_⟩
  simp only [List.mem_cons,List.not_mem_nil,or_false,not_or] at j
  exact L c o j.2 e
 self:=fun A k s Q E ⟨⟨old,q⟩,_⟩ h=>wpAny_pyIter_enum q h
section
variable {X:Cx}
noncomputable def Cr (K:Frag) (ta:TA):TI:=fun σ H R=>ta σ H fun vs H1 => ∃ a t xs,vs=[.ref a]/\SqV K t H1 a xs/\R (Ite K t a) H1
theorem yJ {elts:List Expr} {cx} {pos p pos':Pos} {a:Expr} {ta:TA} (F:Gl X "enumerate") (hm:X.mg "enumerate" = none) (G:PA X [a] ta) (hs:starEach [a] X.env=[(false,eval a X.env)]) :
 PI X (.Tuple elts cx pos) (.Call (.Name "enumerate" p) [a] [] pos') (Cr X.K ta):=by
 intro pins s σ H R I h
 refine Call_ (dl I F hm (u := .type "enumerate") boot_enumerate (PyProof.Rows.callWith_type1 (thn (G pos' pins s σ H _ I h) fun us s1 ⟨vs,H1,j,J,L⟩ => ?_) hs rfl))
 obtain ⟨a',t,xs,rfl,qx,q⟩:=L
 cases J with
 | cons r rr =>
   cases rr
   cases r
   obtain ⟨is,rx,px⟩:=j.sqv qx
   refine En.call_enum px fun h1 z O U => ?_
   refine wpAny_pyIter_enum z ?_
   refine ⟨_,_,_,_,H1,rfl,j.kept (t':=s1.toks) U,sy (t:=t) (a:=a') (by simp),⟨⟨_,z⟩,O⟩,fun c B => ?_,q⟩
   have hle:s1.heap.objs.size<=c:=by
    simp only [List.mem_cons,List.not_mem_nil,or_false] at B
    rcases B with rfl | rfl <;> lia
   exact j.fpOk hle (j.hok.fresh hle)
end
end L2
namespace L2
namespace Rv
open PySem PySem.Spec PyProof.Rows
end Rv
open PySem PySem.Spec PyProof.Rows
end L2
namespace L2
namespace Mi
open PySem PySem.Spec PyProof.Rows
section
inductive D where
 | non | bl (b:Bool) | int (i:Int) | str (x:Str) | tup (ds:List D) | con (ds:List D) | ref (a:Addr)
inductive O where
 | lst (ds:List D)
 | dct (t:Bool) (kvs:List (D×D))
 | fdc (kvs:List (D×D))
noncomputable abbrev Mem:=Addr->Option O
noncomputable def fz:Option O->Bool
 | some (.lst _)=>false
 | some (.dct _ _)=>false
 | _=>true
noncomputable abbrev ao:=List (Option D)
noncomputable def af (M:Mem) (a:Addr) (o:O):Mem:=fun b=>if b=a then some o else M b
theorem ab {M:Mem} {a:Addr} {o:O}:af M a o a=some o:=by unfold af;rw [if_pos rfl]
theorem aq {M:Mem} {a b:Addr} {o:O} (h:b≠a):af M a o b=M b:=by unfold af;rw [if_neg h]
noncomputable def SqF (K:Frag) (H:Hp) (a:Addr) (xs:List V):Prop :=
 (∃ o,H a=some (.frz o (.lst xs))) ∨
  ∃ (o:Obj) (its:Array Value) (n:Nat),K.lookup a=some o/\o.cls = .type "list" /\ o.dict=none/\o.data = .seq its n/\its.size<=sizeLine/\Vals xs its.toList
theorem SqF.sq {K:Frag} {H:Hp} {a:Addr} {xs:List V} (h:SqF K H a xs):SqL K H a xs:=by
 rcases h with ⟨o,h⟩ | h
 ·exact .inl (.inr ⟨o,h⟩)
 ·exact .inr h
noncomputable def fk2:Bool:=true
noncomputable def fk:List D->Bool
 | [.int _, .int _, .int _] => true
 | [.tup _,_] => true
 | [.int _,_] => fk2
 | _=>false
noncomputable def TupR (K:Frag) (H:Hp) (ds:List D) (a:Addr) (vs:List V):Prop:=H a=some (.tup vs)∨(fk ds=false/\SqT K H a vs)
theorem TupR.sq {K:Frag} {H:Hp} {ds:List D} {a:Addr} {vs:List V} (h:TupR K H ds a vs):SqT K H a vs:=h.elim SqT.of (·.2)
mutual
noncomputable def RD (K:Frag) (H:Hp):D->V->Prop
 | .non,v=>v = .non
 | .bl b,v=>v = .bl b
 | .int i,v=>v = .int i
 | .str x,v=>v = .str x
 | .tup ds,v => ∃ a vs,v = .ref a/\TupR K H ds a vs/\RDs K H ds vs
 | .con ds,v => ∃ a vs,v = .ref a/\SqF K H a vs/\RDs K H ds vs
 | .ref a,v=>v = .ref a
noncomputable def RDs (K:Frag) (H:Hp):List D->List V->Prop
 | [],vs=>vs=[]
 | d::ds,vs => ∃ v r,vs=v::r/\RD K H d v/\RDs K H ds r
end
structure Stab (H H':Hp):Prop where
 tup:∀ a xs,H a=some (.tup xs)->H' a=some (.tup xs)
 frz:∀ a o u,H a=some (.frz o u)->H' a=some (.frz o u)
theorem Stab.sqT {K:Frag} {H H':Hp} (st:Stab H H') {a:Addr} {xs:List V} (h:SqT K H a xs):SqT K H' a xs:=by
 rcases h with (h | ⟨o,h⟩) | h
 ·exact .inl (.inl (st.tup _ _ h))
 ·exact .inl (.inr ⟨o,st.frz _ _ _ h⟩)
 ·exact .inr h
theorem Stab.sqF {K:Frag} {H H':Hp} (st:Stab H H') {a:Addr} {xs:List V} (h:SqF K H a xs):SqF K H' a xs:=by
 rcases h with ⟨o,h⟩ | h
 ·exact .inl ⟨o,st.frz _ _ _ h⟩
 ·exact .inr h
mutual
theorem RD.mono {K:Frag} {H H':Hp} (st:Stab H H'):∀ {d:D} {v:V},RD K H d v->RD K H' d v
 | .non,_,h=>h
 | .bl _,_,h=>h
 | .int _,_,h=>h
 | .str _,_,h=>h
 | .tup ds,v,h=>by
  unfold RD at h ⊢
  obtain ⟨a,vs,e,q,r⟩:=h
  exact ⟨a,vs,e,q.imp (st.tup _ _) (fun z=>⟨z.1,st.sqT z.2⟩),RDs.mono st r⟩
 | .con ds,v,h=>by
  unfold RD at h ⊢
  obtain ⟨a,vs,e,q,r⟩:=h
  exact ⟨a,vs,e,st.sqF q,RDs.mono st r⟩
 | .ref _,_,h=>h
theorem RDs.mono {K:Frag} {H H':Hp} (st:Stab H H'):∀ {ds:List D} {vs:List V},RDs K H ds vs->RDs K H' ds vs
 | [],_,h=>h
 | d::ds,vs,h=>by
   unfold RDs at h ⊢
   obtain ⟨v,r,e,h1,h2⟩:=h
   exact ⟨v,r,e,RD.mono st h1,RDs.mono st h2⟩
end
section
variable {K:Frag} {H H':Hp}
theorem RD.int_iff {i:Int} {v:V}:RD K H (.int i) v↔v = .int i:=by unfold RD;exact Iff.rfl
theorem RD.bl_iff {b:Bool} {v:V}:RD K H (.bl b) v↔v = .bl b:=by unfold RD;exact Iff.rfl
theorem RD.non_iff {v:V}:RD K H .non v↔v = .non:=by unfold RD;exact Iff.rfl
theorem RD.str_iff {x:Str} {v:V}:RD K H (.str x) v↔v = .str x:=by unfold RD;exact Iff.rfl
theorem RD.ref_iff {a:Addr} {v:V}:RD K H (.ref a) v↔v = .ref a:=by unfold RD;exact Iff.rfl
theorem RD.tup_iff {ds:List D} {v:V}:RD K H (.tup ds) v ↔ ∃ a vs,v = .ref a/\TupR K H ds a vs/\RDs K H ds vs:=by rw [RD]
theorem RD.tup_mk {ds:List D} {v:V} (h:∃ a vs,v = .ref a/\H a=some (.tup vs)/\RDs K H ds vs):RD K H (.tup ds) v:=RD.tup_iff.mpr (let ⟨a,vs,e,h,r⟩:=h; ⟨a,vs,e, .inl h,r⟩)
theorem RD.tupS {ds:List D} {v:V} (h:RD K H (.tup ds) v):∃ a vs,v = .ref a/\SqT K H a vs/\RDs K H ds vs:=let ⟨a,vs,e,h,r⟩:=RD.tup_iff.mp h; ⟨a,vs,e,h.sq,r⟩
theorem RD.tupK {ds:List D} {v:V} (f:fk ds=true) (h:RD K H (.tup ds) v):∃ a vs,v = .ref a/\H a=some (.tup vs)/\RDs K H ds vs:=let ⟨a,vs,e,h,r⟩:=RD.tup_iff.mp h; ⟨a,vs,e,h.elim id fun z=>(by rw [f] at z;cases z.1),r⟩
theorem RD.con_iff {ds:List D} {v:V}:RD K H (.con ds) v ↔ ∃ a vs,v = .ref a/\SqF K H a vs/\RDs K H ds vs:=by rw [RD]
theorem RDs.nil_iff {vs:List V}:RDs K H [] vs↔vs=[]:=by rw [RDs]
theorem RDs.cons_iff {d:D} {ds:List D} {vs:List V}:RDs K H (d::ds) vs ↔ ∃ v r,vs=v::r/\RD K H d v/\RDs K H ds r:=by rw [RDs]
theorem RDs.nil:RDs K H [] []:=RDs.nil_iff.mpr rfl
theorem RDs.cons {d:D} {ds:List D} {v:V} {vs:List V} (h:RD K H d v) (r:RDs K H ds vs):RDs K H (d::ds) (v::vs):=RDs.cons_iff.mpr ⟨v,vs,rfl,h,r⟩
theorem RDs.length:∀ {ds:List D} {vs:List V},RDs K H ds vs->vs.length=ds.length
 | [],_,h=>by rw [RDs.nil_iff.mp h];rfl
 | d::ds,_,h=>by
   obtain ⟨v,r,rfl,_,h2⟩:=RDs.cons_iff.mp h
   simp [RDs.length h2]
theorem RDs.get:∀ {ds:List D} {vs:List V} {i:Nat} {d:D},RDs K H ds vs->ds[i]? = some d -> ∃ v,vs[i]? = some v/\RD K H d v
 | [],_,_,_,_,e=>by simp at e
 | d::ds,_,0,d',h,e=>by
   obtain ⟨v,r,rfl,h1,h2⟩:=RDs.cons_iff.mp h
   simp at e;subst e
   exact ⟨v,rfl,h1⟩
 | d::ds,_,i+1,d',h,e=>by
   obtain ⟨v,r,rfl,h1,h2⟩:=RDs.cons_iff.mp h
   obtain ⟨u,j,q⟩:=RDs.get (i:=i) (d:=d') h2 (by simpa using e)
   exact ⟨u,by simpa using j,q⟩
theorem RDs.getV {ds:List D} {vs:List V} {i:Nat} {v:V} (h:RDs K H ds vs) (e:vs[i]? = some v):∃ d,ds[i]? = some d/\RD K H d v:=by
 have z:=h.length
 have hi:i < vs.length:=(List.getElem?_eq_some_iff.mp e).1
 obtain ⟨d,hd⟩:∃ d,ds[i]? = some d:=⟨ds[i]'(by lia),List.getElem?_eq_getElem (by lia)⟩
 obtain ⟨u,j,q⟩:=h.get hd
 rw [e] at j;cases j
 exact ⟨d,hd,q⟩
theorem RDs.append:∀ {ds es:List D} {vs us:List V},RDs K H ds vs->RDs K H es us->RDs K H (ds++es) (vs++us)
 | [],_,_,_,h,q=>by rw [RDs.nil_iff.mp h];exact q
 | d::ds,_,_,_,h,q=>by
   obtain ⟨v,r,rfl,h1,h2⟩:=RDs.cons_iff.mp h
   exact RDs.cons h1 (RDs.append h2 q)
theorem RDs.take:∀ {ds:List D} {vs:List V} (n:Nat),RDs K H ds vs->RDs K H (ds.take n) (vs.take n)
 | [],_,n,h=>by rw [RDs.nil_iff.mp h];simp;exact RDs.nil
 | _::_,_,0,h=>by simp;exact RDs.nil
 | d::ds,_,n+1,h=>by
   obtain ⟨v,r,rfl,h1,h2⟩:=RDs.cons_iff.mp h
   exact RDs.cons h1 (RDs.take n h2)
theorem RDs.drop:∀ {ds:List D} {vs:List V} (n:Nat),RDs K H ds vs->RDs K H (ds.drop n) (vs.drop n)
 | [],_,n,h=>by rw [RDs.nil_iff.mp h];simp;exact RDs.nil
 | d::ds,_,0,h=>h
 | d::ds,_,n+1,h=>by
   obtain ⟨v,r,rfl,h1,h2⟩:=RDs.cons_iff.mp h
   exact RDs.drop n h2
theorem RDs.set:∀ {ds:List D} {vs:List V} (n:Nat) {d:D} {v:V},RD K H d v->RDs K H ds vs->RDs K H (ds.set n d) (vs.set n v)
 | [],_,n,_,_,_,h=>by rw [RDs.nil_iff.mp h];exact RDs.nil
 | d::ds,_,0,_,_,q,h=>by
   obtain ⟨v,r,rfl,h1,h2⟩:=RDs.cons_iff.mp h
   exact RDs.cons q h2
 | d::ds,_,n+1,_,_,q,h=>by
   obtain ⟨v,r,rfl,h1,h2⟩:=RDs.cons_iff.mp h
   exact RDs.cons h1 (RDs.set n q h2)
theorem RDs.reverse {ds:List D} {vs:List V} (h:RDs K H ds vs):RDs K H ds.reverse vs.reverse:=by
 induction ds generalizing vs with
 | nil=>rw [RDs.nil_iff.mp h];exact RDs.nil
 | cons d ds ih =>
   obtain ⟨v,r,rfl,h1,h2⟩:=RDs.cons_iff.mp h
   rw [List.reverse_cons,List.reverse_cons]
   exact (ih h2).append (RDs.cons h1 RDs.nil)
theorem RDs.rep {ds:List D} {vs:List V} (h:RDs K H ds vs):∀ k:Nat,RDs K H (List.replicate k ds).flatten (List.replicate k vs).flatten
 | 0=>RDs.nil
 | k+1=>by
   rw [List.replicate_succ,List.replicate_succ,List.flatten_cons,List.flatten_cons]
   exact h.append (h.rep k)
theorem RDs.ints:∀ (ns:List Int),RDs K H (ns.map D.int) (ns.map V.int)
 | [] => RDs.nil
 | n::ns=>RDs.cons (RD.int_iff.mpr rfl) (RDs.ints ns)
end
mutual
noncomputable def D.eqb:D->D->Bool
 | .non, .non=>true
 | .bl a, .bl b=>a==b
 | .int a, .int b=>decide (a=b)
 | .str a, .str b=>decide (a=b)
 | .tup a, .tup b=>D.eqbs a b
 | .con a, .con b=>D.eqbs a b
 | .ref a, .ref b=>decide (a=b)
 | _,_=>false
noncomputable def D.eqbs:List D->List D->Bool
 | [],[] => true
 | a::r,b::s=>D.eqb a b&&D.eqbs r s
 | _,_=>false
end
mutual
theorem D.eqb_eq:∀ (a b:D),D.eqb a b=true->a=b
 | .non, .non,_=>rfl
 | .bl a, .bl b,h=>by simp [D.eqb] at h;rw [h]
 | .int a, .int b,h=>by simp [D.eqb] at h;rw [h]
 | .str a, .str b,h=>by simp [D.eqb] at h;rw [h]
 | .tup a, .tup b,h=>by simp [D.eqb] at h;rw [D.eqbs_eq a b h]
 | .con a, .con b,h=>by simp [D.eqb] at h;rw [D.eqbs_eq a b h]
 | .ref a, .ref b,h=>by simp [D.eqb] at h;rw [h]
 | .non, .bl _,h=>by simp [D.eqb] at h
 | .non, .int _,h=>by simp [D.eqb] at h
 | .non, .str _,h=>by simp [D.eqb] at h
 | .non, .tup _,h=>by simp [D.eqb] at h
 | .non, .con _,h=>by simp [D.eqb] at h
 | .non, .ref _,h=>by simp [D.eqb] at h
 | .bl _, .non,h=>by simp [D.eqb] at h
 | .bl _, .int _,h=>by simp [D.eqb] at h
 | .bl _, .str _,h=>by simp [D.eqb] at h
 | .bl _, .tup _,h=>by simp [D.eqb] at h
 | .bl _, .con _,h=>by simp [D.eqb] at h
 | .bl _, .ref _,h=>by simp [D.eqb] at h
 | .int _, .non,h=>by simp [D.eqb] at h
 | .int _, .bl _,h=>by simp [D.eqb] at h
 | .int _, .str _,h=>by simp [D.eqb] at h
 | .int _, .tup _,h=>by simp [D.eqb] at h
 | .int _, .con _,h=>by simp [D.eqb] at h
 | .int _, .ref _,h=>by simp [D.eqb] at h
 | .str _, .non,h=>by simp [D.eqb] at h
 | .str _, .bl _,h=>by simp [D.eqb] at h
 | .str _, .int _,h=>by simp [D.eqb] at h
 | .str _, .tup _,h=>by simp [D.eqb] at h
 | .str _, .con _,h=>by simp [D.eqb] at h
 | .str _, .ref _,h=>by simp [D.eqb] at h
 | .tup _, .non,h=>by simp [D.eqb] at h
 | .tup _, .bl _,h=>by simp [D.eqb] at h
 | .tup _, .int _,h=>by simp [D.eqb] at h
 | .tup _, .str _,h=>by simp [D.eqb] at h
 | .tup _, .con _,h=>by simp [D.eqb] at h
 | .tup _, .ref _,h=>by simp [D.eqb] at h
 | .con _, .non,h=>by simp [D.eqb] at h
 | .con _, .bl _,h=>by simp [D.eqb] at h
 | .con _, .int _,h=>by simp [D.eqb] at h
 | .con _, .str _,h=>by simp [D.eqb] at h
 | .con _, .tup _,h=>by simp [D.eqb] at h
 | .con _, .ref _,h=>by simp [D.eqb] at h
 | .ref _, .non,h=>by simp [D.eqb] at h
 | .ref _, .bl _,h=>by simp [D.eqb] at h
 | .ref _, .int _,h=>by simp [D.eqb] at h
 | .ref _, .str _,h=>by simp [D.eqb] at h
 | .ref _, .tup _,h=>by simp [D.eqb] at h
 | .ref _, .con _,h=>by simp [D.eqb] at h
theorem D.eqbs_eq:∀ (a b:List D),D.eqbs a b=true->a=b
 | [],[],_=>rfl
 | a::r,b::s,h=>by
   simp [D.eqbs] at h
   rw [D.eqb_eq a b h.1,D.eqbs_eq r s h.2]
 | [],_::_,h=>by simp [D.eqbs] at h
 | _::_,[],h=>by simp [D.eqbs] at h
end
mutual
theorem D.eqb_refl:∀ (a:D),D.eqb a a=true
 | .non=>rfl
 | .bl _=>by simp [D.eqb]
 | .int _=>by simp [D.eqb]
 | .str _=>by simp [D.eqb]
 | .tup a=>by simp [D.eqb,D.eqbs_refl a]
 | .con a=>by simp [D.eqb,D.eqbs_refl a]
 | .ref _=>by simp [D.eqb]
theorem D.eqbs_refl:∀ (a:List D),D.eqbs a a=true
 | [] => rfl
 | a::r=>by simp [D.eqbs,D.eqb_refl a,D.eqbs_refl r]
end
noncomputable instance:DecidableEq D:=fun a b=>if h:D.eqb a b=true then isTrue (D.eqb_eq a b h) else isFalse fun e=>h (by rw [e];exact D.eqb_refl b)
noncomputable def RKey:D->Key->Prop
 | .int i,k=>k = .inl i
 | .str x,k=>k = .inr x
 | _,_=>False
noncomputable def RKeys:D->List Key->Prop
 | .tup ds,ks=>Paired RKey ds ks
 | _,_=>False
noncomputable def dget (kvs:List (D×D)) (k:D):Option D:=(kvs.find? fun p=>decide (p.1=k)).map (·.2)
noncomputable def dS (kvs:List (D×D)) (k v:D):List (D×D):=if (kvs.any fun p=>decide (p.1=k))=true then kvs.map (fun p=>if p.1=k then (p.1,v) else p) else kvs++[(k,v)]
noncomputable def eK:D->Bool
 | .int _=>true
 | .str _=>true
 | _=>false
noncomputable def dr:D->Bool
 | .tup ds=>ds.all eK&&fk ds
 | _=>false
noncomputable def dG (t:Bool) (k:D):Bool:=if t then dr k else eK k
theorem lZ {k:D} (h:eK k=true):∃ q,RKey k q:=by
 cases k <;> first | (simp [eK] at h;done) | exact ⟨_,rfl⟩
theorem oP:∀ {ds:List D},ds.all eK=true -> ∃ ks,Paired RKey ds ks
 | [],_=>⟨[], .nil⟩
 | d::ds,h=>by
   simp only [List.all_cons,Bool.and_eq_true] at h
   obtain ⟨k,j⟩:=lZ h.1
   obtain ⟨ks,hs⟩:=oP h.2
   exact ⟨k::ks, .cons j hs⟩
theorem oQ {k:D} (h:dr k=true):∃ q,RKeys k q:=by
 cases k <;> first | (simp [dr] at h;done) | exact oP (Bool.and_eq_true_iff.mp h).1
theorem oR {ds:List D} (h:dr (.tup ds)=true):fk ds=true:=(Bool.and_eq_true_iff.mp h).2
noncomputable def RO (K:Frag) (H:Hp) (a:Addr):O->Prop
 | .lst ds => ∃ vs,H a=some (.lst vs)/\RDs K H ds vs
 | .dct false kvs => ∃ ps,H a=some (.dK ps)/\Paired (fun (p:D×D) (q:Key×V)=>RKey p.1 q.1/\RD K H p.2 q.2) kvs ps
 | .dct true kvs => ∃ ps,H a=some (.dT ps)/\Paired (fun (p:D×D) (q:List Key×V)=>RKeys p.1 q.1/\RD K H p.2 q.2) kvs ps
 | .fdc kvs => ∃ o ps,H a=some (.frz o (.dT ps))/\Paired (fun (p:D×D) (q:List Key×V)=>RKeys p.1 q.1/\RD K H p.2 q.2) kvs ps
noncomputable def RM (K:Frag) (M:Mem) (H:Hp):Prop := ∀ a o,M a=some o->RO K H a o
noncomputable def RS (K:Frag) (H:Hp) (σ:St) (ρ:ao):Prop := σ.length = ρ.length /\ ∀ (i:Nat) (d:D), ρ[i]? = some (some d) -> ∃ v, σ[i]? = some (some v)/\RD K H d v
structure Ext (M:Mem) (H:Hp) (M':Mem) (H':Hp):Prop where
 kp:∀ a o,fz (M a)=true->H a=some o->H' a=some o
 nw:∀ a o,fz (M a)=true->H a=some o->M' a=M a
section
variable {K:Frag} {M M' M'':Mem} {H H' H'':Hp}
theorem Ext.keep (x:Ext M H M' H') (a:Addr) (o:HO) (n:M a=none) (e:H a=some o):H' a=some o:=x.kp a o (by rw [n];rfl) e
theorem Ext.new (x:Ext M H M' H') (a:Addr) (o:HO) (n:M a=none) (e:H a=some o):M' a=none:=(x.nw a o (by rw [n];rfl) e).trans n
theorem Ext.refl:Ext M H M H:=⟨fun _ _ _ h=>h,fun _ _ _ _=>rfl⟩
theorem Ext.trans (a:Ext M H M' H') (b:Ext M' H' M'' H''):Ext M H M'' H'' :=
 ⟨fun c o n h=>b.kp c o (by rw [a.nw c o n h];exact n) (a.kp c o n h),fun c o n h=>(b.nw c o (by rw [a.nw c o n h];exact n) (a.kp c o n h)).trans (a.nw c o n h)⟩
theorem RM.mut (r:RM K M H) {a:Addr} {o:O} (h:M a=some o):∃ ho,H a=some ho/\(∀ xs,ho ≠ .tup xs)/\(fz (some o)=false->Mut (some ho) /\ ∀ ob u,ho ≠ .frz ob u):=by
 have q:=r a o h
 cases o with
 | lst ds =>
   obtain ⟨vs,e,_⟩:=q
   exact ⟨_,e,fun _ z=>(by cases z),fun _=>⟨trivial,fun _ _ z=>(by cases z)⟩⟩
 | dct t kvs =>
   cases t with
   | false=>obtain ⟨ps,e,_⟩:=q;exact ⟨_,e,fun _ z=>(by cases z),fun _=>⟨trivial,fun _ _ z=>(by cases z)⟩⟩
   | true=>obtain ⟨ps,e,_⟩:=q;exact ⟨_,e,fun _ z=>(by cases z),fun _=>⟨trivial,fun _ _ z=>(by cases z)⟩⟩
 | fdc kvs=>obtain ⟨ob,ps,e,_⟩:=q;exact ⟨_,e,fun _ z=>(by cases z),fun z=>(by cases z)⟩
theorem RM.fzT (r:RM K M H) {a:Addr} {xs:List V} (e:H a=some (.tup xs)):M a=none:=by
 cases q:M a with
 | none=>rfl
 | some o =>
   obtain ⟨ho,j,z,_⟩:=r.mut q
   rw [e] at j;cases j
   exact absurd rfl (z xs)
theorem RM.fzF (r:RM K M H) {a:Addr} {ob:Obj} {u:HO} (e:H a=some (.frz ob u)):fz (M a)=true:=by
 cases q:M a with
 | none=>rfl
 | some o =>
   obtain ⟨ho,j,_,B⟩:=r.mut q
   rw [e] at j;cases j
   cases z:fz (some o) with
   | true=>rfl
   | false=>exact absurd rfl ((B z).2 ob u)
theorem RM.out (r:RM K M H) {a:Addr} (h:H a=none):M a=none:=by
 cases e:M a with
 | none=>rfl
 | some o =>
   obtain ⟨ho,q,_⟩:=r.mut e
   rw [h] at q;cases q
theorem Ext.stab (r:RM K M H) (x:Ext M H M' H'):Stab H H' where
 tup:=fun a xs e=>x.keep a _ (r.fzT e) e
 frz:=fun a o u e=>x.kp a _ (r.fzF e) e
theorem RS.mono (st:Stab H H') {σ:St} {ρ:ao} (h:RS K H σ ρ):RS K H' σ ρ :=
 ⟨h.1,fun i d e=>let ⟨v,q,r⟩:=h.2 i d e; ⟨v,q,r.mono st⟩⟩
theorem RS.set {σ:St} {ρ:ao} (h:RS K H σ ρ) (i:Nat) {d:D} {v:V} (r:RD K H d v):RS K H (σ.set i (some v)) (ρ.set i (some d)):=by
 refine ⟨by simp [h.1],fun j e q => ?_⟩
 by_cases hij:i=j
 ·subst hij
  have hi:i < ρ.length:=by
   have:=(List.getElem?_eq_some_iff.mp q).1
   simpa using this
  rw [List.getElem?_set_self hi] at q
  cases q
  exact ⟨v,by rw [List.getElem?_set_self (by rw [h.1];exact hi)],r⟩
 ·rw [List.getElem?_set_ne hij] at q ⊢
  exact h.2 j e q
noncomputable def jx (fr:List (Option Nat)) (ρ:ao):ao:=fr.map fun o=>o.bind fun j=>(ρ[j]?).join
theorem RS.inh {σ:St} {ρ:ao} (h:RS K H σ ρ) (fr:List (Option Nat)):RS K H (inh fr σ) (jx fr ρ):=by
 refine ⟨by simp [L2.inh,jx],fun i d e => ?_⟩
 unfold jx at e
 unfold L2.inh
 rw [List.getElem?_map] at e ⊢
 cases q:fr[i]? with
 | none=>rw [q] at e;cases e
 | some o =>
   rw [q] at e
   cases o with
   | none=>cases e
   | some j =>
     have e':some ((ρ[j]?).join)=some (some d):=e
     cases q' : ρ[j]? with
     | none=>rw [q'] at e';cases e'
     | some w =>
       rw [q'] at e'
       cases e'
       obtain ⟨v,v1,v2⟩:=h.2 j d q'
       exact ⟨v,by simp [v1],v2⟩
theorem RO.mono (st:Stab H H') {a:Addr} {o:O} (h:RO K H a o) (e:∀ ho,H a=some ho->H' a=some ho):RO K H' a o:=by
 cases o with
 | lst ds=>obtain ⟨vs,q,r⟩:=h;exact ⟨vs,e _ q,r.mono st⟩
 | dct t kvs =>
   cases t with
   | false=>obtain ⟨ps,q,r⟩:=h;exact ⟨ps,e _ q,Paired.mapP r fun _ _ z=>⟨z.1,z.2.mono st⟩⟩
   | true=>obtain ⟨ps,q,r⟩:=h;exact ⟨ps,e _ q,Paired.mapP r fun _ _ z=>⟨z.1,z.2.mono st⟩⟩
 | fdc kvs=>obtain ⟨ob,ps,q,r⟩:=h;exact ⟨ob,ps,e _ q,Paired.mapP r fun _ _ z=>⟨z.1,z.2.mono st⟩⟩
theorem RM.new {p:Addr} {ho:HO} (r:RM K M H) (n:H p=none):RM K M (upd H p ho):=fun a o e=>by
 have ne:a≠p:=fun z=>by subst z;obtain ⟨_,q,_⟩:=r.mut e;rw [n] at q;cases q
 refine (r a o e).mono ⟨fun b xs q => ?_,fun b o u q => ?_⟩ fun j q=>by rw [aj ne];exact q
 ·rw [aj (aR q n)];exact q
 ·rw [aj (aR q n)];exact q
theorem Ext.new' {p:Addr} {ho:HO} (n:H p=none):Ext M H M (upd H p ho):=⟨fun a o _ e=>by rw [aj (aR e n)];exact e,fun _ _ _ _=>rfl⟩
theorem RM.lay {p:Addr} {ho:HO} {o:O} (r:RM K M H) (n:H p=none) (h:RO K (upd H p ho) p o):RM K (af M p o) (upd H p ho):=fun a o' e=>by
 by_cases z:a=p
 ·subst z;rw [ab] at e;cases e;exact h
 ·rw [aq z] at e;exact r.new n a o' e
theorem Ext.lay {p:Addr} {ho:HO} {o:O} (n:H p=none):Ext M H (af M p o) (upd H p ho) :=
 ⟨fun a u _ e=>by rw [aj (aR e n)];exact e,fun a u m e=>by rw [aq (aR e n)]⟩
theorem RM.put {p:Addr} {ho:HO} {o o0:O} (r:RM K M H) (m:M p=some o0) (h:RO K (upd H p ho) p o) (w:fz (some o0)=false:=by rfl):RM K (af M p o) (upd H p ho):=fun a o' e=>by
 by_cases z:a=p
 ·subst z;rw [ab] at e;cases e;exact h
 ·rw [aq z] at e
  obtain ⟨J,j,B,F⟩:=r.mut m
  refine (r a o' e).mono ⟨fun b xs q => ?_,fun b o u q => ?_⟩ fun G q=>by rw [aj z];exact q
  ·rw [aj (fun z=>by subst z;rw [j] at q;cases q;exact B xs rfl)];exact q
  ·rw [aj (fun z=>by subst z;rw [j] at q;cases q;exact (F w).2 o u rfl)];exact q
theorem Ext.put {p:Addr} {ho:HO} {o o0:O} (m:M p=some o0) (w:fz (some o0)=false:=by rfl):Ext M H (af M p o) (upd H p ho) :=
 ⟨fun a u n e=>by rw [aj (fun z=>by subst z;rw [m,w] at n;cases n)];exact e,fun a u n e=>aq (fun z=>by subst z;rw [m,w] at n;cases n)⟩
theorem RM.stabPut {p:Addr} {ho:HO} {o0:O} (r:RM K M H) (m:M p=some o0) (w:fz (some o0)=false:=by rfl):Stab H (upd H p ho):=(Ext.put (o:=o0) (ho:=ho) m w).stab r
end
noncomputable abbrev QD:=D->Mem->Prop
noncomputable abbrev TEd:=ao->Mem->QD->Prop
noncomputable abbrev TTd:=ao->Mem->(Bool->Mem->Prop)->Prop
noncomputable abbrev TAd:=ao->Mem->(List D->Mem->Prop)->Prop
structure b8 where
 nx:ao->Mem->Prop
 rt:QD
 bk:ao->Mem->Prop:=fun _ _=>False
 ct:ao->Mem->Prop:=fun _ _=>False
noncomputable abbrev TSd:=b8->ao->Mem->Prop
noncomputable def ad (T:TEd):Prop := ∀ ρ M Q Q',(∀ d M',Q d M'->Q' d M')->T ρ M Q->T ρ M Q'
noncomputable def aB (T:TTd):Prop := ∀ ρ M Q Q',(∀ d M',Q d M'->Q' d M')->T ρ M Q->T ρ M Q'
noncomputable def b6 (T:TAd):Prop := ∀ ρ M Q Q',(∀ d M',Q d M'->Q' d M')->T ρ M Q->T ρ M Q'
structure LeD (a b:b8):Prop where
 nx:∀ ρ M,a.nx ρ M->b.nx ρ M
 rt:∀ d M,a.rt d M->b.rt d M
 bk:∀ ρ M,a.bk ρ M->b.bk ρ M
 ct:∀ ρ M,a.ct ρ M->b.ct ρ M
noncomputable def aA (T:TSd):Prop := ∀ a b ρ M,LeD a b->T a ρ M->T b ρ M
noncomputable def KE' (K:Frag) (M:Mem) (H:Hp) (Q:VK):QD:=fun d M' => ∀ v H',Ext M H M' H'->RM K M' H'->RD K H' d v->Q v H'
noncomputable def KT' (K:Frag) (M:Mem) (H:Hp) (Q:Bool->Hp->Prop):Bool->Mem->Prop:=fun b M' => ∀ H',Ext M H M' H'->RM K M' H'->Q b H'
noncomputable def KA' (K:Frag) (M:Mem) (H:Hp) (Q:List V->Hp->Prop):List D->Mem->Prop:=fun ds M' => ∀ vs H',Ext M H M' H'->RM K M' H'->RDs K H' ds vs->Q vs H'
noncomputable def lE (K:Frag) (T:TEd):TE:=fun σ H Q => ∃ ρ M,RS K H σ ρ /\ RM K M H/\T ρ M (KE' K M H Q)
noncomputable def lT (K:Frag) (T:TTd):TT:=fun σ H Q => ∃ ρ M,RS K H σ ρ /\ RM K M H/\T ρ M (KT' K M H Q)
noncomputable def lA (K:Frag) (T:TAd):TA:=fun σ H Q => ∃ ρ M,RS K H σ ρ /\ RM K M H/\T ρ M (KA' K M H Q)
structure Link (K:Frag) (M:Mem) (H:Hp) (a:b8) (b:be):Prop where
 nx:∀ ρ M' σ H',Ext M H M' H'->RS K H' σ ρ -> RM K M' H'->a.nx ρ M'->b.nx σ H'
 rt:∀ d M' v H',Ext M H M' H'->RM K M' H'->RD K H' d v->a.rt d M'->b.rt v H'
 bk:∀ ρ M' σ H',Ext M H M' H'->RS K H' σ ρ -> RM K M' H'->a.bk ρ M'->b.bk σ H'
 ct:∀ ρ M' σ H',Ext M H M' H'->RS K H' σ ρ -> RM K M' H'->a.ct ρ M'->b.ct σ H'
noncomputable def lS (K:Frag) (T:TSd):TS:=fun D σ H => ∃ ρ M A,RS K H σ ρ /\ RM K M H/\Link K M H A D/\T A ρ M
theorem Link.ext {K:Frag} {M M':Mem} {H H':Hp} {a:b8} {b:be} (l:Link K M H a b) (x:Ext M H M' H'):Link K M' H' a b :=
 ⟨fun ρ M2 σ H2 y=>l.nx ρ M2 σ H2 (x.trans y),fun d M2 v H2 y=>l.rt d M2 v H2 (x.trans y),fun ρ M2 σ H2 y=>l.bk ρ M2 σ H2 (x.trans y),fun ρ M2 σ H2 y=>l.ct ρ M2 σ H2 (x.trans y)⟩
theorem PE.imp {X:Cx} {e:Expr} {t t':TE} (h:PE X e t) (i:∀ σ H Q,t' σ H Q->t σ H Q):PE X e t':=fun pins s σ H Q I q=>h pins s σ H Q I (i _ _ _ q)
theorem PT.imp {X:Cx} {e:Expr} {t t':TT} (h:PT X e t) (i:∀ σ H Q,t' σ H Q->t σ H Q):PT X e t':=fun pins s σ H Q I q=>h pins s σ H Q I (i _ _ _ q)
theorem PW.imp {X:Cx} {e:Expr} {t t':TT} (h:PW X e t) (i:∀ σ H Q,t' σ H Q->t σ H Q):PW X e t':=fun wh pins s σ H Q I q=>h wh pins s σ H Q I (i _ _ _ q)
theorem PA.imp {X:Cx} {e:List Expr} {t t':TA} (h:PA X e t) (i:∀ σ H Q,t' σ H Q->t σ H Q):PA X e t':=fun p pins s σ H Q I q=>h p pins s σ H Q I (i _ _ _ q)
theorem PS.imp {X:Cx} {e:Stmt} {t t':TS} (h:PS X e t) (i:∀ D σ H,t' D σ H->t D σ H):PS X e t':=fun pins s σ H D I q=>h pins s σ H D I (i _ _ _ q)
theorem PSs.imp {X:Cx} {e:List Stmt} {t t':TS} (h:PSs X e t) (i:∀ D σ H,t' D σ H->t D σ H):PSs X e t':=fun pins s σ H D I q=>h pins s σ H D I (i _ _ _ q)
end
section
theorem KE'.ext {K:Frag} {M M2 M':Mem} {H H2:Hp} {Q:VK} {d:D} (x:Ext M H M2 H2) (h:KE' K M H Q d M'):KE' K M2 H2 Q d M':=fun v H' y=>h v H' (x.trans y)
theorem KT'.ext {K:Frag} {M M2 M':Mem} {H H2:Hp} {Q:Bool->Hp->Prop} {d:Bool} (x:Ext M H M2 H2) (h:KT' K M H Q d M'):KT' K M2 H2 Q d M':=fun H' y=>h H' (x.trans y)
noncomputable abbrev R2d:=D->D->Mem->QD->Prop
noncomputable abbrev R1d:=D->Mem->QD->Prop
noncomputable abbrev RAd:=List D->Mem->QD->Prop
noncomputable def ak (r:R2d):Prop := ∀ x y M Q Q',(∀ d M',Q d M'->Q' d M')->r x y M Q->r x y M Q'
noncomputable def qr (r:R1d):Prop := ∀ x M Q Q',(∀ d M',Q d M'->Q' d M')->r x M Q->r x M Q'
noncomputable def aS (r:RAd):Prop := ∀ x M Q Q',(∀ d M',Q d M'->Q' d M')->r x M Q->r x M Q'
noncomputable def l2 (K:Frag) (rd:R2d):R2:=fun v u H Q => ∃ x y M,RM K M H/\RD K H x v/\RD K H y u/\rd x y M (KE' K M H Q)
noncomputable def l1 (K:Frag) (rd:R1d):V->Hp->VK->Prop:=fun v H Q => ∃ x M,RM K M H/\RD K H x v/\rd x M (KE' K M H Q)
noncomputable def lR (K:Frag) (rd:RAd):List V->Hp->VK->Prop:=fun vs H Q => ∃ ds M,RM K M H/\RDs K H ds vs/\rd ds M (KE' K M H Q)
noncomputable def lMt (K:Frag) (rd:D->List D->Mem->QD->Prop):V->List V->Hp->VK->Prop:=fun v vs H Q => ∃ x ds M,RM K M H/\RD K H x v/\RDs K H ds vs/\rd x ds M (KE' K M H Q)
noncomputable def gQ (i:Nat):TEd:=fun ρ M Q => ∃ d, ρ[i]? = some (some d)/\Q d M
noncomputable def wC (d:D):TEd:=fun _ M Q=>Q d M
noncomputable def wOp (rd:R2d) (ta tb:TEd):TEd:=fun ρ M Q=>ta ρ M fun x M1=>tb ρ M1 fun y M2=>rd x y M2 Q
noncomputable def wUn (rd:R1d) (ta:TEd):TEd:=fun ρ M Q=>ta ρ M fun x M1=>rd x M1 Q
noncomputable def bK:TAd:=fun _ M Q=>Q [] M
noncomputable def b9 (ta:TEd) (tr:TAd):TAd:=fun ρ M Q=>ta ρ M fun x M1=>tr ρ M1 fun xs M2=>Q (x::xs) M2
noncomputable def wAr (rd:RAd) (t:TAd):TEd:=fun ρ M Q=>t ρ M fun ds M1=>rd ds M1 Q
theorem vG {i:Nat}:ad (gQ i):=fun _ _ _ _ h ⟨d,e,q⟩=>⟨d,e,h _ _ q⟩
theorem iH {d:D}:ad (wC d):=fun _ _ _ _ h q=>h _ _ q
theorem dX {rd:R2d} {ta tb:TEd} (j:ak rd) (z:ad ta) (B:ad tb):ad (wOp rd ta tb):=fun ρ M Q Q' h q =>
 z _ _ _ _ (fun x J F=>B _ _ _ _ (fun y M2 G=>j _ _ _ _ _ h G) F) q
theorem yK {rd:R1d} {ta:TEd} (j:qr rd) (z:ad ta):ad (wUn rd ta):=fun ρ M Q Q' h q=>z _ _ _ _ (fun x F B=>j _ _ _ _ h B) q
theorem aF:b6 bK:=fun _ _ _ _ h q=>h _ _ q
theorem aG {ta:TEd} {tr:TAd} (j:ad ta) (z:b6 tr):b6 (b9 ta tr):=fun ρ M Q Q' h q =>
 j _ _ _ _ (fun x G B=>z _ _ _ _ (fun xs M2 F=>h _ _ F) B) q
theorem fU {rd:RAd} {t:TAd} (j:aS rd) (z:b6 t):ad (wAr rd t):=fun ρ M Q Q' h q=>z _ _ _ _ (fun ds F B=>j _ _ _ _ h B) q
section
variable {X:Cx} {a b:Expr} {ta tb:TEd} {pos:Pos}
theorem AY {i:Nat} {x:Str} (B:X.N[i]? = some x) (j:Vis X.env.scope x) (hd:(x==("__debug__":Str))=false) (z:(x==("__classdict__":Str))=false):PE X (.Name x pos) (lE X.K (gQ i)):=by
 refine PE.imp (Ak B j hd z) fun σ H Q h => ?_
 obtain ⟨ρ,M,rs,rm,d,e,q⟩:=h
 obtain ⟨v,j,rd⟩:=rs.2 i d e
 exact ⟨v,j,q v H Ext.refl rm rd⟩
theorem le_int {i:Int} {j:Nat}:PE X (.Constant (.int i) j pos) (lE X.K (wC (.int i))) :=
 PE.imp Al fun σ H Q ⟨ρ,M,rs,rm,q⟩=>q _ H Ext.refl rm (RD.int_iff.mpr rfl)
theorem Ct {i:Bool} {j:Nat}:PE X (.Constant (.bool i) j pos) (lE X.K (wC (.bl i))) :=
 PE.imp C4 fun σ H Q ⟨ρ,M,rs,rm,q⟩=>q _ H Ext.refl rm (RD.bl_iff.mpr rfl)
theorem AZ {j:Nat}:PE X (.Constant .none j pos) (lE X.K (wC .non)) :=
 PE.imp Am fun σ H Q ⟨ρ,M,rs,rm,q⟩=>q _ H Ext.refl rm (RD.non_iff.mpr rfl)
theorem fV {K:Frag} {rd:R2d} (L:ak rd) (ma:ad ta) (mb:ad tb) (σ:St) (H:Hp) (Q:VK) (h:lE K (wOp rd ta tb) σ H Q):tOp (l2 K rd) (lE K ta) (lE K tb) σ H Q:=by
 obtain ⟨ρ,M,rs,rm,q⟩:=h
 refine ⟨ρ,M,rs,rm,ma _ _ _ _ (fun x O U v H1 G j z => ?_) q⟩
 refine ⟨ρ,O,rs.mono (G.stab rm),j,mb _ _ _ _ (fun y M2 Y u H2 J B F => ?_) U⟩
 exact ⟨x,y,M2,B,z.mono (J.stab j),F,L _ _ _ _ _ (fun d M' k=>k.ext (G.trans J)) Y⟩
theorem Cu {op:Operator} {rd:R2d} (ho:OpR X (binaryOp op) (l2 X.K rd)) (j:ak rd) (ma:ad ta) (mb:ad tb) (q:PE X a (lE X.K ta)) (z:PE X b (lE X.K tb)):PE X (.BinOp a op b pos) (lE X.K (wOp rd ta tb)) :=
 PE.imp (Cd ho q z) (fV j ma mb)
theorem B0 {op:CmpOp} {rd:R2d} (ho:OpR X (compareOp op) (l2 X.K rd)) (j:ak rd) (ma:ad ta) (mb:ad tb) (q:PE X a (lE X.K ta)) (z:PE X b (lE X.K tb)) (hm:behindInMarks op b=false) :
 PE X (.Compare a [op] [b] pos) (lE X.K (wOp rd ta tb)):=PE.imp (yz ho q z hm) (fV j ma mb)
noncomputable def eM (t:TEd):TTd:=fun ρ M Q=>t ρ M fun x M1 => ∃ k,x = .bl k/\Q k M1
theorem m8 {t:TEd} (h:ad t):aB (eM t):=fun ρ M Q Q' i q=>h _ _ _ _ (fun x z ⟨k,e,j⟩=>⟨k,e,i _ _ j⟩) q
theorem m9 {K:Frag} {t:TEd} (m:ad t) (σ:St) (H:Hp) (Q:Bool->Hp->Prop) (h:lT K (eM t) σ H Q):qe (lE K t) σ H Q:=by
 obtain ⟨ρ,M,rs,rm,q⟩:=h
 refine ⟨ρ,M,rs,rm,m _ _ _ _ (fun x G ⟨k,e,B⟩ v H1 F j z => ?_) q⟩
 subst e
 exact ⟨k,RD.bl_iff.mp z,B H1 F j⟩
theorem B3 {op:CmpOp} {rd:R2d} (ho:OpR X (compareOp op) (l2 X.K rd)) (j:ak rd) (ma:ad ta) (mb:ad tb) (q:PE X a (lE X.K ta)) (z:PE X b (lE X.K tb)) (hm:behindInMarks op b=false) :
 PT X (.Compare a [op] [b] pos) (lT X.K (eM (wOp rd ta tb))) :=
 PT.imp (yA ho q z hm) fun σ H Q h=>by
  have h1:=m9 (dX j ma mb) σ H Q h
  exact fV j ma mb σ H _ h1
theorem Cv {op:UnaryOp} {rd:R1d} (ho:UnR X (unaryOp op) (l1 X.K rd)) (B:qr rd) (ma:ad ta) (F:PE X a (lE X.K ta)):PE X (.UnaryOp op a pos) (lE X.K (wUn rd ta)) :=
 PE.imp (Ce ho F) fun σ H Q ⟨ρ,M,rs,rm,q⟩=>⟨ρ,M,rs,rm,ma _ _ _ _ (fun x G J v H1 L j z=>⟨x,G,j,z,B _ _ _ _ (fun d M' k=>k.ext L) J⟩) q⟩
theorem Cw {rd:R2d} (ho:IxR X (l2 X.K rd)) (j:ak rd) (ma:ad ta) (mb:ad tb) (q:PE X a (lE X.K ta)) (z:PE X b (lE X.K tb)) (hs:jv b):PE X (.Subscript a b pos) (lE X.K (wOp rd ta tb)) :=
 PE.imp (Cl ho q z hs) (fV j ma mb)
theorem dY:PA X [] (lA X.K bK):=PA.imp rY fun σ H Q ⟨ρ,M,rs,rm,q⟩=>q _ H Ext.refl rm RDs.nil
theorem sB {K:Frag} {tr:TAd} (ma:ad ta) (mr:b6 tr) (σ:St) (H:Hp) (Q:List V->Hp->Prop) (h:lA K (b9 ta tr) σ H Q):xI (lE K ta) (lA K tr) σ H Q:=by
 obtain ⟨ρ,M,rs,rm,q⟩:=h
 refine ⟨ρ,M,rs,rm,ma _ _ _ _ (fun x L O v H1 G j z => ?_) q⟩
 refine ⟨ρ,L,rs.mono (G.stab rm),j,mr _ _ _ _ (fun xs M2 U vs H2 J B F => ?_) O⟩
 exact U (v::vs) H2 (G.trans J) B (RDs.cons (z.mono (J.stab j)) F)
theorem bZ {e:Expr} {es:List Expr} {tr:TAd} (ma:ad ta) (mr:b6 tr) (j:PE X e (lE X.K ta)) (q:PA X es (lA X.K tr)) (hs:starEach (e::es) X.env=(false,eval e X.env)::starEach es X.env) :
 PA X (e::es) (lA X.K (b9 ta tr)):=PA.imp (jq j q hs) (sB ma mr)
theorem bq {K:Frag} {rd:RAd} {t:TAd} (B:aS rd) (mt:b6 t) (σ:St) (H:Hp) (Q:VK) (h:lE K (wAr rd t) σ H Q):tCB (lR K rd) (lA K t) σ H Q:=by
 obtain ⟨ρ,M,rs,rm,q⟩:=h
 exact ⟨ρ,M,rs,rm,mt _ _ _ _ (fun ds F G vs H1 J j z=>⟨ds,F,j,z,B _ _ _ _ (fun d M' k=>k.ext J) G⟩) q⟩
noncomputable def md:RAd:=fun ds M Q=>ds.length<=sizeLine/\Q (.tup ds) M
noncomputable def mf:RAd:=fun ds M Q=>ds.length<=sizeLine /\ ∀ p,M p=none->Q (.ref p) (af M p (.lst ds))
theorem sC:aS md:=fun _ _ _ _ h ⟨z,q⟩=>⟨z,h _ _ q⟩
theorem sD:aS mf:=fun _ _ _ _ h ⟨z,q⟩=>⟨z,fun p n=>h _ _ (q p n)⟩
theorem cZ {K:Frag} {M:Mem} {H:Hp} {Q:VK} {ds:List D} {vs:List V} {p:Addr} (rm:RM K M H) (rd:RDs K H ds vs) (q:KE' K M H Q (.tup ds) M) (n:H p=none):Q (.ref p) (upd H p (.tup vs)):=by
 have x:Ext M H M (upd H p (.tup vs)):=Ext.new' n
 exact q (.ref p) _ x (rm.new n) (RD.tup_mk ⟨p,vs,rfl,aE,rd.mono (x.stab rm)⟩)
theorem da {K:Frag} {M:Mem} {H:Hp} {Q:VK} {ds:List D} {vs:List V} {p:Addr} (rm:RM K M H) (rd:RDs K H ds vs) (q:∀ p,M p=none->KE' K M H Q (.ref p) (af M p (.lst ds))) (n:H p=none):Q (.ref p) (upd H p (.lst vs)):=by
 have x:Ext M H (af M p (.lst ds)) (upd H p (.lst vs)):=Ext.lay n
 have x0:Ext M H M (upd H p (.lst vs)):=Ext.new' n
 exact q p (rm.out n) (.ref p) _ x (rm.lay n ⟨vs,aE,rd.mono (x0.stab rm)⟩) (RD.ref_iff.mpr rfl)
theorem B4 {es:List Expr} {t:TAd} {k:Nat} (mt:b6 t) (h:PA X es (lA X.K t)):PE X (.Tuple es k pos) (lE X.K (wAr md t)) :=
 PE.imp (AL h) fun σ H Q ⟨ρ,M,rs,rm,q⟩=>⟨ρ,M,rs,rm,mt _ _ _ _ (fun ds J ⟨z,F⟩ vs H1 G B j=>⟨by rw [j.length];exact z,fun p n=>cZ B j (F.ext G) n⟩) q⟩
theorem B5 {es:List Expr} {t:TAd} (mt:b6 t) (h:PA X es (lA X.K t)):PE X (.List es pos) (lE X.K (wAr mf t)) :=
 PE.imp (AM h) fun σ H Q ⟨ρ,M,rs,rm,q⟩=>⟨ρ,M,rs,rm,mt _ _ _ _ (fun ds J ⟨z,F⟩ vs H1 G B j=>⟨by rw [j.length];exact z,fun p n=>da B j (fun p' n'=>(F p' n').ext G) n⟩) q⟩
end
end
end Mi
end L2
namespace L2
open PySem PySem.Spec PyProof.Rows
namespace Mi
end Mi
end L2
namespace L2
open PySem PySem.Spec PyProof.Rows
section
theorem gR:fillsNumberSlot (.type "tuple") "mul" = pure false :=
 PyProof.Rows.fillsNumberSlot_seq (id := "tuple.__mul__") (r:=some (.builtin "tuple.__rmul__")) F.slot_tuple_mul.lookup (by decide +kernel) F.slot_tuple_rmul.lookup (by decide +kernel)
theorem mj:seqRepeat? (.type "tuple")=pure (some (.builtin "tuple.__mul__")):=by
 unfold seqRepeat?
 rw [PyProof.Rows.seqSlot_of (T := "tuple") (name := "__mul__") (id := "tuple.__mul__") F.slot_tuple_mul.lookup (by decide +kernel),PyProof.Rows.seqSlot_of (T := "tuple") (name := "__rmul__") (id := "tuple.__rmul__") F.slot_tuple_rmul.lookup (by decide +kernel)]
 rfl
theorem jy (a:Int) (t:Tok) (l:Addr) (items:Array Value) (n:Nat) (d:Option Addr) (sl:Array (Option Value)) :
 Meets (Builtin.«int.__rmul__» ⟨[.int a t, .ref l],[]⟩) (fun _ R s=>s.heap.get? l=some { cls := .type "tuple",dict:=d,data := .seq items n,slots:=sl }/\R (.ok (.ret Value.notImplemented)) s) :=
 .of_wp fun prog w A R s h=>by obtain ⟨j,g,d,tk,os⟩:=s;obtain ⟨q,h⟩:=h;wp_walk;exact ⟨_,rfl,h⟩
open AutoSeq1 (wpAny_loadPart') in
theorem sF (l:Addr) (items:Array Value) (n:Nat) (dd:Option Addr) (sl:Array (Option Value)) (x:Int) (u:Tok) (h1 : -(2 ^ 63)<=x) (h2:x < 2 ^ 63) (B:items.size*x.toNat<=sizeLine) :
 Meets (Builtin.«tuple.__mul__» ⟨[.ref l, .int x u],[]⟩) (fun _ R s=>s.heap.get? l=some { cls := .type "tuple",dict:=dd,data := .seq items n,slots:=sl } /\
  (if items.isEmpty || x==1 then R (.ok (.ret (.ref l))) s else R (.ok (.ret (.ref s.heap.objs.size))) { s with heap:=s.heap.push { cls := .type "tuple",data := .seq ((List.replicate x.toNat items).foldl (· ++ ·) #[]) } })) :=
 .of_wp fun prog w A R s h=>by
  obtain ⟨U,g,d,tk,os⟩:=s;obtain ⟨q,h⟩:=h
  have f1:=AutoSeq1.idx_int
  have F:(decide (x < -(2 ^ 63)) || decide (x≥2 ^ 63))=false:=by
   rw [decide_eq_false (by lia),decide_eq_false (by lia)];rfl
  wp_walk using wpAny_loadPart' q
  refine wpAny_ite_false (decide_eq_false (by rw [F];decide)) ?_
  dsimp only
  by_cases j:(items.isEmpty || x==1)=true
  ·rw [if_pos j] at h
   wp_walk using wpAny_loadPart' q
   exact ⟨_,rfl,h⟩
  ·rw [if_neg j] at h
   wp_walk using wpAny_loadPart' q
   simp only [Bool.or_eq_true,not_or] at j
   by_cases e2:x<=0
   ·have z:(decide (x<=0) || items.isEmpty)=true:=by rw [decide_eq_true e2];rfl
    rw [if_pos z]
    have G:x.toNat=0:=by lia
    rw [G] at h
    wp_walk
    exact ⟨_,rfl,h⟩
   ·have z : ¬ (decide (x<=0) || items.isEmpty)=true:=by simp;exact ⟨by lia,by simpa using j.1⟩
    rw [if_neg z]
    have hx:((items.size:Nat):Int)*x=((items.size*x.toNat:Nat):Int):=by
     rw [Int.natCast_mul,Int.toNat_of_nonneg (by lia)]
    have hs:sizeLine=16777216:=sizeLine_eq
    have J : ¬ ((items.size:Nat):Int)*x > (2 ^ 63 - 1) / 8:=by rw [hx];lia
    rw [if_neg J]
    have L : ¬ Builtin.Tuple.tupleTooMany (((items.size:Nat):Int)*x)=true:=by
     rw [hx];unfold Builtin.Tuple.tupleTooMany
     intro O;have Y:=of_decide_eq_true O;lia
    rw [if_neg L]
    wp_walk
    have hsz:((List.replicate x.toNat items).foldl (· ++ ·) #[]).size<=sizeLine:=by
     have:∀ (k:Nat) (a:Array Value),((List.replicate k items).foldl (· ++ ·) a).size=a.size+items.size*k:=by
      intro k;induction k with
      | zero=>intro a;simp
      | succ k ih=>intro a;rw [List.replicate_succ,List.foldl_cons,ih,Array.size_append,Nat.mul_succ];lia
     rw [this];simpa using B
    refine wpAny_ite_false (decide_eq_false (Nat.not_lt.mpr hsz)) ?_
    wp_walk
    exact ⟨_,rfl,h⟩
end
section
section
variable {X:Cx}
noncomputable def xP (K:Frag):R2:=fun x y H Q => ∃ l k xs,x = .ref l/\y = .int k/\SqT K H l xs /\ -(2 ^ 63)<=k/\k < 2 ^ 63/\xs.length*k.toNat<=sizeLine /\
 ((xs=[]∨k=1)->Q (.ref l) H)/\(¬ (xs=[]∨k=1) -> ∀ p,H p=none->Q (.ref p) (upd H p (.tup (List.replicate k.toNat xs).flatten)))
theorem yL:OpR X (binaryOp .Mult) (xP X.K):=by
 intro pins s σ H x y v u Q I rx ry h
 obtain ⟨l,k,xs,rfl,rfl,G,h1,h2,j,J,L⟩:=h
 cases rx
 obtain ⟨t,rfl⟩:=ry
 obtain ⟨its,r,O,_⟩:=I.tuple G
 have Y:=r.length
 obtain ⟨⟨cls,dd,dat,sl⟩,e,B,n,hd⟩:=O
 dsimp only at B hd
 subst B hd
 have hlen:its.toArray.size*k.toNat<=sizeLine:=by rw [List.size_toArray, <- Y];exact j
 have f0:∀ m:Nat,List.foldl (fun Z x2=>Z++x2) #[] (List.replicate m its.toArray)=(List.replicate m its).flatten.toArray:=fun m=>by
  have:=fh its m []
  rw [List.nil_append] at this
  exact this
 refine wpAny_binaryOp_repeat_ref (T := "tuple") (U := "int") (by decide) ⟨_,e,rfl⟩ (fun s'=>typeIs_int s' k t) gR F.fills_int_mul F.slot_int_rmul mj F.slot_int_index.lookup
  (call_meets F.slot_int_rmul (typeIs_int s k t) F.entry_int_rmul (F.args_int_rmul_2 _ _) (jy k t l its.toArray n dd sl)
    ⟨e,rfl,⟨_,e,rfl⟩,call_meets F.slot_tuple_mul ⟨_,e,rfl⟩ F.entry_tuple_mul (F.args_tuple_mul_2 _ _) (sF l its.toArray n dd sl k t h1 h2 hlen) ⟨e, ?_⟩⟩)
 have hi:(its.toArray.isEmpty || k==1)=true↔(xs=[]∨k=1):=by
  rw [<- r.nil_iff];simp
 split
 ·next c=>exact ⟨.ref l,H,I,rfl,J (hi.mp c)⟩
 ·next c =>
  rw [f0]
  refine ⟨.ref s.heap.objs.size,_,I.laid (t':=s.toks) (o := .tup (List.replicate k.toNat xs).flatten) (fun b ob q=>Heap.get?_push_of_some _ q) (Nat.le_refl _) ?_,rfl,L (fun z=>c (hi.mpr z)) _ (I.hok.fresh (Nat.le_refl _))⟩
  exact ⟨by rw [oM,Nat.mul_comm];exact j,_,r.rep k.toNat,IsTup.new _ _⟩
end
end
section
section
variable {X:Cx}
theorem yM:OpR X (binaryOp .Add) (fun x y H Q => ∃ a b ys,x = .ref a/\y = .ref b/\SqT X.K H a []/\SqT X.K H b ys/\Q (.ref b) H):=by
 intro pins s σ H x y v u Q I rx ry h
 obtain ⟨a,b,ys,rfl,rfl,U,Y,q⟩:=h
 cases rx
 cases ry
 obtain ⟨its,Z,p1,_⟩:=I.tuple U
 obtain ⟨j,r2,p2,_⟩:=I.tuple Y
 have e0:its=[]:=Z.nil_iff.mpr rfl
 obtain ⟨⟨cls,dd,data,sl⟩,ho,L,n,hd⟩:=id p1
 obtain ⟨⟨O,G,data2,J⟩,z,B,n2,hd2⟩:=id p2
 simp only at L hd B hd2
 subst L hd B hd2
 exact concat_meets ⟨_,ho,rfl⟩ ⟨_,z,rfl⟩ noFill_tuple_add seq_tuple_add PySem.F.slot_tuple_add PySem.F.entry_tuple_add (PySem.F.args_tuple_add_2 _ _)
  (tuple_addW0 a b its.toArray j.toArray n n2 dd G sl J (by simp [e0])) ⟨ho,z,⟨.ref b,H,I,rfl,q⟩⟩
end
end
end L2
namespace L2
namespace Mi
open PySem PySem.Spec PyProof.Rows
section
noncomputable def MulOk (i j:Int):Prop:=(-(2 ^ 64) < i/\i < 2 ^ 64)∨(-(2 ^ 64) < j/\j < 2 ^ 64)∨(Builtin.Int.intBits i<=2 ^ 20/\Builtin.Int.intBits j<=2 ^ 20)
theorem MulOk.ok {i j:Int} (h:MulOk i j):IntMulOk i j:=by
 rcases h with h | h | h
 ·exact IntMulOk.of_left (intBits_le_64 h.1 h.2)
 ·exact IntMulOk.of_right (intBits_le_64 h.1 h.2)
 ·exact IntMulOk.of_bits h.1 h.2
noncomputable def gU:R2d
 | .int i, .int j,M,Q=>Q (.int (i+j)) M
 | .tup a, .tup b,M,Q=>(a≠[]∨True)/\a.length+b.length<=sizeLine/\Q (.tup (a++b)) M
 | .ref a, .ref b,M,Q => ∃ xs ys,M a=some (.lst xs)/\M b=some (.lst ys)/\xs.length+ys.length<=sizeLine /\ ∀ p,M p=none->Q (.ref p) (af M p (.lst (xs++ys)))
 | .str x, .str y,M,Q=>x.length+y.length<=sizeLine/\Q (.str (x++y)) M
 | _,_,_,_=>False
noncomputable def qt:R2d
 | .int i, .int j,M,Q=>Q (.int (i - j)) M
 | _,_,_,_=>False
noncomputable def jz:R2d
 | .int i, .int j,M,Q=>MulOk i j/\Q (.int (i*j)) M
 | .ref a, .int k,M,Q => ∃ xs,M a=some (.lst xs) /\ -(2 ^ 63)<=k/\k < 2 ^ 63/\xs.length*k.toNat<=sizeLine /\ ∀ p,M p=none->Q (.ref p) (af M p (.lst (List.replicate k.toNat xs).flatten))
 | .tup ds, .int k,M,Q => -(2 ^ 63)<=k/\k < 2 ^ 63/\ds.length*k.toNat<=sizeLine/\Q (.tup (List.replicate k.toNat ds).flatten) M
 | _,_,_,_=>False
noncomputable def lf:R2d
 | .int i, .int j,M,Q => 0 < j/\j < 2 ^ 256/\Q (.int (i / j)) M
 | _,_,_,_=>False
noncomputable def qu:R2d
 | .int i, .int j,M,Q => 0 < j/\Q (.int (i % j)) M
 | _,_,_,_=>False
noncomputable def qv:R2d
 | .int i, .int j,M,Q => 0<=j/\j<=1000000/\i.natAbs < 2 ^ 64/\Q (.int (i ^ j.toNat)) M
 | _,_,_,_=>False
theorem vH:ak gU:=by
 intro x y M Q Q' h q
 cases x <;> cases y <;> first
  | exact q.elim
  | exact h _ _ q
  | exact ⟨q.1,h _ _ q.2⟩
  | exact ⟨q.1,q.2.1,h _ _ q.2.2⟩
  | (obtain ⟨xs,ys,j,B,z,q⟩:=q;exact ⟨xs,ys,j,B,z,fun p n=>h _ _ (q p n)⟩)
theorem vI:ak qt:=by
 intro x y M Q Q' h q
 cases x <;> cases y <;> first | exact q.elim | exact h _ _ q
theorem vJ:ak jz:=by
 intro x y M Q Q' h q
 cases x <;> cases y <;> first
  | exact q.elim
  | exact ⟨q.1,h _ _ q.2⟩
  | exact ⟨q.1,q.2.1,q.2.2.1,h _ _ q.2.2.2⟩
  | (obtain ⟨xs,j,z,B,F,q⟩:=q;exact ⟨xs,j,z,B,F,fun p n=>h _ _ (q p n)⟩)
theorem sH:ak lf:=by
 intro x y M Q Q' h q
 cases x <;> cases y <;> first | exact q.elim | exact ⟨q.1,q.2.1,h _ _ q.2.2⟩
theorem vK:ak qu:=by
 intro x y M Q Q' h q
 cases x <;> cases y <;> first | exact q.elim | exact ⟨q.1,h _ _ q.2⟩
theorem vL:ak qv:=by
 intro x y M Q Q' h q
 cases x <;> cases y <;> first | exact q.elim | exact ⟨q.1,q.2.1,q.2.2.1,h _ _ q.2.2.2⟩
section
variable {X:Cx}
theorem OpR.of {f:Value->Value->Sem Value} {r r':R2} (h:OpR X f r) (i:∀ v u H Q,r' v u H Q->r v u H Q):OpR X f r':=fun pins s σ H x y v u Q I rx ry q=>h pins s σ H x y v u Q I rx ry (i _ _ _ _ q)
theorem IxR.of {r r':R2} (h:IxR X r) (i:∀ v u H Q,r' v u H Q->r v u H Q):IxR X r':=fun a b pins s σ H x y v u Q I rx ry q=>h a b pins s σ H x y v u Q I rx ry (i _ _ _ _ q)
theorem CallR.of {f:Value} {r r':List V->Hp->VK->Prop} (h:CallR X f r) (i:∀ vs H Q,r' vs H Q->r vs H Q):CallR X f r':=fun pins s σ H xs us Q I rx q=>h pins s σ H xs us Q I rx (i _ _ _ q)
theorem Cy {K:Frag} {M:Mem} {H:Hp} {Q:VK} {a b:List D} {v u:V} (rm:RM K M H) (rx:RD K H (.tup a) v) (ry:RD K H (.tup b) u) (q:gU (.tup a) (.tup b) M (KE' K M H Q)):xK K v u H Q ∨ ∃ a b ys,v = .ref a/\u = .ref b/\SqT K H a []/\SqT K H b ys/\Q (.ref b) H:=by
 obtain ⟨a',vs,rfl,z,j⟩:=RD.tupS rx
 obtain ⟨b',us,rfl,B,F⟩:=RD.tupS ry
 obtain ⟨_,J,q⟩:=q
 have l1:=j.length
 have l2:=F.length
 by_cases G:a=[]
 ·subst G
  have:vs=[]:=RDs.nil_iff.mp j
  subst this
  exact .inr ⟨a',b',us,rfl,rfl,z,B,q _ H Ext.refl rm ry⟩
 refine .inl ⟨a',b',vs,us,rfl,rfl,z,B,fun e=>G (List.length_eq_zero_iff.mp (by rw [<- l1,e];rfl)),by lia,fun e => ?_,fun _ p n=>cZ rm (j.append F) q n⟩
 have eb:b=[]:=List.length_eq_zero_iff.mp (by rw [<- l2,e];rfl)
 subst eb
 rw [List.append_nil] at q
 exact q _ H Ext.refl rm rx
theorem vM:OpR X (binaryOp .Add) (l2 X.K gU):=by
 refine OpR.of (op_add.or ((op_catT.or yM).or (op_cat.or qg))) fun v u H Q h => ?_
 obtain ⟨x,y,M,rm,rx,ry,q⟩:=h
 cases x <;> cases y <;> first
  | exact q.elim
  | (cases RD.int_iff.mp rx;cases RD.int_iff.mp ry;exact .inl ⟨_,_,rfl,rfl,q _ H Ext.refl rm (RD.int_iff.mpr rfl)⟩)
  | exact .inr (.inl (Cy rm rx ry q))
  | (cases RD.ref_iff.mp rx;cases RD.ref_iff.mp ry
     obtain ⟨xs,ys,F,G,z,q⟩:=q
     obtain ⟨vs,h1,j⟩:=rm _ _ F
     obtain ⟨us,h2,B⟩:=rm _ _ G
     have l1:=j.length
     have l2:=B.length
     refine .inr (.inr (.inl ⟨_,_,vs,us,rfl,rfl,h1,h2,by lia,fun p n=>da rm (j.append B) q n⟩)))
  | (cases RD.str_iff.mp rx;cases RD.str_iff.mp ry;exact .inr (.inr (.inr ⟨_,_,rfl,rfl,q.1,q.2 _ H Ext.refl rm (RD.str_iff.mpr rfl)⟩)))
theorem vN:OpR X (binaryOp .Sub) (l2 X.K qt):=by
 refine OpR.of AF fun v u H Q h => ?_
 obtain ⟨x,y,M,rm,rx,ry,q⟩:=h
 cases x <;> cases y <;> first
  | exact q.elim
  | (cases RD.int_iff.mp rx;cases RD.int_iff.mp ry;exact ⟨_,_,rfl,rfl,q _ H Ext.refl rm (RD.int_iff.mpr rfl)⟩)
theorem op_mul_i:OpR X (binaryOp .Mult) (rI MulOk fun i j => .int (i*j)):=opI fun _ _ _ _ _ _ _ z q=>mul_int q z.ok
theorem Cz {K:Frag} {M:Mem} {H:Hp} {Q:VK} {a:List D} {k:Int} {v u:V} (rm:RM K M H) (rx:RD K H (.tup a) v) (ry:RD K H (.int k) u) (q:jz (.tup a) (.int k) M (KE' K M H Q)):xP K v u H Q:=by
 obtain ⟨a',vs,rfl,z,j⟩:=RD.tupS rx
 cases RD.int_iff.mp ry
 obtain ⟨B,F,G,q⟩:=q
 have l1:=j.length
 refine ⟨a',k,vs,rfl,rfl,z,B,F,by rw [l1];exact G,fun e => ?_,fun _ p n=>cZ rm (j.rep _) q n⟩
 have ea:(List.replicate k.toNat a).flatten=a:=by
  rcases e with e | e
  ·have:a=[]:=List.length_eq_zero_iff.mp (by rw [<- l1,e];rfl)
   subst this;simp
  ·subst e;simp
 rw [ea] at q
 exact q _ H Ext.refl rm rx
theorem vO:OpR X (binaryOp .Mult) (l2 X.K jz):=by
 refine OpR.of (op_mul_i.or (op_rep.or yL)) fun v u H Q h => ?_
 obtain ⟨x,y,M,rm,rx,ry,q⟩:=h
 cases x <;> cases y <;> first
  | exact q.elim
  | (cases RD.int_iff.mp rx;cases RD.int_iff.mp ry;exact .inl ⟨_,_,rfl,rfl,q.1,q.2 _ H Ext.refl rm (RD.int_iff.mpr rfl)⟩)
  | (cases RD.ref_iff.mp rx;cases RD.int_iff.mp ry
     obtain ⟨xs,z,B,F,G,q⟩:=q
     obtain ⟨vs,h1,j⟩:=rm _ _ z
     have l1:=j.length
     exact .inr (.inl ⟨_,_,vs,rfl,rfl,h1,B,F,by rw [l1];exact G,fun p n=>da rm (j.rep _) q n⟩))
  | exact .inr (.inr (Cz rm rx ry q))
theorem vP:OpR X (binaryOp .FloorDiv) (rI (fun _ j => 0 < j/\j < 2 ^ 256) fun i j => .int (i / j)):=L2.opI fun i j _ _ _ _ _ z q=>by
 have h1:(0:Int) < j:=z.1
 have h2:j < 2 ^ 256:=z.2
 have B:j.natAbs.log2 < 256:=(Nat.log2_lt (by lia)).mpr (by lia)
 exact floordiv_int (by lia) (by rw [Int.fdiv_eq_ediv_of_nonneg i (by lia)];exact q) (.inl (PyProof.noPylong_of_log2 (by lia)))
theorem sJ:OpR X (binaryOp .FloorDiv) (l2 X.K lf):=by
 refine OpR.of vP fun v u H Q h => ?_
 obtain ⟨x,y,M,rm,rx,ry,q⟩:=h
 cases x <;> cases y <;> first
  | exact q.elim
  | (cases RD.int_iff.mp rx;cases RD.int_iff.mp ry;exact ⟨_,_,rfl,rfl,⟨q.1,q.2.1⟩,q.2.2 _ H Ext.refl rm (RD.int_iff.mpr rfl)⟩)
theorem vQ:OpR X (binaryOp .Mod) (l2 X.K qu):=by
 refine OpR.of AG fun v u H Q h => ?_
 obtain ⟨x,y,M,rm,rx,ry,q⟩:=h
 cases x <;> cases y <;> first
  | exact q.elim
  | (cases RD.int_iff.mp rx;cases RD.int_iff.mp ry;exact ⟨_,_,rfl,rfl,q.1,q.2 _ H Ext.refl rm (RD.int_iff.mpr rfl)⟩)
theorem vR:OpR X (binaryOp .Pow) (l2 X.K qv):=by
 refine OpR.of AH fun v u H Q h => ?_
 obtain ⟨x,y,M,rm,rx,ry,q⟩:=h
 cases x <;> cases y <;> first
  | exact q.elim
  | (cases RD.int_iff.mp rx;cases RD.int_iff.mp ry;exact ⟨_,_,rfl,rfl,⟨q.1,q.2.1,q.2.2.1⟩,q.2.2.2 _ H Ext.refl rm (RD.int_iff.mpr rfl)⟩)
noncomputable def qw:R1d
 | .int i,M,Q=>Q (.int (-i)) M
 | _,_,_=>False
theorem mm:qr qw:=by
 intro x M Q Q' h q
 cases x <;> first | exact q.elim | exact h _ _ q
theorem UnR.of {f:Value->Sem Value} {r r':V->Hp->VK->Prop} (h:UnR X f r) (i:∀ v H Q,r' v H Q->r v H Q):UnR X f r':=fun pins s σ H x v Q I rx q=>h pins s σ H x v Q I rx (i _ _ _ q)
theorem vS:UnR X (unaryOp .USub) (l1 X.K qw):=by
 refine UnR.of AI fun v H Q h => ?_
 obtain ⟨x,M,rm,rx,q⟩:=h
 cases x <;> first
  | exact q.elim
  | (cases RD.int_iff.mp rx;exact ⟨_,rfl,q _ H Ext.refl rm (RD.int_iff.mpr rfl)⟩)
noncomputable def aw {α β:Type} (f : α -> Option β):List α -> Option (List β)
 | [] => some []
 | x::xs=>(f x).bind fun y=>(aw f xs).map (y :: ·)
noncomputable def rb:Nat->Mem->D->Option PyData
 | _,_, .non=>some .none
 | _,_, .bl b=>some (.bool b)
 | _,_, .int i=>some (.int i)
 | _,_, .str x=>if PyData.strOk x=true then some (.str x) else none
 | n+1,M, .tup ds=>(aw (rb n M) ds).map PyData.tuple
 | n+1,M, .con ds=>(aw (rb n M) ds).map PyData.list
 | n+1,M, .ref a=>match M a with
   | some (.lst ds)=>(aw (rb n M) ds).map PyData.list
   | _=>none
 | 0,_, .tup _=>none
 | 0,_, .con _=>none
 | 0,_, .ref _=>none
theorem cS {n:Nat} {M:Mem} (ih:∀ d p,rb n M d=some p->p.depth<=n/\p.canLay0=true):∀ {ds:List D} {ps:List PyData},aw (rb n M) ds=some ps->PyData.depthAll ps<=n/\PyData.canLayAll0 ps=true
 | [],ps,h=>by
  simp [aw] at h;subst h
  exact ⟨Nat.zero_le _,rfl⟩
 | d::ds,ps,h=>by
   simp only [aw] at h
   cases e1:rb n M d with
   | none=>rw [e1] at h;cases h
   | some p =>
     rw [e1] at h
     cases e2:aw (rb n M) ds with
     | none=>simp [e2] at h
     | some qs =>
       simp [e2] at h
       subst h
       obtain ⟨a1,a2⟩:=ih d p e1
       obtain ⟨b1,b2⟩:=cS ih e2
       refine ⟨?_, ?_⟩
       ·show max p.depth (PyData.depthAll qs)<=n
        lia
       ·show (p.canLay0&&PyData.canLayAll0 qs)=true
        rw [a2,b2];rfl
theorem bV {M:Mem}:∀ (n:Nat) (d:D) (p:PyData),rb n M d=some p->p.depth<=n/\p.canLay0=true
 | n, .non,p,h=>by simp [rb] at h;subst h;exact ⟨Nat.zero_le _,rfl⟩
 | n, .bl b,p,h=>by simp [rb] at h;subst h;exact ⟨Nat.zero_le _,rfl⟩
 | n, .int b,p,h=>by simp [rb] at h;subst h;exact ⟨Nat.zero_le _,rfl⟩
 | n, .str x,p,h=>by
   simp [rb] at h
   obtain ⟨h1,h2⟩:=h
   subst h2;exact ⟨Nat.zero_le _,h1⟩
 | 0, .tup _,p,h=>by simp [rb] at h
 | 0, .con _,p,h=>by simp [rb] at h
 | 0, .ref _,p,h=>by simp [rb] at h
 | n+1, .tup ds,p,h=>by
   simp only [rb] at h
   cases e:aw (rb n M) ds with
   | none=>rw [e] at h;cases h
   | some ps =>
     rw [e] at h;cases h
     obtain ⟨a,b⟩:=cS (bV n) e
     exact ⟨Nat.succ_le_succ a,b⟩
 | n+1, .con ds,p,h=>by
   simp only [rb] at h
   cases e:aw (rb n M) ds with
   | none=>rw [e] at h;cases h
   | some ps =>
     rw [e] at h;cases h
     obtain ⟨a,b⟩:=cS (bV n) e
     exact ⟨Nat.succ_le_succ a,b⟩
 | n+1, .ref a,p,h=>by
   simp only [rb] at h
   cases e0:M a with
   | none=>rw [e0] at h;cases h
   | some o =>
     rw [e0] at h
     cases o with
     | dct _ _=>cases h
     | fdc _=>cases h
     | lst ds =>
       simp only at h
       cases e:aw (rb n M) ds with
       | none=>rw [e] at h;cases h
       | some ps =>
         rw [e] at h;cases h
         obtain ⟨a,b⟩:=cS (bV n) e
         exact ⟨Nat.succ_le_succ a,b⟩
theorem cT {K:Frag} {H:Hp} {n:Nat} {M:Mem} {h:Heap} (ih:∀ d p v u,rb n M d=some p->RD K H d v->RelV v u -> ∃ as,Reads h u p as) :
 ∀ {ds:List D} {ps:List PyData} {vs:List V} {us:List Value},aw (rb n M) ds=some ps->RDs K H ds vs->Vals vs us -> ∃ as,ReadsAll h us ps as
 | [],ps,vs,us,hm,r,rv=>by
  simp [aw] at hm;subst hm
  rw [RDs.nil_iff.mp r] at rv
  cases rv
  exact ⟨_, .nil⟩
 | d::ds,ps,vs,us,hm,r,rv=>by
   obtain ⟨v,vr,rfl,j,q⟩:=RDs.cons_iff.mp r
   cases rv with
   | cons z B =>
     simp only [aw] at hm
     cases e1:rb n M d with
     | none=>rw [e1] at hm;cases hm
     | some p =>
       rw [e1] at hm
       cases e2:aw (rb n M) ds with
       | none=>simp [e2] at hm
       | some qs =>
         simp [e2] at hm
         subst hm
         obtain ⟨as,ra⟩:=ih d p v _ e1 j z
         obtain ⟨bs,rbs⟩:=cT ih e2 q B
         exact ⟨_, .cons ra rbs⟩
theorem bm {pins:List (Addr×Obj)} {σ:St} {H:Hp} {s:Shared} {M:Mem} (I:Inv X pins σ H s) (rm:RM X.K M H):∀ (n:Nat) (d:D) (p:PyData) (v:V) (u:Value),rb n M d=some p->RD X.K H d v->RelV v u -> ∃ as,Reads s.heap u p as
 | n, .non,p,v,u,h,r,q=>by simp [rb] at h;subst h;cases RD.non_iff.mp r;cases q;exact ⟨_, .none⟩
 | n, .bl b,p,v,u,h,r,q=>by simp [rb] at h;subst h;cases RD.bl_iff.mp r;cases q;exact ⟨_, .bool b⟩
 | n, .int b,p,v,u,h,r,q=>by simp [rb] at h;subst h;cases RD.int_iff.mp r;obtain ⟨t,rfl⟩:=q;exact ⟨_, .int b t⟩
 | n, .str x,p,v,u,h,r,q=>by
   simp [rb] at h
   obtain ⟨_,h2⟩:=h
   subst h2;cases RD.str_iff.mp r;obtain ⟨t,rfl⟩:=q;exact ⟨_, .str x t⟩
 | 0, .tup _,p,_,_,h,_,_=>by simp [rb] at h
 | 0, .con _,p,_,_,h,_,_=>by simp [rb] at h
 | 0, .ref _,p,_,_,h,_,_=>by simp [rb] at h
 | n+1, .tup ds,p,v,u,h,r,q=>by
   simp only [rb] at h
   cases e:aw (rb n M) ds with
   | none=>rw [e] at h;cases h
   | some ps =>
     rw [e] at h;cases h
     obtain ⟨a,vs,rfl,j,rs⟩:=RD.tupS r
     cases q
     obtain ⟨its,rv,⟨o,ho,z,k,hd⟩,_⟩:=I.tuple j
     obtain ⟨as,ra⟩:=cT (bm I rm n) e rs rv
     exact ⟨_, .tuple ho z hd (by simpa using ra)⟩
 | n+1, .con ds,p,v,u,h,r,q=>by
   simp only [rb] at h
   cases e:aw (rb n M) ds with
   | none=>rw [e] at h;cases h
   | some ps =>
     rw [e] at h;cases h
     obtain ⟨a,vs,rfl,j,rs⟩:=RD.con_iff.mp r
     cases q
     obtain ⟨its,rv,⟨o,k,ho,z,_,hd⟩,_⟩:=I.list j.sq
     obtain ⟨as,ra⟩:=cT (bm I rm n) e rs rv
     exact ⟨_, .list ho z hd (by simpa using ra)⟩
 | n+1, .ref a,p,v,u,h,r,q=>by
   simp only [rb] at h
   cases e0:M a with
   | none=>rw [e0] at h;cases h
   | some o =>
     rw [e0] at h
     cases o with
     | dct _ _=>cases h
     | fdc _=>cases h
     | lst ds =>
       simp only at h
       cases e:aw (rb n M) ds with
       | none=>rw [e] at h;cases h
       | some ps =>
         rw [e] at h;cases h
         cases RD.ref_iff.mp r
         cases q
         obtain ⟨vs,j,rs⟩:=rm _ _ e0
         obtain ⟨its,rv,⟨o,k,ho,z,_,hd⟩,_⟩:=I.list (SqL.of j)
         obtain ⟨as,ra⟩:=cT (bm I rm n) e rs rv
         exact ⟨_, .list ho z hd (by simpa using ra)⟩
noncomputable def wEq:R2d:=fun x y M Q => ∃ p q,rb 16 M x=some p/\rb 16 M y=some q/\Q (.bl (PyData.eqv p q)) M
noncomputable def wNe:R2d:=fun x y M Q => ∃ p q,rb 16 M x=some p/\rb 16 M y=some q/\Q (.bl (!PyData.eqv p q)) M
theorem yN:ak wEq:=fun _ _ _ _ _ h ⟨p,q,a,b,c⟩=>⟨p,q,a,b,h _ _ c⟩
theorem yO:ak wNe:=fun _ _ _ _ _ h ⟨p,q,a,b,c⟩=>⟨p,q,a,b,h _ _ c⟩
theorem yP (F:X.A.units+16 < cLine):OpR X (compareOp .Eq) (l2 X.K wEq):=by
 intro pins s σ H x y v u Q I rx ry h
 obtain ⟨d,e,M,rm,rd,re,p,q,j,z,k⟩:=h
 obtain ⟨as,ra⟩:=bm I rm _ _ _ _ _ j rd rx
 obtain ⟨bs,rb'⟩:=bm I rm _ _ _ _ _ z re ry
 obtain ⟨G,p2⟩:=bV _ _ _ j
 obtain ⟨J,B⟩:=bV _ _ _ z
 exact SeqAt.compareEq_reads ra rb' p2 B (by lia) ⟨.bl _,H,I,rfl,k _ H Ext.refl rm (RD.bl_iff.mpr rfl)⟩
theorem yQ (F:X.A.units+16 < cLine):OpR X (compareOp .NotEq) (l2 X.K wNe):=by
 intro pins s σ H x y v u Q I rx ry h
 obtain ⟨d,e,M,rm,rd,re,p,q,j,z,k⟩:=h
 obtain ⟨as,ra⟩:=bm I rm _ _ _ _ _ j rd rx
 obtain ⟨bs,rb'⟩:=bm I rm _ _ _ _ _ z re ry
 obtain ⟨G,p2⟩:=bV _ _ _ j
 obtain ⟨J,B⟩:=bV _ _ _ z
 exact SeqAt.compareNe_reads ra rb' p2 B (by lia) ⟨.bl _,H,I,rfl,k _ H Ext.refl rm (RD.bl_iff.mpr rfl)⟩
noncomputable def wLt:R2d
 | .int i, .int j,M,Q=>Q (.bl (decide (i < j))) M
 | _,_,_,_=>False
noncomputable def wLe:R2d
 | .int i, .int j,M,Q=>Q (.bl (decide (i<=j))) M
 | _,_,_,_=>False
noncomputable def wGt:R2d
 | .int i, .int j,M,Q=>Q (.bl (decide (j < i))) M
 | _,_,_,_=>False
noncomputable def wGe:R2d
 | .int i, .int j,M,Q=>Q (.bl (decide (j<=i))) M
 | _,_,_,_=>False
theorem yR:ak wLt:=by
 intro x y M Q Q' h q
 cases x <;> cases y <;> first | exact q.elim | exact h _ _ q
theorem yS:ak wLe:=by
 intro x y M Q Q' h q
 cases x <;> cases y <;> first | exact q.elim | exact h _ _ q
theorem yT:ak wGt:=by
 intro x y M Q Q' h q
 cases x <;> cases y <;> first | exact q.elim | exact h _ _ q
theorem yU:ak wGe:=by
 intro x y M Q Q' h q
 cases x <;> cases y <;> first | exact q.elim | exact h _ _ q
theorem yV:OpR X (compareOp .Lt) (l2 X.K wLt):=by
 refine OpR.of Cf fun v u H Q h => ?_
 obtain ⟨x,y,M,rm,rx,ry,q⟩:=h
 cases x <;> cases y <;> first
  | exact q.elim
  | (cases RD.int_iff.mp rx;cases RD.int_iff.mp ry;exact ⟨_,_,rfl,rfl,q _ H Ext.refl rm (RD.bl_iff.mpr rfl)⟩)
theorem yW:OpR X (compareOp .LtE) (l2 X.K wLe):=by
 refine OpR.of Cg fun v u H Q h => ?_
 obtain ⟨x,y,M,rm,rx,ry,q⟩:=h
 cases x <;> cases y <;> first
  | exact q.elim
  | (cases RD.int_iff.mp rx;cases RD.int_iff.mp ry;exact ⟨_,_,rfl,rfl,q _ H Ext.refl rm (RD.bl_iff.mpr rfl)⟩)
theorem yX:OpR X (compareOp .Gt) (l2 X.K wGt):=by
 refine OpR.of Ch fun v u H Q h => ?_
 obtain ⟨x,y,M,rm,rx,ry,q⟩:=h
 cases x <;> cases y <;> first
  | exact q.elim
  | (cases RD.int_iff.mp rx;cases RD.int_iff.mp ry;exact ⟨_,_,rfl,rfl,q _ H Ext.refl rm (RD.bl_iff.mpr rfl)⟩)
theorem yY:OpR X (compareOp .GtE) (l2 X.K wGe):=by
 refine OpR.of Ci fun v u H Q h => ?_
 obtain ⟨x,y,M,rm,rx,ry,q⟩:=h
 cases x <;> cases y <;> first
  | exact q.elim
  | (cases RD.int_iff.mp rx;cases RD.int_iff.mp ry;exact ⟨_,_,rfl,rfl,q _ H Ext.refl rm (RD.bl_iff.mpr rfl)⟩)
end
end
section
noncomputable def wIx:R2d:=fun x y M Q=>match x with
 | .tup ds => ∃ i d,y = .int i/\atI ds i=some d/\Q d M
 | .con ds => ∃ i d,y = .int i/\atI ds i=some d/\Q d M
 | .ref a=>(∃ ds i d,M a=some (.lst ds)/\y = .int i/\atI ds i=some d/\Q d M)∨(∃ t kvs d,M a=some (.dct t kvs)/\dG t y=true/\dget kvs y=some d/\Q d M) ∨ ∃ kvs d,M a=some (.fdc kvs)/\dr y=true/\dget kvs y=some d/\Q d M
 | _=>False
theorem oS:ak wIx:=by
 intro x y M Q Q' h q
 cases x with
 | tup ds=>obtain ⟨i,d,e,j,q⟩:=q;exact ⟨i,d,e,j,h _ _ q⟩
 | con ds=>obtain ⟨i,d,e,j,q⟩:=q;exact ⟨i,d,e,j,h _ _ q⟩
 | ref a =>
   rcases q with ⟨ds,i,d,z,j,B,q⟩ | ⟨t,kvs,d,z,j,B,q⟩ | ⟨kvs,d,z,j,B,q⟩
   ·exact .inl ⟨ds,i,d,z,j,B,h _ _ q⟩
   ·exact .inr (.inl ⟨t,kvs,d,z,j,B,h _ _ q⟩)
   ·exact .inr (.inr ⟨kvs,d,z,j,B,h _ _ q⟩)
 | _=>exact q.elim
theorem iI {K:Frag} {H:Hp} {ds:List D} {vs:List V} {i:Int} {d:D} (r:RDs K H ds vs) (e:atI ds i=some d):∃ v,atI vs i=some v/\RD K H d v:=by
 unfold atI at e ⊢
 rw [r.length]
 cases q:ixN ds.length i with
 | none=>rw [q] at e;cases e
 | some j =>
   rw [q] at e
   exact r.get e
theorem jA {K:Frag} {H:Hp} {k:D} {q:Key} {v:V} (r:RKey k q) (h:RD K H k v):v=kV q:=by
 cases k <;> first
  | exact r.elim
  | (cases (show q=_ from r);first | exact RD.int_iff.mp h | exact RD.str_iff.mp h)
theorem gW {K:Frag} {H:Hp}:∀ {ds:List D} {ks:List Key} {vs:List V},Paired RKey ds ks->RDs K H ds vs->vs=ks.map kV
 | _,_,vs, .nil,h=>by rw [RDs.nil_iff.mp h];rfl
 | _,_,vs, .cons r t,h=>by
   obtain ⟨v,vr,rfl,h1,h2⟩:=RDs.cons_iff.mp h
   rw [jA r h1,gW t h2];rfl
theorem RKey.inj {d e:D} {k:Key} (a:RKey d k) (b:RKey e k):d=e:=by
 cases d <;> first
  | exact a.elim
  | (cases e <;> first | exact b.elim | (cases (show k=_ from a);injection (show _=_ from b) with z;rw [z]) | (cases (show k=_ from a);cases (show _=_ from b)))
theorem RKeysP.inj:∀ {d e:List D} {k:List Key},Paired RKey d k->Paired RKey e k->d=e
 | _,_,_, .nil, .nil=>rfl
 | _,_,_, .cons r t, .cons r' t'=>by rw [r.inj r',RKeysP.inj t t']
theorem RKeys.inj {d e:D} {k:List Key} (a:RKeys d k) (b:RKeys e k):d=e:=by
 cases d <;> first
  | exact a.elim
  | (cases e <;> first | exact b.elim | exact congrArg D.tup (RKeysP.inj a b))
theorem RKey.fun {d:D} {k k':Key} (a:RKey d k) (b:RKey d k'):k=k':=by
 cases d <;> first
  | exact a.elim
  | (cases (show k=_ from a);cases (show k'=_ from b);rfl)
theorem RKeysP.fun:∀ {d:List D} {k k':List Key},Paired RKey d k->Paired RKey d k'->k=k'
 | _,_,_, .nil, .nil=>rfl
 | _,_,_, .cons r t, .cons r' t'=>by rw [r.fun r',RKeysP.fun t t']
theorem RKeys.fun {d:D} {k k':List Key} (a:RKeys d k) (b:RKeys d k'):k=k':=by
 cases d <;> first
  | exact a.elim
  | exact RKeysP.fun a b
section
variable {κ:Type} [DecidableEq κ] {K:Frag} {H:Hp} {RK:D -> κ -> Prop} (inj:∀ {d e:D} {k : κ},RK d k->RK e k->d=e) (fn:∀ {d:D} {k k' : κ},RK d k->RK d k'->k=k')
include inj fn
theorem gX {k:D} {q : κ} (j:RK k q):∀ {kvs:List (D×D)} {ps:List (κ × V)},Paired (fun p r=>RK p.1 r.1/\RD K H p.2 r.2) kvs ps ->
 (∀ d,dget kvs k=some d -> ∃ v,bw ps q=some v/\RD K H d v)/\(dget kvs k=none->bw ps q=none)
 | _,_, .nil=>⟨fun d e=>by simp [dget] at e,fun _=>rfl⟩
 | _,_, .cons (a:=p) (b:=r) (l₂ := ps) B t=>by
   obtain ⟨F,G⟩:=gX j t
   by_cases e:p.1=k
   ·have e':r.1=q:=by
     have h1:=B.1
     rw [e] at h1
     exact fn h1 j
    refine ⟨fun d he => ?_,fun he => ?_⟩
    ·simp [dget,List.find?_cons,e] at he
     subst he
     exact ⟨r.2,eI e',B.2⟩
    ·simp [dget,List.find?_cons,e] at he
   ·have e' : ¬ r.1=q:=fun z=>e (by
     have h1:=B.1
     rw [z] at h1
     exact inj h1 j)
    have eq1:∀ l:List (D×D),dget (p::l) k=dget l k:=fun l=>by simp [dget,List.find?_cons,e]
    have eq2:bw (r::ps) q=bw ps q:=eJ e'
    refine ⟨fun d he => ?_,fun he => ?_⟩
    ·rw [eq1] at he
     rw [eq2]
     exact F d he
    ·rw [eq1] at he
     rw [eq2]
     exact G he
end
section
variable {X:Cx}
theorem sK {K:Frag} {H:Hp} {a:Addr} {ps:List (List Key×V)} {kvs:List (D×D)} {k:D} {v:V} (B:Rd H a (.dT ps)) (pr:Paired (fun (p:D×D) (q:List Key×V)=>RKeys p.1 q.1/\RD K H p.2 q.2) kvs ps) (ok:dr k=true) (rk:RD K H k v) :
 ∃ o,DGet H a v o/\(∀ d,dget kvs k=some d -> ∃ w,o=some w/\RD K H d w)/\(dget kvs k=none->o=none):=by
 obtain ⟨q,j⟩:=oQ ok
 obtain ⟨g1,g2⟩:=gX (RK:=RKeys) RKeys.inj RKeys.fun j pr
 refine ⟨bw ps q, ?_,g1,g2⟩
 cases k <;> first
  | exact j.elim
  | (obtain ⟨b,us,rfl,z,ru⟩:=RD.tupK (oR ok) rk
     rw [gW j ru] at z
     exact .inr ⟨ps,q,b,B,rfl,z,rfl⟩)
theorem jB {K:Frag} {M:Mem} {H:Hp} {a:Addr} {t:Bool} {kvs:List (D×D)} {k:D} {v:V} (rm:RM K M H) (e:M a=some (.dct t kvs)) (ok:dG t k=true) (rk:RD K H k v) :
 ∃ o,DGet H a v o/\(∀ d,dget kvs k=some d -> ∃ w,o=some w/\RD K H d w)/\(dget kvs k=none->o=none):=by
 have ro:=rm a _ e
 cases t with
 | false =>
   obtain ⟨ps,j,pr⟩:=ro
   obtain ⟨q,z⟩:=lZ (show eK k=true from ok)
   obtain ⟨g1,g2⟩:=gX (RK:=RKey) RKey.inj RKey.fun z pr
   refine ⟨bw ps q, ?_,g1,g2⟩
   rw [jA z rk]
   exact DGet.k j
 | true =>
   obtain ⟨ps,j,pr⟩:=ro
   exact sK (.inl j) pr ok rk
theorem yZ (j:X.A.units+1 < cLine):IxR X (fun x y H Q => ∃ a v,x = .ref a/\DGet H a y (some v)/\Q v H):=by
 intro value slice pins s σ H x y v u Q I rx ry h hs
 obtain ⟨a,w,rfl,g,q⟩:=h
 cases rx
 have hd:IsD H a:=by
  rcases g with ⟨kvs,k,e,_⟩ | ⟨kvs,k,b,e,_⟩
  ·exact .inl ⟨kvs,e⟩
  ·exact .inr ⟨kvs,e⟩
 obtain ⟨z,_⟩:=iB I hd
 exact tail_any z PySem.F.slot_dict_getitem.lookup (so j I g ry fun w' s' I' r'=>⟨w,H,I',r',q⟩) hs
theorem Dm (G:X.A.units+1 < cLine):IxR X (l2 X.K wIx):=by
 refine IxR.of (ix_list.or (ix_tup.or (yZ G))) fun v u H Q h => ?_
 obtain ⟨x,y,M,rm,rx,ry,q⟩:=h
 cases x with
 | tup ds =>
   obtain ⟨i,d,rfl,e,q⟩:=q
   obtain ⟨a,vs,rfl,j,rs⟩:=RD.tupS rx
   cases RD.int_iff.mp ry
   obtain ⟨w,hw,rw'⟩:=iI rs e
   exact .inr (.inl ⟨a,vs,i,w,rfl,rfl,j,hw,q w H Ext.refl rm rw'⟩)
 | con ds =>
   obtain ⟨i,d,rfl,e,q⟩:=q
   obtain ⟨a,vs,rfl,j,rs⟩:=RD.con_iff.mp rx
   cases RD.int_iff.mp ry
   obtain ⟨w,hw,rw'⟩:=iI rs e
   exact .inl ⟨a,vs,i,w,rfl,rfl,j.sq,hw,q w H Ext.refl rm rw'⟩
 | ref a =>
   cases RD.ref_iff.mp rx
   rcases q with ⟨ds,i,d,z,rfl,B,q⟩ | ⟨t,kvs,d,z,F,B,q⟩ | ⟨kvs,d,z,F,B,q⟩
   ·cases RD.int_iff.mp ry
    obtain ⟨vs,j,rs⟩:=rm _ _ z
    obtain ⟨w,hw,rw'⟩:=iI rs B
    exact .inl ⟨a,vs,i,w,rfl,rfl,SqL.of j,hw,q w H Ext.refl rm rw'⟩
   ·obtain ⟨o,g,g1,_⟩:=jB rm z F ry
    obtain ⟨w,rfl,rw'⟩:=g1 d B
    exact .inr (.inr ⟨a,w,rfl,g,q w H Ext.refl rm rw'⟩)
   ·obtain ⟨ob,ps,J,pr⟩:=rm _ _ z
    obtain ⟨o,g,g1,_⟩:=sK (.inr ⟨ob,J⟩) pr F ry
    obtain ⟨w,rfl,rw'⟩:=g1 d B
    exact .inr (.inr ⟨a,w,rfl,g,q w H Ext.refl rm rw'⟩)
 | _=>exact q.elim
noncomputable def jC (M:Mem):D->Option Nat
 | .tup ds=>some ds.length
 | .con ds=>some ds.length
 | .ref a=>match M a with
  | some (.lst ds)=>some ds.length
  | _=>none
 | _=>none
noncomputable def fo:RAd:=fun xs M Q => ∃ x n,xs=[x]/\jC M x=some n/\Q (.int n) M
theorem mn:aS fo:=fun _ _ _ _ h ⟨x,n,e,l,q⟩=>⟨x,n,e,l,h _ _ q⟩
theorem RDs.one {K:Frag} {H:Hp} {d:D} {vs:List V} (h:RDs K H [d] vs):∃ v,vs=[v]/\RD K H d v:=by
 obtain ⟨v,r,rfl,h1,h2⟩:=RDs.cons_iff.mp h
 rw [RDs.nil_iff.mp h2]
 exact ⟨v,rfl,h1⟩
theorem RDs.two {K:Frag} {H:Hp} {d e:D} {vs:List V} (h:RDs K H [d,e] vs):∃ v u,vs=[v,u]/\RD K H d v/\RD K H e u:=by
 obtain ⟨v,r,rfl,h1,h2⟩:=RDs.cons_iff.mp h
 obtain ⟨u,rfl,j⟩:=RDs.one h2
 exact ⟨v,u,rfl,h1,j⟩
theorem qz:CallR X (.builtin "len") (lR X.K fo):=by
 refine CallR.of vf fun vs H Q h => ?_
 obtain ⟨ds,M,rm,rs,x,n,rfl,l,q⟩:=h
 obtain ⟨v,rfl,r⟩:=rs.one
 refine ⟨v,n,rfl, ?_,q _ H Ext.refl rm (RD.int_iff.mpr rfl)⟩
 cases x with
 | tup ds =>
   cases l
   obtain ⟨a,us,rfl,j,ru⟩:=RD.tupS r
   exact .inr ⟨us,j,ru.length.symm⟩
 | con ds =>
   cases l
   obtain ⟨a,us,rfl,j,ru⟩:=RD.con_iff.mp r
   exact .inl ⟨us,j.sq,ru.length.symm⟩
 | ref a =>
   cases RD.ref_iff.mp r
   simp only [jC] at l
   cases e:M a with
   | none=>rw [e] at l;cases l
   | some o =>
     rw [e] at l
     cases o with
     | dct _ _=>cases l
     | fdc _=>cases l
     | lst ds =>
       cases l
       obtain ⟨us,j,ru⟩:=rm _ _ e
       exact .inl ⟨us,SqL.of j,ru.length.symm⟩
 | _=>cases l
noncomputable def mq:RAd:=fun xs M Q => ∃ i,xs=[.int i]/\Q (.int (if i < 0 then -i else i)) M
noncomputable def lg:RAd:=fun xs M Q => ∃ i j,xs=[.int i, .int j]/\Q (.int (if j < i then j else i)) M
noncomputable def mv:RAd:=fun xs M Q=>(∃ i,xs=[.int i]/\Q (.int i) M) ∨ ∃ k,xs=[.bl k]/\Q (.int (if k then 1 else 0)) M
theorem mw:aS mq:=fun _ _ _ _ h ⟨i,e,q⟩=>⟨i,e,h _ _ q⟩
theorem kj:aS lg:=fun _ _ _ _ h ⟨i,j,e,q⟩=>⟨i,j,e,h _ _ q⟩
theorem mz:aS mv:=fun _ _ _ _ h q=>q.elim (fun ⟨i,e,q⟩ => .inl ⟨i,e,h _ _ q⟩) fun ⟨i,e,q⟩ => .inr ⟨i,e,h _ _ q⟩
theorem qA:CallR X (.builtin "abs") (lR X.K mq):=by
 refine CallR.of ve fun vs H Q h => ?_
 obtain ⟨ds,M,rm,rs,i,rfl,q⟩:=h
 obtain ⟨v,rfl,r⟩:=rs.one
 cases RD.int_iff.mp r
 exact ⟨i,rfl,q _ H Ext.refl rm (RD.int_iff.mpr rfl)⟩
theorem ou (z:X.calm=true):CallR X (.builtin "min") (lR X.K lg):=by
 refine CallR.of (rT z) fun vs H Q h => ?_
 obtain ⟨ds,M,rm,rs,i,j,rfl,q⟩:=h
 obtain ⟨v,u,rfl,B,F⟩:=rs.two
 cases RD.int_iff.mp B
 cases RD.int_iff.mp F
 exact ⟨i,j,rfl,q _ H Ext.refl rm (RD.int_iff.mpr rfl)⟩
theorem qB:CallR X (.type "int") (lR X.K mv):=by
 refine CallR.of rV fun vs H Q h => ?_
 obtain ⟨ds,M,rm,rs,⟨i,rfl,q⟩ | ⟨i,rfl,q⟩⟩:=h
 ·obtain ⟨v,rfl,r⟩:=rs.one
  cases RD.int_iff.mp r
  exact .inl ⟨i,rfl,q _ H Ext.refl rm (RD.int_iff.mpr rfl)⟩
 ·obtain ⟨v,rfl,r⟩:=rs.one
  cases RD.bl_iff.mp r
  exact .inr ⟨i,rfl,q _ H Ext.refl rm (RD.int_iff.mpr rfl)⟩
noncomputable def al (M:Mem):D->Option (List D)
 | .tup ds=>some ds
 | .con ds=>some ds
 | .ref a=>match M a with
  | some (.lst ds)=>some ds
  | _=>none
 | _=>none
theorem mC {K:Frag} {M:Mem} {H:Hp} {x:D} {ds:List D} {v:V} (rm:RM K M H) (r:RD K H x v) (e:al M x=some ds):∃ p vs,v = .ref p/\(SqL K H p vs∨SqT K H p vs)/\RDs K H ds vs:=by
 cases x with
 | tup es =>
   cases e
   obtain ⟨a,us,rfl,j,ru⟩:=RD.tupS r
   exact ⟨a,us,rfl, .inr j,ru⟩
 | con es =>
   cases e
   obtain ⟨a,us,rfl,j,ru⟩:=RD.con_iff.mp r
   exact ⟨a,us,rfl, .inl j.sq,ru⟩
 | ref a =>
   cases RD.ref_iff.mp r
   simp only [al] at e
   cases e0:M a with
   | none=>rw [e0] at e;cases e
   | some o =>
     rw [e0] at e
     cases o with
     | dct _ _=>cases e
     | fdc _=>cases e
     | lst es =>
       cases e
       obtain ⟨us,j,ru⟩:=rm _ _ e0
       exact ⟨a,us,rfl, .inl (SqL.of j),ru⟩
 | _=>cases e
noncomputable def qC:RAd:=fun xs M Q => ∃ x ds,xs=[x]/\al M x=some ds /\ ∀ p,M p=none->Q (.ref p) (af M p (.lst ds))
noncomputable def mD:RAd:=fun xs M Q => ∃ x ds,xs=[x]/\al M x=some ds/\Q (.tup ds) M
theorem kl:aS qC:=fun _ _ _ _ h ⟨x,ds,e,l,q⟩=>⟨x,ds,e,l,fun p n=>h _ _ (q p n)⟩
theorem iJ:aS mD:=fun _ _ _ _ h ⟨x,ds,e,l,q⟩=>⟨x,ds,e,l,h _ _ q⟩
theorem ow:CallR X (.type "list") (lR X.K qC):=by
 refine CallR.of lN fun vs H Q h => ?_
 obtain ⟨ds,M,rm,rs,x,es,rfl,l,q⟩:=h
 obtain ⟨v,rfl,r⟩:=rs.one
 obtain ⟨p,us,rfl,sq,ru⟩:=mC rm r l
 exact ⟨p,us,rfl,sq,fun l' n=>da rm ru q n⟩
theorem mF:CallR X (.type "tuple") (lR X.K mD):=by
 refine CallR.of kZ fun vs H Q h => ?_
 obtain ⟨ds,M,rm,rs,x,es,rfl,l,q⟩:=h
 obtain ⟨v,rfl,r⟩:=rs.one
 cases x with
 | tup ds' =>
   cases l
   obtain ⟨a,us,rfl,j,ru⟩:=RD.tupS r
   exact ⟨a,us,rfl, .inr ⟨j,q _ H Ext.refl rm r⟩⟩
 | con ds' =>
   cases l
   obtain ⟨a,us,rfl,j,ru⟩:=RD.con_iff.mp r
   exact ⟨a,us,rfl, .inl ⟨j.sq,fun l' n=>cZ rm ru q n⟩⟩
 | ref a =>
   cases RD.ref_iff.mp r
   simp only [al] at l
   cases e0:M a with
   | none=>rw [e0] at l;cases l
   | some o =>
     rw [e0] at l
     cases o with
     | dct _ _=>cases l
     | fdc _=>cases l
     | lst es' =>
       cases l
       obtain ⟨us,j,ru⟩:=rm _ _ e0
       exact ⟨a,us,rfl, .inl ⟨SqL.of j,fun l' n=>cZ rm ru q n⟩⟩
 | _=>cases l
end
end
section
section
variable {X:Cx}
noncomputable def qD:RAd:=fun xs M Q => ∃ (x:D) (ns:List Int),xs=[x]/\al M x=some (ns.map D.int)/\Q (.int ns.sum) M
theorem mG:aS qD:=fun _ _ _ _ h ⟨x,ds,e,l,q⟩=>⟨x,ds,e,l,h _ _ q⟩
theorem RDs.ints_eq {K:Frag} {H:Hp}:∀ {ns:List Int} {vs:List V},RDs K H (ns.map D.int) vs->vs=ns.map V.int
 | [],_,h=>RDs.nil_iff.mp h
 | n::ns,_,h=>by
   obtain ⟨v,r,rfl,h1,h2⟩:=RDs.cons_iff.mp h
   rw [RD.int_iff.mp h1,RDs.ints_eq h2];rfl
theorem mH {pins:List (Addr×Obj)} {σ:St} {H:Hp} {s:Shared} {Q:VK} {p:Addr} {ns:List Int} {its:List Value} (I:Inv X pins σ H s) (O:X.calm=true) (rv:Vals (ns.map V.int) its) (q:Q (.int ns.sum) H)
 (h:∀ (R:Value->Shared->Prop),(∀ I' St fp,(∀ b∈fp,b < (s.heap.push I').objs.size)->St 0 (s.heap.push I')->Walks X.prog X.w X.A.in1 s.heap.objs.size fp [s.heap.objs.size] its.toArray.size (fun i v=>its.toArray[i]? = some v) St->R (.ref s.heap.objs.size) { s with heap:=s.heap.push I' })->wpAny (model X.prog X.w) X.A.in1 (pyIter (.ref p)) R X.xe s) :
 wpAny (model X.prog X.w) X.A (call (.builtin "sum") [.ref p]) (EP X pins σ Q) X.xe s:=by
 refine call_sum_walkG (h _ fun ob St fp z st W=>⟨_,fp,_,_,_,St,fun i=>ns.getD i 0,rfl,W,st,z,fun i v F => ?_,fun h' tk t' G => ?_⟩)
 ·have j:its[i]? = some v:=by simpa using F
  have J:=rv.length
  rw [List.length_map] at J
  have hi:i < its.length:=(List.getElem?_eq_some_iff.mp j).1
  have L:(ns.map V.int)[i]? = some (.int (ns.getD i 0)):=by
   rw [List.getElem?_map,List.getElem?_eq_getElem (by lia)]
   simp [List.getD_eq_getElem?_getD,List.getElem?_eq_getElem (show i < ns.length by lia)]
  obtain ⟨u,B,t,rfl⟩:=rv.get L
  rw [j] at B;cases B
  exact ⟨t,rfl⟩
 ·have e:preSum (fun i=>ns.getD i 0) its.toArray.size=ns.sum:=by
   rw [preSum_getD,List.size_toArray, <- rv.length,List.length_map,List.take_length]
  rw [e]
  refine ⟨.int ns.sum,H,I.kept (h':=h') (t':=tk) fun b o eb => ?_,⟨t',rfl⟩,q⟩
  exact G b o (by simp;exact Nat.ne_of_lt (Heap.lt_size eb)) (Heap.get?_push_of_some _ eb)
theorem qE (B:X.calm=true):CallR X (.builtin "sum") (lR X.K qD):=by
 intro pins s σ H xs us Q I rv h
 obtain ⟨ds,M,rm,rs,x,ns,rfl,l,q⟩:=h
 obtain ⟨v,rfl,r⟩:=rs.one
 obtain ⟨u,rfl,ru⟩:=cP rv
 obtain ⟨p,vs,rfl,sq,L⟩:=mC rm r l
 cases ru
 have e:=RDs.ints_eq L
 subst e
 have fin:=q (.int ns.sum) H Ext.refl rm (RD.int_iff.mpr rfl)
 rcases sq with sq | sq
 ·obtain ⟨its,rv,pl,O⟩:=I.list sq
  have F:p≠s.heap.objs.size:=by
   obtain ⟨o,n,e,_⟩:=pl
   exact Nat.ne_of_lt (Heap.lt_size e)
  refine mH I B rv fin fun R G=>wpAny_pyIter_list pl.isList ?_
  refine G _ _ [s.heap.objs.size,p] (fun b J => ?_) ⟨⟨_,Heap.get?_push_size _ rfl,rfl,rfl⟩,pl.isList.at fun o e=>Heap.get?_push_of_some _ e⟩ (Walks.list (by rw [Around.in1_handled];exact I.ok.hd B) s.heap.objs.size p F its.toArray)
  rw [Heap.size_push]
  rcases List.mem_cons.mp J with z | z
  ·lia
  ·have z':b=p:=by simpa using z
   subst z'
   obtain ⟨o,n,e,_⟩:=pl
   exact Nat.lt_succ_of_lt (Heap.lt_size e)
 ·obtain ⟨its,rv,pl,O⟩:=I.tuple sq
  have j:p < s.heap.objs.size:=by
   obtain ⟨o,e,_⟩:=pl
   exact Heap.lt_size e
  refine mH I B rv fin fun R G=>wpAny_pyIter_tuple (show s.heap.IsTuple p its.toArray from pl) ?_
  refine G _ _ [s.heap.objs.size,p] (fun b J => ?_) ⟨⟨_,Heap.get?_push_size _ rfl,rfl,rfl⟩, ?_⟩ (Walks.tuple (by rw [Around.in1_handled];exact I.ok.hd B) s.heap.objs.size p (Nat.ne_of_lt j) its.toArray)
  ·rw [Heap.size_push]
   rcases List.mem_cons.mp J with z | z
   ·lia
   ·have z':b=p:=by simpa using z
    rw [z']
    exact Nat.lt_succ_of_lt j
  ·obtain ⟨o,e,c,n,d⟩:=pl
   exact ⟨o,Heap.get?_push_of_some _ e,c,n,d⟩
noncomputable def mJ (M:Mem):D->Option Bool
 | .non=>some false
 | .bl b=>some b
 | .int i=>some (i != 0)
 | .tup ds=>some (!ds.isEmpty)
 | .con ds=>some (!ds.isEmpty)
 | .ref a=>match M a with
  | some (.lst ds)=>some (!ds.isEmpty)
  | _=>none
 | _=>none
noncomputable def mK (t:TEd):TTd:=fun ρ M Q=>t ρ M fun x M1 => ∃ b,mJ M1 x=some b/\Q b M1
theorem vT {t:TEd} (h:ad t):aB (mK t):=fun ρ M Q Q' i q=>h _ _ _ _ (fun x z ⟨k,e,j⟩=>⟨k,e,i _ _ j⟩) q
theorem B6 {K:Frag} {M:Mem} {H:Hp} {x:D} {b:Bool} {v:V} (rm:RM K M H) (r:RD K H x v) (e:mJ M x=some b):vc K v H b:=by
 have emp:∀ {ds:List D} {vs:List V},RDs K H ds vs->(!ds.isEmpty) = !vs.isEmpty:=fun {ds vs} h=>by
  have l:=h.length
  cases ds <;> cases vs <;> first | rfl | (simp at l)
 cases x with
 | non=>cases e;cases RD.non_iff.mp r;rfl
 | bl k=>cases e;cases RD.bl_iff.mp r;rfl
 | int i=>cases e;cases RD.int_iff.mp r;rfl
 | tup ds =>
   cases e
   obtain ⟨a,vs,rfl,j,rs⟩:=RD.tupS r
   exact .inr (.inl ⟨vs,j,emp rs⟩)
 | con ds =>
   cases e
   obtain ⟨a,vs,rfl,j,rs⟩:=RD.con_iff.mp r
   exact .inl ⟨vs,j.sq,emp rs⟩
 | ref a =>
   cases RD.ref_iff.mp r
   simp only [mJ] at e
   cases e0:M a with
   | none=>rw [e0] at e;cases e
   | some o =>
     rw [e0] at e
     cases o with
     | dct _ _=>cases e
     | fdc _=>cases e
     | lst ds =>
       cases e
       obtain ⟨vs,j,rs⟩:=rm _ _ e0
       exact .inl ⟨vs,SqL.of j,emp rs⟩
 | str _=>cases e
variable {a b:Expr} {ta tb:TEd} {pos:Pos}
theorem B7 (m:ad ta) (B:PE X a (lE X.K ta)) (he:∀ whole,isTrue a X.env whole=(do let v <- whole;standAt a.pos;holding [v] (truthy v))):PT X a (lT X.K (mK ta)):=by
 refine PT.imp (vd B he) fun σ H Q h => ?_
 obtain ⟨ρ,M,rs,rm,q⟩:=h
 exact ⟨ρ,M,rs,rm,m _ _ _ _ (fun x J ⟨k,e,F⟩ v H1 G j z=>⟨k,B6 j z e,F H1 G j⟩) q⟩
noncomputable def iK (t:TTd):TTd:=fun ρ M Q=>t ρ M fun c M1=>Q (!c) M1
theorem sL {t:TTd} (h:aB t):aB (iK t):=fun ρ M Q Q' i q=>h _ _ _ _ (fun c z j=>i _ _ j) q
theorem B8 {tA:TTd} (m:aB tA) (j:PT X a (lT X.K tA)):PT X (.UnaryOp .Not a pos) (lT X.K (iK tA)):=by
 refine PT.imp (Ap j) fun σ H Q h => ?_
 obtain ⟨ρ,M,rs,rm,q⟩:=h
 exact ⟨ρ,M,rs,rm,m _ _ _ _ (fun c B z=>z) q⟩
noncomputable def iL (t u:TTd):TTd:=fun ρ M Q=>t ρ M fun c M1=>if c=true then u ρ M1 Q else Q false M1
noncomputable def mL (t u:TTd):TTd:=fun ρ M Q=>t ρ M fun c M1=>if c=true then Q true M1 else u ρ M1 Q
theorem sM {t u:TTd} (h:aB t) (k:aB u):aB (iL t u):=fun ρ M Q Q' i q=>h _ _ _ _ (fun c z j=>by
 cases c with
 | true=>rw [if_pos rfl] at j ⊢;exact k _ _ _ _ i j
 | false=>rw [if_neg Bool.false_ne_true] at j ⊢;exact i _ _ j) q
theorem vU {t u:TTd} (h:aB t) (k:aB u):aB (mL t u):=fun ρ M Q Q' i q=>h _ _ _ _ (fun c z j=>by
 cases c with
 | true=>rw [if_pos rfl] at j ⊢;exact i _ _ j
 | false=>rw [if_neg Bool.false_ne_true] at j ⊢;exact k _ _ _ _ i j) q
theorem z9 {tA:TTd} (j:PT X a (lT X.K tA)):PW X (.BoolOp .And [a] pos) (lT X.K tA):=yo j
theorem B9 {tA:TTd} (j:PT X a (lT X.K tA)):PW X (.BoolOp .Or [a] pos) (lT X.K tA):=An j
theorem Ba {tA tB:TTd} {rest:List Expr} (mA:aB tA) (mB:aB tB) (F:PT X a (lT X.K tA)) (G:PW X (.BoolOp .And (b::rest) pos) (lT X.K tB)):PW X (.BoolOp .And (a::b::rest) pos) (lT X.K (iL tA tB)):=by
 refine PW.imp (Ao F G) fun σ H Q h => ?_
 obtain ⟨ρ,M,rs,rm,q⟩:=h
 refine ⟨ρ,M,rs,rm,mA _ _ _ _ (fun c J z H1 B j => ?_) q⟩
 cases c with
 | true=>rw [if_pos rfl] at z ⊢;exact ⟨ρ,J,rs.mono (B.stab rm),j,mB _ _ _ _ (fun d M2 k=>k.ext B) z⟩
 | false=>rw [if_neg Bool.false_ne_true] at z ⊢;exact z H1 B j
theorem CA {tA tB:TTd} {rest:List Expr} (mA:aB tA) (mB:aB tB) (F:PT X a (lT X.K tA)) (G:PW X (.BoolOp .Or (b::rest) pos) (lT X.K tB)):PW X (.BoolOp .Or (a::b::rest) pos) (lT X.K (mL tA tB)):=by
 refine PW.imp (C5 F G) fun σ H Q h => ?_
 obtain ⟨ρ,M,rs,rm,q⟩:=h
 refine ⟨ρ,M,rs,rm,mA _ _ _ _ (fun c J z H1 B j => ?_) q⟩
 cases c with
 | true=>rw [if_pos rfl] at z ⊢;exact z H1 B j
 | false=>rw [if_neg Bool.false_ne_true] at z ⊢;exact ⟨ρ,J,rs.mono (B.stab rm),j,mB _ _ _ _ (fun d M2 k=>k.ext B) z⟩
noncomputable def iM (ta tb:TEd):TEd:=fun ρ M Q=>ta ρ M fun x M1 => ∃ c,x = .bl c/\if c=true then tb ρ M1 Q else Q (.bl false) M1
noncomputable def mM (ta tb:TEd):TEd:=fun ρ M Q=>ta ρ M fun x M1 => ∃ c,x = .bl c/\if c=true then Q (.bl true) M1 else tb ρ M1 Q
noncomputable def iN (ta:TEd):TEd:=fun ρ M Q=>ta ρ M fun x M1 => ∃ c,x = .bl c/\Q (.bl (!c)) M1
theorem sN (h:ad ta) (k:ad tb):ad (iM ta tb):=fun ρ M Q Q' i q=>h _ _ _ _ (fun x z ⟨c,e,j⟩=>⟨c,e,by
 cases c with
 | true=>rw [if_pos rfl] at j ⊢;exact k _ _ _ _ i j
 | false=>rw [if_neg Bool.false_ne_true] at j ⊢;exact i _ _ j⟩) q
theorem vW (h:ad ta) (k:ad tb):ad (mM ta tb):=fun ρ M Q Q' i q=>h _ _ _ _ (fun x z ⟨c,e,j⟩=>⟨c,e,by
 cases c with
 | true=>rw [if_pos rfl] at j ⊢;exact i _ _ j
 | false=>rw [if_neg Bool.false_ne_true] at j ⊢;exact k _ _ _ _ i j⟩) q
theorem sP (h:ad ta):ad (iN ta):=fun ρ M Q Q' i q=>h _ _ _ _ (fun x z ⟨c,e,j⟩=>⟨c,e,i _ _ j⟩) q
theorem sQ {op:BoolOp} {t:TEd} (h:PE X a (lE X.K t)):PE X (.BoolOp op [a] pos) (lE X.K t):=Aq h
theorem Bb {rest:List Expr} (ma:ad ta) (mb:ad tb) (G:PE X a (lE X.K ta)) (J:PE X (.BoolOp .And (b::rest) pos) (lE X.K tb)):PE X (.BoolOp .And (a::b::rest) pos) (lE X.K (iM ta tb)):=by
 refine PE.imp (Ar G J) fun σ H Q h => ?_
 obtain ⟨ρ,M,rs,rm,q⟩:=h
 refine ⟨ρ,M,rs,rm,ma _ _ _ _ (fun x L ⟨c,e,z⟩ v H1 B j F => ?_) q⟩
 subst e
 refine ⟨c,RD.bl_iff.mp F, ?_⟩
 cases c with
 | true=>rw [if_pos rfl] at z ⊢;exact ⟨ρ,L,rs.mono (B.stab rm),j,mb _ _ _ _ (fun d M2 k=>k.ext B) z⟩
 | false=>rw [if_neg Bool.false_ne_true] at z ⊢;exact z _ H1 B j (RD.bl_iff.mpr rfl)
theorem CB {rest:List Expr} (ma:ad ta) (mb:ad tb) (G:PE X a (lE X.K ta)) (J:PE X (.BoolOp .Or (b::rest) pos) (lE X.K tb)):PE X (.BoolOp .Or (a::b::rest) pos) (lE X.K (mM ta tb)):=by
 refine PE.imp (C8 G J) fun σ H Q h => ?_
 obtain ⟨ρ,M,rs,rm,q⟩:=h
 refine ⟨ρ,M,rs,rm,ma _ _ _ _ (fun x L ⟨c,e,z⟩ v H1 B j F => ?_) q⟩
 subst e
 refine ⟨c,RD.bl_iff.mp F, ?_⟩
 cases c with
 | true=>rw [if_pos rfl] at z ⊢;exact z _ H1 B j (RD.bl_iff.mpr rfl)
 | false=>rw [if_neg Bool.false_ne_true] at z ⊢;exact ⟨ρ,L,rs.mono (B.stab rm),j,mb _ _ _ _ (fun d M2 k=>k.ext B) z⟩
theorem Bc (ma:ad ta) (B:PE X a (lE X.K ta)):PE X (.UnaryOp .Not a pos) (lE X.K (iN ta)):=by
 refine PE.imp (As B) fun σ H Q h => ?_
 obtain ⟨ρ,M,rs,rm,q⟩:=h
 refine ⟨ρ,M,rs,rm,ma _ _ _ _ (fun x J ⟨c,e,F⟩ v H1 G j z => ?_) q⟩
 subst e
 exact ⟨c,RD.bl_iff.mp z,F _ H1 G j (RD.bl_iff.mpr rfl)⟩
noncomputable def wIf (t:TTd) (ta tb:TEd):TEd:=fun ρ M Q=>t ρ M fun c M1=>if c=true then ta ρ M1 Q else tb ρ M1 Q
theorem za {t:TTd} (h:aB t) (z:ad ta) (B:ad tb):ad (wIf t ta tb):=fun ρ M Q Q' i q=>h _ _ _ _ (fun c F j=>by
 cases c with
 | true=>rw [if_pos rfl] at j ⊢;exact z _ _ _ _ i j
 | false=>rw [if_neg Bool.false_ne_true] at j ⊢;exact B _ _ _ _ i j) q
theorem CC {c:Expr} {t:TTd} (mt:aB t) (ma:ad ta) (mb:ad tb) (G:PT X c (lT X.K t)) (J:PE X a (lE X.K ta)) (L:PE X b (lE X.K tb)):PE X (.IfExp c a b pos) (lE X.K (wIf t ta tb)):=by
 refine PE.imp (uT G J L) fun σ H Q h => ?_
 obtain ⟨ρ,M,rs,rm,q⟩:=h
 refine ⟨ρ,M,rs,rm,mt _ _ _ _ (fun x F z H1 B j => ?_) q⟩
 cases x with
 | true=>rw [if_pos rfl] at z ⊢;exact ⟨ρ,F,rs.mono (B.stab rm),j,ma _ _ _ _ (fun d M2 k=>k.ext B) z⟩
 | false=>rw [if_neg Bool.false_ne_true] at z ⊢;exact ⟨ρ,F,rs.mono (B.stab rm),j,mb _ _ _ _ (fun d M2 k=>k.ext B) z⟩
noncomputable def cL (xs:List D) (lo hi:Option Int):List D:=(xs.drop (HT.sIx xs.length 0 lo)).take (HT.sIx xs.length xs.length hi - HT.sIx xs.length 0 lo)
theorem mN {K:Frag} {H:Hp} {ds:List D} {vs:List V} (r:RDs K H ds vs) (lo hi:Option Int):RDs K H (cL ds lo hi) (fg vs lo hi):=by
 unfold cL fg
 rw [r.length]
 exact (r.drop _).take _
noncomputable abbrev TOd:=ao->Mem->(Option Int->Mem->Prop)->Prop
noncomputable def eN (T:TOd):Prop := ∀ ρ M Q Q',(∀ d M',Q d M'->Q' d M')->T ρ M Q->T ρ M Q'
noncomputable def dZ:TOd:=fun _ M Q=>Q none M
noncomputable def iP (t:TEd):TOd:=fun ρ M Q=>t ρ M fun x M1 => ∃ i,x = .int i/\Q (some i) M1
theorem ox:eN dZ:=fun _ _ _ _ h q=>h _ _ q
theorem sR (h:ad ta):eN (iP ta):=fun ρ M Q Q' i q=>h _ _ _ _ (fun x z ⟨c,e,j⟩=>⟨c,e,i _ _ j⟩) q
noncomputable def lO (K:Frag) (T:TOd):TO:=fun σ H Q => ∃ ρ M,RS K H σ ρ /\ RM K M H/\T ρ M (fun o M' => ∀ H',Ext M H M' H'->RM K M' H'->Q o H')
theorem zb:PO X none (lO X.K dZ):=fun pins s σ H Q I h=>by
 obtain ⟨ρ,M,rs,rm,q⟩:=h
 exact yE pins s σ H Q I (q H Ext.refl rm)
theorem zc {e:Expr} (m:ad ta) (h:PE X e (lE X.K ta)):PO X (some e) (lO X.K (iP ta)):=fun pins s σ H Q I hq=>by
 obtain ⟨ρ,M,rs,rm,q⟩:=hq
 refine yF h pins s σ H Q I ⟨ρ,M,rs,rm,m _ _ _ _ (fun x G ⟨i,e,B⟩ v H1 F j z => ?_) q⟩
 subst e
 exact ⟨i,RD.int_iff.mp z,B H1 F j⟩
noncomputable def ee:D->Option Int->Option Int->Mem->QD->Prop:=fun x lo hi M Q=>match x with
 | .tup ds=>Q (.tup (cL ds lo hi)) M
 | .ref a => ∃ ds,M a=some (.lst ds) /\ ∀ p,M p=none->Q (.ref p) (af M p (.lst (cL ds lo hi)))
 | .con ds => ∀ p,M p=none->Q (.ref p) (af M p (.lst (cL ds lo hi)))
 | _=>False
noncomputable def wSl (te:TEd) (tl th:TOd):TEd:=fun ρ M Q=>te ρ M fun x M1=>tl ρ M1 fun l M2=>th ρ M2 fun u M3=>ee x l u M3 Q
theorem qF {x:D} {lo hi:Option Int} {M:Mem} {Q Q':QD} (h:∀ d M',Q d M'->Q' d M') (q:ee x lo hi M Q):ee x lo hi M Q':=by
 cases x with
 | tup ds=>exact h _ _ q
 | ref a=>obtain ⟨ds,e,q⟩:=q;exact ⟨ds,e,fun p n=>h _ _ (q p n)⟩
 | con ds=>exact fun p n=>h _ _ (q p n)
 | _=>exact q.elim
theorem ze {tl th:TOd} (m:ad ta) (ml:eN tl) (mh:eN th):ad (wSl ta tl th):=fun ρ M Q Q' i q =>
 m _ _ _ _ (fun x F j=>ml _ _ _ _ (fun l M2 z=>mh _ _ _ _ (fun u G B=>qF i B) z) j) q
theorem CD {e:Expr} {lo hi:Option Expr} {tl th:TOd} {p2:Pos} (m:ad ta) (ml:eN tl) (mh:eN th) (he:PE X e (lE X.K ta)) (hl:PO X lo (lO X.K tl)) (hu:PO X hi (lO X.K th)) :
 PE X (.Subscript e (.Slice lo hi none p2) pos) (lE X.K (wSl ta tl th)):=by
 refine PE.imp (vp (sl_tup.or (sl_list.or vx)) he hl hu) fun σ H Q h => ?_
 obtain ⟨ρ,M,rs,rm,q⟩:=h
 refine ⟨ρ,M,rs,rm,m _ _ _ _ (fun x M1 q1 v H1 O G U => ?_) q⟩
 refine ⟨ρ,M1,rs.mono (O.stab rm),G,ml _ _ _ _ (fun l M2 q2 H2 Y L => ?_) q1⟩
 refine ⟨ρ,M2,(rs.mono (O.stab rm)).mono (Y.stab G),L,mh _ _ _ _ (fun u M3 z H3 Z j => ?_) q2⟩
 have B:=O.trans (Y.trans Z)
 have F:=(U.mono (Y.stab G)).mono (Z.stab L)
 cases x with
 | tup ds =>
   obtain ⟨a,vs,rfl,J,r⟩:=RD.tupS F
   by_cases hw:HT.sIx vs.length 0 l=0/\HT.sIx vs.length vs.length u=vs.length
   ·refine .inr (.inr ⟨a,vs,rfl,J,hw, ?_⟩)
    have e:cL ds l u=ds:=by
     unfold cL
     rw [<- r.length,hw.1,hw.2,r.length];simp
    simp only [ee] at z
    rw [e] at z
    exact z.ext B _ H3 Ext.refl j F
   ·simp only [ee] at z
    exact .inl ⟨a,vs,rfl,J,hw,fun p n=>cZ j (mN r l u) (z.ext B) n⟩
 | ref a =>
   cases RD.ref_iff.mp F
   obtain ⟨ds,e,z⟩:=z
   obtain ⟨vs,J,r⟩:=j _ _ e
   exact .inr (.inl ⟨a,vs,rfl,SqL.of J,fun p n=>da j (mN r l u) (fun p' n'=>(z p' n').ext B) n⟩)
 | con ds =>
   obtain ⟨a,vs,rfl,J,r⟩:=RD.con_iff.mp F
   exact .inr (.inl ⟨a,vs,rfl,J.sq,fun p n=>da j (mN r l u) (fun p' n'=>(z p' n').ext B) n⟩)
 | _=>exact z.elim
end
end
section
section
variable {X:Cx}
noncomputable def tyN (M:Mem):D->Option String
 | .non=>some "NoneType"
 | .bl _=>some "bool"
 | .int _=>some "int"
 | .str _=>some "str"
 | .tup _=>some "tuple"
 | .ref a=>match M a with
  | some (.lst _)=>some "list"
  | some (.dct _ _)=>some "dict"
  | _=>none
 | .con _=>none
noncomputable def vX (T t:String):Bool:=t==T || (t == "bool" && T == "int")
theorem CF {K:Frag} {M:Mem} {H:Hp} {x:D} {t:String} {v:V} (rm:RM K M H) (r:RD K H x v) (e:tyN M x=some t):cc K H v (.type t):=by
 cases x with
 | non=>cases e;cases RD.non_iff.mp r;exact .non
 | bl k=>cases e;cases RD.bl_iff.mp r;exact .bl k
 | int i=>cases e;cases RD.int_iff.mp r;exact .int i
 | str i=>cases e;cases RD.str_iff.mp r;exact .str i
 | tup ds =>
   cases e
   obtain ⟨a,vs,rfl,j,rs⟩:=RD.tupS r
   exact .tup j
 | con ds=>cases e
 | ref a =>
   cases RD.ref_iff.mp r
   simp only [tyN] at e
   cases e0:M a with
   | none=>rw [e0] at e;cases e
   | some o =>
     rw [e0] at e
     cases o with
     | lst ds =>
       cases e
       obtain ⟨vs,j,rs⟩:=rm _ _ e0
       exact .lst j
     | dct t kvs =>
       cases e
       have ro:=rm _ _ e0
       cases t with
       | false=>obtain ⟨ps,j,_⟩:=ro;exact .dK j
       | true=>obtain ⟨ps,j,_⟩:=ro;exact .dT j
     | fdc kvs=>cases e
noncomputable def de:List String := ["NoneType", "bool", "int", "str", "tuple", "list", "dict"]
theorem zf (K:Frag):∀ T∈["bool", "int", "str", "tuple", "list", "dict"], ∀ t∈de,PySem.W.kitOne K (.type t) (.type T)=some (vX T t):=by
 intro T j t q
 simp only [de,List.mem_cons,List.not_mem_nil,or_false] at j q
 rcases j with rfl | rfl | rfl | rfl | rfl | rfl <;> rcases q with rfl | rfl | rfl | rfl | rfl | rfl | rfl <;> rfl
noncomputable def iQ (T:String) (ta:TEd):TEd:=fun ρ M Q=>ta ρ M fun x M1 => ∃ t,tyN M1 x=some t/\Q (.bl (vX T t)) M1
theorem sU {T:String} {ta:TEd} (h:ad ta):ad (iQ T ta):=fun ρ M Q Q' i q=>h _ _ _ _ (fun x z ⟨t,e,j⟩=>⟨t,e,i _ _ j⟩) q
theorem zg {M:Mem} {x:D} {t:String} (e:tyN M x=some t):t∈de:=by
 cases x with
 | ref a =>
   simp only [tyN] at e
   cases e0:M a with
   | none=>rw [e0] at e;cases e
   | some o=>rw [e0] at e;cases o <;> cases e <;> simp [de]
 | con _=>cases e
 | _=>cases e;simp [de]
theorem sV (T:String) (j:T∈["bool", "int", "str", "tuple", "list", "dict"]):CallR X (.builtin "isinstance") (fun vs H Q => ∃ v t,vs=[v, .ty T]/\cc X.K H v (.type t)/\t∈de/\Q (.bl (vX T t)) H):=by
 intro pins s σ H xs us Q I r h
 obtain ⟨v,t,rfl,ty,z,q⟩:=h
 obtain ⟨u,c,rfl,ru,rc⟩:=xH r
 cases rc
 exact rX I ru ty (zf X.K T j t z) fun tk=>⟨.bl _,H,I.tok tk,rfl,q⟩
theorem zh {e:Expr} {ta:TEd} {T:String} {y:Str} {p p2 pos:Pos} (L:T∈["bool", "int", "str", "tuple", "list", "dict"]) (m:ad ta) (he:PE X e (lE X.K ta)) (O:Gl X "isinstance") (hm:X.mg "isinstance" = none)
 (z:Gl X y) (B:X.mg y=none) (U:bootBuiltins y=some (.type T)) (Y:y ≠ "__name__") (F:(y==("__debug__":Str))=false)
 (hs:starEach [e, .Name y p2] X.env=(false,eval e X.env)::starEach [.Name y p2] X.env) (G:(backTo pos (starEach [.Name y p2] X.env)).any (·.1)=false) :
 PE X (.Call (.Name "isinstance" p) [e, .Name y p2] [] pos) (lE X.K (iQ T ta)):=by
 have h2:PE X (.Name y p2) (tC (.ty T)):=yn z B U rfl Y F
 refine PE.imp (bU (sV T L) O hm (by decide +kernel) (jq he (jq h2 rY rfl) hs) (by decide) (by decide) hs G) fun σ H Q h => ?_
 obtain ⟨ρ,M,rs,rm,q⟩:=h
 exact ⟨ρ,M,rs,rm,m _ _ _ _ (fun x M1 ⟨t,e,Z⟩ v H1 x1 j J=>⟨v,t,rfl,CF j J e,zg e,Z _ H1 x1 j (RD.bl_iff.mpr rfl)⟩) q⟩
noncomputable def wBM (rd:D->List D->Mem->QD->Prop) (to:TEd) (t:TAd):TEd:=fun ρ M Q=>to ρ M fun x M1=>(∃ a xs,x = .ref a/\M1 a=some (.lst xs))/\t ρ M1 fun ds M2=>rd x ds M2 Q
noncomputable def dH (rd:D->List D->Mem->QD->Prop):Prop := ∀ x ds M Q Q',(∀ d M',Q d M'->Q' d M')->rd x ds M Q->rd x ds M Q'
theorem oT {rd:D->List D->Mem->QD->Prop} {to:TEd} {t:TAd} (j:dH rd) (mo:ad to) (mt:b6 t):ad (wBM rd to t):=fun ρ M Q Q' i q =>
 mo _ _ _ _ (fun x F ⟨e,z⟩=>⟨e,mt _ _ _ _ (fun ds M2 B=>j _ _ _ _ _ i B) z⟩) q
theorem xQ {K:Frag} {M:Mem} {H:Hp} {x:D} {v:V} (rm:RM K M H) (r:RD K H x v) (h:∃ a xs,x = .ref a/\M a=some (.lst xs)):tyV K "list" v H:=by
 obtain ⟨a,xs,rfl,e⟩:=h
 cases RD.ref_iff.mp r
 obtain ⟨vs,j,_⟩:=rm _ _ e
 exact .inl ⟨rfl,vs,SqL.of j⟩
theorem zi {K:Frag} {rd:D->List D->Mem->QD->Prop} {r:V->List V->Hp->VK->Prop} {to:TEd} {t:TAd} (L:dH rd) (mo:ad to) (mt:b6 t)
 (O:∀ v vs H Q,lMt K rd v vs H Q->r v vs H Q) (σ:St) (H:Hp) (Q:VK) (h:lE K (wBM rd to t) σ H Q):tBM K "list" r (lE K to) (lA K t) σ H Q:=by
 obtain ⟨ρ,M,rs,rm,q⟩:=h
 refine ⟨ρ,M,rs,rm,mo _ _ _ _ (fun x U ⟨e,Y⟩ v H1 G j z=>⟨xQ j z e, ?_⟩) q⟩
 refine ⟨ρ,U,rs.mono (G.stab rm),j,mt _ _ _ _ (fun ds M2 Z vs H2 J B F => ?_) Y⟩
 exact O v vs H2 Q ⟨x,ds,M2,B,z.mono (J.stab j),F,L _ _ _ _ _ (fun d M' k=>k.ext (G.trans J)) Z⟩
theorem mP {K:Frag} {rd:D->List D->Mem->QD->Prop} {r:V->List V->Hp->VK->Prop} {to:TEd} (B:dH rd) (mo:ad to)
 (F:∀ v vs H Q,lMt K rd v vs H Q->r v vs H Q) (σ:St) (H:Hp) (Q:VK) (h:lE K (wBM rd to bK) σ H Q):AO K "list" r (lE K to) σ H Q:=by
 obtain ⟨ρ,M,rs,rm,q⟩:=h
 refine ⟨ρ,M,rs,rm,mo _ _ _ _ (fun x G ⟨e,J⟩ v H1 L j z=>⟨xQ j z e, ?_⟩) q⟩
 exact F v [] H1 Q ⟨x,[],G,j,z,RDs.nil,B _ _ _ _ _ (fun d M' k=>k.ext L) J⟩
noncomputable def jD:D->List D->Mem->QD->Prop:=fun x ds M Q => ∃ a xs y,x = .ref a/\ds=[y]/\M a=some (.lst xs)/\xs.length < sizeLine/\Q .non (af M a (.lst (xs++[y])))
noncomputable def mQ:D->List D->Mem->QD->Prop:=fun x ds M Q => ∃ a xs,x = .ref a/\ds=[]/\M a=some (.lst xs)/\Q .non (af M a (.lst []))
noncomputable def gY:D->List D->Mem->QD->Prop:=fun x ds M Q => ∃ a xs,x = .ref a/\ds=[]/\M a=some (.lst xs)/\Q .non (af M a (.lst xs.reverse))
theorem gJ:dH jD:=fun _ _ _ _ _ h ⟨a,xs,y,j,B,F,z,q⟩=>⟨a,xs,y,j,B,F,z,h _ _ q⟩
theorem iR:dH mQ:=fun _ _ _ _ _ h ⟨a,xs,j,z,B,q⟩=>⟨a,xs,j,z,B,h _ _ q⟩
theorem fu:dH gY:=fun _ _ _ _ _ h ⟨a,xs,j,z,B,q⟩=>⟨a,xs,j,z,B,h _ _ q⟩
theorem jE {K:Frag} {M:Mem} {H:Hp} {Q:VK} {d:D} {v:V} {a:Addr} {o0:O} {ds:List D} {vs:List V} (rm:RM K M H) (m:M a=some o0) (rd:RDs K H ds vs) (r:RD K H d v) (q:KE' K M H Q d (af M a (.lst ds))) (w:fz (some o0)=false:=by rfl) :
 Q v (upd H a (.lst vs)):=by
 have st:Stab H (upd H a (.lst vs)):=rm.stabPut m w
 exact q v _ (Ext.put m w) (rm.put m ⟨vs,aE,rd.mono st⟩ w) (r.mono st)
theorem vY {K:Frag} (v:V) (vs:List V) (H:Hp) (Q:VK) (h:lMt K jD v vs H Q):oK v vs H Q:=by
 obtain ⟨x,ds,M,rm,rx,rs,a,xs,y,rfl,rfl,e,z,q⟩:=h
 cases RD.ref_iff.mp rx
 obtain ⟨w,rfl,rw'⟩:=rs.one
 obtain ⟨us,j,ru⟩:=rm _ _ e
 exact ⟨a,us,w,rfl,rfl,j,by rw [ru.length];exact z,jE rm e (ru.append (RDs.cons rw' RDs.nil)) (RD.non_iff.mpr rfl) q⟩
theorem zj {K:Frag} (v:V) (vs:List V) (H:Hp) (Q:VK) (h:lMt K mQ v vs H Q):sg v vs H Q:=by
 obtain ⟨x,ds,M,rm,rx,rs,a,xs,rfl,rfl,e,q⟩:=h
 cases RD.ref_iff.mp rx
 obtain ⟨us,j,ru⟩:=rm _ _ e
 exact ⟨a,us,rfl,RDs.nil_iff.mp rs,j,jE rm e RDs.nil (RD.non_iff.mpr rfl) q⟩
theorem sW {K:Frag} (v:V) (vs:List V) (H:Hp) (Q:VK) (h:lMt K gY v vs H Q):lP v vs H Q:=by
 obtain ⟨x,ds,M,rm,rx,rs,a,xs,rfl,rfl,e,q⟩:=h
 cases RD.ref_iff.mp rx
 obtain ⟨us,j,ru⟩:=rm _ _ e
 exact ⟨a,us,rfl,RDs.nil_iff.mp rs,j,jE rm e ru.reverse (RD.non_iff.mpr rfl) q⟩
noncomputable abbrev BT:=D->ao->Option ao
noncomputable abbrev BTs:=List D->ao->Option ao
noncomputable def bQ (i:Nat):BT:=fun d ρ => some (ρ.set i (some d))
noncomputable def fw:BTs:=fun ds ρ => match ds with | [] => some ρ | _=>none
noncomputable def bH (b:BT) (bs:BTs):BTs:=fun ds ρ => match ds with | d::r=>(b d ρ).bind fun ρ'=>bs r ρ' | [] => none
noncomputable def mR (bs:BTs):BT:=fun d ρ => match d with | .tup ds=>bs ds ρ | _=>none
noncomputable def lG (K:Frag) (b:BT):TG:=fun v σ H Q => ∃ d ρ ρ',RD K H d v/\RS K H σ ρ /\ b d ρ = some ρ' /\ ∀ σ',RS K H σ' ρ'->Q σ' H
noncomputable def lGs (K:Frag) (b:BTs):TGs:=fun vs σ H Q => ∃ ds ρ ρ',RDs K H ds vs/\RS K H σ ρ /\ b ds ρ = some ρ' /\ ∀ σ',RS K H σ' ρ'->Q σ' H
theorem PG.imp {e:Expr} {t t':TG} (h:PG X e t) (i:∀ v σ H Q,t' v σ H Q->t v σ H Q):PG X e t':=fun pins s σ H v u Q I r q=>h pins s σ H v u Q I r (i _ _ _ _ q)
theorem PGs.imp {e:List Expr} {t t':TGs} (h:PGs X e t) (i:∀ v σ H Q,t' v σ H Q->t v σ H Q):PGs X e t':=fun pins s σ H v u Q I r q=>h pins s σ H v u Q I r (i _ _ _ _ q)
theorem zk {i:Nat} {x:Str} {pos:Pos} (j:X.N.Nodup) (hi:X.N[i]? = some x) (hx:Loc X.env.scope x) (hf:X.fn x=true∨X.env.scope.names.lookup x=some .local):PG X (.Name x pos) (lG X.K (bQ i)) :=
 PG.imp (oH j hi hx hf) fun v σ H Q ⟨d, ρ, ρ',r,rs,e,q⟩=>by
  cases e
  exact q _ (rs.set i r)
theorem zm:PGs X [] (lGs X.K fw):=PGs.imp yt fun vs σ H Q ⟨ds, ρ, ρ',r,rs,e,q⟩=>by
 cases ds with
 | nil=>cases e;exact ⟨RDs.nil_iff.mp r,q σ rs⟩
 | cons _ _=>cases e
theorem vZ {e:Expr} {es:List Expr} {b:BT} {bs:BTs} (h1:PG X e (lG X.K b)) (h2:PGs X es (lGs X.K bs)) (hs:(assignEach (e::es) X.env).map (·.2)=assign e X.env::(assignEach es X.env).map (·.2)) :
 PGs X (e::es) (lGs X.K (bH b bs)):=PGs.imp (uW h1 h2 hs) fun vs σ H Q ⟨ds, ρ, ρ',r,rs,e,q⟩=>by
 cases ds with
 | nil=>cases e
 | cons d ds =>
   obtain ⟨v,vr,rfl,z,B⟩:=RDs.cons_iff.mp r
   simp only [bH] at e
   cases j:b d ρ with
   | none=>rw [j] at e;cases e
   | some ρ1 =>
     rw [j] at e
     exact ⟨v,vr,rfl,d, ρ, ρ1,z,rs,j,fun σ' rs'=>⟨ds, ρ1, ρ',B,rs',e,q⟩⟩
theorem Bd {es:List Expr} {k:Nat} {bs:BTs} {n:Nat} {pos:Pos} (z:X.calm=true) (hlen:∀ ds ρ ρ',bs ds ρ = some ρ'->ds.length=n) (h:PGs X es (lGs X.K bs)) (B:(assignEach es X.env).length=n) (j:(assignEach es X.env).findIdx? (·.1)=none) :
 PG X (.Tuple es k pos) (lG X.K (mR bs)):=PG.imp (Ay z h B j) fun v σ H Q ⟨d, ρ, ρ',r,rs,e,q⟩=>by
 cases d with
 | tup ds =>
   obtain ⟨a,vs,rfl,F,rv⟩:=RD.tupS r
   exact ⟨a,vs,rfl,F,by rw [rv.length];exact hlen _ _ _ e,ds, ρ, ρ',rv,rs,e,q⟩
 | _=>cases e
noncomputable abbrev TId:=ao->Mem->(List D->(Mem->Prop)->Mem->Prop)->Prop
noncomputable def bR (T:TId):Prop := ∀ ρ M Q Q',(∀ xs c M',Q xs c M'->Q' xs c M')->T ρ M Q->T ρ M Q'
noncomputable def Yl (H H':Hp):Prop:=H'=H ∨ ∃ q vs,H q=none/\H'=upd H q (.tup vs)
noncomputable def fx (K:Frag) (H1:Hp) (xs:List D) (chk:Mem->Prop) (J:It):Prop := ∀ M H,Stab H1 H->RM K M H->chk M -> ∀ i,(xs.length<=i->J.stop i H)/\(i < xs.length->J.go i H /\
 ∀ x H',J.yld i H x H'->Yl H H' /\ ∃ d,xs[i]? = some d/\RD K H' d x)
noncomputable def lI (K:Frag) (T:TId):TI:=fun σ H R => ∃ ρ M,RS K H σ ρ /\ RM K M H/\T ρ M (fun xs chk M1 => ∀ J H1,Ext M H M1 H1->RM K M1 H1->fx K H1 xs chk J->R J H1)
theorem PI.imp {tg e:Expr} {t t':TI} (h:PI X tg e t) (i:∀ σ H Q,t' σ H Q->t σ H Q):PI X tg e t':=fun pins s σ H Q I q=>h pins s σ H Q I (i _ _ _ q)
theorem Yl.ext {K:Frag} {M:Mem} {H H':Hp} (rm:RM K M H) (y:Yl H H'):Ext M H M H'/\RM K M H':=by
 rcases y with rfl | ⟨q,vs,n,rfl⟩
 ·exact ⟨Ext.refl,rm⟩
 ·exact ⟨Ext.new' n,rm.new n⟩
noncomputable def Dn (K:Frag) (tl:TE):TI:=fun σ H R=>tl σ H fun x H1 => ∃ a,x = .ref a/\(((∃ xs,SqL K H1 a xs)/\R (Itl K a) H1)∨((∃ xs,SqT K H1 a xs)/\R (Itt K a) H1))
theorem Be {tg l:Expr} {tl:TE} (F:PE X l tl):PI X tg l (Dn X.K tl):=by
 intro pins s σ H R I h
 refine thn (F pins s σ H _ I h) fun v s1 ⟨x,H1,j,G,J⟩ => ?_
 obtain ⟨a,e,q⟩:=J
 subst e
 cases G
 rcases q with ⟨⟨xs,z⟩,q⟩ | ⟨⟨xs,z⟩,q⟩
 ·obtain ⟨its,rv,p,L⟩:=j.list z
  refine wpAny_pyIter_list p.isList ?_
  refine ⟨s1.heap.objs.size,[s1.heap.objs.size],_,_,H1,rfl,j.kept (t':=s1.toks) fun b o e=>Heap.get?_push_of_some _ e,rQ a _,⟨_,Heap.get?_push_size _ rfl,rfl,rfl⟩,fun b B => ?_,q⟩
  have e:b=s1.heap.objs.size:=by simpa using B
  subst e
  exact j.fpOk (Nat.le_refl _) (j.hok.fresh (Nat.le_refl _))
 ·obtain ⟨its,rv,p,L⟩:=j.tuple z
  refine wpAny_pyIter_tuple (show s1.heap.IsTuple a its.toArray from p) ?_
  refine ⟨s1.heap.objs.size,[s1.heap.objs.size],_,_,H1,rfl,j.kept (t':=s1.toks) fun b o e=>Heap.get?_push_of_some _ e,qa a _,⟨_,Heap.get?_push_size _ rfl,rfl,rfl⟩,fun b B => ?_,q⟩
  have e:b=s1.heap.objs.size:=by simpa using B
  subst e
  exact j.fpOk (Nat.le_refl _) (j.hok.fresh (Nat.le_refl _))
noncomputable def mU (ta:TEd):TId:=fun ρ M R=>ta ρ M fun x M1 => ∃ ds,al M1 x=some ds/\R ds (fun M=>al M x=some ds) M1
theorem w5 {ta:TEd} (h:ad ta):bR (mU ta):=fun ρ M Q Q' i q=>h _ _ _ _ (fun x z ⟨ds,e,j⟩=>⟨ds,e,i _ _ _ j⟩) q
theorem sX {K:Frag} {H1:Hp} {a:Addr} {ds:List D} {chk:Mem->Prop} (h:∀ M H,Stab H1 H->RM K M H->chk M -> ∃ vs,SqL K H a vs/\RDs K H ds vs):fx K H1 ds chk (Itl K a):=fun M H st rm c i=>by
 obtain ⟨vs,sq,r⟩:=h M H st rm c
 have l:=r.length
 refine ⟨fun hi=>⟨vs,sq,by lia⟩,fun hi=>⟨⟨vs,vs[i]'(by lia),sq,List.getElem?_eq_getElem (by lia)⟩,fun x H' y => ?_⟩⟩
 obtain ⟨e,y⟩:=y
 subst e
 exact ⟨.inl rfl,r.getV (y vs sq)⟩
theorem Bf {K:Frag} {H1:Hp} {a:Addr} {ds:List D} {chk:Mem->Prop} (h:∀ M H,Stab H1 H->RM K M H->chk M -> ∃ vs,SqT K H a vs/\RDs K H ds vs):fx K H1 ds chk (Itt K a):=fun M H st rm c i=>by
 obtain ⟨vs,sq,r⟩:=h M H st rm c
 have l:=r.length
 refine ⟨fun hi=>⟨vs,sq,by lia⟩,fun hi=>⟨⟨vs,vs[i]'(by lia),sq,List.getElem?_eq_getElem (by lia)⟩,fun x H' y => ?_⟩⟩
 obtain ⟨e,y⟩:=y
 subst e
 exact ⟨.inl rfl,r.getV (y vs sq)⟩
theorem Bg {tg l:Expr} {ta:TEd} (m:ad ta) (G:PE X l (lE X.K ta)):PI X tg l (lI X.K (mU ta)):=by
 refine PI.imp (Be G) fun σ H R h => ?_
 obtain ⟨ρ,M,rs,rm,q⟩:=h
 refine ⟨ρ,M,rs,rm,m _ _ _ _ (fun x L ⟨ds,e,B⟩ v H1 F j rd1 => ?_) q⟩
 cases x with
 | tup es =>
   cases e
   obtain ⟨a,vs,rfl,z,rv⟩:=RD.tupS rd1
   exact ⟨a,rfl, .inr ⟨⟨vs,z⟩,B _ H1 F j (Bf fun M' H' st _ _=>⟨vs,st.sqT z,rv.mono st⟩)⟩⟩
 | con es =>
   cases e
   obtain ⟨a,vs,rfl,z,rv⟩:=RD.con_iff.mp rd1
   exact ⟨a,rfl, .inl ⟨⟨vs,z.sq⟩,B _ H1 F j (sX fun M' H' st _ _=>⟨vs,(st.sqF z).sq,rv.mono st⟩)⟩⟩
 | ref a =>
   cases RD.ref_iff.mp rd1
   have get:∀ {M':Mem} {es:List D},al M' (.ref a)=some es->M' a=some (.lst es):=fun {M' es} e=>by
    simp only [al] at e
    cases e0:M' a with
    | none=>rw [e0] at e;cases e
    | some o =>
      rw [e0] at e
      cases o with
      | dct _ _=>cases e
      | fdc _=>cases e
      | lst es'=>cases e;rfl
   obtain ⟨vs,z,rv⟩:=j _ _ (get e)
   exact ⟨a,rfl, .inl ⟨⟨vs,SqL.of z⟩,B _ H1 F j (sX fun M' H' st rm' c=>by
    obtain ⟨us,J,ru⟩:=rm' _ _ (get c)
    exact ⟨us,SqL.of J,ru⟩)⟩⟩
 | _=>cases e
noncomputable def ci (lo:Int) (n:Nat):List D:=(List.range n).map fun i => .int (lo+(i:Nat))
theorem Bh {K:Frag} {H1:Hp} {lo:Int} {n:Nat}:fx K H1 (ci lo n) (fun _=>True) (Itr lo n):=fun M H st rm c i=>by
 have l:(ci lo n).length=n:=by simp [ci]
 refine ⟨fun hi=>by show n<=i;lia,fun hi=>⟨by show i < n;lia,fun x H' y => ?_⟩⟩
 obtain ⟨e,y⟩:=y
 subst e y
 refine ⟨.inl rfl, .int (lo+i), ?_,RD.int_iff.mpr rfl⟩
 simp only [ci,List.getElem?_map,List.getElem?_range (show i < n by lia),Option.map_some]
noncomputable def iS (ta:TAd):TId:=fun ρ M R=>ta ρ M fun ds M1 => ∃ j:Int,ds=[.int j] /\ -(2 ^ 62)<=j/\j < 2 ^ 62/\R (ci 0 j.toNat) (fun _=>True) M1
theorem sY {ta:TAd} (h:b6 ta):bR (iS ta):=fun ρ M Q Q' i q=>h _ _ _ _ (fun x B ⟨j,e,a,b,z⟩=>⟨j,e,a,b,i _ _ _ z⟩) q
theorem zn {tg a:Expr} {ta:TAd} {p pos:Pos} (m:b6 ta) (B:Gl X "range") (hm:X.mg "range" = none) (F:PA X [a] (lA X.K ta)) (hs:starEach [a] X.env=[(false,eval a X.env)]):PI X tg (.Call (.Name "range" p) [a] [] pos) (lI X.K (iS ta)):=by
 refine PI.imp (rR B hm F hs) fun σ H R h => ?_
 obtain ⟨ρ,M,rs,rm,q⟩:=h
 refine ⟨ρ,M,rs,rm,m _ _ _ _ (fun ds U ⟨j,e,G,J,L⟩ vs H1 O z rd1 => ?_) q⟩
 subst e
 obtain ⟨v,rfl,r⟩:=rd1.one
 cases RD.int_iff.mp r
 exact ⟨j,rfl,G,J,L _ H1 O z Bh⟩
end
end
section
section
variable {X:Cx}
noncomputable def isT:D->Bool | .tup _=>true | _=>false
theorem eh {K:Frag} {M:Mem} {H:Hp} {x:D} {ds:List D} {v:V} (rm:RM K M H) (r:RD K H x v) (e:al M x=some ds):∃ p vs,v = .ref p/\SqV K (isT x) H p vs/\RDs K H ds vs:=by
 cases x with
 | tup es =>
   cases e
   obtain ⟨a,vs,rfl,j,rv⟩:=RD.tupS r
   exact ⟨a,vs,rfl,j,rv⟩
 | con es =>
   cases e
   obtain ⟨a,vs,rfl,j,rv⟩:=RD.con_iff.mp r
   exact ⟨a,vs,rfl,j.sq,rv⟩
 | ref a =>
   cases RD.ref_iff.mp r
   simp only [al] at e
   cases e0:M a with
   | none=>rw [e0] at e;cases e
   | some o =>
     rw [e0] at e
     cases o with
     | dct _ _=>cases e
     | fdc _=>cases e
     | lst es =>
       cases e
       obtain ⟨vs,j,rv⟩:=rm _ _ e0
       exact ⟨a,vs,rfl,SqL.of j,rv⟩
 | _=>cases e
noncomputable def iT (x y:D):D := .tup [x,y]
noncomputable def mV (ta tb:TEd):TId:=fun ρ M R=>b9 ta (b9 tb bK) ρ M fun ds M1 => ∃ x y xs ys,ds=[x,y]/\al M1 x=some xs/\al M1 y=some ys/\R (List.zipWith iT xs ys) (fun M=>al M x=some xs/\al M y=some ys) M1
theorem w6 {ta tb:TEd} (j:ad ta) (z:ad tb):bR (mV ta tb):=fun ρ M Q Q' i q=>aG j (aG z aF) _ _ _ _ (fun ds J ⟨x,y,xs,ys,e,B,F,G⟩=>⟨x,y,xs,ys,e,B,F,i _ _ _ G⟩) q
theorem mW {H:Hp} {p:Addr} {o:HO} (n:H p=none):Stab H (upd H p o):=⟨fun a xs e=>by rw [aj (fun z=>by rw [z,n] at e;cases e)];exact e,fun a o u e=>by rw [aj (fun z=>by rw [z,n] at e;cases e)];exact e⟩
theorem Bi {K:Frag} {H1:Hp} {x y:D} {xs ys:List D} {a b:Addr} (rx:RD K H1 x (.ref a)) (ry:RD K H1 y (.ref b)):fx K H1 (List.zipWith iT xs ys) (fun M=>al M x=some xs/\al M y=some ys) (Itz K (isT x) (isT y) a b):=fun M H st rm c i=>by
 obtain ⟨Y,vs,L,j,G⟩:=eh rm (rx.mono st) c.1
 obtain ⟨p2,us,O,q,J⟩:=eh rm (ry.mono st) c.2
 cases L
 cases O
 have l1:=G.length
 have l2:=J.length
 have lz:(List.zipWith iT xs ys).length=min xs.length ys.length:=List.length_zipWith
 refine ⟨fun hi=>⟨vs,us,j,q,by lia⟩,fun hi=>⟨⟨vs,us,vs[i]'(by lia),us[i]'(by lia),j,q,List.getElem?_eq_getElem (by lia),List.getElem?_eq_getElem (by lia)⟩,fun v H' U => ?_⟩⟩
 obtain ⟨p,v1,v2,n,rfl,rfl,g⟩:=U
 obtain ⟨g1,g2⟩:=g vs us j q
 obtain ⟨d1,z,B⟩:=G.getV g1
 obtain ⟨d2,hd2,F⟩:=J.getV g2
 have sb:=mW (o := .tup [v1,v2]) n
 refine ⟨.inr ⟨p,[v1,v2],n,rfl⟩, .tup [d1,d2], ?_,RD.tup_mk ⟨p,[v1,v2],rfl,aE,RDs.cons (B.mono sb) (RDs.cons (F.mono sb) RDs.nil)⟩⟩
 rw [List.getElem?_zipWith,z,hd2];rfl
theorem Bj {elts:List Expr} {cx} {pos p pos':Pos} {a b:Expr} {ta tb:TEd} (ma:ad ta) (mb:ad tb) (G:Gl X "zip") (hm:X.mg "zip" = none) (J:PA X [a,b] (lA X.K (b9 ta (b9 tb bK)))) (hs:starEach [a,b] X.env=[(false,eval a X.env),(false,eval b X.env)]) (z:starEach [b] X.env=[(false,eval b X.env)]) :
 PI X (.Tuple elts cx pos) (.Call (.Name "zip" p) [a,b] [] pos') (lI X.K (mV ta tb)):=by
 refine PI.imp (AW G hm J hs z) fun σ H R h => ?_
 obtain ⟨ρ,M,rs,rm,q⟩:=h
 refine ⟨ρ,M,rs,rm,aG ma (aG mb aF) _ _ _ _ (fun ds M1 ⟨x,y,xs,ys,e,L,O,U⟩ vs H1 Y j rd1 => ?_) q⟩
 subst e
 obtain ⟨v,u,rfl,B,F⟩:=rd1.two
 obtain ⟨Z,vs,rfl,s1,_⟩:=eh j B L
 obtain ⟨p2,us,rfl,s2,_⟩:=eh j F O
 exact ⟨Z,p2,isT x,isT y,vs,us,rfl,s1,s2,U _ H1 Y j (Bi B F)⟩
end
end
section
section
variable {X:Cx}
noncomputable def eO (xs:List D):List D:=xs.mapIdx fun i x => .tup [.int (i:Nat),x]
noncomputable def iU (ta:TEd):TId:=fun ρ M R=>ta ρ M fun x M1 => ∃ xs,al M1 x=some xs/\R (eO xs) (fun M=>al M x=some xs) M1
theorem sZ {ta:TEd} (h:ad ta):bR (iU ta):=fun ρ M Q Q' i q=>h _ _ _ _ (fun x z ⟨ds,e,j⟩=>⟨ds,e,i _ _ _ j⟩) q
theorem Bk {K:Frag} {H1:Hp} {x:D} {xs:List D} {a:Addr} (rx:RD K H1 x (.ref a)):fx K H1 (eO xs) (fun M=>al M x=some xs) (Ite K (isT x) a):=fun M H st rm c i=>by
 obtain ⟨J,vs,F,j,B⟩:=eh rm (rx.mono st) c
 cases F
 have l1:=B.length
 have lz:(eO xs).length=xs.length:=by simp [eO]
 refine ⟨fun hi=>⟨vs,j,by lia⟩,fun hi=>⟨⟨vs,vs[i]'(by lia),j,List.getElem?_eq_getElem (by lia)⟩,fun v H' G => ?_⟩⟩
 obtain ⟨p,v1,n,rfl,rfl,g⟩:=G
 obtain ⟨d1,q,z⟩:=B.getV (g vs j)
 have sb:=mW (o := .tup [.int (i:Nat),v1]) n
 refine ⟨.inr ⟨p,[.int (i:Nat),v1],n,rfl⟩, .tup [.int (i:Nat),d1], ?_,RD.tup_mk ⟨p,[.int (i:Nat),v1],rfl,aE,RDs.cons (RD.int_iff.mpr rfl) (RDs.cons (z.mono sb) RDs.nil)⟩⟩
 simp [eO,List.getElem?_mapIdx,q]
theorem zo {elts:List Expr} {cx} {pos p pos':Pos} {a:Expr} {ta:TEd} (ma:ad ta) (B:Gl X "enumerate") (hm:X.mg "enumerate" = none) (F:PA X [a] (lA X.K (b9 ta bK))) (hs:starEach [a] X.env=[(false,eval a X.env)]) :
 PI X (.Tuple elts cx pos) (.Call (.Name "enumerate" p) [a] [] pos') (lI X.K (iU ta)):=by
 refine PI.imp (yJ B hm F hs) fun σ H R h => ?_
 obtain ⟨ρ,M,rs,rm,q⟩:=h
 refine ⟨ρ,M,rs,rm,ma _ _ _ _ (fun x U ⟨xs,G,J⟩ vs H1 L j rd1 => ?_) q⟩
 obtain ⟨v,rfl,z⟩:=rd1.one
 obtain ⟨O,us,rfl,s1,_⟩:=eh j z G
 exact ⟨O,isT x,us,rfl,s1,J _ H1 L j (Bk z)⟩
end
end
section
noncomputable abbrev NC:=ao->Mem->List D->Prop
noncomputable abbrev TCd:=ao->Mem->List D->NC->Prop
noncomputable def bI (T:TCd):Prop := ∀ ρ M acc N N',(∀ ρ' M' acc',N ρ' M' acc'->N' ρ' M' acc')->T ρ M acc N->T ρ M acc N'
structure ExtP (p:Addr) (M:Mem) (H:Hp) (M':Mem) (H':Hp):Prop where
 kp:∀ a o,a≠p->fz (M a)=true->H a=some o->H' a=some o
 nw:∀ a o,fz (M a)=true->H a=some o->M' a=M a
section
variable {K:Frag} {M M' M'':Mem} {H H' H'':Hp} {p:Addr}
theorem ExtP.new (x:ExtP p M H M' H') (a:Addr) (o:HO) (n:M a=none) (e:H a=some o):M' a=none:=(x.nw a o (by rw [n];rfl) e).trans n
theorem Ext.toP (x:Ext M H M' H'):ExtP p M H M' H':=⟨fun a o _=>x.kp a o,x.nw⟩
theorem ExtP.refl:ExtP p M H M H:=⟨fun _ _ _ _ h=>h,fun _ _ _ _=>rfl⟩
theorem ExtP.trans {vs:List V} (a:ExtP p M H M' H') (q:H p=some (.lst vs)) (j:∃ vs',H' p=some (.lst vs')) (b:ExtP p M' H' M'' H''):ExtP p M H M'' H'' :=
 ⟨fun c o ne n h=>b.kp c o ne (by rw [a.nw c o n h];exact n) (a.kp c o ne n h),fun c o n h=>by
   have n':fz (M' c)=true:=by rw [a.nw c o n h];exact n
   refine Eq.trans ?_ (a.nw c o n h)
   by_cases z:c=p
   ·subst z
    obtain ⟨vs',e⟩:=j
    exact b.nw c _ n' e
   ·exact b.nw c o n' (a.kp c o z n h)⟩
theorem ExtP.stab {vs:List V} (r:RM K M H) (j:H p=some (.lst vs)) (x:ExtP p M H M' H'):Stab H H' where
 tup:=fun a xs e=>x.kp a _ (fun z=>by subst z;rw [j] at e;cases e) (by rw [r.fzT e];rfl) e
 frz:=fun a o u e=>x.kp a _ (fun z=>by subst z;rw [j] at e;cases e) (r.fzF e) e
theorem mX {vs:List V} {ho:HO} (j:H p=some (.lst vs)):Stab H (upd H p ho) :=
 ⟨fun a xs e=>by rw [aj (fun z=>by subst z;rw [j] at e;cases e)];exact e,fun a o u e=>by rw [aj (fun z=>by subst z;rw [j] at e;cases e)];exact e⟩
theorem RM.side {vs:List V} {ho:HO} (r:RM K M H) (n:M p=none) (j:H p=some (.lst vs)):RM K M (upd H p ho):=fun a o e=>by
 have ne:a≠p:=fun z=>by subst z;rw [n] at e;cases e
 exact (r a o e).mono (mX j) fun B q=>by rw [aj ne];exact q
end
noncomputable def fW (K:Frag) (H:Hp) (p:Addr) (acc:List D):Prop := ∃ vs,H p=some (.lst vs)/\RDs K H acc vs
noncomputable def KC (K:Frag) (p:Addr) (M:Mem) (H:Hp) (N:St->Hp->Prop):NC:=fun ρ' M' acc' => ∀ σ' H',ExtP p M H M' H'->RS K H' σ' ρ'->RM K M' H'->fW K H' p acc'->N σ' H'
noncomputable def lC (K:Frag) (p:Addr) (T:TCd):TC:=fun σ H N => ∃ ρ M acc,RS K H σ ρ /\ RM K M H/\M p=none/\fW K H p acc/\T ρ M acc (KC K p M H N)
theorem KC.ext {K:Frag} {p:Addr} {M M2 M':Mem} {H H2:Hp} {N:St->Hp->Prop} {ρ:ao} {acc:List D} {vs:List V} (q:H p=some (.lst vs)) (j:∃ vs',H2 p=some (.lst vs')) (x:ExtP p M H M2 H2) (h:KC K p M H N ρ M' acc):KC K p M2 H2 N ρ M' acc :=
 fun σ' H' y=>h σ' H' (x.trans q j y)
noncomputable def dI (te:TEd):TCd:=fun ρ M acc N=>te ρ M fun x M1=>acc.length < sizeLine/\N ρ M1 (acc++[x])
noncomputable def ba:List TTd->TCd->TCd
 | [],tb=>tb
 | t::r,tb=>fun ρ M acc N=>t ρ M fun b M1=>if b=true then ba r tb ρ M1 acc N else N ρ M1 acc
noncomputable def bS (b:BT) (tb:TCd) (chk:Mem->Prop) (N:NC):List D->NC
 | [] => fun ρ M acc=>chk M/\N ρ M acc
 | x::xs=>fun ρ M acc=>chk M /\ ∃ ρ',b x ρ = some ρ'/\tb ρ' M acc (bS b tb chk N xs)
noncomputable def df (src:TId) (b:BT) (tb:TCd):TCd:=fun ρ M acc N=>src ρ M fun xs chk M1=>bS b tb chk N xs ρ M1 acc
noncomputable def fX (fr:List (Option Nat)) (src:TId) (b:BT) (tb:TCd):TEd:=fun ρ M Q=>src ρ M fun xs chk M1=>bS b tb chk (fun _ M' acc => ∀ p,M' p=none->Q (.ref p) (af M' p (.lst acc))) xs (jx fr ρ) M1 []
theorem bh {te:TEd} (h:ad te):bI (dI te):=fun ρ M acc N N' i q=>h _ _ _ _ (fun x B ⟨z,j⟩=>⟨z,i _ _ _ j⟩) q
theorem aJ {tb:TCd} (z:bI tb):∀ {ts:List TTd},(∀ t∈ts,aB t)->bI (ba ts tb)
 | [],_=>z
 | t::r,h=>fun ρ M acc N N' i q=>h t List.mem_cons_self _ _ _ _ (fun b F j=>by
   cases b with
   | true=>rw [if_pos rfl] at j ⊢;exact aJ z (fun t' B=>h t' (List.mem_cons_of_mem _ B)) _ _ _ _ _ i j
   | false=>rw [if_neg Bool.false_ne_true] at j ⊢;exact i _ _ _ j) q
theorem fy {b:BT} {tb:TCd} (z:bI tb) {chk:Mem->Prop} {N N':NC} (i:∀ ρ' M' acc',N ρ' M' acc'->N' ρ' M' acc'):∀ (xs:List D) (ρ:ao) (M:Mem) (acc:List D),bS b tb chk N xs ρ M acc->bS b tb chk N' xs ρ M acc
 | [], ρ,M,acc,h=>⟨h.1,i _ _ _ h.2⟩
 | x::xs, ρ,M,acc,⟨c, ρ',e,q⟩=>⟨c, ρ',e,z _ _ _ _ _ (fun ρ2 M2 j B=>fy z i xs ρ2 M2 j B) q⟩
theorem gK {src:TId} {b:BT} {tb:TCd} (hs:bR src) (j:bI tb):bI (df src b tb):=fun ρ M acc N N' i q=>hs _ _ _ _ (fun xs c B z=>fy j i xs _ _ _ z) q
theorem km {fr:List (Option Nat)} {src:TId} {b:BT} {tb:TCd} (hs:bR src) (j:bI tb):ad (fX fr src b tb):=fun ρ M Q Q' i q =>
 hs _ _ _ _ (fun xs c F z=>fy j (fun _ M' acc B p n=>i _ _ (B p n)) xs _ _ _ z) q
section
variable {K:Frag} {p:Addr}
theorem fA {te:TEd} (m:ad te) (σ:St) (H:Hp) (N:St->Hp->Prop) (h:lC K p (dI te) σ H N):xO p (lE K te) σ H N:=by
 obtain ⟨ρ,M,acc,rs,rm,n,⟨vs,L,ra⟩,q⟩:=h
 refine ⟨ρ,M,rs,rm,m _ _ _ _ (fun x Y ⟨z,O⟩ v H1 F G J => ?_) q⟩
 have j:=F.keep p _ n L
 have U:=F.new p _ n L
 have st:=F.stab rm
 have B:Stab H1 (upd H1 p (.lst (vs++[v]))):=mX j
 refine ⟨vs,j,by rw [ra.length];exact z,O σ _ ⟨fun a o ne m' e => ?_,F.nw⟩ ((rs.mono st).mono B) (G.side U j) ⟨vs++[v],aE,((ra.mono st).mono B).append (RDs.cons (J.mono B) RDs.nil)⟩⟩
 rw [aj ne]
 exact F.kp a o m' e
theorem iV {tb:TCd} (mb:bI tb):∀ {ts:List TTd},(∀ t∈ts,aB t) -> ∀ (σ:St) (H:Hp) (N:St->Hp->Prop),lC K p (ba ts tb) σ H N->iC (ts.map (lT K)) (lC K p tb) σ H N
 | [],_, σ,H,N,h=>h
 | t::r,hm, σ,H,N,h=>by
   obtain ⟨ρ,M,acc,rs,rm,n,⟨vs,G,ra⟩,q⟩:=h
   refine ⟨ρ,M,rs,rm,hm t List.mem_cons_self _ _ _ _ (fun b L F H1 z B => ?_) q⟩
   have j:=z.keep p _ n G
   have O:=z.new p _ n G
   have st:=z.stab rm
   cases b with
   | false =>
     rw [if_neg Bool.false_ne_true] at F
     dsimp only
     rw [if_neg Bool.false_ne_true]
     exact F σ H1 z.toP (rs.mono st) B ⟨vs,j,ra.mono st⟩
   | true =>
     rw [if_pos rfl] at F
     dsimp only
     rw [if_pos rfl]
     exact iV mb (fun t' J=>hm t' (List.mem_cons_of_mem _ J)) σ H1 N ⟨ρ,L,acc,rs.mono st,B,O,⟨vs,j,ra.mono st⟩,
      aJ mb (fun t' J=>hm t' (List.mem_cons_of_mem _ J)) _ _ _ _ _ (fun ρ' M' acc' k=>k.ext G ⟨vs,j⟩ z.toP) F⟩
theorem ko {b:BT} {tb:TCd} (mb:bI tb) {xs:List D} {chk:Mem->Prop} {J:It} {H1:Hp} {B:Mem} {Nd:NC} {N:St->Hp->Prop} {σ:St} {ρ:ao} {acc:List D} (it:fx K H1 xs chk J) (rs:RS K H1 σ ρ) (rm:RM K B H1) (n:B p=none)
 (ac:fW K H1 p acc) (q:bS b tb chk Nd xs ρ B acc) (hN:∀ ρ' M' acc' σ' H',ExtP p B H1 M' H'->RS K H' σ' ρ'->RM K M' H'->fW K H' p acc'->Nd ρ' M' acc'->N σ' H') :
 ce J (lG K b) (lC K p tb) N σ H1:=by
 obtain ⟨Dv,F,_⟩:=id ac
 refine ⟨fun i m σ H=>m=xs.length - i/\i<=xs.length /\ ∃ ρ M acc,RS K H σ ρ /\ RM K M H/\M p=none/\fW K H p acc/\ExtP p B H1 M H/\bS b tb chk Nd (xs.drop i) ρ M acc,⟨xs.length,by simp,Nat.zero_le _, ρ,B,acc,rs,rm,n,ac,ExtP.refl,q⟩, ?_⟩
 rintro i m σ H ⟨rfl,hi, ρ,M,acc,rs,j,n,ac,x,q⟩
 have st:=x.stab rm F
 obtain ⟨vs,hp,ra⟩:=id ac
 by_cases z:i < xs.length
 ·rw [List.drop_eq_getElem_cons z] at q
  obtain ⟨c, ρ',hb,q⟩:=q
  obtain ⟨go,yl⟩:=(it M H st j c i).2 z
  refine .inr ⟨go,fun σ' H' => ∃ m',m' < xs.length - i/\(m'=xs.length - (i+1)/\i+1<=xs.length /\ ∃ ρ M acc,RS K H' σ' ρ /\ RM K M H'/\M p=none/\fW K H' p acc/\ExtP p B H1 M H'/\bS b tb chk Nd (xs.drop (i+1)) ρ M acc),fun σ' H' h=>h,fun x' H' y => ?_⟩
  obtain ⟨yy,d,hd,rd⟩:=yl x' H' y
  rw [List.getElem?_eq_getElem z] at hd
  cases hd
  obtain ⟨xy,rmy⟩:=yy.ext j
  have sty:=xy.stab j
  have G:=xy.keep p _ n hp
  refine ⟨_, ρ, ρ',rd,rs.mono sty,hb,fun σ2 O => ?_⟩
  refine ⟨ρ',M,acc,O,rmy,n,⟨vs,G,ra.mono sty⟩,mb _ _ _ _ _ (fun ρ3 M3 L q3 σ3 H3 x3 U Y Z => ?_) q⟩
  have n3:M3 p=none:=x3.new p _ n G
  exact ⟨xs.length - (i+1),by lia,rfl,z, ρ3,M3,L,U,Y,n3,Z,(x.trans F ⟨vs,hp⟩ xy.toP).trans F ⟨vs,G⟩ x3,q3⟩
 ·have e:i=xs.length:=by lia
  subst e
  rw [List.drop_length] at q
  exact .inl ⟨(it M H st j q.1 _).1 (Nat.le_refl _),hN ρ M acc σ H x rs j ac q.2⟩
theorem gL {src:TId} {b:BT} {tb:TCd} (ms:bR src) (mb:bI tb) (σ:St) (H:Hp) (N:St->Hp->Prop) (h:lC K p (df src b tb) σ H N):(lI K src) σ H fun J H1=>ce J (lG K b) (lC K p tb) N σ H1:=by
 obtain ⟨ρ,M,acc,rs,rm,n,⟨vs,B,ra⟩,q⟩:=h
 refine ⟨ρ,M,rs,rm,ms _ _ _ _ (fun xs chk O G J H1 z F it => ?_) q⟩
 have j:=z.keep p _ n B
 have L:=z.new p _ n B
 have st:=z.stab rm
 exact ko mb it (rs.mono st) F L ⟨vs,j,ra.mono st⟩ G fun ρ' M' acc' σ' H' x2 rs' rm' ac' k=>k σ' H' (z.toP.trans B ⟨vs,j⟩ x2) rs' rm' ac'
theorem dJ {fr:List (Option Nat)} {src:TId} {b:BT} {tb:TCd} (ms:bR src) (mb:bI tb) (σ:St) (H:Hp) (Q:VK) (h:lE K (fX fr src b tb) σ H Q):qq (lI K src) (lG K b) (fun p=>lC K p tb) fr σ H Q:=by
 obtain ⟨ρ,M,rs,rm,q⟩:=h
 refine ⟨ρ,M,rs,rm,ms _ _ _ _ (fun xs chk G U J H1 F j it p n => ?_) q⟩
 have st:=F.stab rm
 have xn:Ext G H1 G (upd H1 p (.lst [])):=Ext.new' n
 have stn:=xn.stab j
 have O:G p=none:=j.out n
 refine ko (p:=p) mb (xs:=xs) (chk:=chk) (fun M' H' st'=>it M' H' ⟨fun a xs e=>st'.tup _ _ (stn.tup _ _ e),fun a o u e=>st'.frz _ _ _ (stn.frz _ _ _ e)⟩) (((rs.mono st).mono stn).inh fr) (j.new n) O ⟨[],aE,RDs.nil⟩ U fun ρ' M' acc' σ' H' L rs' rm' ac' k => ?_
 obtain ⟨vs,Y,ra⟩:=ac'
 have n':M' p=none:=L.new p _ O aE
 refine k p n' (.ref p) H' ⟨fun a o m e => ?_,fun a o m e => ?_⟩ (fun a o e => ?_) (RD.ref_iff.mpr rfl)
 ·have B:=F.kp a o m e
  have ne:a≠p:=fun z=>by subst z;rw [n] at B;cases B
  exact L.kp a o ne (by rw [F.nw a o m e];exact m) (by rw [aj ne];exact B)
 ·have B:=F.kp a o m e
  have ne:a≠p:=fun z=>by subst z;rw [n] at B;cases B
  rw [aq ne]
  exact (L.nw a o (by rw [F.nw a o m e];exact m) (by rw [aj ne];exact B)).trans (F.nw a o m e)
 ·by_cases z:a=p
  ·subst z
   rw [ab] at e;cases e
   exact ⟨vs,Y,ra⟩
  ·rw [aq z] at e
   exact rm' a o e
end
end
section
noncomputable def fY:TSd:=fun D ρ M=>D.nx ρ M
noncomputable def mY (t u:TSd):TSd:=fun D ρ M=>t { D with nx:=u D } ρ M
noncomputable def fB:TSd:=fun D ρ M=>D.bk ρ M
noncomputable def iW:TSd:=fun D ρ M=>D.ct ρ M
noncomputable def iX (te:TEd):TSd:=fun D ρ M=>te ρ M fun _ M1=>D.nx ρ M1
noncomputable def mZ (te:TEd):TSd:=fun D ρ M=>te ρ M D.rt
noncomputable def sIf (c:TTd) (t u:TSd):TSd:=fun D ρ M=>c ρ M fun b M1=>if b=true then t D ρ M1 else u D ρ M1
noncomputable def gZ (te:TEd) (b:BT):TSd:=fun D ρ M=>te ρ M fun x M1 => ∃ ρ',b x ρ = some ρ'/\D.nx ρ' M1
noncomputable def n0 (ta:TAd) (bs:BTs):TSd:=fun D ρ M=>ta ρ M fun xs M1 => ∃ ρ',bs xs ρ = some ρ'/\D.nx ρ' M1
noncomputable def bu (b:BT) (tb:TSd) (chk:Mem->Prop) (D:b8):List Mi.D->ao->Mem->Prop
 | [] => fun ρ M=>chk M/\D.nx ρ M
 | x::xs=>fun ρ M=>chk M /\ ∃ ρ',b x ρ = some ρ'/\tb { D with nx:=bu b tb chk D xs,ct:=bu b tb chk D xs,bk:=D.nx } ρ' M
noncomputable def n6 (src:TId) (b:BT) (tb:TSd):TSd:=fun D ρ M=>src ρ M fun xs chk M1=>bu b tb chk D xs ρ M1
noncomputable def aZ (c:TTd) (tb:TSd) (D:b8):Nat->ao->Mem->Prop
 | 0=>fun _ _=>False
 | n+1=>fun ρ M=>c ρ M fun b M1=>if b=true then tb { D with nx:=aZ c tb D n,ct:=aZ c tb D n,bk:=D.nx } ρ M1 else D.nx ρ M1
noncomputable def fC (c:TTd) (tb:TSd):TSd:=fun D ρ M => ∃ n,aZ c tb D n ρ M
theorem kr:aA fY:=fun _ _ _ _ h q=>h.nx _ _ q
theorem qG:aA fB:=fun _ _ _ _ h q=>h.bk _ _ q
theorem t4:aA iW:=fun _ _ _ _ h q=>h.ct _ _ q
theorem t5 {t u:TSd} (j:aA t) (z:aA u):aA (mY t u):=fun a b ρ M h q=>j { a with nx:=u a } { b with nx:=u b } _ _ ⟨fun ρ' M' q'=>z _ _ _ _ h q',h.rt,h.bk,h.ct⟩ q
theorem t6 {te:TEd} (h:ad te):aA (iX te):=fun a b ρ M i q=>h _ _ _ _ (fun _ z j=>i.nx _ _ j) q
theorem w8 {te:TEd} (h:ad te):aA (mZ te):=fun a b ρ M i q=>h _ _ _ _ (fun d z j=>i.rt _ _ j) q
theorem w9 {c:TTd} {t u:TSd} (z:aB c) (B:aA t) (F:aA u):aA (sIf c t u):=fun a b ρ M i q=>z _ _ _ _ (fun k G j=>by
 cases k with
 | true=>rw [if_pos rfl] at j ⊢;exact B _ _ _ _ i j
 | false=>rw [if_neg Bool.false_ne_true] at j ⊢;exact F _ _ _ _ i j) q
theorem wa {te:TEd} {bt:BT} (h:ad te):aA (gZ te bt):=fun a b ρ M i q=>h _ _ _ _ (fun d z ⟨ρ',e,j⟩=>⟨ρ',e,i.nx _ _ j⟩) q
theorem wb {ta:TAd} {bs:BTs} (h:b6 ta):aA (n0 ta bs):=fun a b ρ M i q=>h _ _ _ _ (fun d z ⟨ρ',e,j⟩=>⟨ρ',e,i.nx _ _ j⟩) q
theorem fD {bt:BT} {tb:TSd} (j:aA tb) {chk:Mem->Prop} {a b:b8} (i:LeD a b):∀ (xs:List D) (ρ:ao) (M:Mem),bu bt tb chk a xs ρ M->bu bt tb chk b xs ρ M
 | [], ρ,M,h=>⟨h.1,i.nx _ _ h.2⟩
 | x::xs, ρ,M,⟨c, ρ',e,q⟩=>⟨c, ρ',e,j { a with nx:=bu bt tb chk a xs,ct:=bu bt tb chk a xs,bk:=a.nx } { b with nx:=bu bt tb chk b xs,ct:=bu bt tb chk b xs,bk:=b.nx } _ _ ⟨fun ρ2 M2 z=>fD j i xs ρ2 M2 z,i.rt,i.nx,fun ρ2 M2 z=>fD j i xs ρ2 M2 z⟩ q⟩
theorem wc {src:TId} {bt:BT} {tb:TSd} (hs:bR src) (j:aA tb):aA (n6 src bt tb):=fun a b ρ M i q=>hs _ _ _ _ (fun xs c B z=>fD j i xs _ _ z) q
theorem dU {c:TTd} {tb:TSd} (q:aB c) (z:aA tb) {a b:b8} (i:LeD a b):∀ (n:Nat) (ρ:ao) (M:Mem),aZ c tb a n ρ M->aZ c tb b n ρ M
 | 0, ρ,M,h=>h
 | n+1, ρ,M,h=>q _ _ _ _ (fun k F j=>by
   cases k with
   | true=>rw [if_pos rfl] at j ⊢;exact z { a with nx:=aZ c tb a n,ct:=aZ c tb a n,bk:=a.nx } { b with nx:=aZ c tb b n,ct:=aZ c tb b n,bk:=b.nx } _ _ ⟨fun ρ2 M2 B=>dU q z i n ρ2 M2 B,i.rt,i.nx,fun ρ2 M2 B=>dU q z i n ρ2 M2 B⟩ j
   | false=>rw [if_neg Bool.false_ne_true] at j ⊢;exact i.nx _ _ j) h
theorem qH {c:TTd} {tb:TSd} (j:aB c) (z:aA tb):aA (fC c tb):=fun a b ρ M i ⟨n,q⟩=>⟨n,dU j z i n _ _ q⟩
section
variable {K:Frag}
theorem ku (D:be) (σ:St) (H:Hp) (h:lS K fY D σ H):q8 D σ H:=by
 obtain ⟨ρ,M,A,rs,rm,l,q⟩:=h
 exact l.nx ρ M σ H Ext.refl rs rm q
theorem qI (D:be) (σ:St) (H:Hp) (h:lS K fB D σ H):rO D σ H:=by
 obtain ⟨ρ,M,A,rs,rm,l,q⟩:=h
 exact l.bk ρ M σ H Ext.refl rs rm q
theorem t7 (D:be) (σ:St) (H:Hp) (h:lS K iW D σ H):xF D σ H:=by
 obtain ⟨ρ,M,A,rs,rm,l,q⟩:=h
 exact l.ct ρ M σ H Ext.refl rs rm q
theorem wd {t u:TSd} (mt:aA t) (mu:aA u) (D:be) (σ:St) (H:Hp) (h:lS K (mY t u) D σ H):Au (lS K t) (lS K u) D σ H:=by
 obtain ⟨ρ,M,A,rs,rm,l,q⟩:=h
 exact ⟨ρ,M, { A with nx:=u A },rs,rm,⟨fun ρ' M' σ' H' x rs' rm' q'=>⟨ρ',M',A,rs',rm',l.ext x,q'⟩,l.rt,l.bk,l.ct⟩,q⟩
theorem t8 {te:TEd} (m:ad te) (D:be) (σ:St) (H:Hp) (h:lS K (iX te) D σ H):xG (lE K te) D σ H:=by
 obtain ⟨ρ,M,A,rs,rm,l,q⟩:=h
 exact ⟨ρ,M,rs,rm,m _ _ _ _ (fun d B F v H1 z j G=>l.nx ρ B σ H1 z (rs.mono (z.stab rm)) j F) q⟩
theorem we {te:TEd} (m:ad te) (D:be) (σ:St) (H:Hp) (h:lS K (mZ te) D σ H):Av (lE K te) D σ H:=by
 obtain ⟨ρ,M,A,rs,rm,l,q⟩:=h
 exact ⟨ρ,M,rs,rm,m _ _ _ _ (fun d B F v H1 G j z=>l.rt d B v H1 G j z F) q⟩
theorem zp {c:TTd} {t u:TSd} (mc:aB c) (D:be) (σ:St) (H:Hp) (h:lS K (sIf c t u) D σ H):Ax (lT K c) (lS K t) (lS K u) D σ H:=by
 obtain ⟨ρ,M,A,rs,rm,l,q⟩:=h
 refine ⟨ρ,M,rs,rm,mc _ _ _ _ (fun k F z H1 B j => ?_) q⟩
 cases k with
 | true=>rw [if_pos rfl] at z ⊢;exact ⟨ρ,F,A,rs.mono (B.stab rm),j,l.ext B,z⟩
 | false=>rw [if_neg Bool.false_ne_true] at z ⊢;exact ⟨ρ,F,A,rs.mono (B.stab rm),j,l.ext B,z⟩
theorem wf {te:TEd} {b:BT} (m:ad te) (D:be) (σ:St) (H:Hp) (h:lS K (gZ te b) D σ H):lF (lE K te) (lG K b) D σ H:=by
 obtain ⟨ρ,M,A,rs,rm,l,q⟩:=h
 refine ⟨ρ,M,rs,rm,m _ _ _ _ (fun d F ⟨ρ',e,G⟩ v H1 B j z => ?_) q⟩
 exact ⟨d, ρ, ρ',z,rs.mono (B.stab rm),e,fun σ' rs'=>l.nx ρ' F σ' H1 B rs' j G⟩
theorem kw {te:TEd} {i:Nat} (m:ad te) (D:be) (σ:St) (H:Hp) (h:lS K (gZ te (bQ i)) D σ H):lF (lE K te) (im i) D σ H:=by
 obtain ⟨ρ,M,A,rs,rm,l,q⟩:=h
 refine ⟨ρ,M,rs,rm,m _ _ _ _ (fun d z ⟨ρ',e,B⟩ v H1 j rm1 rd1 => ?_) q⟩
 cases e
 exact l.nx _ z _ H1 j ((rs.mono (j.stab rm)).set i rd1) rm1 B
theorem wg {src:TId} {b:BT} {tb:TSd} (ms:bR src) (mb:aA tb) (D:be) (σ:St) (H:Hp) (h:lS K (n6 src b tb) D σ H):AD (lI K src) (lG K b) (lS K tb) D σ H:=by
 obtain ⟨ρ,M,A,rs,rm,l,q⟩:=h
 refine ⟨ρ,M,rs,rm,ms _ _ _ _ (fun xs chk M1 q1 J H1 x1 G it => ?_) q⟩
 refine ⟨fun i m σ H'=>m=xs.length - i/\i<=xs.length /\ ∃ ρ M2,RS K H' σ ρ /\ RM K M2 H'/\Ext M1 H1 M2 H'/\bu b tb chk A (xs.drop i) ρ M2,⟨xs.length,by simp,Nat.zero_le _, ρ,M1,rs.mono (x1.stab rm),G,Ext.refl,q1⟩, ?_⟩
 rintro i m σ2 H2 ⟨rfl,hi, ρ2,M2,L,j,x2,O⟩
 have U:=x2.stab G
 by_cases B:i < xs.length
 ·rw [List.drop_eq_getElem_cons B] at O
  obtain ⟨c, ρ',hb,q3⟩:=O
  obtain ⟨go,yl⟩:=(it M2 H2 U j c i).2 B
  refine .inr ⟨go,fun σ' H' => ∃ m',m' < xs.length - i/\(m'=xs.length - (i+1)/\i+1<=xs.length /\ ∃ ρ M,RS K H' σ' ρ /\ RM K M H'/\Ext M1 H1 M H'/\bu b tb chk A (xs.drop (i+1)) ρ M),fun σ' H' h=>h,fun x' H' y => ?_⟩
  obtain ⟨yy,d,hd,rd⟩:=yl x' H' y
  rw [List.getElem?_eq_getElem B] at hd
  cases hd
  obtain ⟨xy,rmy⟩:=yy.ext j
  have Y:=x1.trans (x2.trans xy)
  refine ⟨_, ρ2, ρ',rd,L.mono (xy.stab j),hb,fun σ3 Dv => ?_⟩
  have nx:∀ ρ5 F σ5 z,Ext M2 H' F z->RS K z σ5 ρ5->RM K F z->bu b tb chk A (xs.drop (i+1)) ρ5 F -> ∃ m',m' < xs.length - i/\(m'=xs.length - (i+1)/\i+1<=xs.length /\ ∃ ρ M,RS K z σ5 ρ /\ RM K M z/\Ext M1 H1 M z/\bu b tb chk A (xs.drop (i+1)) ρ M) :=
   fun ρ5 F σ5 z Z Dw Dx q5=>⟨xs.length - (i+1),by lia,rfl,B, ρ5,F,Dw,Dx,(x2.trans xy).trans Z,q5⟩
  refine ⟨ρ',M2, { A with nx:=bu b tb chk A (xs.drop (i+1)),ct:=bu b tb chk A (xs.drop (i+1)),bk:=A.nx },Dv,rmy,⟨nx,fun d F v z Z=>l.rt d F v z (Y.trans Z),fun ρ5 F σ5 z Z=>l.nx ρ5 F σ5 z (Y.trans Z),nx⟩,q3⟩
 ·have e:i=xs.length:=by lia
  subst e
  rw [List.drop_length] at O
  exact .inl ⟨(it M2 H2 U j O.1 _).1 (Nat.le_refl _),l.nx ρ2 M2 σ2 H2 (x1.trans x2) L j O.2⟩
theorem qJ {c:TTd} {tb:TSd} (mc:aB c) (mb:aA tb) (D:be) (σ:St) (H:Hp) (h:lS K (fC c tb) D σ H):rP (lT K c) (lS K tb) D σ H:=by
 obtain ⟨ρ,M,A,rs,rm,l,n,q⟩:=h
 refine ⟨fun m σ' H' => ∃ ρ' M',RS K H' σ' ρ'/\RM K M' H'/\Ext M H M' H'/\aZ c tb A m ρ' M',⟨n, ρ,M,rs,rm,Ext.refl,q⟩, ?_⟩
 rintro m σ1 H1 ⟨ρ1,M1,J,L,x1,q1⟩
 cases m with
 | zero=>exact q1.elim
 | succ m =>
   refine ⟨ρ1,M1,J,L,mc _ _ _ _ (fun k M2 Z H2 x2 O => ?_) q1⟩
   have j:=x1.trans x2
   have U:=J.mono (x2.stab L)
   cases k with
   | false=>rw [if_neg Bool.false_ne_true] at Z;dsimp only;rw [if_neg Bool.false_ne_true];exact l.nx ρ1 M2 σ1 H2 j U O Z
   | true =>
     rw [if_pos rfl] at Z
     dsimp only
     rw [if_pos rfl]
     refine ⟨fun σ' H' => ∃ ρ' M',RS K H' σ' ρ'/\RM K M' H'/\Ext M H M' H'/\aZ c tb A m ρ' M',fun σ' H' h=>⟨m,Nat.lt_succ_self m,h⟩, ρ1,M2, { A with nx:=aZ c tb A m,ct:=aZ c tb A m,bk:=A.nx },U,O,⟨?_,fun d z v Y B=>l.rt d z v Y (j.trans B),fun ρ5 z σ5 Y B=>l.nx ρ5 z σ5 Y (j.trans B), ?_⟩,Z⟩
     ·exact fun ρ5 z σ5 Y B F G q5=>⟨ρ5,z,F,G,j.trans B,q5⟩
     ·exact fun ρ5 z σ5 Y B F G q5=>⟨ρ5,z,F,G,j.trans B,q5⟩
end
noncomputable def eP:D->D->D->Mem->(Mem->Prop)->Prop:=fun o i v M Q => ∃ a,o = .ref a /\
 ((∃ xs k j,i = .int k/\M a=some (.lst xs)/\ixN xs.length k=some j/\Q (af M a (.lst (xs.set j v)))) ∨
  ∃ t kvs,M a=some (.dct t kvs)/\dG t i=true/\kvs.length < sizeLine/\Q (af M a (.dct t (dS kvs i v))))
noncomputable def n8 (te to ti:TEd):TSd:=fun D ρ M=>te ρ M fun v M1=>to ρ M1 fun o M2=>ti ρ M2 fun i M3=>eP o i v M3 fun M4=>D.nx ρ M4
theorem kx {o i v:D} {M:Mem} {Q Q':Mem->Prop} (h:∀ M',Q M'->Q' M') (q:eP o i v M Q):eP o i v M Q':=by
 obtain ⟨a,e,⟨xs,k,j,z,B,F,q⟩ | ⟨t,kvs,z,B,F,q⟩⟩:=q
 ·exact ⟨a,e, .inl ⟨xs,k,j,z,B,F,h _ q⟩⟩
 ·exact ⟨a,e, .inr ⟨t,kvs,z,B,F,h _ q⟩⟩
theorem wj {te to ti:TEd} (he:ad te) (ho:ad to) (hi:ad ti):aA (n8 te to ti):=fun a b ρ M i q =>
 he _ _ _ _ (fun v F j=>ho _ _ _ _ (fun o M2 z=>hi _ _ _ _ (fun k G B=>kx (fun M' q'=>i.nx _ _ q') B) z) j) q
section
variable {X:Cx} {K:Frag}
theorem n9 (j:X.A.units+1 < cLine):PSet X (fun o i v H Q => ∃ a H',o = .ref a/\DPut H a i v H'/\Q H'):=by
 intro pins s σ H o i v ov iv u Q I ro ri rv h
 obtain ⟨a,H',rfl,g,q⟩:=h
 cases ro
 exact su j I g ri rv fun s' I'=>⟨H',I',q⟩
theorem PSet.or {t t':jo} (h:PSet X t) (h':PSet X t'):PSet X (fun o i v H Q=>t o i v H Q∨t' o i v H Q):=by
 intro pins s σ H o i v ov iv u Q I ro ri rv q
 rcases q with q | q
 ·exact h pins s σ H o i v ov iv u Q I ro ri rv q
 ·exact h' pins s σ H o i v ov iv u Q I ro ri rv q
section
variable {κ:Type} [DecidableEq κ] {H:Hp} {RK:D -> κ -> Prop} (inj:∀ {d e:D} {k : κ},RK d k->RK e k->d=e) (fn:∀ {d:D} {k k' : κ},RK d k->RK d k'->k=k')
include inj fn
theorem oU {k:D} {q : κ} (j:RK k q):∀ {kvs:List (D×D)} {ps:List (κ × V)},Paired (fun p r=>RK p.1 r.1/\RD K H p.2 r.2) kvs ps ->
 (kvs.any fun p=>decide (p.1=k))=(ps.any fun p=>decide (p.1=q))
 | _,_, .nil=>rfl
 | _,_, .cons (a:=p) (b:=r) hr t=>by
   rw [List.any_cons,List.any_cons,oU j t]
   congr 1
   by_cases e:p.1=k
   ·have e':r.1=q:=by have h1:=hr.1;rw [e] at h1;exact fn h1 j
    rw [decide_eq_true e,decide_eq_true e']
   ·have e' : ¬ r.1=q:=fun z=>e (by have h1:=hr.1;rw [z] at h1;exact inj h1 j)
    rw [decide_eq_false e,decide_eq_false e']
theorem oV {k:D} {q : κ} (B:RK k q) {d:D} {v:V} (F:RD K H d v):∀ {kvs:List (D×D)} {ps:List (κ × V)},Paired (fun p r=>RK p.1 r.1/\RD K H p.2 r.2) kvs ps ->
 Paired (fun p r=>RK p.1 r.1/\RD K H p.2 r.2) (kvs.map fun p=>if p.1=k then (p.1,d) else p) (ps.map fun p=>if p.1=q then (p.1,v) else p)
 | _,_, .nil => .nil
 | _,_, .cons (a:=p) (b:=r) j t=>by
   refine .cons ?_ (oV B F t)
   by_cases e:p.1=k
   ·have e':r.1=q:=by have h1:=j.1;rw [e] at h1;exact fn h1 B
    dsimp only
    rw [if_pos e,if_pos e']
    exact ⟨j.1,F⟩
   ·have e' : ¬ r.1=q:=fun z=>e (by have h1:=j.1;rw [z] at h1;exact inj h1 B)
    dsimp only
    rw [if_neg e,if_neg e']
    exact j
theorem nc {k:D} {q : κ} (j:RK k q) {d:D} {v:V} (z:RD K H d v) {kvs:List (D×D)} {ps:List (κ × V)} (r:Paired (fun p r=>RK p.1 r.1/\RD K H p.2 r.2) kvs ps) :
 Paired (fun p r=>RK p.1 r.1/\RD K H p.2 r.2) (dS kvs k d) (bJ ps q v):=by
 unfold dS bJ
 rw [oU (K:=K) (H:=H) (RK:=RK) inj fn j r]
 by_cases e:(ps.any fun p=>decide (p.1=q))=true
 ·rw [if_pos e,if_pos e]
  exact oV (RK:=RK) inj fn j z r
 ·rw [if_neg e,if_neg e]
  exact r.snoc ⟨j,z⟩
end
theorem ng {M:Mem} {H:Hp} {o i v:D} {ov iv vv:V} {Qd:Mem->Prop} {Q:Hp->Prop} (rm:RM K M H) (ro:RD K H o ov) (ri:RD K H i iv) (rv:RD K H v vv) (h:eP o i v M Qd) (O:∀ M' H',Ext M H M' H'->RM K M' H'->Qd M'->Q H') :
 xL ov iv vv H Q ∨ ∃ a H',ov = .ref a/\DPut H a iv vv H'/\Q H':=by
 obtain ⟨a,rfl,⟨xs,k,j,rfl,B,L,q⟩ | ⟨t,kvs,F,B,L,q⟩⟩:=h
 ·cases RD.ref_iff.mp ro
  cases RD.int_iff.mp ri
  obtain ⟨vs,Z,rs⟩:=rm _ _ B
  have st:Stab H (upd H a (.lst (vs.set j vv))):=rm.stabPut B
  exact .inl ⟨a,vs,k,j,rfl,rfl,Z,by rw [rs.length];exact L,O _ _ (Ext.put B) (rm.put (o := .lst (xs.set j v)) B ⟨_,aE,(rs.set j rv).mono st⟩) q⟩
 ·cases RD.ref_iff.mp ro
  have ro':=rm _ _ F
  cases t with
  | false =>
    obtain ⟨ps,U,pr⟩:=ro'
    obtain ⟨kq,J⟩:=lZ (show eK i=true from B)
    have st:Stab H (upd H a (.dK (bJ ps kq vv))):=rm.stabPut F
    have G:=nc (RK:=RKey) RKey.inj RKey.fun J rv pr
    rw [jA J ri]
    refine .inr ⟨a,_,rfl,DPut.k U (by rw [<- Paired.length pr];exact L),O _ _ (Ext.put F) (rm.put (o := .dct false (dS kvs i v)) F ⟨_,aE,Paired.mapP G fun _ _ z=>⟨z.1,z.2.mono st⟩⟩) q⟩
  | true =>
    obtain ⟨ps,U,pr⟩:=ro'
    obtain ⟨kq,J⟩:=oQ (show dr i=true from B)
    have st:Stab H (upd H a (.dT (bJ ps kq vv))):=rm.stabPut F
    have G:=nc (RK:=RKeys) RKeys.inj RKeys.fun J rv pr
    cases i <;> first
     | exact J.elim
     | (obtain ⟨b,us,rfl,Y,ru⟩:=RD.tupK (oR B) ri
        rw [gW J ru] at Y
        exact .inr ⟨a,_,rfl,DPut.t U Y (by rw [<- Paired.length pr];exact L),O _ _ (Ext.put F) (rm.put (o := .dct true (dS kvs _ v)) F ⟨_,aE,Paired.mapP G fun _ _ z=>⟨z.1,z.2.mono st⟩⟩) q⟩)
theorem Bl {o i e:Expr} {te to ti:TEd} {pos tpos:Pos} (hu:X.A.units+1 < cLine) (me:ad te) (mo:ad to) (mi:ad ti) (he:PE X e (lE X.K te)) (ho:PE X o (lE X.K to)) (hi:PE X i (lE X.K ti))
 (hs:swapsWithSole [.Subscript o i tpos] e pos.line X.env=pure false) (hw:swappedStores [.Subscript o i tpos] e X.env=pure none)
 (ha:∀ v,assign (.Subscript o i tpos) X.env v=(do
   let ov <- holding [v] (eval o X.env)
   let iv <- holding [v,ov] (eval i X.env)
   standAt tpos
   holding [v,ov,iv] (setItem ov iv v)
   release [v,ov,iv] [])):PS X (.Assign [.Subscript o i tpos] e pos) (lS X.K (n8 te to ti)):=by
 refine PS.imp (lH he (Az ho hi (PSet.or lL (n9 hu)) ha) hs hw rfl) fun D σ H h => ?_
 obtain ⟨ρ,M,A,rs,rm,l,q⟩:=h
 refine ⟨ρ,M,rs,rm,me _ _ _ _ (fun v M1 q1 vv H1 F j G => ?_) q⟩
 refine ⟨ρ,M1,rs.mono (F.stab rm),j,mo _ _ _ _ (fun ov M2 q2 vo H2 J z L => ?_) q1⟩
 refine ⟨ρ,M2,(rs.mono (F.stab rm)).mono (J.stab j),z,mi _ _ _ _ (fun iv M3 q3 vi H3 O U Y => ?_) q2⟩
 have B:=F.trans (J.trans O)
 exact ng U (L.mono (O.stab z)) Y ((G.mono (J.stab j)).mono (O.stab z)) q3 fun M' H' x4 Z q4=>l.nx ρ M' σ H' (B.trans x4) (rs.mono ((B.trans x4).stab rm)) Z q4
noncomputable def lh:R2d
 | .int i, .int j,M,Q=>Q (.int (i+j)) M
 | _,_,_,_=>False
noncomputable def lj:R2d
 | .int i, .int j,M,Q=>Q (.int (i - j)) M
 | _,_,_,_=>False
noncomputable def lm:R2d
 | .int i, .int j,M,Q=>MulOk i j/\Q (.int (i*j)) M
 | _,_,_,_=>False
theorem ky:ak lh:=by
 intro x y M Q Q' h q
 cases x <;> cases y <;> first | exact q.elim | exact h _ _ q
theorem kz:ak lj:=by
 intro x y M Q Q' h q
 cases x <;> cases y <;> first | exact q.elim | exact h _ _ q
theorem kA:ak lm:=by
 intro x y M Q Q' h q
 cases x <;> cases y <;> first | exact q.elim | exact ⟨q.1,h _ _ q.2⟩
theorem t9:OpR X (inplaceOp .Add) (l2 X.K lh):=by
 refine OpR.of yv fun v u H Q h => ?_
 obtain ⟨x,y,M,rm,rx,ry,q⟩:=h
 cases x <;> cases y <;> first
  | exact q.elim
  | (cases RD.int_iff.mp rx;cases RD.int_iff.mp ry;exact ⟨_,_,rfl,rfl,q _ H Ext.refl rm (RD.int_iff.mpr rfl)⟩)
theorem tf:OpR X (inplaceOp .Sub) (l2 X.K lj):=by
 refine OpR.of yw fun v u H Q h => ?_
 obtain ⟨x,y,M,rm,rx,ry,q⟩:=h
 cases x <;> cases y <;> first
  | exact q.elim
  | (cases RD.int_iff.mp rx;cases RD.int_iff.mp ry;exact ⟨_,_,rfl,rfl,q _ H Ext.refl rm (RD.int_iff.mpr rfl)⟩)
theorem tj:OpR X (inplaceOp .Mult) (rI MulOk fun i j => .int (i*j)):=opI fun _ _ _ _ _ _ _ z q=>imul_int q z.ok
theorem tm:OpR X (inplaceOp .Mult) (l2 X.K lm):=by
 refine OpR.of tj fun v u H Q h => ?_
 obtain ⟨x,y,M,rm,rx,ry,q⟩:=h
 cases x <;> cases y <;> first
  | exact q.elim
  | (cases RD.int_iff.mp rx;cases RD.int_iff.mp ry;exact ⟨_,_,rfl,rfl,q.1,q.2 _ H Ext.refl rm (RD.int_iff.mpr rfl)⟩)
end
end
end Mi
end L2
namespace L2
open PySem PySem.Spec PyProof.Rows
namespace Mi
variable {K:Frag}
theorem tq {ta:TAd} {i j:Nat} (m:b6 ta) (D:be) (σ:St) (H:Hp) (h:lS K (n0 ta (bH (bQ i) (bH (bQ j) fw))) D σ H):AA i j (lA K ta) D σ H:=by
 obtain ⟨ρ,M,A,rs,rm,l,q⟩:=h
 refine ⟨ρ,M,rs,rm,m _ _ _ _ (fun ds G ⟨ρ',e,J⟩ vs H1 F B z => ?_) q⟩
 match ds,e,z with
 | [d1,d2],e,z =>
  obtain ⟨v,u,rfl,L,O⟩:=z.two
  simp only [bH,bQ,fw,Option.bind_some,Option.some.injEq] at e
  subst e
  exact ⟨v,u,rfl,l.nx _ G _ H1 F (((rs.mono (F.stab rm)).set i L).set j O) B J⟩
end Mi
end L2
namespace L2
open PySem PySem.Spec PyProof.Rows
section
section
variable {X:Cx}
theorem ax:AC X (fun o i H Q => ∃ a xs k x,o = .ref a/\i = .int k/\SqL X.K H a xs/\atI xs k=some x/\Q x H):=by
 intro pins s σ H o i ov iv Q I ro ri h
 obtain ⟨a,xs,k,x,rfl,rfl,sq,he,q⟩:=h
 cases ro
 obtain ⟨t,rfl⟩:=ri
 obtain ⟨its,r,pl,J⟩:=I.list sq
 obtain ⟨j,h1,h2,L,B,F⟩:=ju he
 obtain ⟨w,ew,rw'⟩:=r.get h2
 have G:=r.length
 have O:=dW
 have fin:EP X pins σ Q w s:=⟨x,H,I,rw',q⟩
 by_cases h0 : 0<=k
 ·have z:k.toNat=j:=Option.some.inj (by rw [<- h1,seqIndex_of h0 F])
  exact wpAny_getItem_list pl.isList h0 (by lia) (by rw [z];simpa using ew) fin
 ·have z:(k+(its.toArray.size:Int)).toNat=j:=by
   rw [List.size_toArray, <- G]
   exact Option.some.inj (by rw [<- h1,seqIndex_neg (by lia) B])
  exact wpAny_getItem_list_neg pl.isList (by lia) (by rw [List.size_toArray];lia) (by lia) (by rw [z];simpa using ew) fin
end
namespace Mi
section
variable {X:Cx}
noncomputable def xR:R2d:=fun x y M Q => ∃ a ds k d,x = .ref a/\y = .int k/\M a=some (.lst ds)/\atI ds k=some d/\Q d M
theorem tt:ak xR:=fun _ _ _ _ _ h ⟨a,ds,k,d,j,z,B,F,q⟩=>⟨a,ds,k,d,j,z,B,F,h _ _ q⟩
noncomputable def iY (to ti te:TEd) (rd:R2d):TSd:=fun D ρ M=>to ρ M fun o M1=>ti ρ M1 fun i M2=>xR o i M2 fun x M3=>te ρ M3 fun y M4=>rd x y M4 fun z M5=>eP o i z M5 fun M6=>D.nx ρ M6
theorem tu {to ti te:TEd} {rd:R2d} (ho:ad to) (hi:ad ti) (he:ad te) (j:ak rd):aA (iY to ti te rd):=fun a b ρ M l q =>
 ho _ _ _ _ (fun o U B=>hi _ _ _ _ (fun i M2 F=>tt _ _ _ _ _ (fun x Y G=>he _ _ _ _ (fun y Z J=>j _ _ _ _ _ (fun z M5 L=>kx (fun M6 O=>l.nx _ _ O) L) J) G) F) B) q
theorem jF {o i e:Expr} {to ti te:TEd} {op:Operator} {rd:R2d} {pos tpos:Pos} (hu:X.A.units+1 < cLine) (mo:ad to) (mi:ad ti) (me:ad te) (hr:ak rd) (ho:PE X o (lE X.K to)) (hi:PE X i (lE X.K ti)) (he:PE X e (lE X.K te)) (J:OpR X (inplaceOp op) (l2 X.K rd))
 (ha:∀ ov iv new,augStore i ov iv new=(do holding [new,ov,iv] (setItem ov iv new);release [new,ov,iv] [];pure .next)):PS X (.AugAssign (.Subscript o i tpos) op e pos) (lS X.K (iY to ti te rd)):=by
 refine PS.imp (yu ho hi ax he (tip:=l2 X.K rd) J (PSet.or lL (n9 hu)) ha) fun D σ H h => ?_
 obtain ⟨ρ,M,A,rs,rm,l,q⟩:=h
 refine ⟨ρ,M,rs,rm,mo _ _ _ _ (fun d1 M1 q1 v1 H1 x1 j L => ?_) q⟩
 have B:=rs.mono (x1.stab rm)
 refine ⟨ρ,M1,B,j,mi _ _ _ _ (fun d2 M2 q2 v2 H2 O z U => ?_) q1⟩
 have Y:=B.mono (O.stab j)
 have F:=L.mono (O.stab j)
 obtain ⟨a,ds,k,d,rfl,rfl,e3,e4,q3⟩:=q2
 cases RD.ref_iff.mp F
 cases RD.int_iff.mp U
 obtain ⟨vs,Z,rv⟩:=z _ _ e3
 obtain ⟨v3,Dv,Dw⟩:=iI rv e4
 refine ⟨a,vs,k,v3,rfl,rfl,SqL.of Z,Dv, ?_⟩
 refine ⟨ρ,M2,Y,z,me _ _ _ _ (fun d4 M4 q4 v4 H4 x4 Dx Dy => ?_) q3⟩
 refine ⟨d,d4,M4,Dx,Dw.mono (x4.stab z),Dy,hr _ _ _ _ _ (fun d5 M5 q5 v5 H5 x5 Dz DA => ?_) q4⟩
 have G:=((x1.trans O).trans x4).trans x5
 exact ng Dz (RD.ref_iff.mpr rfl) (RD.int_iff.mpr rfl) DA q5 fun M' H' x6 DB q6=>l.nx ρ M' σ H' (G.trans x6) (rs.mono ((G.trans x6).stab rm)) DB q6
end
section
section
variable {X:Cx}
noncomputable def isD:D->D->Option Bool
 | x, .non=>some (match x with | .non=>true | _=>false)
 | x, .bl b=>some (match x with | .bl c=>c==b | _=>false)
 | _,_=>none
noncomputable def wIs:R2d:=fun x y M Q => ∃ k,isD x y=some k/\Q (.bl k) M
noncomputable def wk:R2d:=fun x y M Q => ∃ k,isD x y=some k/\Q (.bl (!k)) M
theorem zq:ak wIs:=fun _ _ _ _ _ h ⟨k,e,q⟩=>⟨k,e,h _ _ q⟩
theorem wl:ak wk:=fun _ _ _ _ _ h ⟨k,e,q⟩=>⟨k,e,h _ _ q⟩
theorem zr {M:Model} {A:Around} {E:Value->Shared->Prop} {s:Shared} {Q:Value->Shared->Prop} {v:Value} {b:Bool} (j:∀ id,v ≠ .builtin id) (h:Q (.bool (v == .bool b)) s):wpAny M A (compareOp .Is v (.bool b)) Q E s:=by
 cases v <;> first | exact wpAny_pure h | exact absurd rfl (j _)
theorem wm {M:Model} {A:Around} {E:Value->Shared->Prop} {s:Shared} {Q:Value->Shared->Prop} {v:Value} {b:Bool} (j:∀ id,v ≠ .builtin id) (h:Q (.bool (!(v == .bool b))) s):wpAny M A (compareOp .IsNot v (.bool b)) Q E s:=by
 cases v <;> first | exact wpAny_pure h | exact absurd rfl (j _)
theorem tw {K:Frag} {H:Hp} {x y:D} {v w:V} {u t:Value} {k:Bool} (e:isD x y=some k) (rx:RD K H x v) (ry:RD K H y w) (ru:RelV v u) (rt:RelV w t):(t = .none/\(u == .none)=k) ∨ ∃ b,t = .bool b/\(u == .bool b)=k /\ ∀ id,u ≠ .builtin id:=by
 cases y with
 | non =>
   cases RD.non_iff.mp ry
   cases rt
   refine .inl ⟨rfl, ?_⟩
   cases x with
   | non=>cases RD.non_iff.mp rx;cases ru;cases e;rfl
   | bl c=>cases RD.bl_iff.mp rx;cases ru;cases e;rfl
   | int i=>cases RD.int_iff.mp rx;obtain ⟨tk,rfl⟩:=ru;cases e;rfl
   | str z=>cases RD.str_iff.mp rx;obtain ⟨tk,rfl⟩:=ru;cases e;rfl
   | tup ds=>obtain ⟨a,vs,rfl,_⟩:=RD.tupS rx;cases ru;cases e;rfl
   | con ds=>obtain ⟨a,vs,rfl,_⟩:=RD.con_iff.mp rx;cases ru;cases e;rfl
   | ref a=>cases RD.ref_iff.mp rx;cases ru;cases e;rfl
 | bl b =>
   cases RD.bl_iff.mp ry
   cases rt
   refine .inr ⟨b,rfl, ?_⟩
   cases x with
   | non=>cases RD.non_iff.mp rx;cases ru;cases e;exact ⟨rfl,fun _ z=>by cases z⟩
   | bl c=>cases RD.bl_iff.mp rx;cases ru;cases e;exact ⟨by cases b <;> cases c <;> rfl,fun _ z=>by cases z⟩
   | int i=>cases RD.int_iff.mp rx;obtain ⟨tk,rfl⟩:=ru;cases e;exact ⟨rfl,fun _ z=>by cases z⟩
   | str z=>cases RD.str_iff.mp rx;obtain ⟨tk,rfl⟩:=ru;cases e;exact ⟨rfl,fun _ z=>by cases z⟩
   | tup ds=>obtain ⟨a,vs,rfl,_⟩:=RD.tupS rx;cases ru;cases e;exact ⟨rfl,fun _ z=>by cases z⟩
   | con ds=>obtain ⟨a,vs,rfl,_⟩:=RD.con_iff.mp rx;cases ru;cases e;exact ⟨rfl,fun _ z=>by cases z⟩
   | ref a=>cases RD.ref_iff.mp rx;cases ru;cases e;exact ⟨rfl,fun _ z=>by cases z⟩
 | _=>cases e
theorem zt:OpR X (compareOp .Is) (l2 X.K wIs):=by
 intro pins s σ H v w u t Q I ru rt h
 obtain ⟨x,y,M,rm,rx,ry,k,e,q⟩:=h
 have fin:EP X pins σ Q (.bool k) s:=⟨.bl k,H,I,rfl,q _ H Ext.refl rm (RD.bl_iff.mpr rfl)⟩
 rcases tw e rx ry ru rt with ⟨rfl,j⟩ | ⟨b,rfl,j,nb⟩
 ·exact is_none_gen (by rw [j];exact fin)
 ·exact zr nb (by rw [j];exact fin)
theorem wn:OpR X (compareOp .IsNot) (l2 X.K wk):=by
 intro pins s σ H v w u t Q I ru rt h
 obtain ⟨x,y,M,rm,rx,ry,k,e,q⟩:=h
 have fin:EP X pins σ Q (.bool (!k)) s:=⟨.bl (!k),H,I,rfl,q _ H Ext.refl rm (RD.bl_iff.mpr rfl)⟩
 rcases tw e rx ry ru rt with ⟨rfl,j⟩ | ⟨b,rfl,j,nb⟩
 ·exact isnot_none_gen (by rw [j];exact fin)
 ·exact wm nb (by rw [j];exact fin)
noncomputable def cE (r r':R2d) (ta tb tc:TEd):TEd:=fun ρ M Q=>ta ρ M fun x M1=>tb ρ M1 fun y M2=>r x y M2 fun z M3 => ∃ k,z = .bl k/\(if k=true then tc ρ M3 fun w M4=>r' y w M4 Q else Q (.bl false) M3)
theorem eQ {r r':R2d} {ta tb tc:TEd} (F:ak r) (B:ak r') (G:ad ta) (J:ad tb) (L:ad tc):ad (cE r r' ta tb tc):=fun ρ M Q Q' i q =>
 G _ _ _ _ (fun x Z O=>J _ _ _ _ (fun y M2 U=>F _ _ _ _ _ (fun z M3 ⟨k,e,j⟩=>⟨k,e,by
  cases k with
  | true=>rw [if_pos rfl] at j ⊢;exact L _ _ _ _ (fun w M4 Y=>B _ _ _ _ _ i Y) j
  | false=>rw [if_neg Bool.false_ne_true] at j ⊢;exact i _ _ j⟩) U) O) q
theorem iZ {r r':R2d} {ta tb tc:TEd} (hr:ak r) (Y:ak r') (ma:ad ta) (mb:ad tb) (mc:ad tc) (σ:St) (H:Hp) (Q:VK) (h:lE X.K (cE r r' ta tb tc) σ H Q):lJ (l2 X.K r) (l2 X.K r') (lE X.K ta) (lE X.K tb) (lE X.K tc) σ H Q:=by
 obtain ⟨ρ,M,rs,rm,q⟩:=h
 refine ⟨ρ,M,rs,rm,ma _ _ _ _ (fun x M1 q1 v H1 J j Z => ?_) q⟩
 refine ⟨ρ,M1,rs.mono (J.stab rm),j,mb _ _ _ _ (fun y M2 q2 w H2 L B G => ?_) q1⟩
 refine ⟨x,y,M2,B,Z.mono (L.stab j),G,hr _ _ _ _ _ (fun z M3 ⟨k,e,O⟩ v3 H3 U F Dv => ?_) q2⟩
 subst e
 refine ⟨k,RD.bl_iff.mp Dv, ?_⟩
 cases k with
 | true =>
   rw [if_pos rfl] at O ⊢
   refine ⟨ρ,M3,(((rs.mono (J.stab rm)).mono (L.stab j)).mono (U.stab B)),F,mc _ _ _ _ (fun w4 M4 q4 v4 H4 x4 Dw Dx => ?_) O⟩
   exact ⟨y,w4,M4,Dw,(G.mono (U.stab B)).mono (x4.stab F),Dx,Y _ _ _ _ _ (fun d M5 k5=>k5.ext (((J.trans L).trans U).trans x4)) q4⟩
 | false =>
   rw [if_neg Bool.false_ne_true] at O ⊢
   exact O (.bl false) H3 ((J.trans L).trans U) F (RD.bl_iff.mpr rfl)
noncomputable def qK:D->Option Bool
 | .bl b=>some b
 | .int i=>some (i != 0)
 | _=>none
noncomputable def qL:RAd:=fun xs M Q => ∃ x ds ts,xs=[x]/\al M x=some ds/\aw qK ds=some ts/\Q (.bl (ts.all id)) M
theorem nh:aS qL:=fun _ _ _ _ h ⟨x,ds,ts,e,j,z,q⟩=>⟨x,ds,ts,e,j,z,h _ _ q⟩
theorem ni {α β:Type} {f : α -> Option β}:∀ {xs:List α} {ys:List β},aw f xs=some ys->ys.length=xs.length /\ ∀ (i:Nat) x,xs[i]? = some x -> ∃ y,ys[i]? = some y/\f x=some y
 | [],ys,h=>by cases h;exact ⟨rfl,fun i x e=>by simp at e⟩
 | x::xs,ys,h=>by
   simp only [aw] at h
   cases j:f x with
   | none=>rw [j] at h;cases h
   | some y =>
     rw [j] at h
     simp only [Option.bind_some] at h
     cases e2:aw f xs with
     | none=>rw [e2] at h;cases h
     | some r =>
       rw [e2] at h;cases h
       obtain ⟨l,g⟩:=ni e2
       refine ⟨by simp [l],fun i z e => ?_⟩
       cases i with
       | zero=>simp at e;subst e;exact ⟨y,rfl,j⟩
       | succ i=>simp at e;simpa using g i z e
theorem zu {P:Program} {w:World} {A:Around} {E:Value->Shared->Prop} {s:Shared} {K:Frag} {H:Hp} {d:D} {v:V} {u:Value} {b:Bool} {Q:Bool->Shared->Prop} (e:qK d=some b) (rd:RD K H d v) (ru:RelV v u) (q:Q b s):wpAny (model P w) A (truthy u) Q E s:=by
 cases d with
 | bl c=>cases RD.bl_iff.mp rd;cases ru;cases e;exact wpAny_truthy_bool q
 | int i=>cases RD.int_iff.mp rd;obtain ⟨t,rfl⟩:=ru;cases e;exact PyProof.Rows.truthy_int q
 | _=>cases e
theorem range_all {ts:List Bool}:(List.range ts.length).all (fun i=>ts.getD i false)=ts.all id/\(List.range ts.length).any (fun i=>ts.getD i false)=ts.any id:=by
 have e:(List.range ts.length).map (fun i=>ts.getD i false)=ts:=by
  apply List.ext_getElem
  ·simp
  ·intro i h1 h2;simp [List.getD_eq_getElem?_getD,List.getElem?_eq_getElem h2]
 constructor
 ·conv=>rhs;rw [<- e]
  rw [List.all_map];rfl
 ·conv=>rhs;rw [<- e]
  rw [List.any_map];rfl
theorem wo (J:X.calm=true) {pins:List (Addr×Obj)} {s:Shared} {σ:St} {H:Hp} {M:Mem} {x:D} {ds:List D} {ts:List Bool} {v:V} {u:Value} {Q:Value->Shared->Prop} {g:List Bool->Bool} (I:Inv X pins σ H s) (rm:RM X.K M H) (rd:RD X.K H x v) (ru:RelV v u) (U:al M x=some ds) (Y:aw qK ds=some ts)
 (fin:∀ h' tk,Inv X pins σ H { s with heap:=h',toks:=tk }->Q (.bool (g ts)) { s with heap:=h',toks:=tk })
 (gg:Nat->(Nat->Bool)->Bool) (L:gg ts.length (fun i=>ts.getD i false)=g ts) :
 wpAny (model X.prog X.w) X.A.in1 (pyIter u) (fun it s₂ => ∃ I fp wr n P St tr,it = .ref I/\Walks X.prog X.w X.A.in1 I fp wr n P St/\St 0 s₂.heap/\TruthOf X.prog X.w X.A.in1 P tr /\
  ∀ h' tk,(∀ b o,b∉wr->s₂.heap.get? b=some o->h'.get? b=some o)->Q (.bool (gg n tr)) { s₂ with heap:=h',toks:=tk }) X.xe s:=by
 obtain ⟨p,vs,rfl,sq,O⟩:=mC rm rd U
 cases ru
 obtain ⟨lt,get⟩:=ni Y
 have lv:=O.length
 have tr:∀ (its:List Value),Vals vs its->TruthOf X.prog X.w X.A.in1 (fun i w=>its.toArray[i]? = some w) (fun i=>ts.getD i false):=by
  intro its rv i w s' Q' E' Z B
  have q:its[i]? = some w:=by simpa using Z
  have li:=rv.length
  have hi:i < its.length:=(List.getElem?_eq_some_iff.mp q).1
  obtain ⟨d,hd⟩:∃ d,ds[i]? = some d:=⟨ds[i]'(by lia),List.getElem?_eq_getElem (by lia)⟩
  obtain ⟨v',F,rd'⟩:=O.get hd
  obtain ⟨u',z,ru'⟩:=rv.get F
  rw [q] at z;cases z
  obtain ⟨b,hb,eb⟩:=get i d hd
  have:ts.getD i false=b:=by rw [List.getD_eq_getElem?_getD,hb];rfl
  have B:Q' (ts.getD i false) s':=B
  rw [this] at B
  exact zu eb rd' ru' B
 rcases sq with sq | sq
 ·obtain ⟨its,rv,pl,hz⟩:=I.list sq
  have li:=rv.length
  have j:p < s.heap.objs.size:=by obtain ⟨o,n,e,_⟩:=pl;exact Heap.lt_size e
  refine wpAny_pyIter_list pl.isList ⟨s.heap.objs.size,_,_,_,_,_,_,rfl,Walks.list (by rw [Around.in1_handled];exact I.ok.hd J) s.heap.objs.size p (Nat.ne_of_lt j) its.toArray,⟨⟨_,Heap.get?_push_size _ rfl,rfl,rfl⟩,pl.isList.at fun o e=>Heap.get?_push_of_some _ e⟩,tr its rv,fun h' tk k => ?_⟩
  have G:its.toArray.size=ts.length:=by rw [List.size_toArray];lia
  rw [G,L]
  exact fin h' tk (I.kept (t':=tk) fun b o e=>k b o (by simp;exact Nat.ne_of_lt (Heap.lt_size e)) (Heap.get?_push_of_some _ e))
 ·obtain ⟨its,rv,pl,hz⟩:=I.tuple sq
  have li:=rv.length
  have j:p < s.heap.objs.size:=by obtain ⟨o,e,_⟩:=pl;exact Heap.lt_size e
  have pt:s.heap.IsTuple p its.toArray:=pl
  refine wpAny_pyIter_tuple pt ⟨s.heap.objs.size,_,_,_,_,_,_,rfl,Walks.tuple (by rw [Around.in1_handled];exact I.ok.hd J) s.heap.objs.size p (Nat.ne_of_lt j) its.toArray,⟨⟨_,Heap.get?_push_size _ rfl,rfl,rfl⟩,pt.push _⟩,tr its rv,fun h' tk k => ?_⟩
  have G:its.toArray.size=ts.length:=by rw [List.size_toArray];lia
  rw [G,L]
  exact fin h' tk (I.kept (t':=tk) fun b o e=>k b o (by simp;exact Nat.ne_of_lt (Heap.lt_size e)) (Heap.get?_push_of_some _ e))
theorem qM (j:X.calm=true):CallR X (.builtin "all") (lR X.K qL):=by
 intro pins s σ H xs us Q I rv h
 obtain ⟨ds,M,rm,rs,x,es,ts,rfl,z,B,q⟩:=h
 obtain ⟨v,rfl,r⟩:=rs.one
 obtain ⟨u,rfl,ru⟩:=cP rv
 exact call_all_walk (wo j I rm r ru z B (g:=fun ts=>ts.all id) (fun h' tk I'=>⟨.bl _,H,I',rfl,q _ H Ext.refl rm (RD.bl_iff.mpr rfl)⟩) (fun n tr=>(List.range n).all tr) range_all.1)
noncomputable def j3 (t:Bool):TEd:=fun _ M Q => ∀ p,M p=none->Q (.ref p) (af M p (.dct t []))
theorem tz {t:Bool}:ad (j3 t):=fun _ _ _ _ i q p n=>i _ _ (q p n)
theorem zv {t:Bool} {pos:Pos}:PE X (.Dict [] [] pos) (lE X.K (j3 t)):=by
 cases t with
 | false =>
   refine PE.imp vA fun σ H Q ⟨ρ,M,rs,rm,q⟩ p n => ?_
   exact q p (rm.out n) (.ref p) _ (Ext.lay n) (rm.lay n ⟨[],aE, .nil⟩) (RD.ref_iff.mpr rfl)
 | true =>
   refine PE.imp vB fun σ H Q ⟨ρ,M,rs,rm,q⟩ p n => ?_
   exact q p (rm.out n) (.ref p) _ (Ext.lay n) (rm.lay n ⟨[],aE, .nil⟩) (RD.ref_iff.mpr rfl)
theorem wq {op op':CmpOp} {r r':R2d} {a b c:Expr} {ta tb tc:TEd} {pos:Pos} (ho:OpR X (compareOp op) (l2 X.K r)) (j:OpR X (compareOp op') (l2 X.K r')) (z:ak r) (q:ak r') (ma:ad ta) (mb:ad tb) (mc:ad tc) (B:PE X a (lE X.K ta)) (F:PE X b (lE X.K tb)) (G:PE X c (lE X.K tc)) (hm:lastMarks [op,op'] [b,c]=false) :
 PE X (.Compare a [op,op'] [b,c] pos) (lE X.K (cE r r' ta tb tc)):=PE.imp (v9 ho j B F G hm) (iZ z q ma mb mc)
theorem wt {op op':CmpOp} {r r':R2d} {a b c:Expr} {ta tb tc:TEd} {pos:Pos} (ho:OpR X (compareOp op) (l2 X.K r)) (q:OpR X (compareOp op') (l2 X.K r')) (z:ak r) (j:ak r') (ma:ad ta) (mb:ad tb) (mc:ad tc) (B:PE X a (lE X.K ta)) (F:PE X b (lE X.K tb)) (G:PE X c (lE X.K tc)) (hm:lastMarks [op,op'] [b,c]=false) :
 PT X (.Compare a [op,op'] [b,c] pos) (lT X.K (eM (cE r r' ta tb tc))):=PT.imp (va ho q B F G hm) fun σ H Q h=>iZ z j ma mb mc σ H _ (m9 (eQ z j ma mb mc) σ H Q h)
end
end
end Mi
end
end L2
namespace L2
namespace Srt
open PySem PySem.Spec PyProof.Rows
structure Cm (prog:Program) (w:World) (A:Around) (s:Shared) (kd:SortKind) (P:Keyed->Prop) (lt:Keyed->Keyed->Bool):Prop where
 asym:∀ x y,lt x y=true->lt y x=false
 neg:∀ x y z,lt x z=true->lt x y=true∨lt y z=true
 run:∀ (x y:Keyed) (E:Value->Shared->Prop) (Q:Bool->Shared->Prop),P x->P y->Q (lt x y) s->wpAny (PySem.model prog w) A (keyLt' kd x.1 y.1) Q E s
section
variable {prog:Program} {w:World} {A:Around} {E:Value->Shared->Prop} {s:Shared} {kd:SortKind} {P:Keyed->Prop} {lt:Keyed->Keyed->Bool}
theorem aa {σ α:Type} {M:Model} {x : α} {st : σ} {Q : α -> σ -> Prop} (q:Q x st):wpS M A E s (pure x) Q st :=
 fun _ _ _=>⟨rfl,q⟩
theorem cn {σ:Type} {M:Model} {tag:String} {st : σ} {Q:Unit -> σ -> Prop} (q:Q () st):wpS M A E s (liftM (PySem.rule tag)) Q st :=
 wpS_lift (wpAny_rule ⟨rfl,q⟩)
theorem zw {σ:Type} {M:Model} {st st' : σ} {Q:PUnit -> σ -> Prop} (q:Q PUnit.unit st'):wpS M A E s (set st') Q st :=
 fun _ _ _=>⟨rfl,q⟩
theorem j5 (c:Cm prog w A s kd P lt) {x y:Keyed} {st:SortSt} {Q:Option Bool->SortSt->Prop} (j:kindOf st=kd) (hx:P x) (z:P y) (q:Q (some (lt x y)) st):wpS (PySem.model prog w) A E s (lt' x y) Q st:=by
 rw [lt'_eq]
 refine wpS_bind (wpS_get ?_)
 refine wpS_bind (wpS_lift ?_)
 rw [j]
 intro Γ p hp
 rw [Sem.wp_attempt]
 exact c.run x y (fun e s'=>s'=s/\wpS (PySem.model prog w) A E s (do modify fun s=>SortSt.mk' (kindOf s) (arrOf s) (pendingOf s) (gallopOf s) (some e);pure none) Q st) (fun b s'=>s'=s/\wpS (PySem.model prog w) A E s (pure (some b)) Q st) hx z ⟨rfl,aa q⟩ Γ p hp
theorem ay {arr:Array Keyed} {i:Nat} {x:Keyed} {st:SortSt} {Q:Keyed->SortSt->Prop} (h:arr[i]? = some x) (q:Q x st):wpS (PySem.model prog w) A E s (elem' arr i) Q st:=by
 rw [elem'_eq,h]
 exact aa q
theorem Cm.le_trans (c:Cm prog w A s kd P lt) {x y z:Keyed} (h:lt y x=false) (h2:lt z y=false):lt z x=false:=by
 cases e:lt z x with
 | false=>rfl
 | true=>rcases c.neg z y x e with q | q <;> simp_all
theorem Cm.irr (c:Cm prog w A s kd P lt) {x:Keyed}:lt x x=false:=by
 cases e:lt x x with
 | false=>rfl
 | true=>have:=c.asym x x e;rw [e] at this;exact this
theorem az {σ α:Type} {M:Model} {m:StateT σ Sem α} {st : σ} {Q Q' : α -> σ -> Prop} (h:wpS M A E s m Q st) (q:∀ a st',Q a st'->Q' a st'):wpS M A E s m Q' st :=
 wpAny_mono h (fun a s' z=>⟨z.1,q _ _ z.2⟩) fun _ _ z=>z
end
noncomputable abbrev Bm:=Bool->Keyed->Array Keyed->Nat->Nat->Nat->StateT SortSt Sem (Option Nat)
noncomputable abbrev Bn:=Array Keyed->Array Keyed->StateT SortSt Sem (Array Keyed)
noncomputable def bey (lt:Keyed->Keyed->Bool) (left:Bool) (key x:Keyed):Bool:=if left=true then lt x key else !(lt key x)
structure Same (st st':SortSt):Prop where
 arr:arrOf st'=arrOf st
 kind:kindOf st'=kindOf st
 pend:pendingOf st'=pendingOf st
 fail:failedOf st'=failedOf st
noncomputable def fZ (prog:Program) (w:World) (A:Around) (E:Value->Shared->Prop) (s:Shared) (kd:SortKind) (P:Keyed->Prop) (lt:Keyed->Keyed->Bool) (g:Bm):Prop :=
 ∀ (left:Bool) (key:Keyed) (arr:Array Keyed) (L xs R:List Keyed) (base n hint:Nat) (st:SortSt) (Q:Option Nat->SortSt->Prop),kindOf st=kd->P key->arr.toList=L++xs++R->base=L.length->n=xs.length->(∀ x∈xs,P x)->hint < n ->
  xs.Pairwise (fun x y=>lt y x=false) ->
  (∀ X Y,xs=X++Y->(∀ x∈X,bey lt left key x=true)->(∀ x∈Y,bey lt left key x=false)->Q (some X.length) st) ->
  wpS (PySem.model prog w) A E s (g left key arr base n hint) Q st
noncomputable def gb (prog:Program) (w:World) (A:Around) (E:Value->Shared->Prop) (s:Shared) (kd:SortKind) (P:Keyed->Prop) (lt:Keyed->Keyed->Bool) (m:Bn):Prop :=
 ∀ (a b:Array Keyed) (st:SortSt) (Q:Array Keyed->SortSt->Prop),kindOf st=kd->(∀ x∈a.toList,P x)->(∀ x∈b.toList,P x)->0 < a.size->0 < b.size ->
  a.toList.Pairwise (fun x y=>lt y x=false)->b.toList.Pairwise (fun x y=>lt y x=false)->(∀ x y,a[0]? = some x->b[0]? = some y->lt x y=false)->(∀ x y,a[a.size - 1]? = some x->b[b.size - 1]? = some y->lt x y=false) ->
  (∀ r st',r.toList.Perm (a.toList++b.toList)->r.toList.Pairwise (fun x y=>lt y x=false)->Same st st'->Q r st') ->
  wpS (PySem.model prog w) A E s (m a b) Q st
section
variable {prog:Program} {w:World} {A:Around} {E:Value->Shared->Prop} {s:Shared} {kd:SortKind} {P:Keyed->Prop} {lt:Keyed->Keyed->Bool}
theorem fE (c:Cm prog w A s kd P lt) {left:Bool} {key x:Keyed} {arr:Array Keyed} {j:Nat} {st:SortSt} {Q:Option Bool->SortSt->Prop} (z:kindOf st=kd) (hx:P key) (B:P x) (e:arr[j]? = some x) (q:Q (some (bey lt left key x)) st) :
 wpS (PySem.model prog w) A E s (do
  let x <- elem' arr j
  if left=true then lt' x key else do
   let r <- lt' key x
   pure (Option.map (fun x => !x) r)) Q st:=by
 refine wpS_bind (ay e ?_)
 cases left with
 | true=>exact j5 c z B hx q
 | false=>exact wpS_bind (j5 c z hx B (aa q))
theorem nj (c:Cm prog w A s kd P lt) {left:Bool} {key x y:Keyed} (h:lt y x=false) (j:bey lt left key y=true):bey lt left key x=true:=by
 unfold bey at j ⊢
 cases left with
 | true =>
   rw [if_pos rfl] at j ⊢
   rcases c.neg y x key j with q | q
   ·rw [h] at q;cases q
   ·exact q
 | false =>
   simp at j ⊢
   cases e:lt key x with
   | false=>rfl
   | true =>
     rcases c.neg key y x e with q | q
     ·rw [j] at q;cases q
     ·rw [h] at q;cases q
structure Gal (lt:Keyed->Keyed->Bool) (left:Bool) (key:Keyed) (xs:List Keyed) (lo hi:Nat):Prop where
 le:lo<=hi
 len:hi<=xs.length
 up:∀ i x,i < lo->xs[i]? = some x->bey lt left key x=true
 dn:∀ i x,hi<=i->xs[i]? = some x->bey lt left key x=false
theorem eA {xs:List Keyed} {R:Keyed->Keyed->Prop} (h:xs.Pairwise R) {i j:Nat} {x y:Keyed} (q:i < j) (hx:xs[i]? = some x) (z:xs[j]? = some y):R x y:=by
 obtain ⟨h1,B⟩:=List.getElem?_eq_some_iff.mp hx
 obtain ⟨h2,F⟩:=List.getElem?_eq_some_iff.mp z
 rw [<- B, <- F]
 exact List.pairwise_iff_getElem.mp h i j h1 h2 q
theorem gc (c:Cm prog w A s kd P lt) {left:Bool} {key:Keyed} {xs:List Keyed} (h:xs.Pairwise (fun x y=>lt y x=false)) {j:Nat} {y:Keyed} (q:xs[j]? = some y) (z:bey lt left key y=true):∀ i x,i < j+1->xs[i]? = some x->bey lt left key x=true:=by
 intro i x hi hx
 by_cases e:i=j
 ·subst e;rw [hx] at q;cases q;exact z
 ·exact nj c (eA h (by lia) hx q) z
theorem gd (c:Cm prog w A s kd P lt) {left:Bool} {key:Keyed} {xs:List Keyed} (h:xs.Pairwise (fun x y=>lt y x=false)) {j:Nat} {y:Keyed} (z:xs[j]? = some y) (B:bey lt left key y=false):∀ i x,j<=i->xs[i]? = some x->bey lt left key x=false:=by
 intro i x hi hx
 by_cases e:i=j
 ·subst e;rw [hx] at z;cases z;exact B
 ·cases q:bey lt left key x with
  | false=>rfl
  | true=>have:=nj c (eA h (by lia) z hx) q;rw [B] at this;cases this
theorem Gal.out {left:Bool} {key:Keyed} {xs:List Keyed} {k:Nat} (g:Gal lt left key xs k k):∃ X Y,xs=X++Y/\X.length=k/\(∀ x∈X,bey lt left key x=true)/\(∀ x∈Y,bey lt left key x=false):=by
 refine ⟨xs.take k,xs.drop k,(List.take_append_drop k xs).symm,by rw [List.length_take];exact Nat.min_eq_left g.len,fun x hx => ?_,fun x hx => ?_⟩
 ·obtain ⟨i,hi,e⟩:=List.mem_iff_getElem.mp hx
  rw [List.length_take] at hi
  exact g.up i x (by lia) (by rw [List.getElem_take] at e;rw [<- e];exact List.getElem?_eq_getElem _)
 ·obtain ⟨i,hi,e⟩:=List.mem_iff_getElem.mp hx
  rw [List.length_drop] at hi
  refine g.dn (k+i) x (by lia) ?_
  rw [List.getElem_drop] at e
  rw [<- e];exact List.getElem?_eq_getElem _
noncomputable abbrev Ord (lt:Keyed->Keyed->Bool) (l:List Keyed):Prop:=l.Pairwise fun x y=>lt y x=false
theorem nn {out X A' B:List Keyed} (h1:Ord lt (out++(X++A'))) (h2:Ord lt (out++B)) (h:∀ x∈X, ∀ y∈B,lt y x=false):Ord lt ((out++X)++A')/\Ord lt ((out++X)++B):=by
 refine ⟨by rw [List.append_assoc];exact h1, ?_⟩
 rw [List.append_assoc]
 obtain ⟨j,q,F⟩:=List.pairwise_append.mp h1
 obtain ⟨O,p2,G⟩:=List.pairwise_append.mp h2
 obtain ⟨J,U,Y⟩:=List.pairwise_append.mp q
 refine List.pairwise_append.mpr ⟨j,List.pairwise_append.mpr ⟨J,p2,h⟩,fun x hx y L => ?_⟩
 rcases List.mem_append.mp L with z | z
 ·exact F x hx y (List.mem_append_left _ z)
 ·exact G x hx y z
structure ML (lt:Keyed->Keyed->Bool) (la lb out:List Keyed) (ia ib:Nat):Prop where
 pa:Ord lt (out++la.drop ia)
 pb:Ord lt (out++lb.drop ib)
 pm:(out++(la.drop ia++lb.drop ib)).Perm (la++lb)
theorem oW (c:Cm prog w A s kd P lt) {l:List Keyed} {i:Nat} {x y:Keyed} (h:Ord lt (l.drop i)) (j:l[i]? = some y) (hx:lt y x=false):∀ z∈l.drop i,lt z x=false:=by
 obtain ⟨hi,e⟩:=List.getElem?_eq_some_iff.mp j
 rw [List.drop_eq_getElem_cons hi,e] at h ⊢
 intro z B
 rcases List.mem_cons.mp B with q | q
 ·rw [q];exact hx
 ·exact c.le_trans hx ((List.pairwise_cons.mp h).1 z q)
theorem du {l X Y:List Keyed} {i:Nat} (e:l.drop i=X++Y):l.drop (i+X.length)=Y:=by
 rw [<- List.drop_drop,e,List.drop_left]
theorem ML.galA (c:Cm prog w A s kd P lt) {la lb out X Y:List Keyed} {ia ib:Nat} {y:Keyed} (m:ML lt la lb out ia ib) (e:la.drop ia=X++Y) (j:lb[ib]? = some y) (h:∀ x∈X,lt y x=false):ML lt la lb (out++X) (ia+X.length) ib:=by
 have p2:=(List.pairwise_append.mp m.pb).2.1
 have q:=nn (X:=X) (A':=Y) (by rw [<- e];exact m.pa) m.pb fun x hx=>oW c p2 j (h x hx)
 refine ⟨by rw [du e];exact q.1,q.2, ?_⟩
 rw [du e]
 refine List.Perm.trans (List.Perm.of_eq ?_) m.pm
 rw [e];simp
theorem ML.galB (c:Cm prog w A s kd P lt) {la lb out X Y:List Keyed} {ia ib:Nat} {y:Keyed} (m:ML lt la lb out ia ib) (e:lb.drop ib=X++Y) (j:la[ia]? = some y) (h:∀ x∈X,lt y x=false):ML lt la lb (out++X) ia (ib+X.length):=by
 have p2:=(List.pairwise_append.mp m.pa).2.1
 have q:=nn (X:=X) (A':=Y) (by rw [<- e];exact m.pb) m.pa fun x hx=>oW c p2 j (h x hx)
 refine ⟨q.2,by rw [du e];exact q.1, ?_⟩
 rw [du e]
 refine List.Perm.trans ?_ m.pm
 rw [e,List.append_assoc]
 refine List.Perm.append_left _ ?_
 rw [<- List.append_assoc, <- List.append_assoc]
 exact List.Perm.append_right _ List.perm_append_comm
theorem dv {l:List Keyed} {i:Nat} {x:Keyed} (h:l[i]? = some x):l.drop i=[x]++l.drop (i+1):=by
 obtain ⟨hi,e⟩:=List.getElem?_eq_some_iff.mp h
 rw [List.drop_eq_getElem_cons hi,e];rfl
theorem ML.pushA (c:Cm prog w A s kd P lt) {la lb out:List Keyed} {ia ib:Nat} {x y:Keyed} (m:ML lt la lb out ia ib) (hx:la[ia]? = some x) (j:lb[ib]? = some y) (h:lt y x=false):ML lt la lb (out++[x]) (ia+1) ib :=
 m.galA c (dv hx) j (by simpa using h)
theorem ML.pushB (c:Cm prog w A s kd P lt) {la lb out:List Keyed} {ia ib:Nat} {x y:Keyed} (m:ML lt la lb out ia ib) (hx:la[ia]? = some x) (j:lb[ib]? = some y) (h:lt x y=false):ML lt la lb (out++[y]) ia (ib+1) :=
 m.galB c (dv j) hx (by simpa using h)
noncomputable def Res (lt:Keyed->Keyed->Bool) (la lb r:List Keyed):Prop:=r.Perm (la++lb)/\Ord lt r
theorem ML.fin {la lb out:List Keyed} {ia ib:Nat} (m:ML lt la lb out ia ib) (h:lb.length<=ib):Res lt la lb (out++la.drop ia++lb.drop ib):=by
 rw [List.drop_eq_nil_of_le h,List.append_nil]
 refine ⟨?_,m.pa⟩
 have:=m.pm
 rw [List.drop_eq_nil_of_le h,List.append_nil] at this
 exact this
theorem ML.finE {la lb out:List Keyed} {ia ib:Nat} (m:ML lt la lb out ia ib) (h:la.length<=ia):Res lt la lb (out++la.drop ia++lb.drop ib):=by
 rw [List.drop_eq_nil_of_le h,List.append_nil]
 refine ⟨?_,m.pb⟩
 have:=m.pm
 rw [List.drop_eq_nil_of_le h,List.nil_append] at this
 exact this
theorem ML.finA {la lb out:List Keyed} {ia ib:Nat} (m:ML lt la lb out ia ib) (h:∀ x∈lb, ∀ y∈la.drop ia,lt y x=false):Res lt la lb (out++lb.drop ib++la.drop ia):=by
 refine ⟨?_, ?_⟩
 ·refine List.Perm.trans ?_ m.pm
  rw [List.append_assoc]
  exact List.Perm.append_left _ List.perm_append_comm
 ·obtain ⟨F,q,B⟩:=List.pairwise_append.mp m.pa
  refine List.pairwise_append.mpr ⟨m.pb,q,fun x hx y j => ?_⟩
  rcases List.mem_append.mp hx with z | z
  ·exact B x z y j
  ·exact h x (List.mem_of_mem_drop z) y j
theorem ML.size {la lb out:List Keyed} {ia ib:Nat} (m:ML lt la lb out ia ib) (j:ia<=la.length) (q:ib<=lb.length):out.length=ia+ib:=by
 have:=m.pm.length_eq
 simp only [List.length_append,List.length_drop] at this
 lia
theorem ax {a:Array Keyed} {i:Nat} (h:i < a.size):∃ x,a[i]? = some x/\a.toList[i]? = some x/\x∈a.toList:=by
 refine ⟨a[i],Array.getElem?_eq_getElem h, ?_,Array.getElem_mem_toList h⟩
 rw [Array.getElem?_toList];exact Array.getElem?_eq_getElem h
theorem bn {a:Array Keyed} {i:Nat}:(a.extract i).toList=a.toList.drop i:=by
 rw [Array.toList_extract]
 simp only [List.extract]
 exact List.take_of_length_le (by simp)
theorem zx {a:Array Keyed} {i:Nat} {X Y:List Keyed} (e:a.toList.drop i=X++Y):(a.extract i (i+X.length)).toList=X:=by
 rw [Array.toList_extract]
 simp [List.extract,e]
theorem Same.refl {st:SortSt}:Same st st:=⟨rfl,rfl,rfl,rfl⟩
theorem Same.trans {a b c:SortSt} (h:Same a b) (g:Same b c):Same a c:=⟨g.arr.trans h.arr,g.kind.trans h.kind,g.pend.trans h.pend,g.fail.trans h.fail⟩
theorem kB {O Y A' B:List Keyed} (h1:Ord lt (A'++(Y++O))) (h2:Ord lt (B++O)) (h:∀ y∈Y, ∀ x∈B,lt y x=false):Ord lt (B++(Y++O)):=by
 obtain ⟨J,j,L⟩:=List.pairwise_append.mp h1
 obtain ⟨q,p2,F⟩:=List.pairwise_append.mp h2
 refine List.pairwise_append.mpr ⟨q,j,fun x hx y G => ?_⟩
 rcases List.mem_append.mp G with z | z
 ·exact h y z x hx
 ·exact F x hx y z
structure MH (lt:Keyed->Keyed->Bool) (la lb out:List Keyed) (na nb:Nat):Prop where
 pa:Ord lt (la.take na++out.reverse)
 pb:Ord lt (lb.take nb++out.reverse)
 pm:(la.take na++lb.take nb++out.reverse).Perm (la++lb)
theorem gf (c:Cm prog w A s kd P lt) {l:List Keyed} {n:Nat} {x y:Keyed} (h:Ord lt (l.take n)) (G : 0 < n) (B:l[n - 1]? = some y) (hx:lt x y=false):∀ z∈l.take n,lt x z=false:=by
 intro z F
 obtain ⟨i,hi,e⟩:=List.mem_iff_getElem.mp F
 have j:(l.take n)[i]? = some z:=by rw [<- e];exact List.getElem?_eq_getElem hi
 have q:(l.take n)[n - 1]? = some y:=by rw [List.getElem?_take_of_lt (by lia)];exact B
 rw [List.length_take] at hi
 by_cases hin:i=n - 1
 ·subst hin;rw [q] at j;cases j;exact hx
 ·exact c.le_trans (eA h (by lia) j q) hx
theorem dw {l X Y:List Keyed} {n:Nat} (e:l.take n=X++Y):l.take X.length=X:=by
 have h:X.length<=n:=by
  have:=congrArg List.length e
  simp only [List.length_take,List.length_append] at this;lia
 have h2:(l.take n).take X.length=X:=by rw [e,List.take_left]
 rw [List.take_take,Nat.min_eq_left h] at h2
 exact h2
theorem MH.galA (c:Cm prog w A s kd P lt) {la lb out X Y:List Keyed} {na nb:Nat} {y:Keyed} (m:MH lt la lb out na nb) (e:la.take na=X++Y) (j : 0 < nb) (z:lb[nb - 1]? = some y) (h:∀ x∈Y,lt x y=false):MH lt la lb (out++Y.reverse) X.length nb:=by
 have p2:=(List.pairwise_append.mp m.pb).1
 have h1:Ord lt (X++(Y++out.reverse)):=by rw [<- List.append_assoc, <- e];exact m.pa
 have q:=kB h1 m.pb fun x hx=>gf c p2 j z (h x hx)
 refine ⟨by rw [dw e];simpa using h1,by simpa using q, ?_⟩
 rw [dw e]
 refine List.Perm.trans ?_ m.pm
 rw [e]
 simp only [List.reverse_append,List.reverse_reverse,List.append_assoc]
 refine List.Perm.append_left _ ?_
 rw [<- List.append_assoc, <- List.append_assoc]
 exact List.Perm.append_right _ List.perm_append_comm
theorem MH.galB (c:Cm prog w A s kd P lt) {la lb out X Y:List Keyed} {na nb:Nat} {y:Keyed} (m:MH lt la lb out na nb) (e:lb.take nb=X++Y) (j : 0 < na) (z:la[na - 1]? = some y) (h:∀ x∈Y,lt x y=false):MH lt la lb (out++Y.reverse) na X.length:=by
 have p2:=(List.pairwise_append.mp m.pa).1
 have h1:Ord lt (X++(Y++out.reverse)):=by rw [<- List.append_assoc, <- e];exact m.pb
 have q:=kB h1 m.pa fun x hx=>gf c p2 j z (h x hx)
 refine ⟨by simpa using q,by rw [dw e];simpa using h1, ?_⟩
 rw [dw e]
 refine List.Perm.trans (List.Perm.of_eq ?_) m.pm
 rw [e];simp
theorem cq {l:List Keyed} {n:Nat} {x:Keyed} (j : 0 < n) (h:l[n - 1]? = some x):l.take n=l.take (n - 1)++[x]:=by
 obtain ⟨k,rfl⟩:∃ k,n=k+1:=⟨n - 1,by lia⟩
 rw [Nat.add_sub_cancel] at h ⊢
 rw [List.take_add_one,h];rfl
theorem oZ {l:List Keyed} {n:Nat} {x:Keyed} (j : 0 < n) (h:l[n - 1]? = some x):(l.take (n - 1)).length=n - 1:=by
 obtain ⟨hi,_⟩:=List.getElem?_eq_some_iff.mp h
 rw [List.length_take];lia
theorem MH.pushA (c:Cm prog w A s kd P lt) {la lb out:List Keyed} {na nb:Nat} {x y:Keyed} (m:MH lt la lb out na nb) (j : 0 < na) (z : 0 < nb) (hx:la[na - 1]? = some x) (B:lb[nb - 1]? = some y) (h:lt x y=false):MH lt la lb (out++[x]) (na - 1) nb:=by
 have q:=m.galA c (cq j hx) z B (by simpa using h)
 rw [oZ j hx] at q
 simpa using q
theorem MH.pushB (c:Cm prog w A s kd P lt) {la lb out:List Keyed} {na nb:Nat} {x y:Keyed} (m:MH lt la lb out na nb) (B : 0 < na) (j : 0 < nb) (hx:la[na - 1]? = some x) (z:lb[nb - 1]? = some y) (h:lt y x=false):MH lt la lb (out++[y]) na (nb - 1):=by
 have q:=m.galB c (cq j z) B hx (by simpa using h)
 rw [oZ j z] at q
 simpa using q
theorem MH.fin {la lb out:List Keyed} {na nb:Nat} (m:MH lt la lb out na nb) (h:na=0∨nb=0):Res lt la lb (la.take na++lb.take nb++out.reverse):=by
 refine ⟨m.pm, ?_⟩
 rcases h with rfl | rfl
 ·simpa using m.pb
 ·simpa using m.pa
theorem MH.finB {la lb out:List Keyed} {na nb:Nat} (m:MH lt la lb out na nb) (h:∀ x∈lb.take nb, ∀ y∈la,lt y x=false):Res lt la lb (lb.take nb++la.take na++out.reverse):=by
 refine ⟨List.Perm.trans (List.Perm.append_right _ List.perm_append_comm) m.pm, ?_⟩
 obtain ⟨j,F,q⟩:=List.pairwise_append.mp m.pb
 rw [List.append_assoc]
 refine List.pairwise_append.mpr ⟨j,m.pa,fun x hx y B => ?_⟩
 rcases List.mem_append.mp B with z | z
 ·exact h x hx y (List.mem_of_mem_take z)
 ·exact q x hx y z
theorem MH.size {la lb out:List Keyed} {na nb:Nat} (m:MH lt la lb out na nb) (j:na<=la.length) (q:nb<=lb.length):out.length+na+nb=la.length+lb.length:=by
 have:=m.pm.length_eq
 simp only [List.length_append,List.length_take,List.length_reverse] at this
 lia
theorem dL {a:Array Keyed}:a.toList.take a.size=a.toList:=List.take_of_length_le (by simp)
theorem aX {a:Array Keyed} {i:Nat}:(a.extract 0 i).toList=a.toList.take i:=by
 rw [Array.toList_extract];simp [List.extract]
theorem wu {a:Array Keyed} {n:Nat} {X Y:List Keyed} (e:a.toList.take n=X++Y):(a.extract X.length n).toList=Y:=by
 rw [Array.toList_extract]
 simp only [List.extract]
 rw [<- List.drop_take,e,List.drop_left]
theorem wv:∀ (m old L R:List Keyed) (a:Array Keyed),a.toList=L++old++R->m.length=old.length->(List.foldl (fun a x=>a.setIfInBounds (L.length+x.snd) x.fst) a m.zipIdx).toList=L++m++R:=by
 have g:∀ (m old L R:List Keyed) (k:Nat) (a:Array Keyed),a.toList=L++old++R->m.length=old.length -> ∀ b:Nat,b+k=L.length->(List.foldl (fun a x=>a.setIfInBounds (b+x.snd) x.fst) a (m.zipIdx k)).toList=L++m++R:=by
  intro m
  induction m with
  | nil =>
    intro old L R k a e h b j
    have:old=[]:=List.length_eq_zero_iff.mp h.symm
    subst this
    simpa using e
  | cons x m ih =>
    intro old L R k a e h b j
    cases old with
    | nil=>simp at h
    | cons y old =>
      rw [List.zipIdx_cons,List.foldl_cons]
      have q:(a.setIfInBounds (b+k) x).toList=(L++[x])++old++R:=by
       rw [Array.toList_setIfInBounds,e,j]
       simp
      have:=ih old (L++[x]) R (k+1) _ q (by simpa using h) b (by simp;lia)
      rw [this];simp
 exact fun m old L R a e h=>g m old L R 0 a e h L.length (by lia)
theorem ae {σ α:Type} {M:Model} {p:Prop} [Decidable p] {j q:StateT σ Sem α} {st : σ} {Q : α -> σ -> Prop} (h1:p->wpS M A E s j Q st) (h2 : ¬p->wpS M A E s q Q st):wpS M A E s (if p then j else q) Q st:=by
 split
 ·next h=>exact h1 h
 ·next h=>exact h2 h
theorem ML.cut {a out:Array Keyed} {la lb X Y:List Keyed} {i j n:Nat} (m:ML lt la lb (out.toList++X) i j) (e:a.toList.drop n=X++Y):ML lt la lb (out++a.extract n (n+X.length)).toList i j:=by
 rw [Array.toList_append,zx e];exact m
theorem MH.cut {a out:Array Keyed} {la lb X Y:List Keyed} {i j n:Nat} (m:MH lt la lb (out.toList++Y.reverse) i j) (e:a.toList.take n=X++Y):MH lt la lb (out++(a.extract X.length n).reverse).toList i j:=by
 rw [Array.toList_append,Array.toList_reverse,wu e];exact m
theorem tD {σ α:Type} {M:Model} {m:StateT σ Sem α} {st : σ} {Q : α -> σ -> Prop} {P : σ -> Prop} (j:P st) (h:∀ st',P st'->wpS M A E s m Q st'):wpS M A E s m Q st:=h st j
theorem xS {σ α:Type} {M:Model} {m:StateT σ Sem α} {st : σ} {Q : α -> σ -> Prop} (h:∀ Q' : α -> σ -> Prop,(∀ a st',Q a st'->Q' a st')->wpS M A E s m Q' st):wpS M A E s m Q st:=h Q fun _ _ h=>h
theorem xT {key x:Keyed} (h:bey lt false key x=true):lt key x=false:=by simpa [bey] using h
theorem tE {key x:Keyed} (h:bey lt false key x=false):lt key x=true:=by simpa [bey] using h
theorem xU {key x:Keyed} (h:bey lt true key x=true):lt x key=true:=by simpa [bey] using h
theorem tF {key x:Keyed} (h:bey lt true key x=false):lt x key=false:=by simpa [bey] using h
theorem no {l X Y:List Keyed} {i:Nat} {x:Keyed} (e:l.drop i=X++Y) (h:l[i+X.length]? = some x):x∈Y:=by
 rw [<- du e,dv h];simp
theorem nt {l X Y:List Keyed} {n:Nat} {x:Keyed} (e:l.take n=X++Y) (h0 : 0 < X.length) (h:l[X.length - 1]? = some x):x∈X:=by
 have:=cq h0 h
 rw [dw e] at this
 rw [this];simp
theorem nv {a:Array Keyed} {X Y:List Keyed} {i:Nat} (e:a.toList.drop i=X++Y):X.length<=a.size - i:=by
 have:=congrArg List.length e
 simp at this;lia
theorem kC {a:Array Keyed} {X Y:List Keyed} {n:Nat} (e:a.toList.take n=X++Y) (h:n<=a.size):X.length+Y.length=n:=by
 have:=congrArg List.length e
 simp at this;lia
theorem eR {a:Array Keyed} {n:Nat} (h:n<=a.size):n=(a.toList.take n).length:=by simp;lia
theorem ML.finR {a b out:Array Keyed} {ia ib:Nat} (m:ML lt a.toList b.toList out.toList ia ib) (h:b.size<=ib):Res lt a.toList b.toList (out++a.extract ia++b.extract ib).toList:=by
 have:=m.fin (by simpa using h)
 simpa only [Array.toList_append,bn] using this
theorem ML.finS {a b out:Array Keyed} {ia ib:Nat} (m:ML lt a.toList b.toList out.toList ia ib) (h:a.size<=ia):Res lt a.toList b.toList (out++a.extract ia++b.extract ib).toList:=by
 have:=m.finE (by simpa using h)
 simpa only [Array.toList_append,bn] using this
theorem ML.finL {a b out:Array Keyed} {ia ib:Nat} (m:ML lt a.toList b.toList out.toList ia ib) (h:∀ x∈b.toList, ∀ y∈a.toList.drop ia,lt y x=false):Res lt a.toList b.toList (out++b.extract ib++a.extract ia).toList:=by
 have:=m.finA h
 simpa only [Array.toList_append,bn] using this
theorem MH.finR {a b out:Array Keyed} {na nb:Nat} (m:MH lt a.toList b.toList out.toList na nb) (h:∀ x∈b.toList.take nb, ∀ y∈a.toList,lt y x=false):Res lt a.toList b.toList (b.extract 0 nb++a.extract 0 na++out.reverse).toList:=by
 have:=m.finB h
 simpa only [Array.toList_append,Array.toList_reverse,aX] using this
theorem MH.finL {a b out:Array Keyed} {na nb:Nat} (m:MH lt a.toList b.toList out.toList na nb) (h:na=0∨nb=0):Res lt a.toList b.toList (a.extract 0 na++b.extract 0 nb++out.reverse).toList:=by
 have:=m.fin h
 simpa only [Array.toList_append,Array.toList_reverse,aX] using this
theorem CG (c:Cm prog w A s kd P lt) :
 ∃ (g:Bm) (lo hi:Bn),(fZ prog w A E s kd P lt g/\(fZ prog w A E s kd P lt g->gb prog w A E s kd P lt lo)/\(fZ prog w A E s kd P lt g->gb prog w A E s kd P lt hi))/\(fZ prog w A E s kd P lt g->gb prog w A E s kd P lt lo->gb prog w A E s kd P lt hi ->
  ∀ (i sa na pa sb nb pb:Nat) (L r1 r2 R:List Keyed) (st:SortSt) (Q:Bool->SortSt->Prop),kindOf st=kd->failedOf st=none->(pendingOf st)[i]? = some (sa,na,pa)->(pendingOf st)[i+1]? = some (sb,nb,pb) ->
   (arrOf st).toList=L++(r1++r2)++R->sa=L.length->na=r1.length->sb=L.length+r1.length->nb=r2.length->r1≠[]->r2≠[]->(∀ x∈r1,P x)->(∀ x∈r2,P x)->Ord lt r1->Ord lt r2 ->
   (∀ m st',(arrOf st').toList=L++m++R->m.Perm (r1++r2)->Ord lt m->kindOf st'=kd->failedOf st'=none->pendingOf st'=((pendingOf st).setIfInBounds i (sa,na+nb,pa)).eraseIdxIfInBounds (i+1)->Q true st') ->
   wpS (PySem.model prog w) A E s (mergeAt' i) Q st):=by
 apply Exists.intro
 apply Exists.intro
 apply Exists.intro
 apply And.intro
 rotate_left
 ·intro hg Fj Fk i sa na pa sb nb pb L r1 r2 R st Q hk hf h1 h2 Z EK E9 EL Ep Fl Fm EV EW o1 o2 q
  unfold mergeAt'
  refine wpS_bind (wpS_get ?_)
  rw [h1,h2]
  dsimp only
  refine wpS_bind (zw ?_)
  obtain ⟨y0,t2,rfl⟩:∃ y t,r2=y::t:=by cases r2 with | nil=>exact absurd rfl Fm | cons y t=>exact ⟨y,t,rfl⟩
  have hz:(arrOf st)[sb]? = some y0:=by
   rw [<- Array.getElem?_toList,Z,EL];simp
  refine wpS_bind (ay hz ?_)
  refine wpS_bind (hg false y0 (arrOf st) L r1 (y0::t2++R) sa na 0 _ _ hk (EW _ (by simp)) (by rw [Z];simp) EK E9 EV (by rw [E9];exact List.length_pos_iff.mpr Fl) o1 fun X Y e hX hY => ?_)
  dsimp only
  have lX:∀ x∈X,lt y0 x=false:=fun x hx=>by have:=hX x hx;simpa [bey] using this
  have lY:∀ x∈Y,lt x y0=false:=fun x hx=>c.asym _ _ (by have:=hY x hx;simpa [bey] using this)
  have hlen:na - X.length=Y.length:=by rw [E9,e];simp
  subst e
  obtain ⟨oX,oY,oXY⟩:=List.pairwise_append.mp o1
  have oy:=List.pairwise_cons.mp o2
  have EM:∀ x∈X, ∀ z∈y0::t2,lt z x=false:=fun x hx z hz=>by
   rcases List.mem_cons.mp hz with h | h
   ·rw [h];exact lX x hx
   ·exact c.le_trans (lX x hx) (oy.1 z h)
  refine ae (fun h => ?_) (fun h => ?_)
  ·have EN:Y=[]:=List.length_eq_zero_iff.mp (by rw [<- hlen];simpa using h)
   subst EN
   refine aa (q (X++(y0::t2)) _ (by simpa using Z) (by simp) ?_ hk hf rfl)
   exact List.pairwise_append.mpr ⟨oX,o2,EM⟩
  ·have EN : 0 < Y.length:=by
    have:na - X.length≠0:=by simpa using h
    lia
   obtain ⟨Y0,xl,rfl⟩:∃ Y0 xl,Y=Y0++[xl]:=⟨Y.dropLast,Y.getLast (by intro z;rw [z] at EN;simp at EN),(List.dropLast_concat_getLast _).symm⟩
   have Fn:(arrOf st)[sa+X.length+(na - X.length) - 1]? = some xl:=by
    rw [<- Array.getElem?_toList,Z,hlen,EK]
    simp only [List.append_assoc,List.length_append,List.length_singleton]
    rw [List.getElem?_append_right (by lia),List.getElem?_append_right (by lia),List.getElem?_append_right (by lia)]
    rw [show L.length+X.length+(Y0.length+1) - 1 - L.length - X.length - Y0.length=0 by lia];rfl
   refine wpS_bind (ay Fn ?_)
   refine wpS_bind (hg true xl (arrOf st) (L++(X++(Y0++[xl]))) (y0::t2) R sb nb (nb - 1) _ _ hk (EV _ (by simp)) (by rw [Z];simp) (by rw [EL];simp) Ep EW (by rw [Ep];simp) o2 fun X2 Y2 e2 Ea Eb => ?_)
   dsimp only
   have Fo:∀ x∈X2,lt xl x=false:=fun x hx=>c.asym _ _ (by have:=Ea x hx;simpa [bey] using this)
   have F7:∀ x∈Y2,lt x xl=false:=fun x hx=>by have:=Eb x hx;simpa [bey] using this
   have Fp:Ord lt (X2++Y2):=by rw [<- e2];exact o2
   obtain ⟨Fq,Fr,F8⟩:=List.pairwise_append.mp Fp
   obtain ⟨Fz,_,oYl⟩:=List.pairwise_append.mp oY
   have lYY:∀ x∈Y0++[xl], ∀ z∈Y2,lt z x=false:=fun x hx z hz=>by
    rcases List.mem_append.mp hx with h | h
    ·exact c.le_trans (oYl x h xl (by simp)) (F7 z hz)
    ·simp at h;subst h;exact F7 z hz
   refine ae (fun h => ?_) (fun h => ?_)
   ·have E3:X2=[]:=List.length_eq_zero_iff.mp (by simpa using h)
    subst E3
    have e2:y0::t2=Y2:=by simpa using e2
    refine aa (q (X++(Y0++[xl])++(y0::t2)) _ (by simpa using Z) (List.Perm.refl _) ?_ hk hf rfl)
    refine List.pairwise_append.mpr ⟨o1,o2,fun x hx z hz => ?_⟩
    rcases List.mem_append.mp hx with g | g
    ·exact EM x g z hz
    ·exact lYY x g z (by rw [<- e2];exact hz)
   ·have E3:X2≠[]:=fun z=>h (by rw [z];rfl)
    have hx:((arrOf st).extract (sa+X.length) sb).toList=Y0++[xl]:=by
     rw [Array.toList_extract,Z,EK,EL]
     simp only [List.extract]
     have e1:(L++(X++(Y0++[xl])++y0::t2)++R).drop (L.length+X.length)=(Y0++[xl])++(y0::t2++R):=by
      rw [<- List.drop_drop];simp
     rw [e1,show L.length+(X++(Y0++[xl])).length - (L.length+X.length)=(Y0++[xl]).length by simp only [List.length_append];lia,List.take_left]
    have hy:((arrOf st).extract sb (sb+X2.length)).toList=X2:=by
     rw [Array.toList_extract,Z,EL]
     simp only [List.extract]
     have e1:(L++(X++(Y0++[xl])++y0::t2)++R).drop (L.length+(X++(Y0++[xl])).length)=(y0::t2)++R:=by
      rw [<- List.drop_drop];simp
     rw [e1,e2]
     simp
    have G:∀ (r:Array Keyed) (Dy:SortSt),r.toList.Perm ((Y0++[xl])++X2)->Ord lt r.toList->Same (PyProof.Rows.SortSt.mk' (kindOf st) (arrOf st) (((pendingOf st).setIfInBounds i (sa,na+nb,pa)).eraseIdxIfInBounds (i+1)) (gallopOf st) (failedOf st)) Dy -> ∀ Dv:SortSt,arrOf Dv=List.foldl (fun a x=>a.setIfInBounds (sa+X.length+x.snd) x.fst) (arrOf Dy) r.toList.zipIdx->kindOf Dv=kindOf Dy->failedOf Dv=failedOf Dy->pendingOf Dv=pendingOf Dy->Q (failedOf Dv).isNone Dv:=by
     intro r Dy hp ho hs Dv g1 g2 g3 g4
     have F9:failedOf Dv=none:=g3.trans (hs.fail.trans hf)
     rw [F9]
     refine q (X++r.toList++Y2) Dv ?_ ?_ ?_ (g2.trans (hs.kind.trans hk)) F9 (g4.trans hs.pend)
     ·rw [g1,hs.arr]
      have e3:(arrOf st).toList=(L++X)++((Y0++[xl])++X2)++(Y2++R):=by
       rw [Z,e2];simp
      rw [show sa+X.length=(L++X).length by rw [EK];simp]
      rw [wv _ _ _ _ _ e3 (hp.length_eq)]
      simp
     ·rw [e2]
      refine List.Perm.trans (List.Perm.append_right _ (List.Perm.append_left _ hp)) ?_
      simp
     ·refine List.pairwise_append.mpr ⟨List.pairwise_append.mpr ⟨oX,ho,fun x hx z hz => ?_⟩,Fr,fun x hx z hz => ?_⟩
      ·rcases List.mem_append.mp (hp.mem_iff.mp hz) with g | g
       ·exact oXY x hx z g
       ·exact EM x hx z (by rw [e2];exact List.mem_append_left _ g)
      ·rcases List.mem_append.mp hx with g | g
       ·exact EM x g z (by rw [e2];exact List.mem_append_right _ hz)
       ·rcases List.mem_append.mp (hp.mem_iff.mp g) with g | g
        ·exact lYY x g z hz
        ·exact F8 x g z hz
    have ET:∀ x y,((arrOf st).extract (sa+X.length) sb)[0]? = some x->((arrOf st).extract sb (sb+X2.length))[0]? = some y->lt x y=false:=by
     intro x y DU Er
     rw [<- Array.getElem?_toList,hx] at DU
     rw [<- Array.getElem?_toList,hy] at Er
     have Es:=List.mem_of_getElem? DU
     have:y=y0:=by
      cases X2 with
      | nil=>exact absurd rfl E3
      | cons z t=>simp at e2 Er;rw [<- Er, <- e2.1]
     subst this
     exact lY x Es
    have preL:∀ x y,((arrOf st).extract (sa+X.length) sb)[((arrOf st).extract (sa+X.length) sb).size - 1]? = some x->((arrOf st).extract sb (sb+X2.length))[((arrOf st).extract sb (sb+X2.length)).size - 1]? = some y->lt x y=false:=by
     intro x y DU Er
     rw [<- Array.getElem?_toList, <- Array.length_toList,hx] at DU
     rw [<- Array.getElem?_toList, <- Array.length_toList,hy] at Er
     have DV:=List.mem_of_getElem? Er
     have:x=xl:=by simp at DU;exact DU.symm
     subst this
     exact Fo y DV
    have Fa : 0 < ((arrOf st).extract (sa+X.length) sb).size:=by rw [<- Array.length_toList,hx];simp
    have Fb : 0 < ((arrOf st).extract sb (sb+X2.length)).size:=by rw [<- Array.length_toList,hy];exact List.length_pos_iff.mpr E3
    have Fc:∀ x∈((arrOf st).extract (sa+X.length) sb).toList,P x:=by rw [hx];exact fun x hx=>EV x (List.mem_append_right _ hx)
    have Fd:∀ x∈((arrOf st).extract sb (sb+X2.length)).toList,P x:=by rw [hy];exact fun x hx=>EW x (by rw [e2];exact List.mem_append_left _ hx)
    have Fe:Ord lt ((arrOf st).extract (sa+X.length) sb).toList:=by rw [hx];exact oY
    have Ff:Ord lt ((arrOf st).extract sb (sb+X2.length)).toList:=by rw [hy];exact Fq
    refine ae (fun h => ?_) (fun h => ?_)
    ·refine wpS_bind (Fj _ _ _ _ hk Fc Fd Fa Fb Fe Ff ET preL fun r Dy hp ho hs => ?_)
     rw [hx,hy] at hp
     refine wpS_bind (wpS_modify ?_)
     refine wpS_bind (wpS_get ?_)
     exact aa (G r Dy hp ho hs _ rfl rfl rfl rfl)
    ·refine wpS_bind (Fk _ _ _ _ hk Fc Fd Fa Fb Fe Ff ET preL fun r Dy hp ho hs => ?_)
     rw [hx,hy] at hp
     refine wpS_bind (wpS_modify ?_)
     refine wpS_bind (wpS_get ?_)
     exact aa (G r Dy hp ho hs _ rfl rfl rfl rfl)
 apply And.intro
 ·intro left key arr L xs R base n hint st Q hk E4 Z EX hn hP hh hs q
  subst EX hn
  have at_:∀ i,i < xs.length -> ∃ x,xs[i]? = some x/\arr[L.length+i]? = some x/\P x:=by
   intro i hi
   refine ⟨xs[i],List.getElem?_eq_getElem hi, ?_,hP _ (List.getElem_mem _)⟩
   rw [<- Array.getElem?_toList,Z,List.append_assoc,List.getElem?_append_right (by lia),List.getElem?_append_left (by lia)]
   rw [show L.length+i - L.length=i by lia]
   exact List.getElem?_eq_getElem hi
  obtain ⟨x0,DU,Et,Fs⟩:=at_ hint hh
  refine wpS_bind (fE c hk E4 Fs Et ?_)
  try dsimp only
  refine ae (fun hb => ?_) (fun hb => ?_)
  ·skip
   refine wpS_bind (az (Q:=fun r st'=>st'=st /\ ∃ la ofs,r=(none,la,ofs)/\hint+la < xs.length/\la < ofs/\(∀ j x,j < hint+la+1->xs[j]? = some x->bey lt left key x=true)/\(xs.length<=hint+ofs ∨ ∀ j x,hint+ofs<=j->xs[j]? = some x->bey lt left key x=false))
    (wpS_forRange (fun i r st'=>st'=st /\ ∃ la ofs,r=(none,la,ofs)/\hint+la < xs.length/\la < ofs/\i+1<=ofs/\(∀ j x,j < hint+la+1->xs[j]? = some x->bey lt left key x=true)) ?_ ?_ ⟨rfl,0,1,rfl,hh,by lia,by lia,gc c hs DU hb⟩) ?_)
   ·rintro i r st' _ hi ⟨rfl,la,ofs,rfl,h1,h2,h3,h4⟩
    try dsimp only
    refine ae (fun Ec => ?_) (fun Ec => ?_)
    ·exact aa ⟨rfl,la,ofs,rfl,h1,h2,h4, .inl (by lia)⟩
    ·skip
     obtain ⟨x1,DP,Ed,Ee⟩:=at_ (hint+ofs) (by lia)
     refine wpS_bind (fE c hk E4 Ee Ed ?_)
     try dsimp only
     refine ae (fun hf => ?_) (fun hf => ?_)
     ·exact aa ⟨rfl,la,ofs,rfl,h1,h2,h4, .inr (gd c hs DP (by simpa using hf))⟩
     ·exact aa ⟨rfl,ofs,2*ofs+1,rfl,by lia,by lia,by lia,gc c hs DP (by simpa using hf)⟩
   ·rintro r st' ⟨rfl,la,ofs,rfl,h1,h2,h3,h4⟩
    exact ⟨rfl,la,ofs,rfl,h1,h2,h4, .inl (by lia)⟩
   ·rintro r st' ⟨rfl,la,ofs,rfl,h1,h2,h3,h4⟩
    try dsimp only
    have hG:Gal lt left key xs (hint+la+1) (hint+min ofs (xs.length - hint)):=by
     refine ⟨by lia,by lia,h3,fun i x hi hx => ?_⟩
     have FA:i < xs.length:=(List.getElem?_eq_some_iff.mp hx).1
     rcases h4 with h4 | h4
     ·lia
     ·exact h4 i x (by lia) hx
    generalize hint+la+1=lo at hG
    generalize hint+min ofs (xs.length - hint)=hi at hG
    refine wpS_bind (az (Q:=fun r st''=>st''=st' /\ ∃ k,r=(none,k,k)/\Gal lt left key xs k k)
     (wpS_forRange (fun i r st''=>st''=st' /\ ∃ lo hi,r=(none,lo,hi)/\Gal lt left key xs lo hi/\hi - lo+i<=xs.length) ?_ ?_ ⟨rfl,lo,hi,rfl,hG,by have:=hG.len;lia⟩) ?_)
    ·rintro i r st'' _ hi ⟨rfl,lo,hi,rfl,hG,hm⟩
     try dsimp only
     have hl:=hG.le
     have Eu:=hG.len
     refine ae (fun Ec => ?_) (fun Ec => ?_)
     ·exact aa ⟨rfl,hi,by rw [show lo=hi by lia],by rw [show lo=hi by lia] at hG;exact hG⟩
     ·skip
      obtain ⟨x1,DP,Ed,Ee⟩:=at_ (lo+(hi - lo) / 2) (by lia)
      refine wpS_bind (fE c hk E4 Ee Ed ?_)
      try dsimp only
      refine ae (fun hf => ?_) (fun hf => ?_)
      ·exact aa ⟨rfl,_,_,rfl,⟨by lia,Eu,gc c hs DP hf,hG.dn⟩,by lia⟩
      ·exact aa ⟨rfl,_,_,rfl,⟨by lia,by lia,hG.up,gd c hs DP (by simpa using hf)⟩,by lia⟩
    ·rintro r st'' ⟨rfl,lo,hi,rfl,hG,hm⟩
     have hl:=hG.le
     exact ⟨rfl,hi,by rw [show lo=hi by lia],by rw [show lo=hi by lia] at hG;exact hG⟩
    ·rintro r st'' ⟨rfl,k,rfl,hG⟩
     obtain ⟨X,Y,e,hl,hX,hY⟩:=hG.out
     subst hl
     exact aa (q X Y e hX hY)
  ·skip
   refine wpS_bind (az (Q:=fun r st'=>st'=st /\ ∃ la ofs,r=(none,la,ofs)/\la<=hint/\la < ofs/\(∀ j x,hint - la<=j->xs[j]? = some x->bey lt left key x=false)/\(hint < ofs ∨ ∀ j x,j < hint - ofs+1->xs[j]? = some x->bey lt left key x=true))
    (wpS_forRange (fun i r st'=>st'=st /\ ∃ la ofs,r=(none,la,ofs)/\la<=hint/\la < ofs/\i+1<=ofs/\(∀ j x,hint - la<=j->xs[j]? = some x->bey lt left key x=false)) ?_ ?_ ⟨rfl,0,1,rfl,by lia,by lia,by lia,gd c hs DU (by simpa using hb)⟩) ?_)
   ·rintro i r st' _ hi ⟨rfl,la,ofs,rfl,h1,h2,h3,h4⟩
    try dsimp only
    refine ae (fun Ec => ?_) (fun Ec => ?_)
    ·exact aa ⟨rfl,la,ofs,rfl,h1,h2,h4, .inl (by lia)⟩
    ·skip
     obtain ⟨x1,DP,Ed,Ee⟩:=at_ (hint - ofs) (by lia)
     refine wpS_bind (fE c hk E4 Ee Ed ?_)
     try dsimp only
     refine ae (fun hf => ?_) (fun hf => ?_)
     ·exact aa ⟨rfl,la,ofs,rfl,h1,h2,h4, .inr (gc c hs DP hf)⟩
     ·exact aa ⟨rfl,ofs,2*ofs+1,rfl,by lia,by lia,by lia,gd c hs DP (by simpa using hf)⟩
   ·rintro r st' ⟨rfl,la,ofs,rfl,h1,h2,h3,h4⟩
    exact ⟨rfl,la,ofs,rfl,h1,h2,h4, .inl (by lia)⟩
   ·rintro r st' ⟨rfl,la,ofs,rfl,h1,h2,h3,h4⟩
    try dsimp only
    have hG:Gal lt left key xs (hint+1 - min ofs (hint+1)) (hint - la):=by
     refine ⟨by lia,by lia,fun i x hi hx => ?_,h3⟩
     rcases h4 with h4 | h4
     ·lia
     ·exact h4 i x (by lia) hx
    generalize hint+1 - min ofs (hint+1)=lo at hG
    generalize hint - la=hi at hG
    refine wpS_bind (az (Q:=fun r st''=>st''=st' /\ ∃ k,r=(none,k,k)/\Gal lt left key xs k k)
     (wpS_forRange (fun i r st''=>st''=st' /\ ∃ lo hi,r=(none,lo,hi)/\Gal lt left key xs lo hi/\hi - lo+i<=xs.length) ?_ ?_ ⟨rfl,lo,hi,rfl,hG,by have:=hG.len;lia⟩) ?_)
    ·rintro i r st'' _ hi ⟨rfl,lo,hi,rfl,hG,hm⟩
     try dsimp only
     have hl:=hG.le
     have Eu:=hG.len
     refine ae (fun Ec => ?_) (fun Ec => ?_)
     ·exact aa ⟨rfl,hi,by rw [show lo=hi by lia],by rw [show lo=hi by lia] at hG;exact hG⟩
     ·skip
      obtain ⟨x1,DP,Ed,Ee⟩:=at_ (lo+(hi - lo) / 2) (by lia)
      refine wpS_bind (fE c hk E4 Ee Ed ?_)
      try dsimp only
      refine ae (fun hf => ?_) (fun hf => ?_)
      ·exact aa ⟨rfl,_,_,rfl,⟨by lia,Eu,gc c hs DP hf,hG.dn⟩,by lia⟩
      ·exact aa ⟨rfl,_,_,rfl,⟨by lia,by lia,hG.up,gd c hs DP (by simpa using hf)⟩,by lia⟩
    ·rintro r st'' ⟨rfl,lo,hi,rfl,hG,hm⟩
     have hl:=hG.le
     exact ⟨rfl,hi,by rw [show lo=hi by lia],by rw [show lo=hi by lia] at hG;exact hG⟩
    ·rintro r st'' ⟨rfl,k,rfl,hG⟩
     obtain ⟨X,Y,e,hl,hX,hY⟩:=hG.out
     subst hl
     exact aa (q X Y e hX hY)
 apply And.intro
 ·intro hg a b st Q hk Ef Eg EO EQ sa sb Ev Ew q
  refine wpS_bind (cn ?_)
  obtain ⟨b0,ER,Ex,Fu⟩:=ax EQ
  obtain ⟨a0,Et,Em,Fv⟩:=ax EO
  refine wpS_bind (ay ER ?_)
  have m0:ML lt a.toList b.toList [] 0 0:=⟨sa,sb,by simp⟩
  have m1:ML lt a.toList b.toList [b0] 0 1:=m0.pushB c Em Ex (Ev a0 b0 Et ER)
  have DW:∀ x∈b.toList, ∀ (i:Nat),i+1=a.size -> ∀ y∈a.toList.drop i,lt y x=false:=by
   intro x hx i hi y hy
   obtain ⟨aL,ES,Ey,_⟩:=ax (a:=a) (i:=i) (by lia)
   obtain ⟨bL,EY,Eo,_⟩:=ax (a:=b) (i:=b.size - 1) (by lia)
   have e:a.toList.drop i=[aL]:=by
    rw [dv Ey,List.drop_eq_nil_of_le (by simp;lia)];rfl
   rw [e] at hy
   simp at hy;subst hy
   have hl:=Ew y bL (by rw [show a.size - 1=i by lia];exact ES) EY
   obtain ⟨j,hj,e⟩:=List.mem_iff_getElem.mp hx
   have Eh:b.toList[j]? = some x:=by rw [<- e];exact List.getElem?_eq_getElem hj
   by_cases hjb:j=b.size - 1
   ·subst hjb;rw [Eo] at Eh;cases Eh;exact hl
   ·have:=eA sb (show j < b.size - 1 by simp at hj;lia) Eh Eo
    exact c.le_trans this hl
  try dsimp -zeta -zetaHave -zetaUnused only
  refine ae (fun h => ?_) (fun h => ?_)
  ·skip
   have h : 1=b.size:=by simpa using h
   refine aa ?_
   have r:=m1.fin (by simp;lia)
   exact q _ _ (by simpa only [Array.toList_append,Array.toList_push,List.toList_toArray,bn] using r.1) (by simpa only [Array.toList_append,Array.toList_push,List.toList_toArray,bn] using r.2) Same.refl
  ·skip
   refine ae (fun h2 => ?_) (fun h2 => ?_)
   ·skip
    have h2 : 0+1=a.size:=by simpa using h2
    refine aa ?_
    have r:=m1.finA (DW · · 0 h2)
    exact q _ _ (by simpa only [Array.toList_append,Array.toList_push,List.toList_toArray,bn] using r.1) (by simpa only [Array.toList_append,Array.toList_push,List.toList_toArray,bn] using r.2) Same.refl
   ·skip
    have h : 1≠b.size:=by simpa using h
    have h2 : 0+1≠a.size:=by simpa using h2
    refine wpS_bind (wpS_get ?_)
    try dsimp -zeta -zetaHave -zetaUnused only
    refine wpS_bind (az (Q:=fun r st'=>Same st st' /\ ∃ res t,r=(some res,t)/\Res lt a.toList b.toList res.toList)
     (wpS_forRange (fun i r st'=>Same st st' /\ ∃ out ia ib mg,r=(none,out,ia,ib,mg)/\ML lt a.toList b.toList out.toList ia ib/\ia+1 < a.size/\ib < b.size/\i+1<=out.size) ?_ ?_ ⟨Same.refl,_,_,_,_,rfl,m1,by lia,by lia,by simp⟩) ?_)
    ·rintro i r DQ _ hi ⟨sm,out,ia,ib,mg,rfl,m,EZ,F1,hsz⟩
     try dsimp -zeta -zetaHave -zetaUnused only
     refine wpS_bind (az (Q:=fun r st'=>st'=DQ/\((∃ B DI DM ac bc,r=(none,B,DI,DM,ac,bc)/\ML lt a.toList b.toList B.toList DI DM/\DI+1 < a.size/\DM < b.size/\i+2<=B.size) ∨ ∃ res t,r=(some res,t)/\Res lt a.toList b.toList res.toList))
      (wpS_forRange (fun j r st'=>st'=DQ /\ ∃ B DI DM ac bc,r=(none,B,DI,DM,ac,bc)/\ML lt a.toList b.toList B.toList DI DM/\DI+1 < a.size/\DM < b.size/\i+1+j<=B.size) ?_ ?_ ⟨rfl,_,_,_,_,_,rfl,m,EZ,F1,by lia⟩) ?_)
     ·rintro j r Dy _ hj ⟨rfl,B,DI,DM,ac,bc,rfl,m2,h1,h2,h3⟩
      try dsimp only
      obtain ⟨y,hy,DR,DV⟩:=ax (a:=b) h2
      obtain ⟨x,hx,Ez,Es⟩:=ax (a:=a) (i:=DI) (by lia)
      refine wpS_bind (ay hy (wpS_bind (ay hx (wpS_bind (j5 c (sm.kind.trans hk) (Eg _ DV) (Ef _ Es) ?_)))))
      try dsimp only
      refine ae (fun hl => ?_) (fun hl => ?_)
      ·skip
       refine wpS_bind (ay hy ?_)
       try dsimp only
       have m3:=m2.pushB c Ez DR (c.asym _ _ hl)
       refine ae (fun h => ?_) (fun h => ?_)
       ·skip
        have h:DM+1=b.size:=by simpa using h
        exact aa ⟨rfl, .inr ⟨_,_,rfl,by simpa only [Array.toList_append,Array.toList_push,List.toList_toArray,bn] using m3.fin (by simp;lia)⟩⟩
       ·skip
        have h:DM+1≠b.size:=by simpa using h
        refine ae (fun _ => ?_) (fun _ => ?_)
        ·exact aa ⟨rfl, .inl ⟨_,_,_,_,_,rfl,by simpa only [Array.toList_append,Array.toList_push] using m3,h1,by lia,by simp;lia⟩⟩
        ·exact aa ⟨rfl,_,_,_,_,_,rfl,by simpa only [Array.toList_append,Array.toList_push] using m3,h1,by lia,by simp;lia⟩
      ·skip
       refine wpS_bind (ay hx ?_)
       try dsimp only
       have m3:=m2.pushA c Ez DR (by simpa using hl)
       refine ae (fun h => ?_) (fun h => ?_)
       ·skip
        have h:DI+1+1=a.size:=by simpa using h
        exact aa ⟨rfl, .inr ⟨_,_,rfl,by simpa only [Array.toList_append,Array.toList_push,List.toList_toArray,bn] using m3.finA (DW · · _ h)⟩⟩
       ·skip
        have h:DI+1+1≠a.size:=by simpa using h
        refine ae (fun _ => ?_) (fun _ => ?_)
        ·exact aa ⟨rfl, .inl ⟨_,_,_,_,_,rfl,by simpa only [Array.toList_append,Array.toList_push] using m3,by lia,h2,by simp;lia⟩⟩
        ·exact aa ⟨rfl,_,_,_,_,_,rfl,by simpa only [Array.toList_append,Array.toList_push] using m3,by lia,h2,by simp;lia⟩
     ·rintro r Dy ⟨rfl,B,DI,DM,ac,bc,rfl,m2,h1,h2,h3⟩
      exact ⟨rfl, .inl ⟨_,_,_,_,_,rfl,m2,h1,h2,by lia⟩⟩
     ·rintro r Dy ⟨rfl,⟨B,DI,DM,ac,bc,rfl,m2,h1,h2,h3⟩ | ⟨res,t,rfl,J⟩⟩
      ·dsimp -zeta -zetaHave -zetaUnused only
       refine wpS_bind (cn ?_)
       refine wpS_bind (az (Q:=fun r st'=>Same st st'/\((∃ F DA Dw DJ ac bc,r=(none,F,DA,Dw,DJ,ac,bc)/\ML lt a.toList b.toList F.toList DA Dw/\DA+1 < a.size/\Dw < b.size/\i+2<=F.size) ∨ ∃ res t,r=(some res,t)/\Res lt a.toList b.toList res.toList))
        (wpS_forRange (fun j r st'=>Same st st' /\ ∃ F DA Dw DJ ac bc,r=(none,F,DA,Dw,DJ,ac,bc)/\ML lt a.toList b.toList F.toList DA Dw/\DA+1 < a.size/\Dw < b.size/\i+2<=F.size) ?_ ?_ ⟨sm,_,_,_,_,_,_,rfl,m2,h1,h2,h3⟩) ?_)
       ·rintro j r Dv _ hj ⟨DK,F,DA,Dw,DJ,EA,EB,rfl,m3,h1,h2,h5⟩
        obtain ⟨y,hy,DR,DV⟩:=ax (a:=b) h2
        refine xS fun QQ hQ => ?_
        have G:∀ (st':SortSt) (res:Array Keyed) t,Same st st'->Res lt a.toList b.toList res.toList->QQ (.done (some res,t)) st':=fun st' res t hs hr=>hQ _ _ ⟨hs, .inr ⟨_,_,rfl,hr⟩⟩
        have F3:∀ (st':SortSt) (out:Array Keyed) ia ib mg ac bc,Same st st'->ML lt a.toList b.toList out.toList ia ib->ia+1 < a.size->ib < b.size->i+2<=out.size->QQ (.done (none,out,ia,ib,mg,ac,bc)) st'/\QQ (.yield (none,out,ia,ib,mg,ac,bc)) st':=fun st' out ia ib mg ac bc hs p1 p2 p3 p4=>⟨hQ _ _ ⟨hs, .inl ⟨_,_,_,_,_,_,rfl,p1,p2,p3,p4⟩⟩,hQ _ _ ⟨hs,_,_,_,_,_,_,rfl,p1,p2,p3,p4⟩⟩
        clear hQ hj
        extract_lets -underBinder s0 vout s1 via s2 vib s3 vmg s4 vac vbc jp vmx
        have EC:∀ mg,wpS (PySem.model prog w) A E s (jp () mg) QQ Dv:=by
         intro mg
         dsimp -zeta -zetaHave -zetaUnused only [jp,s0,vout,s1,via,s2,vib,s3,vmg,s4,vac,vbc]
         clear vmx jp vbc vac s4 vmg s3 vib s2 via s1 vout s0
         refine wpS_bind (wpS_modify ?_)
         refine tD (P:=Same st) (DK.trans ⟨rfl,rfl,rfl,rfl⟩) fun Ei DB => ?_
         have ED:=DB.kind.trans hk
         refine wpS_bind (ay hy ?_)
         refine wpS_bind (hg false y a (a.toList.take DA) (a.toList.drop DA) [] _ _ _ _ _ ED (Eg _ DV) (by simp) (eR (by lia)) (by simp) (fun x hx=>Ef x (List.mem_of_mem_drop hx)) (by lia) ((List.pairwise_append.mp m3.pa).2.1) fun X Y e hX hY => ?_)
         dsimp -zeta -zetaHave -zetaUnused only
         have m4:=m3.galA c e DR fun x hx=>xT (hX x hx)
         have DC:∀ x4,a.toList[DA+X.length]? = some x4->lt x4 y=false:=fun x4 DX=>c.asym _ _ (tE (hY x4 (no e DX)))
         have Ej:=nv e
         extract_lets -underBinder +onlyGivenNames vac DY
         clear_value vac
         have E5:∀ (O:Array Keyed) (DS:Nat),ML lt a.toList b.toList O.toList DS Dw->(∀ x4,a.toList[DS]? = some x4->lt x4 y=false)->DS+1 < a.size->i+2<=O.size->wpS (PySem.model prog w) A E s (DY () O DS) QQ Ei:=by
          intro O DS F4 DZ Fw EE
          dsimp -zeta -zetaHave -zetaUnused only [DY]
          clear DY Ej DC m4 hX hY
          obtain ⟨x4,DX,DG,EF⟩:=ax (a:=a) (i:=DS) (by lia)
          refine wpS_bind (ay hy ?_)
          have m5:=F4.pushB c DG DR (DZ x4 DG)
          rw [<- Array.toList_push] at m5
          have DH:i+2<=(O.push y).size:=by rw [Array.size_push];lia
          try dsimp -zeta -zetaHave -zetaUnused only
          extract_lets -underBinder +onlyGivenNames vo5 vi5
          dsimp -zeta -zetaHave -zetaUnused only [vo5]
          clear vo5
          have e5:vi5=Dw+1:=rfl
          clear_value vi5
          subst e5
          revert m5 DH
          generalize O.push y=out5
          intro m5 DH
          refine ae (fun h => ?_) (fun h => ?_)
          ·exact aa (G _ _ _ DB (m5.finR (by have h:=eq_of_beq h;lia)))
          ·have h:Dw+1≠b.size:=by simpa using h
           refine wpS_bind (ay DX ?_)
           refine wpS_bind (hg true x4 b (b.toList.take (Dw+1)) (b.toList.drop (Dw+1)) [] _ _ _ _ _ ED (Ef _ EF) (by simp) (eR (by lia)) (by simp) (fun x hx=>Eg x (List.mem_of_mem_drop hx)) (by lia) ((List.pairwise_append.mp m5.pb).2.1) fun X2 Y2 e2 Ea Eb => ?_)
           dsimp -zeta -zetaHave -zetaUnused only
           have m6:=m5.galB c e2 DG fun x hx=>c.asym _ _ (xU (Ea x hx))
           have DD:∀ y6,b.toList[Dw+1+X2.length]? = some y6->lt y6 x4=false:=fun y6 EG=>tF (Eb y6 (no e2 EG))
           have Ek:=nv e2
           extract_lets -underBinder +onlyGivenNames vbc E1
           clear_value vbc
           have E6:∀ (Dx:Array Keyed) (El:Nat),ML lt a.toList b.toList Dx.toList DS El->(∀ y6,b.toList[El]? = some y6->lt y6 x4=false)->El < b.size->i+2<=Dx.size->wpS (PySem.model prog w) A E s (E1 () Dx El) QQ Ei:=by
            intro Dx El F5 E2 EU Fg
            dsimp -zeta -zetaHave -zetaUnused only [E1]
            clear E1 Ek DD m6 Ea Eb m5 DH EE h5 h1 h2 hsz F1 EZ h3
            obtain ⟨y6,EG,E7,Fh⟩:=ax (a:=b) (i:=El) EU
            refine wpS_bind (ay DX ?_)
            have m7:=F5.pushA c DG E7 (E2 y6 E7)
            rw [<- Array.toList_push] at m7
            dsimp only
            refine ae (fun h => ?_) (fun h => ?_)
            ·exact aa (G _ _ _ DB (m7.finL (DW · · (DS+1) (eq_of_beq h))))
            ·have h:DS+1+1≠a.size:=by simpa using h
             have:=F3 Ei (Dx.push x4) (DS+1) El mg vac vbc DB m7 (by lia) EU (by rw [Array.size_push];lia)
             exact ae (fun _=>aa this.1) (fun _=>aa this.2)
           clear_value E1
           refine ae (fun h0 => ?_) (fun h0 => ?_)
           ·dsimp only
            have m6:=m6.cut (a:=b) e2
            refine ae (fun h => ?_) (fun h => ?_)
            ·exact aa (G _ _ _ DB (m6.finR (by have h:=eq_of_beq h;lia)))
            ·have h:Dw+1+X2.length≠b.size:=by simpa using h
             exact E6 _ _ m6 DD (by lia) (by rw [Array.size_append];lia)
           ·have E3:X2=[]:=List.length_eq_zero_iff.mp (by lia)
            subst E3
            exact E6 _ _ m5 DD (by lia) DH
         clear_value DY
         refine ae (fun h0 => ?_) (fun h0 => ?_)
         ·dsimp only
          have m4:=m4.cut (a:=a) e
          refine ae (fun h => ?_) (fun h => ?_)
          ·exact aa (G _ _ _ DB (m4.finL (DW · · _ (eq_of_beq h))))
          ·have h:DA+X.length+1≠a.size:=by simpa using h
           refine ae (fun h => ?_) (fun h9 => ?_)
           ·exact aa (G _ _ _ DB (m4.finS (by have h:=eq_of_beq h;lia)))
           ·have h9:DA+X.length≠a.size:=by simpa using h9
            exact E5 _ _ m4 DC (by lia) (by rw [Array.size_append];lia)
         ·have E3:X=[]:=List.length_eq_zero_iff.mp (by lia)
          subst E3
          exact E5 _ _ m3 DC h1 h5
        clear_value jp
        exact ae (fun _=>EC _) (fun _=>EC _)
       ·rintro r Dv ⟨DK,F,DA,Dw,DJ,EA,EB,rfl,m3,h1,h2,h5⟩
        exact ⟨DK, .inl ⟨_,_,_,_,_,_,rfl,m3,h1,h2,h5⟩⟩
       ·rintro r Dv ⟨DK,⟨F,DA,Dw,DJ,EA,EB,rfl,m3,h1,h2,h5⟩ | ⟨res,t,rfl,J⟩⟩
        ·dsimp -zeta -zetaHave -zetaUnused only
         refine wpS_bind (wpS_modify ?_)
         exact aa ⟨DK.trans ⟨rfl,rfl,rfl,rfl⟩,_,_,_,_,rfl,m3,h1,h2,by lia⟩
        ·exact aa ⟨DK,_,_,rfl,J⟩
      ·exact aa ⟨sm,_,_,rfl,J⟩
    ·rintro r DQ ⟨sm,out,ia,ib,mg,rfl,m,EZ,F1,hsz⟩
     have:=m.size (by simp;lia) (by simp;lia)
     simp at this
     lia
    ·rintro r DQ ⟨sm,res,t,rfl,J⟩
     exact aa (q res DQ J.1 J.2 sm)
 ·intro hg a b st Q hk Ef Eg EO EQ sa sb Ev Ew q
  refine wpS_bind (cn ?_)
  obtain ⟨bL,EY,Eo,Fx⟩:=ax (a:=b) (i:=b.size - 1) (by lia)
  obtain ⟨aL,ES,Ey,Fy⟩:=ax (a:=a) (i:=a.size - 1) (by lia)
  refine wpS_bind (ay ES ?_)
  have m0:MH lt a.toList b.toList [] a.size b.size:=⟨by rw [dL];simpa using sa,by rw [dL];simpa using sb,by rw [dL,dL];simp⟩
  have m1:MH lt a.toList b.toList [aL] (a.size - 1) b.size:=m0.pushA c EO EQ Ey Eo (Ew aL bL ES EY)
  have DO:∀ x∈b.toList.take 1, ∀ y∈a.toList,lt y x=false:=by
   intro x hx y hy
   obtain ⟨b0,ER,Ex,_⟩:=ax EQ
   obtain ⟨a0,Et,Em,_⟩:=ax EO
   have ex:x=b0:=by
    rw [cq (by lia) Ex] at hx
    simpa using hx
   subst ex
   have h:=Ev a0 x Et ER
   obtain ⟨j,hj,e⟩:=List.mem_iff_getElem.mp hy
   have Eh:a.toList[j]? = some y:=by rw [<- e];exact List.getElem?_eq_getElem hj
   by_cases hj0:j=0
   ·subst hj0;rw [Em] at Eh;cases Eh;exact h
   ·exact c.le_trans h (eA sa (by lia) Em Eh)
  try dsimp -zeta -zetaHave -zetaUnused only
  refine ae (fun h => ?_) (fun h => ?_)
  ·skip
   have h:a.size - 1=0:=by simpa using h
   refine aa ?_
   have r:=m1.fin (.inl h)
   exact q _ _ (by simpa only [Array.toList_append,Array.toList_push,Array.toList_reverse,List.toList_toArray,aX] using r.1) (by simpa only [Array.toList_append,Array.toList_push,Array.toList_reverse,List.toList_toArray,aX] using r.2) Same.refl
  ·skip
   refine ae (fun h2 => ?_) (fun h2 => ?_)
   ·skip
    have h2:b.size=1:=by simpa using h2
    refine aa ?_
    have r:=m1.finB (by rw [h2];exact DO)
    exact q _ _ (by simpa only [Array.toList_append,Array.toList_push,Array.toList_reverse,List.toList_toArray,aX] using r.1) (by simpa only [Array.toList_append,Array.toList_push,Array.toList_reverse,List.toList_toArray,aX] using r.2) Same.refl
   ·skip
    have h:a.size - 1≠0:=by simpa using h
    have h2:b.size≠1:=by simpa using h2
    refine wpS_bind (wpS_get ?_)
    try dsimp -zeta -zetaHave -zetaUnused only
    refine wpS_bind (az (Q:=fun r st'=>Same st st' /\ ∃ res t,r=(some res,t)/\Res lt a.toList b.toList res.toList)
     (wpS_forRange (fun i r st'=>Same st st' /\ ∃ na nb out mg,r=(none,na,nb,out,mg)/\MH lt a.toList b.toList out.toList na nb/\0 < na/\1 < nb/\na < a.size/\nb<=b.size/\i+1<=out.size) ?_ ?_ ⟨Same.refl,_,_,_,_,rfl,m1,by lia,by lia,by lia,by lia,by simp⟩) ?_)
    ·rintro i r DQ _ hi ⟨sm,na,nb,out,mg,rfl,m,E9,Ep,EH,EI,hsz⟩
     try dsimp -zeta -zetaHave -zetaUnused only
     refine wpS_bind (az (Q:=fun r st'=>st'=DQ/\((∃ DE DF B ac bc,r=(none,DE,DF,B,ac,bc)/\MH lt a.toList b.toList B.toList DE DF/\0 < DE/\1 < DF/\DE < a.size/\DF<=b.size/\i+2<=B.size) ∨ ∃ res t,r=(some res,t)/\Res lt a.toList b.toList res.toList))
      (wpS_forRange (fun j r st'=>st'=DQ /\ ∃ DE DF B ac bc,r=(none,DE,DF,B,ac,bc)/\MH lt a.toList b.toList B.toList DE DF/\0 < DE/\1 < DF/\DE < a.size/\DF<=b.size/\i+1+j<=B.size) ?_ ?_ ⟨rfl,_,_,_,_,_,rfl,m,E9,Ep,EH,EI,by lia⟩) ?_)
     ·rintro j r Dy _ hj ⟨rfl,DE,DF,B,ac,bc,rfl,m2,h1,h2,DL,DN,h3⟩
      try dsimp only
      obtain ⟨y,hy,DR,DV⟩:=ax (a:=b) (i:=DF - 1) (by lia)
      obtain ⟨x,hx,Ez,Es⟩:=ax (a:=a) (i:=DE - 1) (by lia)
      refine wpS_bind (ay hy (wpS_bind (ay hx (wpS_bind (j5 c (sm.kind.trans hk) (Eg _ DV) (Ef _ Es) ?_)))))
      try dsimp only
      refine ae (fun hl => ?_) (fun hl => ?_)
      ·skip
       refine wpS_bind (ay hx ?_)
       try dsimp only
       have m3:=m2.pushA c h1 (by lia) Ez DR (c.asym _ _ hl)
       refine ae (fun h => ?_) (fun h => ?_)
       ·skip
        have h:DE - 1=0:=by simpa using h
        exact aa ⟨rfl, .inr ⟨_,_,rfl,by have r:=m3.fin (.inl h);simpa only [Array.toList_append,Array.toList_push,Array.toList_reverse,List.toList_toArray,aX] using r⟩⟩
       ·skip
        have h:DE - 1≠0:=by simpa using h
        refine ae (fun _ => ?_) (fun _ => ?_)
        ·exact aa ⟨rfl, .inl ⟨_,_,_,_,_,rfl,by simpa only [Array.toList_append,Array.toList_push,Array.toList_reverse,List.toList_toArray,aX] using m3,by lia,h2,by lia,DN,by simp;lia⟩⟩
        ·exact aa ⟨rfl,_,_,_,_,_,rfl,by simpa only [Array.toList_append,Array.toList_push,Array.toList_reverse,List.toList_toArray,aX] using m3,by lia,h2,by lia,DN,by simp;lia⟩
      ·skip
       refine wpS_bind (ay hy ?_)
       try dsimp only
       have m3:=m2.pushB c h1 (by lia) Ez DR (by simpa using hl)
       refine ae (fun h => ?_) (fun h => ?_)
       ·skip
        have h:DF - 1=1:=by simpa using h
        exact aa ⟨rfl, .inr ⟨_,_,rfl,by have r:=m3.finB (by rw [h];exact DO);simpa only [Array.toList_append,Array.toList_push,Array.toList_reverse,List.toList_toArray,aX] using r⟩⟩
       ·skip
        have h:DF - 1≠1:=by simpa using h
        refine ae (fun _ => ?_) (fun _ => ?_)
        ·exact aa ⟨rfl, .inl ⟨_,_,_,_,_,rfl,by simpa only [Array.toList_append,Array.toList_push,Array.toList_reverse,List.toList_toArray,aX] using m3,h1,by lia,DL,by lia,by simp;lia⟩⟩
        ·exact aa ⟨rfl,_,_,_,_,_,rfl,by simpa only [Array.toList_append,Array.toList_push,Array.toList_reverse,List.toList_toArray,aX] using m3,h1,by lia,DL,by lia,by simp;lia⟩
     ·rintro r Dy ⟨rfl,DE,DF,B,ac,bc,rfl,m2,h1,h2,DL,DN,h3⟩
      exact ⟨rfl, .inl ⟨_,_,_,_,_,rfl,m2,h1,h2,DL,DN,by lia⟩⟩
     ·rintro r Dy ⟨rfl,⟨DE,DF,B,ac,bc,rfl,m2,h1,h2,DL,DN,h3⟩ | ⟨res,t,rfl,J⟩⟩
      ·try dsimp -zeta -zetaHave -zetaUnused only
       refine wpS_bind (cn ?_)
       refine wpS_bind (az (Q:=fun r st'=>Same st st'/\((∃ Dz U F DJ ac bc,r=(none,Dz,U,F,DJ,ac,bc)/\MH lt a.toList b.toList F.toList Dz U/\0 < Dz/\1 < U/\Dz < a.size/\U<=b.size/\i+2<=F.size) ∨ ∃ res t,r=(some res,t)/\Res lt a.toList b.toList res.toList))
        (wpS_forRange (fun j r st'=>Same st st' /\ ∃ Dz U F DJ ac bc,r=(none,Dz,U,F,DJ,ac,bc)/\MH lt a.toList b.toList F.toList Dz U/\0 < Dz/\1 < U/\Dz < a.size/\U<=b.size/\i+2<=F.size) ?_ ?_ ⟨sm,_,_,_,_,_,_,rfl,m2,h1,h2,DL,DN,h3⟩) ?_)
       ·rintro j r Dv _ hj ⟨DK,Dz,U,F,DJ,EA,EB,rfl,m3,h1,h2,DL,DN,h5⟩
        obtain ⟨y,hy,DR,DV⟩:=ax (a:=b) (i:=U - 1) (by lia)
        refine xS fun QQ hQ => ?_
        have G:∀ (st':SortSt) (res:Array Keyed) t,Same st st'->Res lt a.toList b.toList res.toList->QQ (.done (some res,t)) st':=fun st' res t hs hr=>hQ _ _ ⟨hs, .inr ⟨_,_,rfl,hr⟩⟩
        have F3:∀ (st':SortSt) (out:Array Keyed) na nb mg ac bc,Same st st'->MH lt a.toList b.toList out.toList na nb->0 < na->1 < nb->na < a.size->nb<=b.size->i+2<=out.size->QQ (.done (none,na,nb,out,mg,ac,bc)) st'/\QQ (.yield (none,na,nb,out,mg,ac,bc)) st':=fun st' out ia ib mg ac bc hs p1 p2 p3 p4 p5 p6=>⟨hQ _ _ ⟨hs, .inl ⟨_,_,_,_,_,_,rfl,p1,p2,p3,p4,p5,p6⟩⟩,hQ _ _ ⟨hs,_,_,_,_,_,_,rfl,p1,p2,p3,p4,p5,p6⟩⟩
        clear hQ hj
        extract_lets -underBinder s0 vna s1 vnb s2 vout s3 vmg s4 vac vbc jp vmx
        have EC:∀ mg,wpS (PySem.model prog w) A E s (jp () mg) QQ Dv:=by
         intro mg
         dsimp -zeta -zetaHave -zetaUnused only [jp,s0,vna,s1,vnb,s2,vout,s3,vmg,s4,vac,vbc]
         clear vmx jp vbc vac s4 vmg s3 vout s2 vnb s1 vna s0
         refine wpS_bind (wpS_modify ?_)
         refine tD (P:=Same st) (DK.trans ⟨rfl,rfl,rfl,rfl⟩) fun Ei DB => ?_
         have ED:=DB.kind.trans hk
         refine wpS_bind (ay hy ?_)
         refine wpS_bind (hg false y a [] (a.toList.take Dz) (a.toList.drop Dz) _ _ _ _ _ ED (Eg _ DV) (by simp) rfl (eR (by lia)) (fun x hx=>Ef x (List.mem_of_mem_take hx)) (by lia) ((List.pairwise_append.mp m3.pa).1) fun X Y e hX hY => ?_)
         dsimp -zeta -zetaHave -zetaUnused only
         have m4:=m3.galA c e (by lia) DR fun x hx=>c.asym _ _ (tE (hY x hx))
         have DC : 0 < X.length -> ∀ x4,a.toList[X.length - 1]? = some x4->lt y x4=false:=fun h0 x4 DX=>xT (hX x4 (nt e h0 DX))
         have Ej:=kC e (by lia)
         extract_lets -underBinder +onlyGivenNames vk vac DY
         clear_value vac
         have E5:∀ (DT:Nat) (O:Array Keyed),MH lt a.toList b.toList O.toList DT U->(∀ x4,a.toList[DT - 1]? = some x4->lt y x4=false)->0 < DT->DT < a.size->i+2<=O.size->wpS (PySem.model prog w) A E s (DY () DT O) QQ Ei:=by
          intro DT O F4 DZ EJ Ft EE
          dsimp -zeta -zetaHave -zetaUnused only [DY]
          clear DY vk Ej DC m4 hX hY
          obtain ⟨x4,DX,DG,EF⟩:=ax (a:=a) (i:=DT - 1) (by lia)
          refine wpS_bind (ay hy ?_)
          have m5:=F4.pushB c EJ (by lia) DG DR (DZ x4 DG)
          rw [<- Array.toList_push] at m5
          have DH:i+2<=(O.push y).size:=by rw [Array.size_push];lia
          try dsimp -zeta -zetaHave -zetaUnused only
          extract_lets -underBinder +onlyGivenNames vo5
          dsimp -zeta -zetaHave -zetaUnused only [vo5]
          clear vo5
          revert m5 DH
          generalize O.push y=out5
          intro m5 DH
          refine ae (fun h => ?_) (fun h => ?_)
          ·exact aa (G _ _ _ DB (m5.finR (by rw [eq_of_beq h];exact DO)))
          ·have h:U - 1≠1:=by simpa using h
           refine wpS_bind (ay DX ?_)
           refine wpS_bind (hg true x4 b [] (b.toList.take (U - 1)) (b.toList.drop (U - 1)) _ _ _ _ _ ED (Ef _ EF) (by simp) rfl (eR (by lia)) (fun x hx=>Eg x (List.mem_of_mem_take hx)) (by lia) ((List.pairwise_append.mp m5.pb).1) fun X2 Y2 e2 Ea Eb => ?_)
           dsimp -zeta -zetaHave -zetaUnused only
           have m6:=m5.galB c e2 EJ DG fun x hx=>tF (Eb x hx)
           have DD : 0 < X2.length -> ∀ y6,b.toList[X2.length - 1]? = some y6->lt x4 y6=false:=fun h0 y6 EG=>c.asym _ _ (xU (Ea y6 (nt e2 h0 EG)))
           have Ek:=kC e2 (by lia)
           extract_lets -underBinder +onlyGivenNames vk vbc E1
           clear_value vbc
           have E6:∀ (E8:Nat) (Dx:Array Keyed),MH lt a.toList b.toList Dx.toList DT E8->(∀ y6,b.toList[E8 - 1]? = some y6->lt x4 y6=false)->1 < E8->E8<=b.size->i+2<=Dx.size->wpS (PySem.model prog w) A E s (E1 () E8 Dx) QQ Ei:=by
            intro E8 Dx F5 E2 Fi F6 Fg
            dsimp -zeta -zetaHave -zetaUnused only [E1]
            clear E1 vk Ek DD m6 Ea Eb m5 DH EE h5 h1 h2 DL DN hsz E9 Ep EH EI h3
            obtain ⟨y6,EG,E7,Fh⟩:=ax (a:=b) (i:=E8 - 1) (by lia)
            refine wpS_bind (ay DX ?_)
            have m7:=F5.pushA c EJ (by lia) DG E7 (E2 y6 E7)
            rw [<- Array.toList_push] at m7
            dsimp only
            refine ae (fun h => ?_) (fun h => ?_)
            ·exact aa (G _ _ _ DB (m7.finL (.inl (eq_of_beq h))))
            ·have h:DT - 1≠0:=by simpa using h
             have:=fun mg ac bc=>F3 Ei (Dx.push x4) (DT - 1) E8 mg ac bc DB m7 (by lia) Fi (by lia) F6 (by rw [Array.size_push];lia)
             exact ae (fun _=>aa (this _ _ _).1) (fun _=>aa (this _ _ _).2)
           clear_value E1
           refine ae (fun h0 => ?_) (fun h0 => ?_)
           ·dsimp only
            have m6:=m6.cut (a:=b) e2
            refine ae (fun h => ?_) (fun h => ?_)
            ·exact aa (G _ _ _ DB (m6.finR (by rw [eq_of_beq h];exact DO)))
            ·have h:X2.length≠1:=by simpa using h
             refine ae (fun h9 => ?_) (fun h9 => ?_)
             ·exact aa (G _ _ _ DB (m6.finL (.inr (eq_of_beq h9))))
             ·have h9:X2.length≠0:=by simpa using h9
              exact E6 _ _ m6 (DD (by lia)) (by lia) (by lia) (by rw [Array.size_append];lia)
           ·have h0 : ¬ (U - 1 - X2.length > 0):=h0
            have hl:X2.length=U - 1:=by lia
            have Eu : 0 < X2.length:=by lia
            have hr:=DD Eu
            rw [hl] at hr
            exact E6 _ _ m5 hr (by lia) (by lia) DH
         clear_value DY
         refine ae (fun h0 => ?_) (fun h0 => ?_)
         ·dsimp only
          have m4:=m4.cut (a:=a) e
          refine ae (fun h => ?_) (fun h => ?_)
          ·exact aa (G _ _ _ DB (m4.finL (.inl (eq_of_beq h))))
          ·have h:X.length≠0:=by simpa using h
           exact E5 _ _ m4 (DC (by lia)) (by lia) (by lia) (by rw [Array.size_append];lia)
         ·have h0 : ¬ (Dz - X.length > 0):=h0
          have hl:X.length=Dz:=by lia
          have hr:=DC (by lia)
          rw [hl] at hr
          exact E5 _ _ m3 hr h1 DL h5
        clear_value jp
        exact ae (fun _=>EC _) (fun _=>EC _)
       ·rintro r Dv ⟨DK,Dz,U,F,DJ,EA,EB,rfl,m3,h1,h2,DL,DN,h5⟩
        exact ⟨DK, .inl ⟨_,_,_,_,_,_,rfl,m3,h1,h2,DL,DN,h5⟩⟩
       ·rintro r Dv ⟨DK,⟨Dz,U,F,DJ,EA,EB,rfl,m3,h1,h2,DL,DN,h5⟩ | ⟨res,t,rfl,J⟩⟩
        ·try dsimp -zeta -zetaHave -zetaUnused only
         refine wpS_bind (wpS_modify ?_)
         exact aa ⟨DK.trans ⟨rfl,rfl,rfl,rfl⟩,_,_,_,_,rfl,m3,h1,h2,DL,DN,by lia⟩
        ·exact aa ⟨DK,_,_,rfl,J⟩
      ·exact aa ⟨sm,_,_,rfl,J⟩
    ·rintro r DQ ⟨sm,na,nb,out,mg,rfl,m,E9,Ep,EH,EI,hsz⟩
     have:=m.size (by simp;lia) (by simp;lia)
     simp at this
     lia
    ·rintro r DQ ⟨sm,res,t,rfl,J⟩
     exact aa (q res DQ J.1 J.2 sm)
end
end Srt
end L2
namespace L2
namespace Srt
open PySem PySem.Spec PyProof.Rows
section
variable {prog:Program} {w:World} {A:Around} {E:Value->Shared->Prop} {s:Shared} {kd:SortKind} {P:Keyed->Prop} {lt:Keyed->Keyed->Bool}
structure Kp (st st':SortSt):Prop where
 kind:kindOf st'=kindOf st
 pend:pendingOf st'=pendingOf st
 fail:failedOf st'=failedOf st
theorem Kp.refl {st:SortSt}:Kp st st:=⟨rfl,rfl,rfl⟩
theorem Kp.trans {a b c:SortSt} (h:Kp a b) (g:Kp b c):Kp a c:=⟨g.kind.trans h.kind,g.pend.trans h.pend,g.fail.trans h.fail⟩
theorem oz {a:Array Keyed} {L B R:List Keyed} (e:a.toList=L++(B++R)) {i j:Nat} (hi:i=L.length) (q:j=L.length+B.length):(mirror a i j ((j - i) / 2)).toList=L++(B.reverse++R):=by
 have hs:a.size=L.length+(B.length+R.length):=by rw [<- Array.length_toList,e];simp
 apply List.ext_getElem?
 intro k
 rw [Array.getElem?_toList,getElem?_mirror_all (by lia)]
 have g:∀ n:Nat,a[n]? = (L++(B++R))[n]? := fun n=>by rw [<- Array.getElem?_toList,e]
 rw [g,g]
 by_cases h1:k < L.length
 ·rw [if_neg (by lia),List.getElem?_append_left h1,List.getElem?_append_left h1]
 ·by_cases h2:k < j
  ·rw [if_pos (by lia),List.getElem?_append_right (by lia),List.getElem?_append_left (by lia),List.getElem?_append_right (by lia),List.getElem?_append_left (by simp;lia),List.getElem?_reverse (by lia)]
   congr 1;lia
  ·rw [if_neg (by lia),List.getElem?_append_right (by lia),List.getElem?_append_right (by lia),List.getElem?_append_right (by lia),List.getElem?_append_right (by simp;lia)]
   simp
theorem oA {a:Array Keyed} {L j q R:List Keyed} {x:Keyed} (e:a.toList=L++((j++q)++x::R)) {src d:Nat} (hi:src=L.length+(j.length+q.length)) (hd:d=q.length):(bubble a src d).toList=L++((j++x::q)++R):=by
 have hs:a.size=L.length+(j.length+q.length+(R.length+1)):=by rw [<- Array.length_toList,e];simp;lia
 apply List.ext_getElem?
 intro k
 rw [Array.getElem?_toList,getElem?_bubble (by lia) d (by lia)]
 have g:∀ n:Nat,a[n]? = (L++((j++q)++x::R))[n]? := fun n=>by rw [<- Array.getElem?_toList,e]
 rw [g,g,g]
 by_cases h1:k < L.length
 ·rw [if_neg (by lia),if_neg (by lia),List.getElem?_append_left h1,List.getElem?_append_left h1]
 ·by_cases h2:k < L.length+j.length
  ·rw [if_neg (by lia),if_neg (by lia),List.getElem?_append_right (by lia),List.getElem?_append_left (by simp;lia),List.getElem?_append_left (by lia),List.getElem?_append_right (by lia),List.getElem?_append_left (by simp;lia),List.getElem?_append_left (by lia)]
  ·by_cases h3:k=L.length+j.length
   ·rw [if_pos (by lia),List.getElem?_append_right (by lia),List.getElem?_append_right (by simp;lia),List.getElem?_append_right (by lia),List.getElem?_append_left (by simp;lia),List.getElem?_append_right (by lia)]
    have B:src - L.length - (j++q).length=0:=by simp;lia
    have z:k - L.length - j.length=0:=by lia
    rw [B,z];rfl
   ·by_cases h4:k<=src
    ·rw [if_neg (by lia),if_pos (by lia),List.getElem?_append_right (by lia),List.getElem?_append_left (by simp;lia),List.getElem?_append_right (by lia),List.getElem?_append_right (by lia),List.getElem?_append_left (by simp;lia),List.getElem?_append_right (by lia)]
     have z:k - L.length - j.length=(k - 1 - L.length - j.length)+1:=by lia
     rw [z,List.getElem?_cons_succ]
    ·rw [if_neg (by lia),if_neg (by lia),List.getElem?_append_right (by lia),List.getElem?_append_right (by simp;lia),List.getElem?_append_right (by lia),List.getElem?_append_right (by simp;lia)]
     have z:k - L.length - (j++q).length=(k - L.length - (j++x::q).length)+1:=by simp;lia
     rw [z,List.getElem?_cons_succ]
theorem dg (c:Cm prog w A s kd P lt) {i j:Nat} {x y:Keyed} {st:SortSt} {Q:Option Bool->SortSt->Prop} (z:kindOf st=kd) (hx:(arrOf st)[i]? = some x) (B:(arrOf st)[j]? = some y) (px:P x) (py:P y) (q:Q (some (lt x y)) st):wpS (PySem.model prog w) A E s (ltAt' i j) Q st:=by
 rw [ltAt'_eq]
 exact wpS_bind (wpS_get (wpS_bind (ay hx (wpS_bind (ay B (j5 c z px py q))))))
theorem j6 {i j:Nat} {st:SortSt} {Q:Unit->SortSt->Prop} {L B R:List Keyed} (e:(arrOf st).toList=L++(B++R)) (hi:i=L.length) (z:j=L.length+B.length) (q:∀ st',(arrOf st').toList=L++(B.reverse++R)->Kp st st'->Q () st'):wpS (PySem.model prog w) A E s (reverseSlice' i j) Q st:=by
 rw [reverseSlice'_eq]
 exact wpS_modify (q _ (oz e hi z) ⟨rfl,rfl,rfl⟩)
theorem bN {st:SortSt} {L xs:List Keyed} (e:(arrOf st).toList=L++xs) {i n:Nat} (hi:i=L.length+n):(arrOf st)[i]? = xs[n]? := by
 rw [<- Array.getElem?_toList,e,hi,List.getElem?_append_right (by lia)]
 congr 1;lia
theorem ny (c:Cm prog w A s kd P lt) {xs:List Keyed} {n:Nat} {x y:Keyed} (h:Ord lt (xs.take n)) (q : 0 < n) (hx:xs[n]? = some x) (B:xs[n - 1]? = some y) (F:lt x y=false):Ord lt (xs.take (n+1)):=by
 rw [List.take_add_one,hx]
 refine List.pairwise_append.mpr ⟨h,by simp,fun z G u j => ?_⟩
 simp at j;subst j
 exact gf c h q B F z G
noncomputable abbrev cF (lt:Keyed->Keyed->Bool) (l:List Keyed):Prop:=l.Pairwise fun x y=>lt x y=false
theorem hJ (c:Cm prog w A s kd P lt) {D:List Keyed} {e x:Keyed} (h:cF lt (D++[e])) (hx:lt e x=false):cF lt (D++[e]++[x]):=by
 refine List.pairwise_append.mpr ⟨h,by simp,fun z B u j => ?_⟩
 simp at j;subst j
 obtain ⟨_,_,F⟩:=List.pairwise_append.mp h
 rcases List.mem_append.mp B with g | g
 ·cases q:lt z u with
  | false=>rfl
  | true=>rcases c.neg z e u q with r | r
          ·rw [F z g e (by simp)] at r;cases r
          ·rw [hx] at r;cases r
 ·simp at g;subst g;exact hx
theorem pe {q F:List Keyed} (h:cF lt (q++F)) (he:∀ x∈F, ∀ y∈F,lt x y=false):cF lt (q++F.reverse):=by
 obtain ⟨h1,h2,z⟩:=List.pairwise_append.mp h
 refine List.pairwise_append.mpr ⟨h1, ?_,fun x hx y j=>z x hx y (List.mem_reverse.mp j)⟩
 rw [List.pairwise_reverse]
 exact h2.imp_of_mem fun hx j _=>he _ j _ hx
theorem perm_take {xs:List Keyed} {n:Nat}:(xs.take n++xs.drop n).Perm xs:=by rw [List.take_append_drop]
theorem oB (c:Cm prog w A s kd P lt) {L xs:List Keyed} {st:SortSt} {Q:Option Nat->SortSt->Prop} (hk:kindOf st=kd) (O:(arrOf st).toList=L++xs) (h0:xs≠[]) (hP:∀ x∈xs,P x)
 (q:∀ r R st',(arrOf st').toList=L++(r++R)->(r++R).Perm xs->r≠[]->Ord lt r->Kp st st'->Q (some r.length) st'):wpS (PySem.model prog w) A E s (countRun' L.length xs.length) Q st:=by
 have DS : 0 < xs.length:=List.length_pos_iff.mpr h0
 rw [countRun'_eq]
 try dsimp -zeta -zetaHave -zetaUnused only
 refine wpS_bind (az (Q:=fun r st'=>st'=st /\ ∃ n,r=(none,n)/\1<=n/\n<=xs.length/\Ord lt (xs.take n)/\(n=xs.length ∨ ∃ x y,xs[n]? = some x/\xs[n - 1]? = some y/\lt x y=true))
  (wpS_forRange (fun i r st'=>st'=st/\r=(none,i)/\Ord lt (xs.take i)) ?_ ?_ ⟨rfl,rfl,by
    cases xs with
    | nil=>exact absurd rfl h0
    | cons x t=>simp⟩) ?_)
 ·rintro i r st' h1 hi ⟨rfl,rfl,ho⟩
  dsimp only
  obtain ⟨x,hx⟩:∃ x,xs[i]? = some x:=⟨_,List.getElem?_eq_getElem hi⟩
  obtain ⟨y,hy⟩:∃ y,xs[i - 1]? = some y:=⟨_,List.getElem?_eq_getElem (by lia)⟩
  refine wpS_bind (dg c hk ((bN O rfl).trans hx) ((bN O (by lia)).trans hy) (hP _ (List.mem_of_getElem? hx)) (hP _ (List.mem_of_getElem? hy)) ?_)
  dsimp only
  refine ae (fun h => ?_) (fun h => ?_)
  ·exact aa ⟨rfl,i,rfl,h1,by lia,ho, .inr ⟨x,y,hx,hy,h⟩⟩
  ·exact aa ⟨rfl,rfl,ny c ho (by lia) hx hy (by simpa using h)⟩
 ·rintro r st' ⟨rfl,rfl,ho⟩
  exact ⟨rfl,_,rfl,by lia,by lia,ho, .inl (by lia)⟩
 ·rintro r st' ⟨rfl,n,rfl,Eg,DT,ho,hc⟩
  dsimp -zeta -zetaHave -zetaUnused only
  have DG:Q (some n) st':=by
   have:=q (xs.take n) (xs.drop n) st' (by rw [O,List.take_append_drop]) perm_take (fun z=>by
    have h3:=congrArg List.length z
    rw [List.length_take,List.length_nil] at h3;lia) ho Kp.refl
   rw [List.length_take,Nat.min_eq_left DT] at this
   exact this
  extract_lets -underBinder +onlyGivenNames vr vn
  dsimp -zeta -zetaHave -zetaUnused only [vr]
  clear vr
  have en:n=vn:=rfl
  clear_value vn
  subst en
  refine ae (fun h=>aa DG) (fun h => ?_)
  have E5:n≠xs.length:=by simpa using h
  obtain ⟨x,y,hx,hy,E6⟩:=hc.resolve_left E5
  have Eh:n < xs.length:=by lia
  have exs:xs=xs.take n++x::xs.drop (n+1):=by
   have h1:=(List.take_append_drop n xs).symm
   rw [dv hx] at h1
   exact h1
  have DU:y∈xs.take n:=by rw [cq (by lia) hy];simp
  extract_lets -underBinder +onlyGivenNames jp
  have DV:∀ (B:List Keyed) (Dw:SortSt),(arrOf Dw).toList=L++(B++x::xs.drop (n+1))->B.Perm (xs.take n)->B.length=n->(∀ u∈B, ∀ v∈B,lt u v=false)->y∈B->Kp st' Dw->wpS (PySem.model prog w) A E s (jp ()) Q Dw:=by
   intro B Dw e1 hB Dx Dy Dz DA
   dsimp -zeta -zetaHave -zetaUnused only [jp]
   clear jp
   refine wpS_bind (cn ?_)
   try dsimp -zeta -zetaHave -zetaUnused only
   extract_lets -underBinder +onlyGivenNames vn1 vq1
   have E7:vn1=n+1:=rfl
   have eq1:vq1=0:=rfl
   clear_value vn1 vq1
   subst E7 eq1
   refine wpS_bind (az (Q:=fun r U => ∃ G F R neq,Kp st' U/\(arrOf U).toList=L++((G++F)++R)/\((G++F)++R).Perm xs/\r=(none,(G++F).length,neq)/\F.length=neq+1/\cF lt (G++F)/\(∀ u∈F, ∀ v∈F,lt u v=false))
    (wpS_forRange (fun i r U => ∃ G F R neq,Kp st' U/\(arrOf U).toList=L++((G++F)++R)/\((G++F)++R).Perm xs/\r=(none,(G++F).length,neq)/\F.length=neq+1/\cF lt (G++F)/\(∀ u∈F, ∀ v∈F,lt u v=false)/\(G++F).length=i) ?_ ?_ ?_) ?_)
   ·rintro i r U Ei hi ⟨G,F,R,neq,kp,ea,hp,rfl,hF,hN,hE,DW⟩
    subst DW
    have hlen:=hp.length_eq
    rw [List.length_append] at hlen
    obtain ⟨z,R',rfl⟩:∃ z R',R=z::R':=by
     cases R with
     | nil=>simp at hlen;simp at hi;lia
     | cons z R'=>exact ⟨z,R',rfl⟩
    have E8:F≠[]:=fun z=>by rw [z] at hF;simp at hF
    obtain ⟨F0,e,rfl⟩:∃ F0 e,F=F0++[e]:=⟨F.dropLast,F.getLast E8,(List.dropLast_concat_getLast _).symm⟩
    have hz:(arrOf U)[L.length+(G++(F0++[e])).length]? = some z:=by
     rw [bN ea rfl,List.getElem?_append_right (by lia),Nat.sub_self];rfl
    have he:(arrOf U)[L.length+(G++(F0++[e])).length - 1]? = some e:=by
     rw [bN ea (n:=(G++F0).length) (by simp <;> lia),List.getElem?_append_left (by simp <;> lia), <- List.append_assoc,List.getElem?_append_right (by lia),Nat.sub_self];rfl
    have DX:P z:=hP z (hp.mem_iff.mp (by simp))
    have DY:P e:=hP e (hp.mem_iff.mp (by simp))
    dsimp only
    refine wpS_bind (dg c (kp.kind.trans hk) hz he DX DY ?_)
    dsimp only
    have DK:cF lt (G++F0++[e]):=by rw [List.append_assoc];exact hN
    refine ae (fun DL => ?_) (fun DL => ?_)
    ·have DB:lt e z=false:=c.asym _ _ DL
     refine ae (fun DC => ?_) (fun DC => ?_)
     ·refine wpS_bind (j6 (L:=L++G) (B:=F0++[e]) (R:=z::R') (by rw [ea];simp) (by simp only [List.length_append] at hF ⊢;simp only [List.length_singleton] at hF ⊢;lia) (by simp <;> lia) fun Z e3 Y => ?_)
      refine aa ⟨G++(F0++[e]).reverse,[z],R',0,kp.trans Y,by rw [e3];simp, ?_,by simp <;> lia,rfl, ?_, ?_,by simp <;> lia⟩
      ·refine List.Perm.trans ?_ hp
       rw [List.append_assoc,List.append_assoc,List.append_assoc]
       exact List.Perm.append_left _ (List.Perm.append_right _ (List.reverse_perm _))
      ·have h1:=pe hN hE
       refine List.pairwise_append.mpr ⟨h1,by simp,fun u j v J => ?_⟩
       simp at J;subst J
       have hm:=hJ c DK DB
       refine (List.pairwise_append.mp hm).2.2 u ?_ v (by simp)
       rw [List.append_assoc]
       rcases List.mem_append.mp j with g | g
       ·exact List.mem_append_left _ g
       ·exact List.mem_append_right _ (List.mem_reverse.mp g)
      ·intro u j v J;simp at j J;subst j J;exact c.irr
     ·refine aa ⟨G++(F0++[e]),[z],R',0,kp,by rw [ea];simp,by simpa using hp,by simp <;> lia,rfl, ?_, ?_,by simp <;> lia⟩
      ·have hm:=hJ c DK DB
       simpa using hm
      ·intro u j v J;simp at j J;subst j J;exact c.irr
    ·have E9:lt z e=false:=by simpa using DL
     refine wpS_bind (dg c (kp.kind.trans hk) he hz DY DX ?_)
     dsimp only
     refine ae (fun DZ => ?_) (fun DZ => ?_)
     ·exact aa ⟨G,F0++[e],z::R',neq,kp,ea,hp,rfl,hF,hN,hE⟩
     ·have DB:lt e z=false:=by simpa using DZ
      refine aa ⟨G,(F0++[e])++[z],R',neq+1,kp,by rw [ea];simp,by simpa using hp,by simp <;> lia,by simp at hF ⊢;lia, ?_, ?_,by simp <;> lia⟩
      ·have hm:=hJ c DK DB
       simpa using hm
      ·have Ea:∀ u∈F0++[e],lt u z=false:=fun u j=>by
        cases q1:lt u z with
        | false=>rfl
        | true=>rcases c.neg u e z q1 with r | r
                ·rw [hE u j e (by simp)] at r;cases r
                ·rw [DB] at r;cases r
       have Eb:∀ u∈F0++[e],lt z u=false:=fun u j=>by
        cases q1:lt z u with
        | false=>rfl
        | true=>rcases c.neg z e u q1 with r | r
                ·rw [E9] at r;cases r
                ·rw [hE e (by simp) u j] at r;cases r
       intro u j v J
       rcases List.mem_append.mp j with g | g <;> rcases List.mem_append.mp J with g2 | g2
       ·exact hE u g v g2
       ·simp at g2;subst g2;exact Ea u g
       ·simp at g;subst g;exact Eb v g2
       ·simp at g g2;subst g g2;exact c.irr
   ·rintro r U ⟨G,F,R,neq,kp,ea,hp,hr,hF,hN,hE,DW⟩
    exact ⟨G,F,R,neq,kp,ea,hp,hr,hF,hN,hE⟩
   ·refine ⟨B,[x],xs.drop (n+1),0,DA,by rw [e1];simp, ?_,by simp [Dx],rfl, ?_, ?_,by simp [Dx]⟩
    ·have h9:(B++x::xs.drop (n+1)).Perm xs:=by
      have h9:=List.Perm.append_right (x::xs.drop (n+1)) hB
      rw [<- exs] at h9
      exact h9
     simpa using h9
    ·refine List.pairwise_append.mpr ⟨List.Pairwise.imp_of_mem (fun j J _=>Dy _ j _ J) (List.pairwise_of_forall_mem_list (r:=fun _ _=>True) fun _ _ _ _=>trivial),by simp,fun u j v J => ?_⟩
     simp at J;subst J
     cases q1:lt u v with
     | false=>rfl
     | true=>rcases c.neg u y v q1 with r | r
             ·rw [Dy u j y Dz] at r;cases r
             ·rw [c.asym _ _ E6] at r;cases r
    ·intro u j v J;simp at j J;subst j J;exact c.irr
   ·rintro r U ⟨G,F,R,neq,kp,ea,hp,rfl,hF,hN,hE⟩
    dsimp -zeta -zetaHave -zetaUnused only
    extract_lets -underBinder +onlyGivenNames vr vs vn2 vq2
    dsimp -zeta -zetaHave -zetaUnused only [vr]
    have Ec:vn2=(G++F).length:=rfl
    have eq2:neq=vq2:=rfl
    clear_value vn2 vq2
    clear vs vr
    subst Ec eq2
    extract_lets -underBinder +onlyGivenNames DD
    have DH:∀ (D:List Keyed) (Z:SortSt),(arrOf Z).toList=L++(D++R)->cF lt D->(D++R).Perm xs->D.length=(G++F).length->0 < D.length->Kp st' Z->wpS (PySem.model prog w) A E s (DD ()) Q Z:=by
     intro D Z e3 DM DN DE DI Y
     dsimp -zeta -zetaHave -zetaUnused only [DD]
     clear DD
     have Ed : 0 < D.length:=by lia
     refine wpS_bind (j6 (L:=L) (B:=D) (R:=R) e3 rfl (by rw [DE]) fun E1 e4 E2 => ?_)
     have o4:Ord lt D.reverse:=List.pairwise_reverse.mpr DM
     have DF:(D.reverse++R).Perm xs:=(List.Perm.append_right _ (List.reverse_perm D)).trans DN
     have E3:(D.reverse++R).length=xs.length:=DF.length_eq
     have DO:Ord lt ((D.reverse++R).take D.length):=by
      rw [List.take_append_of_le_length (by simp),List.take_of_length_le (by simp)];exact o4
     have DP:∀ u∈D.reverse++R,P u:=fun u j=>hP u (DF.mem_iff.mp j)
     have Ee:D.length<=xs.length:=by rw [<- E3];simp
     rw [<- DE]
     generalize D.length=N0 at DO Ed Ee
     generalize D.reverse++R=ys at e4 DF E3 DO DP
     refine wpS_bind (az (Q:=fun r Dv=>Dv=E1 /\ ∃ n,r=(none,n)/\1<=n/\n<=xs.length/\Ord lt (ys.take n))
      (wpS_forRange (fun i r Dv=>Dv=E1/\r=(none,i)/\Ord lt (ys.take i)) ?_ ?_ ⟨rfl,rfl,DO⟩) ?_)
     ·rintro i r Dv h1 hi ⟨rfl,rfl,ho⟩
      dsimp only
      obtain ⟨u,j⟩:∃ u,ys[i]? = some u:=⟨_,List.getElem?_eq_getElem (by lia)⟩
      obtain ⟨v,J⟩:∃ v,ys[i - 1]? = some v:=⟨_,List.getElem?_eq_getElem (by lia)⟩
      refine wpS_bind (dg c ((Y.trans E2).kind.trans hk) ((bN e4 rfl).trans j) ((bN e4 (by lia)).trans J) (DP _ (List.mem_of_getElem? j)) (DP _ (List.mem_of_getElem? J)) ?_)
      dsimp only
      refine ae (fun h => ?_) (fun h => ?_)
      ·exact aa ⟨rfl,i,rfl,by lia,by lia,ho⟩
      ·exact aa ⟨rfl,rfl,ny c ho (by lia) j J (by simpa using h)⟩
     ·rintro r Dv ⟨rfl,rfl,ho⟩
      exact ⟨rfl,_,rfl,by lia,by lia,ho⟩
     ·rintro r Dv ⟨rfl,m,rfl,Ej,Ek,ho⟩
      refine aa ?_
      have:=q (ys.take m) (ys.drop m) Dv (by rw [e4,List.take_append_drop]) (perm_take.trans DF) (fun z=>by
       have h3:=congrArg List.length z
       rw [List.length_take,List.length_nil] at h3;lia) ho (Y.trans E2)
      rw [List.length_take,Nat.min_eq_left (by lia)] at this
      exact this
    clear_value DD
    refine ae (fun DC => ?_) (fun DC => ?_)
    ·refine wpS_bind (j6 (L:=L++G) (B:=F) (R:=R) (by rw [ea];simp) (by simp <;> lia) (by simp <;> lia) fun Z e3 Y => ?_)
     have Y:=kp.trans Y
     have e3:(arrOf Z).toList=L++((G++F.reverse)++R):=by rw [e3];simp
     have DM:=pe hN hE
     have DN:((G++F.reverse)++R).Perm xs:=(List.Perm.append_right _ (List.Perm.append_left _ (List.reverse_perm _))).trans hp
     have DE:(G++F.reverse).length=(G++F).length:=by simp
     have DI : 0 < (G++F.reverse).length:=by simp <;> lia
     exact DH _ _ e3 DM DN DE DI Y
    ·exact DH _ _ ea hN hp rfl (by simp <;> lia) kp
  clear_value jp
  refine ae (fun h1 => ?_) (fun h1 => ?_)
  ·obtain ⟨x0,DQ⟩:∃ x0,xs[0]? = some x0:=⟨_,List.getElem?_eq_getElem DS⟩
   refine wpS_bind (dg c hk ((bN O (n := 0) (by lia)).trans DQ) ((bN O (by lia)).trans hy) (hP _ (List.mem_of_getElem? DQ)) (hP _ (List.mem_of_getElem? hy)) ?_)
   dsimp only
   refine ae (fun hr=>aa DG) (fun hr => ?_)
   have hr:lt x0 y=false:=by simpa using hr
   have E4:∀ u∈xs.take n,lt u x0=false:=fun u j=>by
    obtain ⟨i,hi,eu⟩:=List.mem_iff_getElem.mp j
    have DR:(xs.take n)[i]? = some u:=by rw [<- eu];exact List.getElem?_eq_getElem hi
    have DJ:(xs.take n)[0]? = some x0:=by rw [List.getElem?_take_of_lt (by lia)];exact DQ
    by_cases hi0:i=0
    ·subst hi0;rw [DJ] at DR;cases DR;exact c.irr
    ·exact eA ho (by lia) DJ DR
   have Ef:∀ u∈xs.take n,lt y u=false:=gf c ho (by lia) hy c.irr
   have heq:∀ u∈xs.take n, ∀ v∈xs.take n,lt u v=false:=fun u j v J=>by
    exact c.le_trans (c.le_trans (Ef v J) hr) (E4 u j)
   refine wpS_bind (j6 (L:=L) (B:=xs.take n) (R:=x::xs.drop (n+1)) (by rw [O];exact congrArg (L ++ ·) exs) rfl (by rw [List.length_take,Nat.min_eq_left DT]) fun Dw e1 DA => ?_)
   have hB:(xs.take n).reverse.Perm (xs.take n):=List.reverse_perm _
   have Dx:(xs.take n).reverse.length=n:=by rw [List.length_reverse,List.length_take];lia
   have Dy:∀ u∈(xs.take n).reverse, ∀ v∈(xs.take n).reverse,lt u v=false:=fun u j v J=>heq u (List.mem_reverse.mp j) v (List.mem_reverse.mp J)
   have Dz:y∈(xs.take n).reverse:=List.mem_reverse.mpr DU
   exact DV _ _ e1 hB Dx Dy Dz DA
  ·have Dw:=st'
   have hn:n=1:=by lia
   have DA:Kp st' st':=Kp.refl
   have e1:(arrOf st').toList=L++(xs.take n++x::xs.drop (n+1)):=by rw [O];exact congrArg (L ++ ·) exs
   have hB:(xs.take n).Perm (xs.take n):=List.Perm.refl _
   have Dx:(xs.take n).length=n:=by rw [List.length_take];lia
   have Dz:=DU
   have Dy:∀ u∈xs.take n, ∀ v∈xs.take n,lt u v=false:=fun u j v J=>by
    have e0:xs.take n=[y]:=by
     subst hn
     rw [cq (by lia) hy];rfl
    rw [e0] at j J
    simp at j J;subst j J;exact c.irr
   exact DV _ _ e1 hB Dx Dy Dz DA
end
end Srt
end L2
namespace L2
namespace Srt
open PySem PySem.Spec PyProof.Rows
section
variable {prog:Program} {w:World} {A:Around} {E:Value->Shared->Prop} {s:Shared} {kd:SortKind} {P:Keyed->Prop} {lt:Keyed->Keyed->Bool}
theorem tG (c:Cm prog w A s kd P lt) {L r R:List Keyed} {n:Nat} {st:SortSt} {Q:Bool->SortSt->Prop} (hk:kindOf st=kd) (Z:(arrOf st).toList=L++(r++R)) (h0:r≠[]) (ho:Ord lt r) (hn:r.length<=n) (Dv:n<=(r++R).length) (hP:∀ x∈r++R,P x)
 (q:∀ r' R' st',(arrOf st').toList=L++(r'++R')->(r'++R').Perm (r++R)->r'.length=n->Ord lt r'->Kp st st'->Q true st'):wpS (PySem.model prog w) A E s (binarySort' L.length n r.length) Q st:=by
 have DB : 0 < r.length:=List.length_pos_iff.mpr h0
 rw [binarySort'_eq]
 refine wpS_bind (az (Q:=fun x st'=>x=(none,()) /\ ∃ D T,Kp st st'/\(arrOf st').toList=L++(D++T)/\(D++T).Perm (r++R)/\D.length=n/\Ord lt D)
  (wpS_forRange (fun i x st'=>x=(none,()) /\ ∃ D T,Kp st st'/\(arrOf st').toList=L++(D++T)/\(D++T).Perm (r++R)/\D.length=i/\Ord lt D) ?_ ?_ ⟨rfl,r,R,Kp.refl,Z,List.Perm.refl _,by lia,ho⟩) ?_)
 ·rintro k x B DC DD ⟨rfl,D,T,kp,ea,J,hD,O⟩
  dsimp only
  subst hD
  have hlen:=J.length_eq
  rw [List.length_append] at hlen
  obtain ⟨z,T',rfl⟩:∃ z T',T=z::T':=by
   cases T with
   | nil=>simp at hlen Dv;lia
   | cons z T'=>exact ⟨z,T',rfl⟩
  have Dw:∀ u∈D,P u:=fun u G=>hP u (J.mem_iff.mp (List.mem_append_left _ G))
  have Dx:P z:=hP z (J.mem_iff.mp (by simp))
  have hz:(arrOf B)[L.length+D.length]? = some z:=by
   rw [bN ea rfl,List.getElem?_append_right (by lia),Nat.sub_self];rfl
  refine wpS_bind (az (Q:=fun x st'=>st'=B /\ ∃ k,x=(none,k,k)/\Gal lt false z D k k)
   (wpS_forRange (fun i x st'=>st'=B /\ ∃ lo hi,x=(none,lo,hi)/\Gal lt false z D lo hi/\hi - lo+i<=D.length) ?_ ?_ ⟨rfl,0,D.length,rfl,⟨by lia,by lia,fun _ _ h=>by lia,fun i x hi hx=>by
     have:=(List.getElem?_eq_some_iff.mp hx).1
     lia⟩,by lia⟩) ?_)
  ·rintro i x U _ hi ⟨rfl,lo,j,rfl,F,hm⟩
   dsimp only
   have hl:=F.le
   have Dy:=F.len
   refine ae (fun Dz => ?_) (fun Dz => ?_)
   ·exact aa ⟨rfl,j,by rw [show lo=j by lia],by rw [show lo=j by lia] at F;exact F⟩
   ·obtain ⟨u,G⟩:∃ u,D[(lo+j) / 2]? = some u:=⟨_,List.getElem?_eq_getElem (by lia)⟩
    have DA:(arrOf U)[L.length+(lo+j) / 2]? = some u:=by
     rw [bN ea rfl,List.getElem?_append_left (by lia)];exact G
    refine wpS_bind (dg c (kp.kind.trans hk) hz DA Dx (Dw _ (List.mem_of_getElem? G)) ?_)
    dsimp only
    refine ae (fun hf => ?_) (fun hf => ?_)
    ·exact aa ⟨rfl,_,_,rfl,⟨by lia,by lia,F.up,gd c O G (by simp [bey,hf])⟩,by lia⟩
    ·exact aa ⟨rfl,_,_,rfl,⟨by lia,Dy,gc c O G (by simpa [bey] using hf),F.dn⟩,by lia⟩
  ·rintro x U ⟨rfl,lo,j,rfl,F,hm⟩
   have hl:=F.le
   exact ⟨rfl,j,by rw [show lo=j by lia],by rw [show lo=j by lia] at F;exact F⟩
  ·rintro x U ⟨rfl,l,rfl,F⟩
   dsimp only
   obtain ⟨X,Y,e,hl,hX,hY⟩:=F.out
   subst hl e
   rw [moveDown'_eq]
   refine wpS_bind (wpS_modify ?_)
   refine aa ⟨rfl,X++z::Y,T',kp.trans ⟨rfl,rfl,rfl⟩,oA ea (by simp) (by simp;lia), ?_,by simp;lia, ?_⟩
   ·refine List.Perm.trans ?_ J
    rw [List.append_assoc,List.append_assoc]
    refine List.Perm.append_left _ ?_
    rw [List.cons_append]
    exact List.perm_middle.symm
   ·obtain ⟨o1,o2,o3⟩:=List.pairwise_append.mp O
    refine List.pairwise_append.mpr ⟨o1,List.pairwise_cons.mpr ⟨fun u G=>c.asym _ _ (by have:=hY u G;simpa [bey] using this),o2⟩,fun u G v hv => ?_⟩
    rcases List.mem_cons.mp hv with g | g
    ·subst g;have:=hX u G;simpa [bey] using this
    ·exact o3 u G v g
 ·rintro x B ⟨rfl,D,T,kp,ea,J,hD,O⟩
  exact ⟨rfl,D,T,kp,ea,J,by lia,O⟩
 ·rintro x B ⟨rfl,D,T,kp,ea,J,hD,O⟩
  exact aa (q D T B ea J hD O kp)
noncomputable def Pd:Nat->List (List Keyed)->List (Nat×Nat×Nat)->Prop
 | _,[],ps=>ps=[]
 | s,r::rs,ps => ∃ p t,ps=(s,r.length,p)::t/\Pd (s+r.length) rs t
theorem Pd.split:∀ {l t:List (List Keyed)} {s:Nat} {ps:List (Nat×Nat×Nat)},Pd s (l++t) ps -> ∃ pl pt,ps=pl++pt/\pl.length=l.length/\Pd s l pl/\Pd (s+l.flatten.length) t pt
 | [],t,s,ps,h=>⟨[],ps,rfl,rfl,rfl,by simpa using h⟩
 | r::l,t,s,ps,h=>by
   obtain ⟨p,q,e,h⟩:=h
   obtain ⟨pl,pt,j,z,h1,h2⟩:=Pd.split h
   refine ⟨(s,r.length,p)::pl,pt,by rw [e,j];rfl,by simp [z],⟨p,pl,rfl,h1⟩, ?_⟩
   rw [List.flatten_cons,List.length_append, <- Nat.add_assoc];exact h2
theorem Pd.join:∀ {l t:List (List Keyed)} {s:Nat} {pl pt:List (Nat×Nat×Nat)},Pd s l pl->Pd (s+l.flatten.length) t pt->Pd s (l++t) (pl++pt)
 | [],t,s,pl,pt,h,g=>by
  have:pl=[]:=h
  subst this;simpa using g
 | r::l,t,s,pl,pt,h,g=>by
   obtain ⟨p,q,e,h⟩:=h
   subst e
   refine ⟨p,q++pt,rfl,Pd.join h ?_⟩
   rw [List.flatten_cons,List.length_append, <- Nat.add_assoc] at g;exact g
theorem Pd.length:∀ {l:List (List Keyed)} {s:Nat} {ps:List (Nat×Nat×Nat)},Pd s l ps->ps.length=l.length
 | [],_,_,h=>by rw [show _=[] from h];rfl
 | r::l,s,ps,h=>by
   obtain ⟨p,q,e,h⟩:=h
   rw [e];simp [h.length]
structure Rn (lt:Keyed->Keyed->Bool) (kd:SortKind) (a₀:List Keyed) (st:SortSt) (rs:List (List Keyed)) (R:List Keyed):Prop where
 arr:(arrOf st).toList=rs.flatten++R
 perm:(rs.flatten++R).Perm a₀
 ord:∀ r∈rs,r≠[]/\Ord lt r
 pend:Pd 0 rs (pendingOf st).toList
 kind:kindOf st=kd
 fail:failedOf st=none
theorem Rn.merge (c:Cm prog w A s kd P lt) {a₀:List Keyed} (hP:∀ x∈a₀,P x) {st:SortSt} {l t:List (List Keyed)} {j F R:List Keyed} (h:Rn lt kd a₀ st (l++j::F::t) R) {i:Nat} (hi:i=l.length) {Q:Bool->SortSt->Prop}
 (q:∀ m st',Rn lt kd a₀ st' (l++m::t) R->m.length=j.length+F.length->Q true st'):wpS (PySem.model prog w) A E s (mergeAt' i) Q st:=by
 obtain ⟨g,lo,DA,⟨O,U,Y⟩,Z⟩:=CG (E:=E) c
 obtain ⟨pl,pt,ep,J,Dv,Dw⟩:=h.pend.split
 obtain ⟨L,t1,e1,Dx⟩:=Dw
 obtain ⟨p2,t2,e2,Dy⟩:=Dx
 subst e1 e2
 have o1:=h.ord j (by simp)
 have o2:=h.ord F (by simp)
 have G:∀ x,x∈j∨x∈F->P x:=fun x hx=>hP x (h.perm.mem_iff.mp (by simp only [List.flatten_append,List.flatten_cons,List.mem_append];rcases hx with z | z <;> simp [z]))
 have ip:∀ (k:Nat) (v:Nat×Nat×Nat),(pendingOf st).toList[k]? = some v->(pendingOf st)[k]? = some v:=fun k v e=>by rw [<- Array.getElem?_toList];exact e
 refine Z O (U O) (Y O) i (0+l.flatten.length) j.length L (0+l.flatten.length+j.length) F.length p2 l.flatten j F (t.flatten++R) st Q h.kind h.fail (ip _ _ ?_) (ip _ _ ?_) (by rw [h.arr];simp) (Nat.zero_add _) rfl (by lia) rfl o1.1 o2.1 (fun x hx=>G x (.inl hx)) (fun x hx=>G x (.inr hx)) o1.2 o2.2 ?_
 ·rw [ep,hi, <- J,List.getElem?_append_right (by lia),Nat.sub_self];rfl
 ·rw [ep,hi, <- J,List.getElem?_append_right (by lia),show pl.length+1 - pl.length=1 by lia];rfl
 ·intro m st' ea hm om hk hf Dz
  have B:m.length=j.length+F.length:=by rw [hm.length_eq];simp
  refine q m st' ⟨by rw [ea];simp, ?_, ?_, ?_,hk,hf⟩ B
  ·refine List.Perm.trans ?_ h.perm
   simp only [List.flatten_append,List.flatten_cons,List.append_assoc]
   refine List.Perm.append_left _ ?_
   rw [<- List.append_assoc j]
   exact List.Perm.append_right _ hm
  ·intro r hr
   rcases List.mem_append.mp hr with z | z
   ·exact h.ord r (List.mem_append_left _ z)
   ·rcases List.mem_cons.mp z with z | z
    ·subst z;exact ⟨fun z=>by rw [z] at B;have:=List.length_pos_iff.mpr o1.1;simp at B;lia,om⟩
    ·exact h.ord r (by simp [z])
  ·rw [Dz]
   have e3:(((pendingOf st).setIfInBounds i (0+l.flatten.length,j.length+F.length,L)).eraseIdxIfInBounds (i+1)).toList=pl++(0+l.flatten.length,j.length+F.length,L)::t2:=by
    rw [Array.toList_eraseIdxIfInBounds,Array.toList_setIfInBounds,ep,hi, <- J]
    rw [List.set_append_right _ _ (by lia),Nat.sub_self,List.eraseIdx_append_of_length_le (by lia),show pl.length+1 - pl.length=1 by lia];rfl
   rw [e3]
   refine Dv.join ⟨L,t2,by rw [B], ?_⟩
   rw [B, <- Nat.add_assoc];exact Dy
theorem nA {α:Type} {l:List α} (h : 1 < l.length):∃ t a b,l=t++[a,b]:=by
 obtain ⟨t1,b,j⟩:∃ t b,l=t++[b]:=⟨l.dropLast,l.getLast (fun z=>by rw [z] at h;simp at h),(List.dropLast_concat_getLast _).symm⟩
 obtain ⟨q,a,B⟩:∃ t b,t1=t++[b]:=⟨t1.dropLast,t1.getLast (fun z=>by rw [j,z] at h;simp at h),(List.dropLast_concat_getLast _).symm⟩
 exact ⟨q,a,b,by rw [j,B];simp⟩
theorem Bo {α:Type} {l:List α} {i:Nat} (h:i+1 < l.length):∃ t a b u,l=t++a::b::u/\t.length=i:=by
 refine ⟨l.take i,l[i],l[i+1],l.drop (i+2), ?_,by rw [List.length_take];lia⟩
 rw [<- List.drop_eq_getElem_cons (by lia), <- List.drop_eq_getElem_cons (by lia),List.take_append_drop]
theorem Rn.size {a₀:List Keyed} {st:SortSt} {rs:List (List Keyed)} {R:List Keyed} (h:Rn lt kd a₀ st rs R):rs.flatten.length+R.length=a₀.length:=by
 have:=h.perm.length_eq
 rw [List.length_append] at this;exact this
theorem ph:∀ {rs:List (List Keyed)},(∀ r∈rs,r≠[])->rs.length<=rs.flatten.length
 | [],_=>by simp
 | r::rs,h=>by
   have h1:=List.length_pos_iff.mpr (h r (by simp))
   have h2:=ph (rs:=rs) fun r j=>h r (by simp [j])
   rw [List.flatten_cons,List.length_append,List.length_cons];lia
theorem tH {l:List (List Keyed)} {s pw:Nat} {ps:Array (Nat×Nat×Nat)} (h:Pd s l ps.toList):Pd s l (ps.modify (ps.size - 1) fun x=>(x.1,x.2.1,pw)).toList:=by
 rw [Array.toList_modify]
 have g:∀ (l:List (List Keyed)) (s k:Nat) (ps:List (Nat×Nat×Nat)),Pd s l ps->Pd s l (ps.modify k fun x=>(x.1,x.2.1,pw)):=by
  intro l
  induction l with
  | nil=>intro s k ps h;have:ps=[]:=h;subst this;cases k <;> rfl
  | cons r l ih =>
    intro s k ps h
    obtain ⟨p,t,e,h⟩:=h
    subst e
    cases k with
    | zero=>exact ⟨pw,t,rfl,h⟩
    | succ k=>exact ⟨p,_,rfl,ih _ k t h⟩
 exact g _ _ _ _ h
theorem oC (c:Cm prog w A s kd P lt) {st:SortSt} {Q:Unit->SortSt->Prop} (hk:kindOf st=kd) (hf:failedOf st=none) (hp:pendingOf st = #[]) (hP:∀ x∈(arrOf st).toList,P x)
 (q:∀ st',(arrOf st').toList.Perm (arrOf st).toList->Ord lt (arrOf st').toList->failedOf st'=none->Q () st'):wpS (PySem.model prog w) A E s sortRuns' Q st:=by
 rw [sortRuns'_eq]
 refine wpS_bind (wpS_get ?_)
 try dsimp only
 have hsz:(arrOf st).size=(arrOf st).toList.length:=by simp
 generalize hA:(arrOf st).toList=a₀ at hP q hsz
 generalize hS:(arrOf st).size=size at hsz
 generalize minRun' size size 0=minrun
 refine wpS_bind (az (Q:=fun r st' => ∃ rs lo,r=(none,lo)/\Rn lt kd a₀ st' rs [])
  (wpS_forRange (fun i r st' => ∃ rs R,r=(none,rs.flatten.length)/\Rn lt kd a₀ st' rs R/\i<=rs.flatten.length) ?_ ?_ ⟨[],a₀,rfl,⟨by simpa using hA,by simp,by simp,by rw [hp];rfl,hk,hf⟩,by simp⟩) ?_)
 ·rintro i r DC _ hi ⟨rs,R,rfl,L,Dz⟩
  try dsimp only
  have DN:=L.size
  refine ae (fun DK => ?_) (fun DK => ?_)
  ·have:R=[]:=List.length_eq_zero_iff.mp (by lia)
   subst this
   exact aa ⟨rs,_,rfl,L⟩
  ·have DD:size - rs.flatten.length=R.length:=by lia
   have DL:R≠[]:=fun z=>by rw [z,List.length_nil] at DD;lia
   have DE:∀ x∈R,P x:=fun x hx=>hP x (L.perm.mem_iff.mp (List.mem_append_right _ hx))
   rw [DD]
   refine wpS_bind (oB c L.kind L.arr DL DE fun r R1 J ea Dv U ho kp => ?_)
   try dsimp only
   have F:Rn lt kd a₀ J rs (r++R1):=⟨ea,(List.Perm.append_left _ Dv).trans L.perm,L.ord,by rw [kp.pend];exact L.pend,kp.kind.trans L.kind,kp.fail.trans L.fail⟩
   have DF:r.length+R1.length=R.length:=by rw [<- Dv.length_eq];simp
   refine ae (fun DA => ?_) (fun DA => ?_)
   ·refine wpS_bind (cn ?_)
    refine wpS_bind (tG c F.kind F.arr U ho (n:=min R.length minrun) (by lia) (by simp;lia) (fun x hx=>DE x (Dv.mem_iff.mp hx)) fun r2 R2 B DG Dy G DM Dx => ?_)
    try dsimp only
    refine ae (fun h=>absurd h (by simp)) (fun _ => ?_)
    have DH:r2≠[]:=fun z=>by
     rw [z] at G;simp at G
     have:=List.length_pos_iff.mpr U
     lia
    have F:Rn lt kd a₀ B rs (r2++R2):=⟨DG,(List.Perm.append_left _ Dy).trans F.perm,F.ord,by rw [Dx.pend];exact F.pend,Dx.kind.trans F.kind,Dx.fail.trans F.fail⟩
    rw [<- G]
    clear G Dy DG Dx ea Dv kp DF DA
    generalize B=J at F
    clear ho U
    have ho:=DM
    have U:=DH
    generalize r2=r at F ho U
    generalize R2=R1 at F
    refine wpS_bind (wpS_get ?_)
    try dsimp only
    have DI:(pendingOf J).size=rs.length:=by rw [<- Array.length_toList];exact F.pend.length
    cases hb:(pendingOf J).back? with
    | none =>
      try dsimp only
      have HL:rs.flatten.length=rs.flatten.length:=rfl
      refine wpS_bind (wpS_modify ?_)
      have DB:=List.length_pos_iff.mpr U
      have Y:(rs++[r]).flatten.length=rs.flatten.length+r.length:=by rw [List.flatten_append,List.length_append,HL];simp
      refine aa ⟨rs++[r],R1,by rw [Y],⟨by rw [show _=_ from F.arr];simp, ?_, ?_, ?_,F.kind,F.fail⟩,by rw [Y];lia⟩
      ·refine List.Perm.trans (List.Perm.of_eq (by simp)) F.perm
      ·intro u hu
       rcases List.mem_append.mp hu with z | z
       ·exact F.ord u z
       ·simp at z;subst z;exact ⟨U,ho⟩
      ·have h8:(pendingOf (setPending J ((pendingOf J).push (rs.flatten.length,r.length,0)))).toList=(pendingOf J).toList++[(rs.flatten.length,r.length,0)]:=by
        show ((pendingOf J).push _).toList=_
        rw [Array.toList_push]
       rw [show _=_ from h8]
       exact F.pend.join ⟨0,[],by rw [HL,Nat.zero_add],rfl⟩
    | some v =>
      obtain ⟨s1,n1,p1⟩:=v
      try dsimp only
      refine wpS_bind (az (Q:=fun x st'=>x=(none,()) /\ ∃ rs',Rn lt kd a₀ st' rs' (r++R1)/\rs'.flatten.length=rs.flatten.length)
       (wpS_forRange (fun i x st'=>x=(none,()) /\ ∃ rs',Rn lt kd a₀ st' rs' (r++R1)/\rs'.flatten.length=rs.flatten.length) ?_ ?_ ⟨rfl,rs,F,rfl⟩) ?_)
      ·rintro j x B _ hj ⟨rfl,rs',O,G⟩
       refine wpS_bind (wpS_get ?_)
       try dsimp only
       have Dw:(pendingOf B).size=rs'.length:=by rw [<- Array.length_toList];exact O.pend.length
       by_cases h1:(pendingOf B).size > 1
       ·rw [if_pos h1]
        have h2:(pendingOf B)[(pendingOf B).size - 2]? = some ((pendingOf B)[(pendingOf B).size - 2]'(by lia)):=Array.getElem?_eq_getElem (by lia)
        rw [h2]
        try dsimp only
        refine ae (fun h => ?_) (fun h => ?_)
        ·exact aa ⟨rfl,rs',O,G⟩
        ·obtain ⟨t,a,b,e⟩:=nA (l:=rs') (by lia)
         subst e
         refine wpS_bind (O.merge c hP (by rw [Dw];simp) fun m Z h4 hm => ?_)
         refine ae (fun h=>absurd h (by simp)) (fun _=>aa ⟨rfl,_,h4, ?_⟩)
         rw [<- G];simp [hm]
       ·rw [if_neg h1]
        exact aa ⟨rfl,rs',O,G⟩
      ·rintro x B ⟨rfl,rs',O,G⟩
       exact ⟨rfl,rs',O,G⟩
      ·rintro x B ⟨rfl,rs',O,G⟩
       try dsimp only
       refine wpS_bind (wpS_modify ?_)
       have h4:Rn lt kd a₀ (setPending B ((pendingOf B).modify ((pendingOf B).size - 1) fun x=>(x.1,x.2.1,power' size (2*s1+n1) (2*s1+n1+n1+r.length) size))) rs' (r++R1):=⟨O.arr,O.perm,O.ord,tH O.pend,O.kind,O.fail⟩
       generalize DJ:setPending B ((pendingOf B).modify ((pendingOf B).size - 1) fun x=>(x.1,x.2.1,power' size (2*s1+n1) (2*s1+n1+n1+r.length) size))=Z at h4
       have HL:=G
       refine wpS_bind (wpS_modify ?_)
       have DB:=List.length_pos_iff.mpr U
       have Y:(rs'++[r]).flatten.length=rs.flatten.length+r.length:=by rw [List.flatten_append,List.length_append,HL];simp
       refine aa ⟨rs'++[r],R1,by rw [Y],⟨by rw [show _=_ from h4.arr];simp, ?_, ?_, ?_,h4.kind,h4.fail⟩,by rw [Y];lia⟩
       ·refine List.Perm.trans (List.Perm.of_eq (by simp)) h4.perm
       ·intro u hu
        rcases List.mem_append.mp hu with z | z
        ·exact h4.ord u z
        ·simp at z;subst z;exact ⟨U,ho⟩
       ·have h8:(pendingOf (setPending Z ((pendingOf Z).push (rs.flatten.length,r.length,0)))).toList=(pendingOf Z).toList++[(rs.flatten.length,r.length,0)]:=by
         show ((pendingOf Z).push _).toList=_
         rw [Array.toList_push]
        rw [show _=_ from h8]
        exact h4.pend.join ⟨0,[],by rw [HL,Nat.zero_add],rfl⟩
   ·clear ea Dv kp DF DA
    refine wpS_bind (wpS_get ?_)
    try dsimp only
    have DI:(pendingOf J).size=rs.length:=by rw [<- Array.length_toList];exact F.pend.length
    cases hb:(pendingOf J).back? with
    | none =>
      try dsimp only
      have HL:rs.flatten.length=rs.flatten.length:=rfl
      refine wpS_bind (wpS_modify ?_)
      have DB:=List.length_pos_iff.mpr U
      have Y:(rs++[r]).flatten.length=rs.flatten.length+r.length:=by rw [List.flatten_append,List.length_append,HL];simp
      refine aa ⟨rs++[r],R1,by rw [Y],⟨by rw [show _=_ from F.arr];simp, ?_, ?_, ?_,F.kind,F.fail⟩,by rw [Y];lia⟩
      ·refine List.Perm.trans (List.Perm.of_eq (by simp)) F.perm
      ·intro u hu
       rcases List.mem_append.mp hu with z | z
       ·exact F.ord u z
       ·simp at z;subst z;exact ⟨U,ho⟩
      ·have h8:(pendingOf (setPending J ((pendingOf J).push (rs.flatten.length,r.length,0)))).toList=(pendingOf J).toList++[(rs.flatten.length,r.length,0)]:=by
        show ((pendingOf J).push _).toList=_
        rw [Array.toList_push]
       rw [show _=_ from h8]
       exact F.pend.join ⟨0,[],by rw [HL,Nat.zero_add],rfl⟩
    | some v =>
      obtain ⟨s1,n1,p1⟩:=v
      try dsimp only
      refine wpS_bind (az (Q:=fun x st'=>x=(none,()) /\ ∃ rs',Rn lt kd a₀ st' rs' (r++R1)/\rs'.flatten.length=rs.flatten.length)
       (wpS_forRange (fun i x st'=>x=(none,()) /\ ∃ rs',Rn lt kd a₀ st' rs' (r++R1)/\rs'.flatten.length=rs.flatten.length) ?_ ?_ ⟨rfl,rs,F,rfl⟩) ?_)
      ·rintro j x B _ hj ⟨rfl,rs',O,G⟩
       refine wpS_bind (wpS_get ?_)
       try dsimp only
       have Dw:(pendingOf B).size=rs'.length:=by rw [<- Array.length_toList];exact O.pend.length
       by_cases h1:(pendingOf B).size > 1
       ·rw [if_pos h1]
        have h2:(pendingOf B)[(pendingOf B).size - 2]? = some ((pendingOf B)[(pendingOf B).size - 2]'(by lia)):=Array.getElem?_eq_getElem (by lia)
        rw [h2]
        try dsimp only
        refine ae (fun h => ?_) (fun h => ?_)
        ·exact aa ⟨rfl,rs',O,G⟩
        ·obtain ⟨t,a,b,e⟩:=nA (l:=rs') (by lia)
         subst e
         refine wpS_bind (O.merge c hP (by rw [Dw];simp) fun m Z h4 hm => ?_)
         refine ae (fun h=>absurd h (by simp)) (fun _=>aa ⟨rfl,_,h4, ?_⟩)
         rw [<- G];simp [hm]
       ·rw [if_neg h1]
        exact aa ⟨rfl,rs',O,G⟩
      ·rintro x B ⟨rfl,rs',O,G⟩
       exact ⟨rfl,rs',O,G⟩
      ·rintro x B ⟨rfl,rs',O,G⟩
       try dsimp only
       refine wpS_bind (wpS_modify ?_)
       have h4:Rn lt kd a₀ (setPending B ((pendingOf B).modify ((pendingOf B).size - 1) fun x=>(x.1,x.2.1,power' size (2*s1+n1) (2*s1+n1+n1+r.length) size))) rs' (r++R1):=⟨O.arr,O.perm,O.ord,tH O.pend,O.kind,O.fail⟩
       generalize DJ:setPending B ((pendingOf B).modify ((pendingOf B).size - 1) fun x=>(x.1,x.2.1,power' size (2*s1+n1) (2*s1+n1+n1+r.length) size))=Z at h4
       have HL:=G
       refine wpS_bind (wpS_modify ?_)
       have DB:=List.length_pos_iff.mpr U
       have Y:(rs'++[r]).flatten.length=rs.flatten.length+r.length:=by rw [List.flatten_append,List.length_append,HL];simp
       refine aa ⟨rs'++[r],R1,by rw [Y],⟨by rw [show _=_ from h4.arr];simp, ?_, ?_, ?_,h4.kind,h4.fail⟩,by rw [Y];lia⟩
       ·refine List.Perm.trans (List.Perm.of_eq (by simp)) h4.perm
       ·intro u hu
        rcases List.mem_append.mp hu with z | z
        ·exact h4.ord u z
        ·simp at z;subst z;exact ⟨U,ho⟩
       ·have h8:(pendingOf (setPending Z ((pendingOf Z).push (rs.flatten.length,r.length,0)))).toList=(pendingOf Z).toList++[(rs.flatten.length,r.length,0)]:=by
         show ((pendingOf Z).push _).toList=_
         rw [Array.toList_push]
        rw [show _=_ from h8]
        exact h4.pend.join ⟨0,[],by rw [HL,Nat.zero_add],rfl⟩
 ·rintro r DC ⟨rs,R,rfl,L,Dz⟩
  have:=L.size
  have:R=[]:=List.length_eq_zero_iff.mp (by lia)
  subst this
  exact ⟨rs,_,rfl,L⟩
 ·rintro r DC ⟨rs,lo,rfl,L⟩
  try dsimp only
  refine wpS_bind (az (Q:=fun r st'=>r=(none,()) /\ ∃ rs,Rn lt kd a₀ st' rs []/\rs.length<=1)
   (wpS_forRange (fun i r st'=>r=(none,()) /\ ∃ rs,Rn lt kd a₀ st' rs []/\rs.length+i<=size) ?_ ?_ ⟨rfl,rs,L, ?_⟩) ?_)
  ·rintro i r J _ hi ⟨rfl,rs,L,Dz⟩
   refine wpS_bind (wpS_get ?_)
   try dsimp only
   have DI:(pendingOf J).size=rs.length:=by rw [<- Array.length_toList];exact L.pend.length
   refine ae (fun h => ?_) (fun h => ?_)
   ·exact aa ⟨rfl,rs,L,by lia⟩
   ·have go:∀ k,k+1 < rs.length->wpS (PySem.model prog w) A E s (mergeAt' k) (fun b st'=>b=true /\ ∃ rs',Rn lt kd a₀ st' rs' []/\rs'.length+1=rs.length) J:=by
     intro k hk
     obtain ⟨t,a,b,u,e,ht⟩:=Bo hk
     subst e
     refine L.merge c hP ht.symm fun m B O _=>⟨rfl,_,O,by simp;lia⟩
    refine wpS_bind (az (go _ ?_) ?_)
    ·(repeat' split) <;> lia
    ·rintro b B ⟨rfl,rs',O,G⟩
     refine ae (fun h=>absurd h (by simp)) (fun _=>aa ⟨rfl,rs',O,by lia⟩)
  ·rintro r J ⟨rfl,rs,L,Dz⟩
   exact ⟨rfl,rs,L,by lia⟩
  ·have h1:=ph fun r hr=>(L.ord r hr).1
   have h2:=L.size
   simp only [List.length_nil] at h2
   lia
  ·rintro r J ⟨rfl,rs,L,hl⟩
   refine aa (q J (by rw [L.arr];exact L.perm) ?_ L.fail)
   rw [L.arr,List.append_nil]
   match rs,hl,L with
   | [],_,_=>exact List.Pairwise.nil
   | [r],_,L=>simpa using (L.ord r (by simp)).2
end
end Srt
end L2
namespace L2
namespace Srt
open PySem PySem.Spec PyProof.Rows
noncomputable def jG (cap:Nat):Prop := ∀ (prog:Program) (w:World) (A:Around) (E:Value->Shared->Prop) (s:Shared) (kd:SortKind) (P:Keyed->Prop) (lt:Keyed->Keyed->Bool),Cm prog w A s kd P lt -> ∀ (st:SortSt) (Q:Unit->SortSt->Prop),kindOf st=kd->failedOf st=none->pendingOf st = #[]->(∀ x∈(arrOf st).toList,P x)->2<=(arrOf st).size->(arrOf st).size<=cap ->
 (∀ st',(arrOf st').toList.Perm (arrOf st).toList->Ord lt (arrOf st').toList->failedOf st'=none->Q () st')->wpS (PySem.model prog w) A E s sortRuns' Q st
theorem qN {cap:Nat}:jG cap:=fun _ _ _ _ _ _ _ _ c _ _ j hf z B _ _ q=>oC c j hf z B q
end Srt
end L2
namespace L2
namespace Srt
open PySem PySem.Spec PyProof.Rows
inductive Ky where
 | int (i:Int)
 | tup (l:List Ky)
mutual
noncomputable def au:Ky->Ky->Ordering
 | .int a, .int b=>if a < b then .lt else if a=b then .eq else .gt
 | .int _, .tup _ => .lt
 | .tup _, .int _ => .gt
 | .tup a, .tup b=>cmpKs a b
noncomputable def cmpKs:List Ky->List Ky->Ordering
 | [],[] => .eq
 | [],_::_ => .lt
 | _::_,[] => .gt
 | x::xs,y::ys=>(au x y).then (cmpKs xs ys)
end
mutual
theorem cG:∀ a b,au b a=(au a b).swap
 | .int a, .int b=>by
  simp only [au]
  by_cases h1:a < b
  ·rw [if_pos h1,if_neg (by lia),if_neg (by lia)];rfl
  ·by_cases h2:a=b
   ·rw [if_neg h1,if_pos h2,if_neg (by lia),if_pos h2.symm];rfl
   ·rw [if_neg h1,if_neg h2,if_pos (by lia)];rfl
 | .int _, .tup _=>by simp [au]
 | .tup _, .int _=>by simp [au]
 | .tup a, .tup b=>by simp only [au];exact cmpKs_swap a b
theorem cmpKs_swap:∀ a b,cmpKs b a=(cmpKs a b).swap
 | [],[] => rfl
 | [],_::_=>rfl
 | _::_,[] => rfl
 | x::xs,y::ys=>by
   simp only [cmpKs]
   rw [cG x y,cmpKs_swap xs ys]
   cases au x y <;> rfl
end
mutual
theorem gh:∀ a b,au a b = .eq->a=b
 | .int a, .int b,h=>by
  simp only [au] at h
  by_cases h1:a < b
  ·rw [if_pos h1] at h;cases h
  ·by_cases h2:a=b
   ·rw [h2]
   ·rw [if_neg h1,if_neg h2] at h;cases h
 | .int _, .tup _,h=>by simp [au] at h
 | .tup _, .int _,h=>by simp [au] at h
 | .tup a, .tup b,h=>by simp only [au] at h;rw [cmpKs_eq a b h]
theorem cmpKs_eq:∀ a b,cmpKs a b = .eq->a=b
 | [],[],_=>rfl
 | [],_::_,h=>by simp [cmpKs] at h
 | _::_,[],h=>by simp [cmpKs] at h
 | x::xs,y::ys,h=>by
   simp only [cmpKs] at h
   cases e:au x y with
   | lt=>rw [e] at h;cases h
   | gt=>rw [e] at h;cases h
   | eq=>rw [e] at h;rw [gh x y e,cmpKs_eq xs ys h]
end
mutual
theorem j7:∀ a b c,au a b = .lt->au b c = .lt->au a c = .lt
 | .int a, .int b, .int c,h,g=>by
  simp only [au] at h g ⊢
  have h1:a < b:=by
   by_cases h1:a < b
   ·exact h1
   ·rw [if_neg h1] at h;split at h <;> cases h
  have h2:b < c:=by
   by_cases h1:b < c
   ·exact h1
   ·rw [if_neg h1] at g;split at g <;> cases g
  rw [if_pos (by lia)]
 | .int _, .tup _, .int _,_,g=>by simp [au] at g
 | .int _, .int _, .tup _,_,_=>by simp [au]
 | .int _, .tup _, .tup _,_,_=>by simp [au]
 | .tup _, .int _,_,h,_=>by simp [au] at h
 | .tup _, .tup _, .int _,_,g=>by simp [au] at g
 | .tup a, .tup b, .tup c,h,g=>by simp only [au] at h g ⊢;exact cmpKs_trans a b c h g
theorem cmpKs_trans:∀ a b c,cmpKs a b = .lt->cmpKs b c = .lt->cmpKs a c = .lt
 | [],[],_,h,_=>by simp [cmpKs] at h
 | [],_::_,[],_,g=>by simp [cmpKs] at g
 | [],_::_,_::_,_,_=>by simp [cmpKs]
 | _::_,[],_,h,_=>by simp [cmpKs] at h
 | _::_,_::_,[],_,g=>by simp [cmpKs] at g
 | x::xs,y::ys,z::zs,h,g=>by
   simp only [cmpKs] at h g ⊢
   cases e:au x y with
   | gt=>rw [e] at h;cases h
   | eq =>
     have:=gh x y e
     subst this
     rw [e] at h
     cases e2:au x z with
     | gt=>rw [e2] at g;cases g
     | lt=>rfl
     | eq=>rw [e2] at g;exact cmpKs_trans xs ys zs h g
   | lt =>
     cases e2:au y z with
     | gt=>rw [e2] at g;cases g
     | lt=>rw [j7 x y z e e2];rfl
     | eq =>
       have:=gh y z e2
       subst this
       rw [e];rfl
end
noncomputable def ltK (a b:Ky):Bool:=au a b == .lt
noncomputable def nB (a b:List Ky):Bool:=cmpKs a b == .lt
theorem hW (a b:Ky) (h:ltK a b=true):ltK b a=false:=by
 unfold ltK at h ⊢
 rw [cG a b,(by simpa using h:au a b = .lt)];rfl
theorem kD (a b:Ky) (h:ltK a b=false) (g:ltK b a=false):a=b:=by
 unfold ltK at h g
 rw [cG a b] at g
 apply gh
 cases e:au a b with
 | eq=>rfl
 | lt=>rw [e] at h;cases h
 | gt=>rw [e] at g;cases g
theorem zy (a b c:Ky) (h:ltK a c=true):ltK a b=true∨ltK b c=true:=by
 cases e:ltK a b with
 | true=>exact .inl rfl
 | false =>
   right
   cases j:ltK b a with
   | false=>rw [kD a b e j] at h;exact h
   | true =>
     unfold ltK at h j ⊢
     rw [j7 b a c (by simpa using j) (by simpa using h)];rfl
theorem tI (x y:Ky) (xs ys:List Ky):nB (x::xs) (y::ys)=if (!ltK x y && !ltK y x)=true then nB xs ys else ltK x y:=by
 unfold nB ltK
 rw [cG x y]
 simp only [cmpKs]
 cases au x y <;> simp
mutual
noncomputable def toK:PyData->Ky
 | .int i => .int i
 | .tuple xs => .tup (toKs xs)
 | _ => .int 0
noncomputable def toKs:List PyData->List Ky
 | [] => []
 | x::xs=>toK x::toKs xs
end
inductive Cmpb:PyData->PyData->Prop where
 | int (a b:Int):Cmpb (.int a) (.int b)
 | nil (ys:List PyData):Cmpb (.tuple []) (.tuple ys)
 | nil' (xs:List PyData):Cmpb (.tuple xs) (.tuple [])
 | cons {x y:PyData} {xs ys:List PyData}:Cmpb x y->Cmpb (.tuple xs) (.tuple ys)->Cmpb (.tuple (x::xs)) (.tuple (y::ys))
theorem Cmpb.eqv {x y:PyData} (h:Cmpb x y):PyData.eqv x y=(!ltK (toK x) (toK y) && !ltK (toK y) (toK x)):=by
 have g:∀ {x y:PyData},Cmpb x y->PyData.eqv x y=(au (toK x) (toK y) == .eq):=by
  intro x y h
  induction h with
  | int a b =>
    simp only [PyData.eqv,toK,au]
    by_cases h1:a < b
    ·rw [if_pos h1];simp;lia
    ·by_cases h2:a=b
     ·rw [if_neg h1,if_pos h2];simp [h2]
     ·rw [if_neg h1,if_neg h2];simp;lia
  | nil ys=>cases ys <;> simp [PyData.eqv,PyData.eqvAll,toK,toKs,au,cmpKs]
  | nil' xs=>cases xs <;> simp [PyData.eqv,PyData.eqvAll,toK,toKs,au,cmpKs]
  | @cons x y xs ys h1 h2 ih1 j =>
   simp only [PyData.eqv] at j ⊢
   simp only [PyData.eqvAll,toK,toKs,au,cmpKs] at j ⊢
   rw [ih1,j]
   cases au (toK x) (toK y) <;> simp
 rw [g h]
 unfold ltK
 rw [cG (toK x) (toK y)]
 cases au (toK x) (toK y) <;> rfl
section
variable {prog:Program} {w:World} {A:Around} {E:Value->Shared->Prop} {s:Shared}
theorem trd {b:Bool} {Q:Bool->Shared->Prop} (q:Q b s):wpAny (PySem.model prog w) A (truthOfDropped (.bool b)) Q E s:=by
 unfold truthOfDropped
 wp_walk
 exact q
theorem gj (a b:Int):ltK (.int a) (.int b)=decide (a < b):=by
 simp only [ltK,au]
 by_cases h:a < b
 ·simp [h]
 ·by_cases h2:a=b <;> simp [h,h2]
theorem tJ {a b:Int} {t u:Tok} {Q:Value->Shared->Prop} (q:Q (.bool (decide (a < b))) s):wpAny (PySem.model prog w) A (richCompare .Lt (.int a t) (.int b u)) Q E s :=
 wpAny_richCompare_same (T := "int") rfl rfl F.slot_int_lt (call_int_lt ⟨by simp,q⟩)
noncomputable def bT:List PyData->List PyData->Option Bool
 | x::xs,y::ys=>if PyData.eqv x y=true then bT xs ys else some (ltK (toK x) (toK y))
 | _,_=>none
theorem i3:∀ {xs ys:List PyData},Cmpb (.tuple xs) (.tuple ys)->ltK (toK (.tuple xs)) (toK (.tuple ys))=match bT xs ys with | some b=>b | none=>decide (xs.length < ys.length)
 | [],[],_=>rfl
 | [],_::_,_=>by simp [bT,toK,toKs,ltK,au,cmpKs]
 | _::_,[],_=>by simp [bT,toK,toKs,ltK,au,cmpKs]
 | x::xs,y::ys,h=>by
   cases h with
   | cons h1 h2 =>
     have ih:=i3 h2
     have e:∀ a b:List Ky,ltK (.tup a) (.tup b)=nB a b:=fun a b=>by simp [ltK,nB,au]
     simp only [toK,toKs,e] at ih ⊢
     rw [tI, <- h1.eqv]
     simp only [bT]
     split
     ·rw [ih];simp
     ·rfl
noncomputable def ce {α β:Type} (M:Model) (A:Around) (E:Value->Shared->Prop) (f : α -> β -> Sem (ForInStep β)) (Q : β -> Shared->Prop):List α -> β -> Shared->Prop
 | [],c,s=>Q c s
 | x::xs,c,s=>wpAny M A (f x c) (fun r s'=>match r with | .done c'=>Q c' s' | .yield c'=>ce M A E f Q xs c' s') E s
theorem eS {α β:Type} {M:Model} {f : α -> β -> Sem (ForInStep β)} {Q : β -> Shared->Prop}:∀ {l:List α} {c : β} {s:Shared},ce M A E f Q l c s->wpAny M A (forIn l c f) Q E s
 | [],c,s,h=>by rw [List.forIn_nil];exact wpAny_pure h
 | x::xs,c,s,h=>by
   rw [List.forIn_cons]
   refine wpAny_bind (wpAny_mono h (fun r s' j => ?_) fun _ _ z=>z)
   cases r with
   | done c'=>exact wpAny_pure j
   | yield c'=>exact eS j
theorem bA {h:Heap}:∀ {vs:List Value} {xs:List PyData} {as:List Addr},ReadsAll h vs xs as->vs.length=xs.length
 | _,_,_, .nil=>rfl
 | _,_,_, .cons _ r=>by simp [bA r]
theorem i5 {α β:Type} {M:Model} {n:Nat} {f : α -> Option β × Unit->Sem (ForInStep (Option β × Unit))} {g:Bool -> β} {pr : α -> Value×Value} {Q:Option β × Unit->Shared->Prop} :
 ∀ {l:List α} {vs us:List Value} {xs ys:List PyData} {as bs:List Addr},l.map pr=vs.zip us->ReadsAll s.heap vs xs as->ReadsAll s.heap us ys bs->Cmpb (.tuple xs) (.tuple ys)->PyData.canLayAll0 xs=true->PyData.canLayAll0 ys=true->PyData.depthAll xs<=n ->
  (∀ (z : α) (x y:Value) (d e:PyData) (as bs:List Addr) (R:ForInStep (Option β × Unit)->Shared->Prop),z∈l->pr z=(x,y)->Reads s.heap x d as->Reads s.heap y e bs->Cmpb d e->d.canLay0=true->e.canLay0=true->d.depth<=n ->
   R (if PyData.eqv d e=true then .yield (none,()) else .done (some (g (ltK (toK d) (toK e))),())) s->wpAny M A (f z (none,())) R E s) ->
  Q ((bT xs ys).map g,()) s->ce M A E f Q l (none,()) s
 | [],vs,us,xs,ys,as,bs,e,j,B,F,_,_,_,_,q=>by
  have h1:=bA j
  have h2:=bA B
  have:vs=[]∨us=[]:=by
   cases vs with
   | nil=>exact .inl rfl
   | cons v vs=>cases us with
     | nil=>exact .inr rfl
     | cons u us=>simp at e
  have G:bT xs ys=none:=by
   rcases this with rfl | rfl
   ·cases xs with
    | nil=>simp [bT]
    | cons x xs=>simp at h1
   ·cases ys with
    | nil=>cases xs <;> simp [bT]
    | cons y ys=>simp at h2
  rw [G] at q
  exact q
 | z::l,vs,us,xs,ys,as,bs,e,j,B,F,lx,ly,hd,hf,q=>by
   cases j with
   | nil=>simp at e
   | cons rx j =>
     cases B with
     | nil=>simp at e
     | cons ry B =>
       simp only [List.map_cons,List.zip_cons_cons,List.cons.injEq] at e
       simp only [PyData.canLayAll0,Bool.and_eq_true] at lx ly
       simp only [PyData.depthAll] at hd
       cases F with
       | cons J L =>
         simp only [ce]
         refine hf z _ _ _ _ _ _ _ (by simp) e.1 rx ry J lx.1 ly.1 (by lia) ?_
         simp only [bT] at q
         split at q
         ·next h =>
          rw [if_pos h]
          exact i5 e.2 j B L lx.2 ly.2 (by lia) (fun z x y d e as bs R O=>hf z x y d e as bs R (by simp [O])) q
         ·next h =>
          rw [if_neg h]
          exact q
noncomputable def Do (n:Nat):Prop := ∀ (prog:Program) (w:World) (A:Around) (s:Shared) (a b:Value) (d e:PyData) (as bs:List Addr) (E:Value->Shared->Prop) (Q:Value->Shared->Prop),d.depth<=n->Cmpb d e->Reads s.heap a d as->Reads s.heap b e bs->d.canLay0=true->e.canLay0=true->A.units+n+1 < cLine ->
 Q (.bool (ltK (toK d) (toK e))) s->wpAny (PySem.model prog w) A (richCompare .Lt a b) Q E s
theorem CH:∀ n,Do n:=by
 intro n
 induction n with
 | zero =>
   intro prog w A s a b d e as bs E Q hd z ra rb ld le Z q
   cases z with
   | int i j =>
     cases ra;cases rb
     exact tJ (by rw [<- gj];exact q)
   | nil ys=>simp [PyData.depth] at hd
   | nil' xs=>simp [PyData.depth] at hd
   | cons _ _=>simp [PyData.depth] at hd
 | succ n ih =>
   intro prog w A s a b d e as bs E Q hd z ra rb ld le Z q
   have tup:∀ xs ys,d = .tuple xs->e = .tuple ys->wpAny (PySem.model prog w) A (richCompare .Lt a b) Q E s:=by
    rintro xs ys rfl rfl
    cases ra with
    | tuple h1 h2 h3 J =>
      cases rb with
      | tuple g1 g2 g3 L =>
        rename_i l ol vl nl p ob vb nb
        have tl:s.TypeIs (.ref l) "tuple" := ⟨_,h1,h2⟩
        have tb:s.TypeIs (.ref p) "tuple" := ⟨_,g1,g2⟩
        refine wpAny_richCompare_same_room tl tb F.slot_tuple_lt (wpAny_call_entry F.slot_tuple_lt tl F.entry_tuple_lt ?_ (F.args_tuple_lt_2 _ _)) (by lia)
        unfold Builtin.«tuple.__lt__»
        refine wpAny_bind ?_
        have O:isSubtype (.type "tuple") (.type "tuple")=pure true:=by rw [isSubtype_type];kernel_rfl
        wp_walk
        rw [h3]
        wp_walk
        rw [g3]
        refine wpAny_pure ?_
        refine wpAny_pure ?_
        refine wpAny_bind (eS (i5 (n:=n) (g:=fun b=>Fin.done (Flow.ret (Value.bool b))) (pr:=id) (List.map_id _) J L z ld le (by simp [PyData.depth] at hd;lia) ?_ ?_))
        ·rintro ⟨x,y⟩ x' y' d e as bs R _ hz rx ry z ld le hd r
         cases hz
         dsimp only
         refine wpAny_bind (SeqAt.eqAt_reads d e _ _ _ _ _ _ rx ry ld le ?_ prog w E _ ?_)
         ·show A.units+1+min d.depth e.depth < cLine
          lia
         ·by_cases B:PyData.eqv d e=true
          ·rw [if_pos B] at r
           rw [B]
           exact wpAny_pure r
          ·rw [if_neg B] at r
           have B:PyData.eqv d e=false:=by simpa using B
           rw [B]
           refine wpAny_bind (wpAny_rule (wpAny_bind (ih prog w _ s x y d e as bs E _ hd z rx ry ld le ?_ ?_)))
           ·show A.units+1+n+1 < cLine
            lia
           ·exact wpAny_pure r
        ·have G:=i3 z
         cases e2:bT xs ys with
         | some b =>
           rw [e2] at G
           dsimp only at G
           rw [G] at q
           exact wpAny_pure ⟨_,rfl,by simp,q⟩
         | none =>
           rw [e2] at G
           dsimp only at G
           rw [G] at q
           have U:=bA J
           have Y:=bA L
           refine wpAny_pure ⟨_,rfl, ?_, ?_⟩
           ·simp [Builtin.Tuple.tupleCompareSizes]
           ·simp only [Array.length_toList] at U Y
            simp only [Builtin.Tuple.tupleCompareSizes]
            rw [U,Y]
            exact q
   cases z with
   | int i j =>
     cases ra;cases rb
     exact tJ (by rw [<- gj];exact q)
   | nil ys=>exact tup _ _ rfl rfl
   | nil' xs=>exact tup _ _ rfl rfl
   | cons _ _=>exact tup _ _ rfl rfl
end
end Srt
end L2
namespace L2
namespace Srt
open PySem PySem.Spec PyProof.Rows
section
variable {prog:Program} {w:World} {A:Around} {E:Value->Shared->Prop} {s:Shared}
theorem j8 {α β:Type} {M:Model} {f : α -> Sem β} {g : α -> β}:∀ {l:List α} {Q:List β -> Shared->Prop},(∀ x∈l, ∀ R : β -> Shared->Prop,R (g x) s->wpAny M A (f x) R E s)->Q (l.map g) s->wpAny M A (l.mapM f) Q E s
 | [],Q,_,q=>by rw [List.mapM_nil];exact wpAny_pure q
 | x::xs,Q,h,q=>by
   rw [List.mapM_cons]
   refine wpAny_bind (h x (by simp) _ (wpAny_bind (j8 (fun y j=>h y (by simp [j])) (wpAny_pure q))))
theorem dM {α β:Type} {M:Model} {f : α -> Sem β} {g : α -> β} {xs:Array α} {Q:Array β -> Shared->Prop} (h:∀ x∈xs.toList, ∀ R : β -> Shared->Prop,R (g x) s->wpAny M A (f x) R E s) (q:Q (xs.map g) s):wpAny M A (xs.mapM f) Q E s:=by
 rw [Array.mapM_eq_mapM_toList]
 rw [map_eq_pure_bind]
 refine wpAny_bind (j8 h (wpAny_pure ?_))
 have:(xs.toList.map g).toArray=xs.map g:=by
  apply Array.toList_inj.mp;simp
 rw [this];exact q
theorem kE {a:Addr} {v:Value} {vs:List Value} {o:Obj} {n:Nat} (h1:s.heap.get? a=some o) (h2:o.cls = .type "tuple") (j:o.data = .seq (v::vs).toArray n) {Q:Option Value->Shared->Prop} (q:Q (some v) s):wpAny (PySem.model prog w) A (firstOfTuple' (.ref a)) Q E s:=by
 unfold firstOfTuple'
 have ty:s.TypeIs (.ref a) "tuple" := ⟨_,h1,h2⟩
 wp_walk
 rw [j]
 refine wpAny_pure ?_
 refine wpAny_pure ?_
 exact wpAny_pure q
theorem zz {a:Addr} {o:Obj} {T:Value} (h1:s.heap.get? a=some o) (h2:o.cls=T) {Q:Value->Shared->Prop} (q:Q T s):wpAny (PySem.model prog w) A (typeOf (.ref a)) Q E s:=by
 wp_walk
 rw [h2];exact q
theorem tK {n:Nat} {x y:Value} {d e:PyData} {as bs:List Addr} (j:Cmpb d e) (rx:Reads s.heap x d as) (ry:Reads s.heap y e bs) (ld:d.canLay0=true) (le:e.canLay0=true) (hd:d.depth<=n) (z:A.units+n+1 < cLine) {Q:Bool->Shared->Prop} (q:Q (ltK (toK d) (toK e)) s):wpAny (PySem.model prog w) A (oneLt' false x y) Q E s:=by
 rw [oneLt'_eq]
 exact wpAny_bind (CH n prog w A s x y d e as bs E _ hd j rx ry ld le z (trd q))
theorem kF {n:Nat} {b:Bool} {x y:Value} {xs ys:List PyData} {as bs:List Addr} (hb:b=true -> ∀ d e,xs.head? = some d->ys.head? = some e->(∃ i,d = .int i) /\ ∃ i,e = .int i)
 (G:Cmpb (.tuple xs) (.tuple ys)) (rx:Reads s.heap x (.tuple xs) as) (ry:Reads s.heap y (.tuple ys) bs) (lx:PyData.canLayAll0 xs=true) (ly:PyData.canLayAll0 ys=true) (hd:PyData.depthAll xs<=n) (hu:A.units+n+1 < cLine) {Q:Bool->Shared->Prop} (q:Q (ltK (toK (.tuple xs)) (toK (.tuple ys))) s) :
 wpAny (PySem.model prog w) A (keyLt' (tuples' b) x y) Q E s:=by
 cases rx with
 | tuple h1 h2 h3 J =>
   cases ry with
   | tuple g1 g2 g3 L =>
     refine wpAny_bind (listItems_at h1 h3 ?_)
     refine wpAny_bind (listItems_at g1 g3 ?_)
     refine wpAny_bind (eS (i5 (n:=n) (g:=id) (pr:=Prod.fst) (List.zipIdx_map_fst _ _) J L G lx ly hd ?_ ?_))
     ·rintro ⟨⟨x,y⟩,i⟩ x' y' d e as bs R hz hp rx ry G ld le hd r
      cases hp
      dsimp only
      refine wpAny_bind (SeqAt.eqAt_reads d e _ _ _ _ _ _ rx ry ld le (by lia) prog w E _ ?_)
      by_cases F:PyData.eqv d e=true
      ·rw [if_pos F] at r
       rw [F]
       exact wpAny_pure r
      ·rw [if_neg F] at r
       have F:PyData.eqv d e=false:=by simpa using F
       rw [F]
       refine wpAny_bind ?_
       by_cases z:(b&&i==0)=true
       ·rw [z]
        simp only [Bool.and_eq_true,beq_iff_eq] at z
        obtain ⟨rfl,rfl⟩:=z
        have j:=List.mem_zipIdx_iff_getElem?.mp hz
        obtain ⟨U,Y,t1,Z,B,O⟩:∃ (U Y:Int) (t1 Z:Tok),x = .int U t1/\y = .int Y Z:=by
         generalize hV:Array.toList _=vl at J j
         generalize hU:Array.toList _=ul at L j
         cases J with
         | nil=>simp at j
         | cons p1 p2 =>
           cases L with
           | nil=>simp at j
           | cons q1 q2 =>
             simp at j
             obtain ⟨⟨U,ei⟩,⟨Y,ej⟩⟩:=hb rfl _ _ rfl rfl
             subst ei ej
             cases p1;cases q1
             exact ⟨_,_,_,_,j.1.symm,j.2.symm⟩
        subst B O
        cases rx;cases ry
        refine oneLt_int ?_
        rw [<- gj]
        exact wpAny_pure r
       ·have z:(b&&i==0)=false:=by simpa using z
        rw [z]
        exact tK G rx ry ld le hd hu (wpAny_pure r)
     ·have B:=i3 G
      cases O:bT xs ys with
      | some b =>
        rw [O] at B
        dsimp only at B
        rw [B] at q
        exact wpAny_pure q
      | none =>
        rw [O] at B
        dsimp only at B
        rw [B] at q
        have n1:=bA J
        have n2:=bA L
        refine wpAny_pure ?_
        simp only [Array.length_toList] at n1 n2
        rw [n1,n2]
        exact q
end
end Srt
end L2
namespace L2
namespace Srt
open PySem PySem.Spec PyProof.Rows
structure nC (n:Nat) (ds:List PyData):Prop where
 cmp:∀ d∈ds, ∀ e∈ds,Cmpb d e
 lay:∀ d∈ds,d.canLay0=true/\d.depth<=n
 kind:(∀ d∈ds, ∃ i,d = .int i)∨(∀ d∈ds, ∃ i xs,d = .tuple (.int i::xs))∨(∀ d∈ds, ∃ ys xs,d = .tuple (.tuple ys::xs))
noncomputable def cj (h:Heap):Value->Option Value
 | .ref a=>(h.get? a).bind fun o=>match o.data with | .seq xs _=>xs[0]? | _=>none
 | _=>none
section
variable {prog:Program} {w:World} {A:Around} {E:Value->Shared->Prop} {s:Shared}
noncomputable def cU (h:Heap) (x:Keyed):Ky:=toK (SeqAt.readOf h x.1)
noncomputable def RdL (h:Heap) (vs:List Value) (ds:List PyData):Prop := ∀ v∈vs, ∃ d∈ds, ∃ as,Reads h v d as
theorem fF {arr:Array Value} {T:String} (h0 : 0 < arr.size) (h:∀ v∈arr.toList, ∀ R:Value->Shared->Prop,R (.type T) s->wpAny (PySem.model prog w) A (typeOf v) R E s) {Q:Option Value->Shared->Prop} (q:Q (some (.type T)) s):wpAny (PySem.model prog w) A (oneTypeOnly' arr) Q E s:=by
 rw [oneTypeOnly'_eq]
 refine wpAny_bind (dM (g:=fun _=>Value.type T) h ?_)
 have e:(Array.map (fun _=>Value.type T) arr)[0]? = some (Value.type T):=by
  rw [Array.getElem?_map,Array.getElem?_eq_getElem h0];rfl
 rw [e]
 dsimp only
 have j:((Array.map (fun _=>Value.type T) arr).all fun x=>x==Value.type T)=true:=by
  rw [Array.all_eq_true]
  intro i hi
  simp
 rw [j]
 exact wpAny_pure q
theorem qO {n:Nat} {kd:SortKind} {vs:List Value} {ds:List PyData} (j:RdL s.heap vs ds) (hs:nC n ds)
 (h:∀ (x y:Value) (d e:PyData) (as bs:List Addr) (E:Value->Shared->Prop) (Q:Bool->Shared->Prop),d∈ds->e∈ds->Reads s.heap x d as->Reads s.heap y e bs->Q (ltK (toK d) (toK e)) s->wpAny (PySem.model prog w) A (keyLt' kd x y) Q E s) :
 Cm prog w A s kd (fun x=>x.1∈vs) (fun x y=>ltK (cU s.heap x) (cU s.heap y)) where
 asym:=fun x y=>hW _ _
 neg:=fun x y z=>zy _ _ _
 run:=fun x y E Q hx B q=>by
  obtain ⟨d,hd,as,ra⟩:=j _ hx
  obtain ⟨e,he,bs,rb⟩:=j _ B
  have F:=SeqAt.readOf_eq (hs.lay d hd).1 ra
  have G:=SeqAt.readOf_eq (hs.lay e he).1 rb
  unfold cU at q
  rw [F,G] at q
  exact h _ _ d e as bs E Q hd he ra rb q
theorem nD {h:Heap} {vs:List Value} (j:∀ v∈vs, ∃ u,cj h v=some u):((vs.toArray.map (cj h)).all fun x=>x.isSome)=true:=by
 rw [Array.all_eq_true]
 intro i hi
 simp at hi
 obtain ⟨u,q⟩:=j vs[i] (List.getElem_mem hi)
 simp [q]
theorem tL {h:Heap} {vs:List Value} {x:Value} (hx:x∈(Array.filterMap id (vs.toArray.map (cj h))).toList):∃ v∈vs,cj h v=some x:=by
 simp at hx
 exact hx
theorem tM {h:Heap} {v:Value} {vs:List Value} {u:Value} (j:cj h v=some u) : 0 < (Array.filterMap id ((v::vs).toArray.map (cj h))).size:=by
 rw [<- Array.length_toList]
 simp [j]
theorem kG {h:Heap} {v:Value} {d:PyData} {xs:List PyData} {as:List Addr} (r:Reads h v (.tuple (d::xs)) as):∃ a o u us n bs,v = .ref a/\h.get? a=some o/\o.cls = .type "tuple" /\ o.data = .seq (u::us).toArray n/\Reads h u d bs:=by
 cases r with
 | @tuple a o vs n xs as h1 h2 j h4 =>
  generalize q:vs.toList=vl at h4
  cases h4 with
  | @cons u us _ _ bs _ z p2=>exact ⟨_,_,u,us,n,bs,rfl,h1,h2,by rw [j];congr 1;apply Array.toList_inj.mp;simpa using q,z⟩
theorem CI {n:Nat} {v:Value} {vs:List Value} {ds:List PyData} (Y:RdL s.heap (v::vs) ds) (hs:nC n ds) (z:A.units+n+1 < cLine) :
 ∃ kd,(∀ (E:Value->Shared->Prop) (Q:SortKind->Shared->Prop),Q kd s->wpAny (PySem.model prog w) A (keyKind' (v::vs).toArray) Q E s)/\Cm prog w A s kd (fun x=>x.1∈v::vs) (fun x y=>ltK (cU s.heap x) (cU s.heap y)):=by
 rcases hs.kind with J | J | J
 ·refine ⟨oneType',fun E Q q => ?_,qO Y hs fun x y d e as bs E Q hd he ra rb q => ?_⟩
  ·have hint:∀ u∈v::vs, ∃ i t,u = .int i t:=fun u z=>by
    obtain ⟨d,hd,as,ra⟩:=Y u z
    obtain ⟨i,rfl⟩:=J d hd
    cases ra
    exact ⟨_,_,rfl⟩
   rw [keyKind'_eq]
   refine wpAny_bind (dM (g:=fun _=>(none:Option Value)) (fun u z R r => ?_) ?_)
   ·obtain ⟨i,t,rfl⟩:=hint u (by simpa using z)
    rw [firstOfTuple'_int];exact wpAny_pure r
   ·have Z:((Array.map (fun _=>(none:Option Value)) (v::vs).toArray).all fun x=>x.isSome)=false:=by
     simp
    rw [Z]
    have B:((Array.map (fun _=>(none:Option Value)) (v::vs).toArray)[0]?.bind id).isSome=false:=by simp
    simp only [B,Bool.false_eq_true,if_false]
    refine wpAny_bind (fF (T := "int") (by simp) (fun u z R r => ?_) ?_)
    ·obtain ⟨i,t,rfl⟩:=hint u (by simpa using z)
     exact wpAny_pure r
    ·exact wpAny_pure q
  ·obtain ⟨i,rfl⟩:=J d hd
   obtain ⟨j,rfl⟩:=J e he
   cases ra;cases rb
   rw [keyLt'_oneType]
   exact oneLt_int (by rw [<- gj];exact q)
 ·refine ⟨tuples' true,fun E Q q => ?_,qO Y hs fun x y d e as bs E Q hd he ra rb q => ?_⟩
  ·have hf:∀ u∈v::vs, ∃ a o i t us n,u = .ref a/\s.heap.get? a=some o/\o.cls = .type "tuple" /\ o.data = .seq (.int i t::us).toArray n:=fun u z=>by
    obtain ⟨d,hd,as,ra⟩:=Y u z
    obtain ⟨i,xs,rfl⟩:=J d hd
    obtain ⟨a,o,u1,us,n,bs,Z,B,L,G,O⟩:=kG ra
    cases O
    exact ⟨a,o,_,_,us,n,Z,B,L,G⟩
   have F:∀ u∈v::vs, ∃ i t,cj s.heap u=some (.int i t):=fun u z=>by
    obtain ⟨a,o,i,t,us,n,rfl,B,L,G⟩:=hf u z
    exact ⟨i,t,by simp [cj,B,G]⟩
   rw [keyKind'_eq]
   refine wpAny_bind (dM (g:=cj s.heap) (fun u z R r => ?_) ?_)
   ·obtain ⟨a,o,i,t,us,n,rfl,B,L,G⟩:=hf u (by simpa using z)
    refine kE B L G ?_
    simpa [cj,B,G] using r
   ·rw [nD (fun u z=>let ⟨i,t,e⟩:=F u z; ⟨_,e⟩)]
    refine wpAny_bind (wpAny_rule ?_)
    obtain ⟨i0,t0,e0⟩:=F v (by simp)
    refine wpAny_bind (fF (T := "int") (tM e0) (fun u z R r => ?_) ?_)
    ·obtain ⟨u',U,e⟩:=tL z
     obtain ⟨i,t,e'⟩:=F u' U
     rw [e'] at e;cases e
     exact wpAny_pure r
    ·exact wpAny_pure q
  ·obtain ⟨i,xs,rfl⟩:=J d hd
   obtain ⟨j,ys,rfl⟩:=J e he
   have l1:=hs.lay _ hd
   have l2:=hs.lay _ he
   refine kF (n:=n) (fun _ d e hd he => ?_) (hs.cmp _ hd _ he) ra rb (by simpa [PyData.canLay0] using l1.1) (by simpa [PyData.canLay0] using l2.1) (by have:=l1.2;simp [PyData.depth] at this;lia) z q
   simp at hd he;subst hd he
   exact ⟨⟨_,rfl⟩,_,rfl⟩
 ·refine ⟨tuples' false,fun E Q q => ?_,qO Y hs fun x y d e as bs E Q hd he ra rb q => ?_⟩
  ·have hf:∀ u∈v::vs, ∃ a o b ob us n,u = .ref a/\s.heap.get? a=some o/\o.cls = .type "tuple" /\ o.data = .seq (.ref b::us).toArray n/\s.heap.get? b=some ob/\ob.cls = .type "tuple" := fun u z=>by
    obtain ⟨d,hd,as,ra⟩:=Y u z
    obtain ⟨ys,xs,rfl⟩:=J d hd
    obtain ⟨a,o,u1,us,n,bs,Z,B,L,G,O⟩:=kG ra
    cases O with
    | tuple h1 h2 h3 h4=>exact ⟨a,o,_,_,us,n,Z,B,L,G,h1,h2⟩
   have F:∀ u∈v::vs, ∃ b ob,cj s.heap u=some (.ref b)/\s.heap.get? b=some ob/\ob.cls = .type "tuple" := fun u z=>by
    obtain ⟨a,o,b,ob,us,n,rfl,B,L,G,O,e6⟩:=hf u z
    exact ⟨b,ob,by simp [cj,B,G],O,e6⟩
   rw [keyKind'_eq]
   refine wpAny_bind (dM (g:=cj s.heap) (fun u z R r => ?_) ?_)
   ·obtain ⟨a,o,b,ob,us,n,rfl,B,L,G,O,e6⟩:=hf u (by simpa using z)
    refine kE B L G ?_
    simpa [cj,B,G] using r
   ·rw [nD (fun u z=>let ⟨i,t,e,_⟩:=F u z; ⟨_,e⟩)]
    refine wpAny_bind (wpAny_rule ?_)
    obtain ⟨i0,t0,e0,_⟩:=F v (by simp)
    refine wpAny_bind (fF (T := "tuple") (tM e0) (fun u z R r => ?_) ?_)
    ·obtain ⟨u',U,e⟩:=tL z
     obtain ⟨b,ob,e',O,e6⟩:=F u' U
     rw [e'] at e;cases e
     exact zz O e6 r
    ·exact wpAny_pure q
  ·obtain ⟨zs,xs,rfl⟩:=J d hd
   obtain ⟨zs',ys,rfl⟩:=J e he
   have l1:=hs.lay _ hd
   have l2:=hs.lay _ he
   exact kF (n:=n) (fun h=>by cases h) (hs.cmp _ hd _ he) ra rb (by simpa [PyData.canLay0] using l1.1) (by simpa [PyData.canLay0] using l2.1) (by have:=l1.2;simp [PyData.depth] at this;lia) z q
end
end Srt
end L2
namespace L2
namespace Srt
open PySem PySem.Spec PyProof.Rows
inductive Pl:PyData->Prop where
 | int (i:Int):Pl (.int i)
 | tup (xs:List PyData):(∀ x∈xs,Pl x)->Pl (.tuple xs)
theorem bb {h h':Heap} (k:∀ b o,h.get? b=some o->o.cls = .type "tuple" -> h'.get? b=some o) {d:PyData} (p:Pl d):∀ {v:Value} {as:List Addr},Reads h v d as->Reads h' v d as:=by
 induction p with
 | int i=>intro v as r;cases r;exact .int _ _
 | tup xs hx ih =>
   intro v as r
   cases r with
   | tuple h1 h2 q z =>
     refine .tuple (k _ _ h1 h2) h2 q ?_
     have g:∀ (xs:List PyData),(∀ x∈xs, ∀ {v:Value} {as:List Addr},Reads h v x as->Reads h' v x as) -> ∀ (vs:List Value) (as:List Addr),ReadsAll h vs xs as->ReadsAll h' vs xs as:=by
      intro xs
      induction xs with
      | nil=>intro _ vs as r;cases r;exact .nil
      | cons x xs ihx =>
        intro j vs as r
        cases r with
        | cons B p2=>exact .cons (j x (by simp) B) (ihx (fun y F=>j y (by simp [F])) _ _ p2)
     exact g xs ih _ _ z
section
variable {prog:Program} {w:World} {A:Around} {E:Value->Shared->Prop} {s:Shared}
theorem zA {cap:Nat} (S:jG cap) {m:Nat} {a:Addr} {vs:List Value} {n:Nat} {ds:List PyData} (ha:s.heap.get? a=some (seqObj "list" vs.toArray n)) (Z:RdL s.heap vs ds) (hs:nC m ds) (hp:∀ d∈ds,Pl d) (hl:vs.length<=sizeLine) (Dz:vs.length<=cap) (hu:A.units+m+1 < cLine) {Q:PySem.Fin->Shared->Prop}
 (q:∀ (h':Heap) (out:List Value) (n':Nat),(∀ b o,b≠a->s.heap.get? b=some o->h'.get? b=some o)->h'.get? a=some (seqObj "list" out.toArray n')->out.Perm vs->out.Pairwise (fun x y=>ltK (toK (SeqAt.readOf s.heap y)) (toK (SeqAt.readOf s.heap x))=false)->Q (.done (.ret .none)) { s with heap:=h' }) :
 wpAny (PySem.model prog w) A (Builtin.«list.sort» ⟨[.ref a],[]⟩) Q E s:=by
 rw [list_sort_plain]
 refine wpAny_bind (listItems_at ha rfl ?_)
 refine wpAny_bind (listUpdate_at ha rfl ?_ (by simpa using hl) (by simp))
 have g1:=get?_update_seq ha (fun _ => #[])
 generalize DA:s.heap.update a (Obj.mapSeq fun _ => #[])=h1 at g1
 generalize (if ((#[]:Array Value).size==vs.toArray.size)=true then n else n+1)=n1 at g1
 refine wpAny_bind (seqEpoch_at g1 rfl ?_)
 refine wpAny_bind (wpAny_newTuple ?_ (by simpa using hl))
 refine wpAny_bind (wpAny_newList ?_ (by simp))
 refine wpAny_holding ?_
 dsimp only
 generalize O:({ heap:=(h1.push { cls:=Value.type "tuple",data:=Data.seq vs.toArray.toList.toArray }).push { cls:=Value.type "list",data:=Data.seq [].toArray },gens:=s.gens,drawn:=s.drawn,toks:=s.toks,os:=s.os }:Shared)=s3
 have g3:s3.heap.get? a=some (seqObj "list" #[] n1):=by
  rw [<- O];exact Heap.get?_push_of_some _ (Heap.get?_push_of_some _ g1)
 have keep:∀ b o,b≠a->s.heap.get? b=some o->s3.heap.get? b=some o:=fun b o G J=>by
  rw [<- O, <- DA]
  exact Heap.get?_push_of_some _ (Heap.get?_push_of_some _ (by rw [Heap.get?_update_ne _ _ _ _ G];exact J))
 have keepT:∀ b o,s.heap.get? b=some o->o.cls = .type "tuple" -> s3.heap.get? b=some o:=fun b o G hc=>keep b o (fun z=>by
  rw [z,ha] at G;cases G;simp at hc) G
 have DB:RdL s3.heap vs ds:=fun v hv=>by
  obtain ⟨d,hd,as,r⟩:=Z v hv
  exact ⟨d,hd,as,bb keepT (hp d hd) r⟩
 have same:∀ v∈vs,SeqAt.readOf s3.heap v=SeqAt.readOf s.heap v:=fun v hv=>by
  obtain ⟨d,hd,as,r⟩:=Z v hv
  rw [SeqAt.readOf_eq (hs.lay d hd).1 r,SeqAt.readOf_eq (hs.lay d hd).1 (bb keepT (hp d hd) r)]
 have q:∀ (h':Heap) (out:List Value) (n':Nat),(∀ b o,b≠a->s.heap.get? b=some o->h'.get? b=some o)->h'.get? a=some (seqObj "list" out.toArray n')->out.Perm vs->out.Pairwise (fun x y=>ltK (toK (SeqAt.readOf s.heap y)) (toK (SeqAt.readOf s.heap x))=false)->Q (.done (.ret .none)) { s3 with heap:=h' }:=by
  rw [<- O];exact q
 have DC:∀ A':Around,A'.units=A.units->True:=fun _ _=>trivial
 clear O
 let Good:SortSt->Prop:=fun st'=>failedOf st'=none/\(arrOf st').toList.Perm (vs.zip vs)/\(arrOf st').toList.Pairwise (fun x y=>ltK (cU s3.heap y) (cU s3.heap x)=false)
 by_cases F:vs.toArray.size < 2
 ·rw [if_pos F,if_pos F]
  refine wpAny_bind (wpAny_pure ?_)
  have B:vs.length < 2:=by simpa using F
  have run:wpAny (PySem.model prog w) A ((pure ():StateT SortSt Sem Unit).run (SortSt.mk' general' (vs.toArray.zip vs.toArray) #[] 7 none)) (fun r s'=>s'=s3/\Good r.2) E s3:=by
   refine wpAny_pure ⟨rfl,rfl, ?_, ?_⟩
   ·show (vs.toArray.zip vs.toArray).toList.Perm _
    simp
   ·show List.Pairwise _ (vs.toArray.zip vs.toArray).toList
    match vs,B with
    | [],_=>simp
    | [x],_=>simp
  refine wpAny_bind (wpAny_mono (Q:=fun r s'=>s'=s3/\Good r.2) run (fun r s' Z => ?_) (fun _ _ z=>z))
  obtain ⟨rfl,L,j,U⟩:=Z
  obtain ⟨u,st'⟩:=r
  refine wpAny_bind (seqEpoch_at g3 rfl ?_)
  refine wpAny_bind (listUpdate_at g3 rfl ?_ (by simp) (by simp only [Array.size_map];have:=j.length_eq;simp at this;rw [this];lia))
  dsimp only at L
  rw [L]
  simp only [bne_self_eq_false,Bool.false_eq_true,if_false]
  refine wpAny_pure ?_
  have gq:=get?_update_seq g3 (fun _=>Array.map (fun x=>x.snd) (arrOf st'))
  have eo:Array.map (fun x=>x.snd) (arrOf st')=((arrOf st').toList.map fun x=>x.snd).toArray:=by apply Array.toList_inj.mp;simp
  refine q _ ((arrOf st').toList.map fun x=>x.snd) _ (fun b o G J => ?_) (by rw [gq,eo]) ?_ ?_
  ·rw [Heap.get?_update_ne _ _ _ _ G]
   exact keep b o G J
  ·have h8:=j.map (fun x:Keyed=>x.snd)
   rw [List.map_snd_zip (by simp)] at h8
   exact h8
  ·rw [List.pairwise_map]
   refine U.imp_of_mem fun {x y} hx hy hxy => ?_
   have mx:=mem_zip_self (j.mem_iff.mp hx)
   have my:=mem_zip_self (j.mem_iff.mp hy)
   unfold cU at hxy
   rw [mx.1,my.1,same y.2 (by rw [<- my.1];exact my.2),same x.2 (by rw [<- mx.1];exact mx.2)] at hxy
   exact hxy
 ·rw [if_neg F,if_neg F]
  have B : 2<=vs.length:=by simpa using F
  obtain ⟨v0,Y,Dv⟩:∃ v0 Y,vs=v0::Y:=by
   match vs,B with
   | v::t,_=>exact ⟨v,t,rfl⟩
  obtain ⟨kd,Dw,Dx⟩:=CI (prog:=prog) (w:=w) (A:=A) (v:=v0) (vs:=Y) (by rw [<- Dv];exact DB) hs hu
  rw [<- Dv] at Dw Dx
  refine wpAny_bind (Dw E _ ?_)
  have run:wpAny (PySem.model prog w) A (sortRuns'.run (SortSt.mk' kd (vs.toArray.zip vs.toArray) #[] 7 none)) (fun r s'=>s'=s3/\Good r.2) E s3:=by
   have ez:(arrOf (SortSt.mk' kd (vs.toArray.zip vs.toArray) #[] 7 none)).toList=vs.zip vs:=by
    show (vs.toArray.zip vs.toArray).toList=_
    simp
   have h9:wpS (PySem.model prog w) A E s3 sortRuns' (fun _ st'=>Good st') (SortSt.mk' kd (vs.toArray.zip vs.toArray) #[] 7 none):=by
    have Dy:(arrOf (SortSt.mk' kd (vs.toArray.zip vs.toArray) #[] 7 none)).size=vs.length:=by rw [<- Array.length_toList,ez];simp
    refine S _ _ _ _ _ _ _ _ Dx (SortSt.mk' kd (vs.toArray.zip vs.toArray) #[] 7 none) _ rfl rfl rfl (fun x hx => ?_) (by rw [Dy];exact B) (by rw [Dy];exact Dz) fun st' p1 p2 p3=>⟨p3,by rw [ez] at p1;exact p1,p2⟩
    rw [ez] at hx
    exact (mem_zip_self hx).2
   exact h9
  refine wpAny_bind (wpAny_mono (Q:=fun r s'=>s'=s3/\Good r.2) run (fun r s' Z => ?_) (fun _ _ z=>z))
  obtain ⟨rfl,L,j,U⟩:=Z
  obtain ⟨u,st'⟩:=r
  refine wpAny_bind (seqEpoch_at g3 rfl ?_)
  refine wpAny_bind (listUpdate_at g3 rfl ?_ (by simp) (by simp only [Array.size_map];have:=j.length_eq;simp at this;rw [this];lia))
  dsimp only at L
  rw [L]
  simp only [bne_self_eq_false,Bool.false_eq_true,if_false]
  refine wpAny_pure ?_
  have gq:=get?_update_seq g3 (fun _=>Array.map (fun x=>x.snd) (arrOf st'))
  have eo:Array.map (fun x=>x.snd) (arrOf st')=((arrOf st').toList.map fun x=>x.snd).toArray:=by apply Array.toList_inj.mp;simp
  refine q _ ((arrOf st').toList.map fun x=>x.snd) _ (fun b o G J => ?_) (by rw [gq,eo]) ?_ ?_
  ·rw [Heap.get?_update_ne _ _ _ _ G]
   exact keep b o G J
  ·have h8:=j.map (fun x:Keyed=>x.snd)
   rw [List.map_snd_zip (by simp)] at h8
   exact h8
  ·rw [List.pairwise_map]
   refine U.imp_of_mem fun {x y} hx hy hxy => ?_
   have mx:=mem_zip_self (j.mem_iff.mp hx)
   have my:=mem_zip_self (j.mem_iff.mp hy)
   unfold cU at hxy
   rw [mx.1,my.1,same y.2 (by rw [<- my.1];exact my.2),same x.2 (by rw [<- mx.1];exact mx.2)] at hxy
   exact hxy
theorem qP (u:Value):checkBuiltinCall "sorted" ⟨[u],[]⟩=pure ():=by kernel_rfl
theorem tN {cap:Nat} (S:jG cap) {m:Nat} {u:Value} {ds:List PyData} {C:Heap->List Value->Prop} {Q:Value->Shared->Prop} (hu:A.units+m+3 < cLine) (hs:nC m ds) (F:∀ d∈ds,Pl d)
 (G:∀ (E:Value->Shared->Prop) (R:List Value->Shared->Prop),(∀ (h':Heap) (vs':List Value) (t':Nat),C h' vs'->RdL h' vs' ds->vs'.length<=sizeLine/\vs'.length<=cap->s.toks<=t'->R vs' { s with heap:=h',toks:=t' })->wpAny (PySem.model prog w) A.in1 (collect u) R E s)
 (q:∀ (h1 h2:Heap) (vs out:List Value) (n' t':Nat),C h1 vs->(∀ b o,h1.get? b=some o->h2.get? b=some o)->h2.get? h1.objs.size=some (seqObj "list" out.toArray n')->out.Perm vs->out.Pairwise (fun x y=>ltK (toK (SeqAt.readOf h2 y)) (toK (SeqAt.readOf h2 x))=false)->RdL h2 out ds->vs.length<=sizeLine->s.toks<=t'->Q (.ref h1.objs.size) { s with heap:=h2,toks:=t' }) :
 wpAny (PySem.model prog w) A (call (.builtin "sorted") [u]) Q E s:=by
 refine wpAny_call (codeAny_call_builtin plain_sorted entry_sorted (wpAny_of_eq (qP u) ?_))
 unfold Builtin.sorted
 refine wpAny_bind (wpAny_of_eq (a:=()) (by kernel_rfl) ?_)
 refine wpAny_bind (G _ _ fun h1 vs t' hC L J ht => ?_)
 obtain ⟨J,O⟩:=J
 refine wpAny_bind (wpAny_newList ?_ J)
 refine wpAny_bind (wpAny_holding ?_)
 have U:RdL (h1.push { cls:=Value.type "list",data:=Data.seq vs.toArray }) vs ds:=fun v B=>by
  obtain ⟨d,hd,as,r⟩:=L v B
  exact ⟨d,hd,as,bb (fun b o z _=>Heap.get?_push_of_some _ z) (F d hd) r⟩
 have ha:(h1.push { cls:=Value.type "list",data:=Data.seq vs.toArray }).get? h1.objs.size=some (seqObj "list" vs.toArray 0):=Heap.get?_push_size _ rfl
 refine wpAny_call_entry slot_list_sort (T := "list") ⟨_,ha,rfl⟩ entry_list_sort ?_ (args_list_sort _)
 refine zA S (m:=m) ha U hs F J O (by show A.units+1+1+m+1 < cLine;lia) fun h2 out n' keep g2 j Y=>⟨_,rfl,wpAny_pure ?_⟩
 have old:∀ b o,h1.get? b=some o->h2.get? b=some o:=fun b o z=>keep b o (Nat.ne_of_lt (Heap.lt_size z)) (Heap.get?_push_of_some _ z)
 have Z:RdL h2 vs ds:=fun v B=>by
  obtain ⟨d,hd,as,r⟩:=L v B
  exact ⟨d,hd,as,bb (fun b o z _=>old b o z) (F d hd) r⟩
 refine q h1 h2 vs out n' t' hC old g2 j ?_ (fun v B=>Z v (j.mem_iff.mp B)) J ht
 have same:∀ v∈vs,SeqAt.readOf (h1.push { cls:=Value.type "list",data:=Data.seq vs.toArray }) v=SeqAt.readOf h2 v:=fun v B=>by
  obtain ⟨d,hd,as,r⟩:=L v B
  rw [SeqAt.readOf_eq (hs.lay d hd).1 (bb (fun b o z _=>old b o z) (F d hd) r),SeqAt.readOf_eq (hs.lay d hd).1 (bb (fun b o z _=>Heap.get?_push_of_some _ z) (F d hd) r)]
 refine Y.imp_of_mem fun {x y} hx hy hxy => ?_
 rw [same y (j.mem_iff.mp hy),same x (j.mem_iff.mp hx)] at hxy
 exact hxy
end
end Srt
end L2
namespace L2
namespace It
open PySem PySem.Spec PyProof.Rows
noncomputable def iO (f0:Value) (b:Bool) (d:Addr) (i n ep:Nat) (ok ov:Value):Obj := { cls := .type "dict_itemiterator",data := .fields #[f0, .bool b, .ref d, .int i 0, .int n 0, .int ep 0,ok,ov] }
theorem slot_next:Slot "dict_itemiterator" "__next__" "dict_itemiterator.__next__" := .of (owner := "dict_itemiterator") (n := "__next__") (by rw [typeLookup_type,builtinLookup_eq_fast];kernel_rfl) (by decide +kernel) (by decide +kernel) (by decide +kernel) (.inl (by decide +kernel)) (by rw [isSubtype_type];kernel_rfl)
theorem cV:entryFor table "dict_itemiterator.__next__" = some Builtin.«dict_itemiterator.__next__» := entryFor_of_tree (by kernel_rfl)
theorem dN (a:Value):argsOk "dict_itemiterator.__next__" ⟨[a],[]⟩:=by unfold argsOk;kernel_rfl
theorem fG:mroOf (.type "dict_itemiterator")=pure [.type "dict_itemiterator", .type "object"]:=by rw [mroOf_type];kernel_rfl
section
variable {prog:Program} {w:World} {A:Around} {E:Value->Shared->Prop} {s:Shared}
theorem ww {M:Model} {a:Addr} {Q:Option Obj->Shared->Prop} (q:Q (s.heap.get? a) s):wpAny M A (loadIfAlive a) Q E s:=fun Γ p hp=>by
 show Sem.wp M Γ (Sem.loadIfAlive a Sem.pure) _ _ p s
 rw [Sem.wp_loadIfAlive];exact q
theorem ck {it:Addr} (ty:s.TypeIs (.ref it) "dict_itemiterator") {types:List String} {Q:Bool->Shared->Prop} (q:Q (types.any fun t => [Value.type "dict_itemiterator",Value.type "object"].contains (Value.type t)) s):wpAny (model prog w) A (Builtin.Dict_items.isOneOf (.ref it) types) Q E s:=by
 have hm:=fG
 unfold Builtin.Dict_items.isOneOf
 wp_walk
 exact q
theorem tO {it d a:Addr} {b:Bool} {i n ep:Nat} {ok ov:Value} {oa:Obj} {Q:Bool->Shared->Prop} (hi:s.heap.get? it=some (iO (rawInt a) b d i n ep ok ov)) (j:s.heap.get? a=some oa)
 (q:∀ h',h'.get? it=some (iO (rawInt a) true d i n ep ok ov)->Heap.SameBut it s.heap h'->Q false { s with heap:=h' }):wpAny (model prog w) A (Builtin.Dict_items.ownedTupleIsFree (.ref it)) Q E s:=by
 unfold Builtin.Dict_items.ownedTupleIsFree
 refine wpAny_bind (wpAny_field hi rfl (x:=rawInt a) rfl ?_)
 refine wpAny_bind (ww ?_)
 rw [show ((a:Int)).toNat=a from Int.toNat_natCast a,j]
 dsimp only
 rw [if_neg (by simp)]
 refine wpAny_bind (wpAny_field hi rfl (x := .bool b) rfl ?_)
 cases b with
 | true =>
   rw [if_neg (by decide)]
   exact wpAny_pure (q s.heap hi (Heap.SameBut.refl ..))
 | false =>
   rw [if_pos (by decide)]
   refine wpAny_bind (wpAny_setField_rec hi (by simp) fun h' e' s' => ?_)
   exact wpAny_pure (q h' e' s')
theorem tP {it d a:Addr} {b:Bool} {i n ep:Nat} {ok ov k v:Value} {oa:Obj} {Q:Value->Shared->Prop} (hi:s.heap.get? it=some (iO (rawInt a) b d i n ep ok ov)) (z:s.heap.get? a=some oa)
 (q:∀ h',h'.get? it=some (iO (rawInt a) true d i n ep ok ov)->h'.get? s.heap.objs.size=some { cls := .type "tuple",data := .seq #[k,v] }->(∀ b o,b≠it->s.heap.get? b=some o->h'.get? b=some o)->Q (.ref s.heap.objs.size) { s with heap:=h' }):wpAny (model prog w) A (Builtin.Dict_items.pairFromOwner (.ref it) 6 k v) Q E s:=by
 unfold Builtin.Dict_items.pairFromOwner
 refine wpAny_bind (wpAny_newTuple ?_ (by size_fits))
 have j:=Heap.lt_size hi
 refine wpAny_bind (tO (a:=a) (oa:=oa) (Heap.get?_push_of_some _ hi) (Heap.get?_push_of_some _ z) fun h' e' s' => ?_)
 dsimp only
 rw [if_neg (by simp)]
 refine wpAny_pure (q h' e' ?_ fun b o B e => ?_)
 ·exact s'.extBut _ _ (Nat.ne_of_gt j) (Heap.get?_push_size _ rfl)
 ·exact s'.extBut _ _ B (Heap.get?_push_of_some _ e)
theorem zB {it d a:Addr} {b:Bool} {i ep:Nat} {ok ov cd:Value} {oa:Obj} {dd:Option Addr} {sl:Array (Option Value)} {es:Array DictEntry} {e:DictEntry} {Q:Option Value->Shared->Prop} (hi:s.heap.get? it=some (iO (rawInt a) b d i es.size ep ok ov)) (F:a≠it) (O:s.heap.get? a=some oa) (hd:s.heap.get? d=some { cls:=cd,dict:=dd,data := .dict es ep,slots:=sl }) (he:es[i]? = some e)
 (q:∀ h',h'.get? it=some (iO (rawInt a) true d (i+1) es.size ep ok ov)->h'.get? s.heap.objs.size=some { cls := .type "tuple",data := .seq #[e.key,e.val] }->(∀ b o,b≠it->s.heap.get? b=some o->h'.get? b=some o)->Q (some (.ref s.heap.objs.size)) { s with heap:=h' }):wpAny (model prog w) A (pyNext (.ref it)) Q E s:=by
 have ty:s.TypeIs (.ref it) "dict_itemiterator" := ⟨_,hi,rfl⟩
 unfold pyNext
 refine wpAny_bind (wpAny_attempt (wpAny_callSpecial?_slot (name:=Str.ofString "__next__") ty slot_next (wpAny_call_entry slot_next ty cV ?_ (dN _))))
 unfold Builtin.«dict_itemiterator.__next__»
 have hm:=fG
 wp_walk
 dsimp only
 rw [if_neg (by simp)]
 wp_walk
 simp only [Int.toNat_natCast,he]
 refine wpAny_bind (wpAny_mono (Q:=fun n s'=>n=2/\s'=s) ?_ (fun n s' hs => ?_) fun _ _ z=>z)
 ·wp_walk
  exact ⟨by kernel_rfl,rfl⟩
 obtain ⟨rfl,rfl⟩:=hs
 refine wpAny_bind (ck ty ?_)
 refine wpAny_bind (wpAny_setField_rec hi (by simp) fun h1 j s1 => ?_)
 refine wpAny_bind (wpAny_holding ?_)
 have B:Shared.TypeIs { s' with heap:=h1 } (.ref it) "dict_itemiterator" := ⟨_,j,rfl⟩
 refine wpAny_bind (ck B ?_)
 rw [if_neg (by decide +kernel)] at j
 have j:h1.get? it=some (iO (rawInt a) b d (i+1) es.size ep ok ov):=j
 have hsz:h1.objs.size=s'.heap.objs.size:=s1.1
 have G:h1.get? a=some oa:=s1.extBut a oa F O
 refine wpAny_ite_false (by decide +kernel) ?_
 refine wpAny_bind (ck B ?_)
 refine wpAny_ite_false (by decide +kernel) ?_
 refine tP (s := { s' with heap:=h1 }) j G fun h2 U J Y => ?_
 refine wpAny_pure ⟨_,rfl,wpAny_pure ?_⟩
 dsimp only at J ⊢
 rw [hsz] at J ⊢
 exact q h2 U J fun b o L e=>Y b o L (s1.extBut b o L e)
theorem nx_end {it d:Addr} {f0:Value} {b:Bool} {ep:Nat} {ok ov cd:Value} {dd:Option Addr} {sl:Array (Option Value)} {es:Array DictEntry} {Q:Option Value->Shared->Prop} (j:A.handled=none) (hi:s.heap.get? it=some (iO f0 b d es.size es.size ep ok ov)) (hd:s.heap.get? d=some { cls:=cd,dict:=dd,data := .dict es ep,slots:=sl })
 (q:∀ h',(∀ b o,b≠it->s.heap.get? b=some o->h'.get? b=some o)->Q none { s with heap:=h' }):wpAny (model prog w) A (pyNext (.ref it)) Q E s:=by
 have ty:s.TypeIs (.ref it) "dict_itemiterator" := ⟨_,hi,rfl⟩
 unfold pyNext
 refine wpAny_bind (wpAny_attempt (wpAny_callSpecial?_slot (name:=Str.ofString "__next__") ty slot_next (wpAny_call_entry slot_next ty cV ?_ (dN _))))
 unfold Builtin.«dict_itemiterator.__next__»
 have hm:=fG
 wp_walk
 dsimp only
 rw [if_neg (by simp)]
 wp_walk
 have he:es[es.size]? = none:=Array.getElem?_eq_none (Nat.le_refl _)
 simp only [Int.toNat_natCast,he]
 refine wpAny_bind (wpAny_mono (Q:=fun n s'=>n=2/\s'=s) ?_ (fun n s' hs => ?_) fun _ _ z=>z)
 ·wp_walk
  exact ⟨by kernel_rfl,rfl⟩
 obtain ⟨rfl,rfl⟩:=hs
 refine wpAny_bind (wpAny_setField_rec hi (by simp) fun h1 F s1 => ?_)
 refine wpAny_bind (m:=newExc (.type "StopIteration") []) ?_
 simp only [newExc,newTuple]
 refine wpAny_bind (wpAny_newObj_type ?_ (by size_fits))
 refine wpAny_bind (m:=firstArgMember _ _) (wpAny_of_eq (a:=Value.none) (by first | rfl | (simp only [firstArgMember];rfl)) (wpAny_newObj_type ?_ (by size_fits)))
 simp only [raiseNew]
 refine wpAny_bind (wpAny_handled ?_)
 first | rw [show A.in1.handled=none from j] | rw [j]
 refine wpAny_bind (wpAny_pure (wpAny_throw ?_))
 exact wpAny_bind (wpAny_isInstance (T := "StopIteration") (b:=true) ⟨_,Heap.get?_push_size _ rfl,rfl⟩ isSubtype_stop (wpAny_pure (q _ fun b o B e=>Heap.get?_push_of_some _ (Heap.get?_push_of_some _ (s1.extBut b o B e)))))
end
end It
end L2
namespace L2
namespace It
open PySem PySem.Spec PyProof.Rows
section
variable {prog:Program} {w:World} {A:Around} {E:Value->Shared->Prop} {s:Shared}
theorem tQ {it d:Addr} {i n ep:Nat} {k v:Value} {Q:Value->Shared->Prop} (hi:s.heap.get? it=some (iO .none false d i n ep .none .none))
 (q:∀ h',h'.get? it=some (iO (rawInt s.heap.objs.size) false d i n ep k v)->h'.get? s.heap.objs.size=some { cls := .type "tuple",data := .seq #[k,v] }->(∀ b o,b≠it->s.heap.get? b=some o->h'.get? b=some o)->Q (.ref s.heap.objs.size) { s with heap:=h' }):wpAny (model prog w) A (Builtin.Dict_items.pairFromOwner (.ref it) 6 k v) Q E s:=by
 unfold Builtin.Dict_items.pairFromOwner
 refine wpAny_bind (wpAny_newTuple ?_ (by size_fits))
 have B:=Heap.lt_size hi
 have j:=Heap.get?_push_of_some ({ cls := .type "tuple",data := .seq [k,v].toArray }) hi
 unfold Builtin.Dict_items.ownedTupleIsFree
 refine wpAny_bind (wpAny_bind (wpAny_field j rfl (x := .none) rfl (wpAny_pure ?_)))
 dsimp only
 rw [if_pos rfl]
 refine wpAny_bind (wpAny_field j rfl (x := .none) rfl ?_)
 refine wpAny_bind (wpAny_field j rfl (x := .none) rfl ?_)
 refine wpAny_bind (wpAny_setField_rec j (by simp) fun h1 G s1 => ?_)
 refine wpAny_bind (wpAny_setField_rec G (by simp) fun h2 J s2 => ?_)
 refine wpAny_bind (wpAny_setField_rec J (by simp) fun U L s3 => ?_)
 refine wpAny_bind (wpAny_setField_rec L (by simp) fun F O s4 => ?_)
 refine wpAny_bind (wpAny_letGo ?_)
 have kp:∀ b o,b≠it->(s.heap.push { cls := .type "tuple",data := .seq [k,v].toArray }).get? b=some o->F.get? b=some o:=fun b o z e=>s4.extBut b o z (s3.extBut b o z (s2.extBut b o z (s1.extBut b o z e)))
 refine wpAny_pure (q F O (kp _ _ (Nat.ne_of_gt B) (Heap.get?_push_size _ rfl)) fun b o z e=>kp b o z (Heap.get?_push_of_some _ e))
theorem zC {it d:Addr} {i ep:Nat} {cd:Value} {dd:Option Addr} {sl:Array (Option Value)} {es:Array DictEntry} {e:DictEntry} {Q:Option Value->Shared->Prop} (hi:s.heap.get? it=some (iO .none false d i es.size ep .none .none)) (hd:s.heap.get? d=some { cls:=cd,dict:=dd,data := .dict es ep,slots:=sl }) (he:es[i]? = some e)
 (q:∀ h',h'.get? it=some (iO (rawInt s.heap.objs.size) false d (i+1) es.size ep e.key e.val)->h'.get? s.heap.objs.size=some { cls := .type "tuple",data := .seq #[e.key,e.val] }->(∀ b o,b≠it->s.heap.get? b=some o->h'.get? b=some o)->Q (some (.ref s.heap.objs.size)) { s with heap:=h' }):wpAny (model prog w) A (pyNext (.ref it)) Q E s:=by
 have ty:s.TypeIs (.ref it) "dict_itemiterator" := ⟨_,hi,rfl⟩
 unfold pyNext
 refine wpAny_bind (wpAny_attempt (wpAny_callSpecial?_slot (name:=Str.ofString "__next__") ty slot_next (wpAny_call_entry slot_next ty cV ?_ (dN _))))
 unfold Builtin.«dict_itemiterator.__next__»
 have hm:=fG
 wp_walk
 dsimp only
 rw [if_neg (by simp)]
 wp_walk
 simp only [Int.toNat_natCast,he]
 refine wpAny_bind (wpAny_mono (Q:=fun n s'=>n=2/\s'=s) ?_ (fun n s' hs => ?_) fun _ _ z=>z)
 ·wp_walk
  exact ⟨by kernel_rfl,rfl⟩
 obtain ⟨rfl,rfl⟩:=hs
 refine wpAny_bind (ck ty ?_)
 refine wpAny_bind (wpAny_setField_rec hi (by simp) fun h1 j s1 => ?_)
 refine wpAny_bind (wpAny_holding ?_)
 have B:Shared.TypeIs { s' with heap:=h1 } (.ref it) "dict_itemiterator" := ⟨_,j,rfl⟩
 refine wpAny_bind (ck B ?_)
 rw [if_neg (by decide +kernel)] at j
 have j:h1.get? it=some (iO .none false d (i+1) es.size ep .none .none):=j
 have hsz:h1.objs.size=s'.heap.objs.size:=s1.1
 refine wpAny_ite_false (by decide +kernel) ?_
 refine wpAny_bind (ck B ?_)
 refine wpAny_ite_false (by decide +kernel) ?_
 refine tQ (s := { s' with heap:=h1 }) j fun h2 F G L => ?_
 refine wpAny_pure ⟨_,rfl,wpAny_pure ?_⟩
 dsimp only at F G ⊢
 rw [hsz] at F G ⊢
 exact q h2 F G fun b o J e=>L b o J (s1.extBut b o J e)
structure Dp (h0:Heap) (s:Shared) (it d:Addr) (es:Array DictEntry) (ep i:Nat) (acc:Array Value):Prop where
 dict:∃ cd dd sl,s.heap.get? d=some { cls:=cd,dict:=dd,data := .dict es ep,slots:=sl }
 iter:(i=0/\s.heap.get? it=some (iO .none false d 0 es.size ep .none .none))∨(1<=i /\ ∃ (a:Addr) (b:Bool) (ok ov:Value) (oa:Obj),s.heap.get? it=some (iO (rawInt a) b d i es.size ep ok ov)/\a≠it/\s.heap.get? a=some oa/\oa.cls = .type "tuple")
 size:acc.size=i
 nd:acc.toList.Nodup
 item:∀ j,j < i -> ∃ t e,acc[j]? = some (.ref t)/\es[j]? = some e/\s.heap.get? t=some { cls := .type "tuple",data := .seq #[e.key,e.val] }/\h0.get? t=none
theorem zD (hn:A.handled=none) {S it d:Addr} {es:Array DictEntry} {ep:Nat} {res:Value} {R:Result->Shared->Prop} (G:S≠it) (Dz:S≠d) (DA:it≠d) (hz:es.size<=sizeLine) (h0:Heap) (DD:S < h0.objs.size->True) :
 ∀ (k i:Nat) (s:Shared) (acc:Array Value) (c:Nat),es.size - i=k->i<=es.size->Dp h0 s it d es ep i acc->s.heap.get? S=some { cls := .type "list",data := .seq acc c } ->
  (∀ b o,b≠it->b≠S->h0.get? b=some o->s.heap.get? b=some o) ->
  (∀ (h':Heap) (acc':Array Value) (c':Nat),(∀ b o,b≠it->b≠S->h0.get? b=some o->h'.get? b=some o)->h'.get? S=some { cls := .type "list",data := .seq acc' c' }->acc'.size=es.size->acc'.toList.Nodup->(∀ j,j < es.size -> ∃ t e,acc'[j]? = some (.ref t)/\es[j]? = some e/\h'.get? t=some { cls := .type "tuple",data := .seq #[e.key,e.val] }/\h0.get? t=none)->R (.ok (.ret res)) { s with heap:=h' }) ->
  codeAny (model prog w) A (.builtin "list.extend.loop" ⟨[.ref S, .ref it,res],[]⟩) R s:=by
 intro k
 induction k with
 | zero =>
   intro i s acc c hk hi H U kp q
   have J:i=es.size:=by lia
   obtain ⟨cd,dd,sl,hd⟩:=H.dict
   refine codeAny_builtin F.entry_extend_loop ?_
   unfold Builtin.«list.extend.loop»
   dsimp only
   refine wpAny_bind ?_
   have key:∀ (f0:Value) (b:Bool) (ok ov:Value),s.heap.get? it=some (iO f0 b d es.size es.size ep ok ov)->wpAny (model prog w) (A.under (Code.builtin "list.extend.loop" { pos := [Value.ref S,Value.ref it,res] })) (pyNext (.ref it)) (fun a s'=>a=none /\ ∃ h',(∀ b o,b≠it->s.heap.get? b=some o->h'.get? b=some o)/\s' = { s with heap:=h' }) (fun e s'=>R (.error e) s') s:=by
    intro f0 b ok ov hi
    refine nx_end hn hi hd fun h' kp'=>⟨rfl,h',kp',rfl⟩
   have Dv:wpAny (model prog w) (A.under (Code.builtin "list.extend.loop" { pos := [Value.ref S,Value.ref it,res] })) (pyNext (.ref it)) (fun a s'=>a=none /\ ∃ h',(∀ b o,b≠it->s.heap.get? b=some o->h'.get? b=some o)/\s' = { s with heap:=h' }) (fun e s'=>R (.error e) s') s:=by
    rcases H.iter with ⟨h0,e⟩ | ⟨h1,a,b,ok,ov,oa,e,_⟩
    ·refine key .none false .none .none ?_
     rw [<- J,h0];rw [<- J,h0] at e;exact e
    ·refine key (rawInt a) b ok ov ?_
     rw [<- J];rw [<- J] at e;exact e
   refine wpAny_mono Dv (fun a s' hs => ?_) fun _ _ z=>z
   obtain ⟨rfl,h',kp',rfl⟩:=hs
   refine wpAny_pure (q h' acc c (fun b o h1 h2 e=>kp' b o h1 (kp b o h1 h2 e)) (kp' S _ G U) (by rw [H.size];exact J) H.nd fun j hj => ?_)
   obtain ⟨t,e,L,Y,B,e4⟩:=H.item j (by lia)
   refine ⟨t,e,L,Y,kp' t _ (fun z => ?_) B,e4⟩
   rcases H.iter with ⟨_,e⟩ | ⟨_,a,b,ok,ov,oa,e,_⟩
   ·rw [z,e] at B;simp [iO] at B
   ·rw [z,e] at B;simp [iO] at B
 | succ k ih =>
   intro i s acc c hk hi H U kp q
   have DB:i < es.size:=by lia
   obtain ⟨cd,dd,sl,hd⟩:=H.dict
   have he:es[i]? = some es[i]:=Array.getElem?_eq_getElem DB
   refine codeAny_builtin F.entry_extend_loop ?_
   unfold Builtin.«list.extend.loop»
   dsimp only
   refine wpAny_bind ?_
   have key:wpAny (model prog w) (A.under (Code.builtin "list.extend.loop" { pos := [Value.ref S,Value.ref it,res] })) (pyNext (.ref it)) (fun v s'=>v=some (.ref s.heap.objs.size) /\ ∃ (h':Heap) (a:Addr) (b:Bool) (ok ov:Value) (oa:Obj),s' = { s with heap:=h' }/\h'.get? it=some (iO (rawInt a) b d (i+1) es.size ep ok ov)/\a≠it/\h'.get? a=some oa/\oa.cls = .type "tuple" /\ h'.get? s.heap.objs.size=some { cls := .type "tuple",data := .seq #[es[i].key,es[i].val] } /\ ∀ b o,b≠it->s.heap.get? b=some o->h'.get? b=some o) (fun e s'=>R (.error e) s') s:=by
    rcases H.iter with ⟨h0,e⟩ | ⟨h1,a,b,ok,ov,oa,e,L,Y,B⟩
    ·subst h0
     refine zC e hd he fun h' g1 g2 g3=>⟨rfl,h',_,_,_,_,_,rfl,g1, ?_,g2,rfl,g2,g3⟩
     exact Nat.ne_of_gt (Heap.lt_size e)
    ·refine zB e L Y hd he fun h' g1 g2 g3=>⟨rfl,h',a,_,_,_,oa,rfl,g1,L,g3 a oa L Y,B,g2,g3⟩
   refine wpAny_mono key (fun v s' hs => ?_) fun _ _ z=>z
   obtain ⟨rfl,h',a,b,ok,ov,oa,rfl,g1,g2,g3,g4,g5,g6⟩:=hs
   have O:=Heap.lt_size U
   refine wpAny_bind (listUpdate_at (g6 S _ G U) rfl ?_ (by rw [H.size];lia) (by simp [H.size];lia))
   refine wpAny_pure ⟨plainId_quiet F.plain_extend_loop _, ?_⟩
   have gS:=get?_update_seq (c := "list") (g6 S _ G U) (fun x=>x.push (Value.ref s.heap.objs.size))
   have oth:∀ b o,b≠S->h'.get? b=some o->(h'.update S (Obj.mapSeq fun x=>x.push (Value.ref s.heap.objs.size))).get? b=some o:=fun b o hb e=>by rw [Heap.get?_update_ne _ _ _ _ hb];exact e
   have tup_ne:∀ t (o:Obj),s.heap.get? t=some o->o.cls = .type "tuple" -> t≠it/\t≠S:=fun t o e ec=>by
    constructor
    ·intro z
     rcases H.iter with ⟨_,e'⟩ | ⟨_,a,b,ok,ov,oa,e',_⟩
     ·rw [z,e'] at e;cases e;simp [iO] at ec
     ·rw [z,e'] at e;cases e;simp [iO] at ec
    ·intro z
     rw [z,U] at e;cases e;simp at ec
   refine ih (i+1) _ _ _ (by lia) (by lia) ⟨⟨cd,dd,sl,oth d _ Dz.symm (g6 d _ DA.symm hd)⟩, .inr ⟨by lia,a,b,ok,ov,oa,oth it _ G.symm g1,g2,oth a _ ?_ g3,g4⟩,by simp [H.size], ?_, ?_⟩ gS (fun b o h1 h2 e=>oth b o h2 (g6 b o h1 (kp b o h1 h2 e))) fun h2 Dw c2=>q h2 Dw c2
   ·intro z
    rw [z,g6 S _ G U] at g3;cases g3;simp at g4
   ·rw [Array.toList_push]
    refine List.nodup_append.mpr ⟨H.nd,by simp,fun x hx y hy DC => ?_⟩
    simp at hy;subst hy DC
    obtain ⟨j,hj,ej⟩:=List.mem_iff_getElem.mp hx
    obtain ⟨t,e,L,Y,B,e4⟩:=H.item j (by rw [<- H.size];simpa using hj)
    have e5:acc[j]? = some (Value.ref s.heap.objs.size):=by
     rw [<- Array.getElem?_toList,List.getElem?_eq_getElem hj,ej]
    rw [e5] at L;cases L
    exact absurd (Heap.lt_size B) (Nat.lt_irrefl _)
   ·intro j hj
    by_cases Dx:j < i
    ·obtain ⟨t,e,L,Y,B,e4⟩:=H.item j Dx
     obtain ⟨t1,t2⟩:=tup_ne t _ B rfl
     refine ⟨t,e, ?_,Y,oth t _ t2 (g6 t _ t1 B),e4⟩
     rw [Array.getElem?_push_lt (by rw [H.size];exact Dx)]
     rw [<- L,Array.getElem?_eq_getElem]
    ·have:j=i:=by lia
     subst this
     have Z:it < s.heap.objs.size:=by
      rcases H.iter with ⟨_,e'⟩ | ⟨_,a,b,ok,ov,oa,e',_⟩
      ·exact Heap.lt_size e'
      ·exact Heap.lt_size e'
     have Dy:h0.get? s.heap.objs.size=none:=by
      cases hq:h0.get? s.heap.objs.size with
      | none=>rfl
      | some o=>exact absurd (Heap.lt_size (kp _ _ (Nat.ne_of_gt Z) (Nat.ne_of_gt O) hq)) (Nat.lt_irrefl _)
     refine ⟨s.heap.objs.size,es[j], ?_,he,oth _ _ (Nat.ne_of_gt O) g5,Dy⟩
     have:=H.size
     subst this
     simp
end
end It
end L2
namespace L2
namespace It
open PySem PySem.Spec PyProof.Rows
section
variable {prog:Program} {w:World} {A:Around} {E:Value->Shared->Prop} {s:Shared}
theorem it_view {v d:Addr} {es:Array DictEntry} {ep:Nat} {cd:Value} {dd:Option Addr} {sl:Array (Option Value)} {Q:Value->Shared->Prop} (j:s.heap.get? v=some { cls := .type "dict_items",data := .fields #[.ref d] }) (hd:s.heap.get? d=some { cls:=cd,dict:=dd,data := .dict es ep,slots:=sl })
 (q:Q (.ref s.heap.objs.size) { s with heap:=s.heap.push (iO .none false d 0 es.size ep .none .none) }):wpAny (model prog w) A (pyIter (.ref v)) Q E s:=by
 have ty:s.TypeIs (.ref v) "dict_items" := ⟨_,j,rfl⟩
 refine wpAny_pyIter_slot ty F.slot_dict_items_iter (wpAny_call_entry F.slot_dict_items_iter ty F.entry_dict_items_iter ?_ (F.args_dict_items_iter_1 _))
 unfold Builtin.«dict_items.__iter__»
 wp_walk
 exact ⟨_,rfl, "dict_itemiterator",_,⟨_,Heap.get?_push_size _ rfl,rfl⟩,slot_next.lookup,q⟩
theorem tR {v d:Addr} {Q:Bool->Shared->Prop} (B:s.heap.get? v=some { cls := .type "dict_items",data := .fields #[.ref d] }) (q:Q false s):wpAny (model prog w) A (Builtin.List.listLengthHint (.ref v)) Q E s:=by
 have ty:s.TypeIs (.ref v) "dict_items" := ⟨_,B,rfl⟩
 unfold Builtin.List.listLengthHint
 refine wpAny_bind (wpAny_specialOf ty F.slot_dict_items_len.lookup ?_)
 generalize j:("dict_items.__len__":String)=z
 (fail_if_success (clear j z));wp_delta
 rw [show splitId z=some ("dict_items", "__len__") from by subst j;decide +kernel]
 subst j
 refine wpAny_bind (wpAny_isInstance (b:=true) ty (by rw [isSubtype_type];kernel_rfl) ?_)
 rw [if_neg (by decide)]
 refine wpAny_ite_true (by decide +kernel) ?_
 refine wpAny_bind (wpAny_typeOf ty ?_)
 exact wpAny_pure q
open Builtin.List in
theorem wx {B:Around} (hn:A.handled=none) {S v d:Addr} {es:Array DictEntry} {ep c:Nat} {cd:Value} {dd:Option Addr} {sl:Array (Option Value)} {R:Result->Shared->Prop} (res:Value) (J:s.heap.get? v=some { cls := .type "dict_items",data := .fields #[.ref d] }) (hd:s.heap.get? d=some { cls:=cd,dict:=dd,data := .dict es ep,slots:=sl }) (G:s.heap.get? S=some { cls := .type "list",data := .seq #[] c }) (hz:es.size<=sizeLine)
 (q:∀ (h':Heap) (acc':Array Value) (c':Nat),(∀ b o,b≠S->s.heap.get? b=some o->h'.get? b=some o)->h'.get? S=some { cls := .type "list",data := .seq acc' c' }->acc'.size=es.size->acc'.toList.Nodup->(∀ j,j < es.size -> ∃ t e,acc'[j]? = some (.ref t)/\es[j]? = some e/\h'.get? t=some { cls := .type "tuple",data := .seq #[e.key,e.val] }/\s.heap.get? t=none)->R (.ok (.ret res)) { s with heap:=h' }) :
 wpAny (model prog w) B (listExtendWith (.ref S) (.ref v) res) (fun fin s'=>match fin with | .done f=>R (.ok f) s' | .again c'=>c'.quiet=true/\codeAny (model prog w) A c' R s') (fun e s'=>R (.error e) s') s:=by
 have ty:s.TypeIs (.ref v) "dict_items" := ⟨_,J,rfl⟩
 have Dv:S≠v:=fun e=>by rw [e,J] at G;simp at G
 have L:S≠d:=fun e=>by rw [e,hd] at G;simp at G
 have O:=Heap.lt_size hd
 have z:=Heap.lt_size G
 have Dx:=Heap.lt_size J
 have h1:listSameRef (.ref S) (.ref v)=false:=by simp [listSameRef,Dv]
 unfold listExtendWith
 refine wpAny_bind (wpAny_typeOf ty ?_)
 rw [if_neg (by rw [h1];decide)]
 refine wpAny_bind (it_view J hd ?_)
 refine wpAny_bind (wpAny_holding (tR (d:=d) (Heap.get?_push_of_some _ J) ?_))
 refine wpAny_ite_true (by decide +kernel) ?_
 refine wpAny_bind (wpAny_rule ?_)
 unfold listTouch
 have U:(s.heap.push (iO .none false d 0 es.size ep .none .none)).get? S=some (seqObj "list" #[] c):=Heap.get?_push_of_some _ G
 refine wpAny_bind (wpAny_bind (listUpdate_at U rfl ?_ (by simp) (by simp)))
 have Y:=get?_update_seq U (fun x=>x.push Value.none)
 refine listUpdate_at Y rfl ?_ (by simp;decide) (by simp)
 have Dw:=get?_update_seq Y (fun x=>x.pop)
 refine wpAny_pure ⟨plainId_quiet F.plain_extend_loop _, ?_⟩
 have oth:∀ b o,b≠S->s.heap.get? b=some o->(((s.heap.push (iO .none false d 0 es.size ep .none .none)).update S (Obj.mapSeq fun x=>x.push Value.none)).update S (Obj.mapSeq fun x=>x.pop)).get? b=some o:=fun b o Z e=>by
  rw [Heap.get?_update_ne _ _ _ _ Z,Heap.get?_update_ne _ _ _ _ Z]
  exact Heap.get?_push_of_some _ e
 have hit:(((s.heap.push (iO .none false d 0 es.size ep .none .none)).update S (Obj.mapSeq fun x=>x.push Value.none)).update S (Obj.mapSeq fun x=>x.pop)).get? s.heap.objs.size=some (iO .none false d 0 es.size ep .none .none):=by
  rw [Heap.get?_update_ne _ _ _ _ (Nat.ne_of_gt z),Heap.get?_update_ne _ _ _ _ (Nat.ne_of_gt z)]
  exact Heap.get?_push_size _ rfl
 refine zD hn (S:=S) (it:=s.heap.objs.size) (d:=d) (es:=es) (ep:=ep) (Nat.ne_of_lt z) L (Nat.ne_of_gt O) hz s.heap (fun _=>trivial) es.size 0 _ #[] _ (by lia) (by lia) ⟨⟨cd,dd,sl,oth d _ L.symm hd⟩, .inl ⟨rfl,hit⟩,rfl,by simp,fun j hj=>by lia⟩ Dw (fun b o h1 h2 e=>oth b o h2 e) fun h' acc' c' k1 k2 k3 k5 k4 => ?_
 exact q h' acc' c' (fun b o Z e=>k1 b o (Nat.ne_of_lt (Heap.lt_size e)) Z e) k2 k3 k5 k4
theorem collect_view (hn:A.handled=none) {v d:Addr} {es:Array DictEntry} {ep:Nat} {cd:Value} {dd:Option Addr} {sl:Array (Option Value)} {Q:List Value->Shared->Prop} (Y:s.heap.get? v=some { cls := .type "dict_items",data := .fields #[.ref d] }) (hd:s.heap.get? d=some { cls:=cd,dict:=dd,data := .dict es ep,slots:=sl }) (hz:es.size<=sizeLine)
 (q:∀ (h':Heap) (us:List Value),(∀ b o,s.heap.get? b=some o->h'.get? b=some o)->us.length=es.size->us.Nodup->(∀ j,j < es.size -> ∃ t e,us[j]? = some (.ref t)/\es[j]? = some e/\h'.get? t=some { cls := .type "tuple",data := .seq #[e.key,e.val] }/\s.heap.get? t=none)->Q us { s with heap:=h' }):wpAny (model prog w) A (collect (.ref v)) Q E s:=by
 unfold collect
 refine wpAny_bind (wpAny_runValue (codeAny_builtin F.entry_proto_collect ?_))
 unfold Builtin.«proto.collect»
 dsimp only
 refine wpAny_bind (wpAny_newList ?_ (by simp))
 refine wpAny_pure ⟨Code.quiet_builtin _ (by decide +kernel), ?_⟩
 refine codeAny_builtin entry_list_iadd' ?_
 unfold Builtin.«list.__iadd__»
 refine wpAny_bind (wpAny_of_eq (a:=(Value.ref s.heap.objs.size,[Value.ref v])) (by kernel_rfl) ?_)
 have Z:=Heap.lt_size Y
 have z:(s.heap.push { cls:=Value.type "list",data:=Data.seq [].toArray }).get? s.heap.objs.size=some { cls:=Value.type "list",data:=Data.seq #[] 0 }:=Heap.get?_push_size _ rfl
 have fin:∀ (h':Heap) (acc:Array Value) (c':Nat),(∀ b o,b≠s.heap.objs.size->(s.heap.push { cls:=Value.type "list",data:=Data.seq [].toArray }).get? b=some o->h'.get? b=some o)->h'.get? s.heap.objs.size=some { cls := .type "list",data := .seq acc c' }->acc.size=es.size->acc.toList.Nodup->(∀ j,j < es.size -> ∃ t e,acc[j]? = some (.ref t)/\es[j]? = some e/\h'.get? t=some { cls := .type "tuple",data := .seq #[e.key,e.val] }/\(s.heap.push { cls:=Value.type "list",data:=Data.seq [].toArray }).get? t=none) ->
  wpAny (model prog w) A (do
   let o <- load s.heap.objs.size
   match o.data with
   | .seq xs _=>pure xs.toList
   | _=>unsupported "internal:collect") Q E { s with heap:=h' }:=by
  intro h' acc c' B G J L O
  refine wpAny_bind (wpAny_load G ?_)
  exact wpAny_pure (q h' acc.toList (fun b o e=>B b o (Nat.ne_of_lt (Heap.lt_size e)) (Heap.get?_push_of_some _ e)) (by simpa using J) L fun j hj=>by
   obtain ⟨t,e,e1,e2,e3,e4⟩:=O j hj
   refine ⟨t,e,by rw [Array.getElem?_toList];exact e1,e2,e3, ?_⟩
   cases hq:s.heap.get? t with
   | none=>rfl
   | some o=>rw [Heap.get?_push_of_some _ hq] at e4;cases e4)
 refine wpAny_mono (wx (s := { s with heap:=s.heap.push { cls:=Value.type "list",data:=Data.seq [].toArray } }) (R:=fun r s'=>r = .ok (.ret (.ref s.heap.objs.size))/\wpAny (model prog w) A (do
  let o <- load s.heap.objs.size
  match o.data with
  | .seq xs _=>pure xs.toList
  | _=>unsupported "internal:collect") Q E s') hn (Value.ref s.heap.objs.size) (Heap.get?_push_of_some _ Y) (Heap.get?_push_of_some _ hd) z hz fun h' acc c' B G J L O=>⟨rfl,fin h' acc c' B G J L O⟩) (fun fn s' h => ?_) (fun e s' h => ?_)
 ·cases fn with
  | done f =>
    obtain ⟨e,h⟩:=h
    cases e
    exact h
  | again c' =>
    refine ⟨h.1,codeAny_mono h.2 fun r s1 U => ?_⟩
    obtain ⟨rfl,U⟩:=U
    exact U
 ·cases h.1
end
end It
end L2
namespace L2
open PySem PySem.Spec PyProof.Rows
section
section
variable {P:Program} {w:World} {H:Hp} {h:Heap} {a:Addr} {o:HO}
theorem ObjOk.there (x:ObjOk P w H h a o):∃ ob,h.get? a=some ob:=by
 cases o with
 | lst xs=>obtain ⟨_,_,_,_,e⟩:=x;exact ⟨_,e⟩
 | tup xs=>obtain ⟨_,_,_,_,e,_⟩:=x;exact ⟨_,e⟩
 | dK kvs=>obtain ⟨_,_,_,_,o,_,_,e,_⟩:=x;exact ⟨_,e⟩
 | dT kvs=>obtain ⟨_,_,_,_,o,_,_,e,_⟩:=x;exact ⟨_,e⟩
 | set S n=>obtain ⟨o,_,_,_,e,_⟩:=x;exact ⟨_,e⟩
 | ins C dx fs=>obtain ⟨_,_,_,e,_⟩:=x;exact ⟨_,e⟩
 | own y=>obtain ⟨_,e⟩:=x;exact ⟨_,e⟩
 | xd fs=>obtain ⟨_,⟨_,_,_,e,_⟩,_⟩:=x;exact ⟨_,e⟩
 | rng lo hi=>obtain ⟨_,_,_,e⟩:=x;exact ⟨_,e⟩
 | frz ob u=>obtain ⟨e,_⟩:=x;exact ⟨_,e⟩
 | tbl ps=>exact ⟨_,show h.get? a=some _ from x⟩
 | met f y=>exact ⟨_,show h.get? a=some _ from x⟩
 | ext φ => obtain ⟨_,⟨_,e⟩,_⟩:=x;exact ⟨_,e⟩
end
noncomputable def lay (H:Hp) (N:Addr->Option HO):Hp:=fun b=>match N b with | some o=>some o | none=>H b
section
variable {X:Cx} {pins:List (Addr×Obj)} {σ:List (Option V)} {H:Hp} {s:Shared} {h':Heap} {N:Addr->Option HO}
theorem jH {b:Addr} {o:HO} (e:N b=some o):lay H N b=some o:=by unfold lay;rw [e]
theorem gk {b:Addr} (e:N b=none):lay H N b=H b:=by unfold lay;rw [e]
theorem Inv.fresh' (I:Inv X pins σ H s) {b:Addr} (e:s.heap.get? b=none):H b=none:=by
 cases q:H b with
 | none=>rfl
 | some o=>obtain ⟨ob,eo⟩:=(I.hok b o q).there;rw [e] at eo;cases eo
theorem Inv.laidN {t':Nat} (I:Inv X pins σ H s) (k:∀ b u,s.heap.get? b=some u->h'.get? b=some u) (j:∀ b o,N b=some o->s.heap.get? b=none) (new:∀ b o,N b=some o->ObjOk X.prog X.w (lay H N) h' b o):Inv X pins σ (lay H N) { s with heap:=h',toks:=t' }:=by
 have old:∀ b u,s.heap.get? b=some u->N b=none:=fun b u e=>by
  cases q:N b with
  | none=>rfl
  | some o=>rw [j b o q] at e;cases e
 have oldH:∀ b o,H b=some o->lay H N b=some o:=fun b o e=>by
  obtain ⟨ob,eo⟩:=(I.hok b o e).there
  rw [gk (old b ob eo)];exact e
 refine I.un ⟨fun b u q _ _ _=>k b u q,fun b u q _ _ _=>⟨u.slots,k b u q⟩,fun b u q n _=>by rw [gk (old b u q)];exact n,fun b u q _=>⟨u,k b u q⟩,fun b xs q=>oldH b _ q,fun b u xs q=>oldH b _ q,fun b ps q=>⟨#[],by rw [oldH b _ q];simp⟩⟩ fun b o e => ?_
 cases q:N b with
 | some o'=>rw [jH q] at e;cases e;exact new b o q
 | none =>
   rw [gk q] at e
   exact (I.hok b o e).stay (fun c v _ q=>k c v q) (fun c q=>oldH c _ q) fun c xs q=>oldH c _ q
end
namespace Mi
open L2.Srt
inductive Sh where
 | int
 | tup (l:List Sh)
mutual
noncomputable def hs:Sh->D->Bool
 | .int, .int _=>true
 | .tup l, .tup ds=>hss l ds
 | _,_=>false
noncomputable def hss:List Sh->List D->Bool
 | [],[] => true
 | s::l,d::ds=>hs s d&&hss l ds
 | _,_=>false
end
mutual
noncomputable def pd:D->PyData
 | .int i => .int i
 | .tup ds => .tuple (pds ds)
 | _ => .none
noncomputable def pds:List D->List PyData
 | [] => []
 | d::ds=>pd d::pds ds
end
mutual
noncomputable def dep:Sh->Nat
 | .int => 0
 | .tup l=>deps l+1
noncomputable def deps:List Sh->Nat
 | [] => 0
 | s::l=>max (dep s) (deps l)
end
noncomputable def jI:Sh->Bool
 | .int=>true
 | .tup (.int::l)=>decide (deps l<=6)
 | .tup (.tup a::l)=>decide (deps (.tup a::l)<=6)
 | .tup [] => false
noncomputable def kyD (d:D):Ky:=toK (pd d)
mutual
theorem tS:∀ (s:Sh) (x y:D),hs s x=true->hs s y=true->Cmpb (pd x) (pd y)
 | .int, .int a, .int b,_,_=>by simp only [pd];exact .int a b
 | .tup l, .tup a, .tup b,h,g=>by simp only [hs] at h g;simp only [pd];exact hss_cmp l a b h g
 | .int, .int _, .non,_,g=>by simp [hs] at g
 | .int, .int _, .bl _,_,g=>by simp [hs] at g
 | .int, .int _, .str _,_,g=>by simp [hs] at g
 | .int, .int _, .tup _,_,g=>by simp [hs] at g
 | .int, .int _, .con _,_,g=>by simp [hs] at g
 | .int, .int _, .ref _,_,g=>by simp [hs] at g
 | .int, .non,_,h,_=>by simp [hs] at h
 | .int, .bl _,_,h,_=>by simp [hs] at h
 | .int, .str _,_,h,_=>by simp [hs] at h
 | .int, .tup _,_,h,_=>by simp [hs] at h
 | .int, .con _,_,h,_=>by simp [hs] at h
 | .int, .ref _,_,h,_=>by simp [hs] at h
 | .tup _, .non,_,h,_=>by simp [hs] at h
 | .tup _, .bl _,_,h,_=>by simp [hs] at h
 | .tup _, .int _,_,h,_=>by simp [hs] at h
 | .tup _, .str _,_,h,_=>by simp [hs] at h
 | .tup _, .con _,_,h,_=>by simp [hs] at h
 | .tup _, .ref _,_,h,_=>by simp [hs] at h
 | .tup _, .tup _, .non,_,g=>by simp [hs] at g
 | .tup _, .tup _, .bl _,_,g=>by simp [hs] at g
 | .tup _, .tup _, .int _,_,g=>by simp [hs] at g
 | .tup _, .tup _, .str _,_,g=>by simp [hs] at g
 | .tup _, .tup _, .con _,_,g=>by simp [hs] at g
 | .tup _, .tup _, .ref _,_,g=>by simp [hs] at g
theorem hss_cmp:∀ (l:List Sh) (a b:List D),hss l a=true->hss l b=true->Cmpb (.tuple (pds a)) (.tuple (pds b))
 | [],[],[],_,_=>by simp only [pds];exact .nil _
 | [],[],_::_,_,g=>by simp [hss] at g
 | [],_::_,_,h,_=>by simp [hss] at h
 | _::_,[],_,h,_=>by simp [hss] at h
 | _::_,_::_,[],_,g=>by simp [hss] at g
 | s::l,x::a,y::b,h,g=>by
   simp only [hss,Bool.and_eq_true] at h g
   simp only [pds]
   exact .cons (tS s x y h.1 g.1) (hss_cmp l a b h.2 g.2)
end
mutual
theorem j9:∀ (s:Sh) (x:D),hs s x=true->Pl (pd x)/\(pd x).canLay0=true/\(pd x).depth<=dep s
 | .int, .int a,_=>by simp only [pd];exact ⟨.int a,rfl,by simp [PyData.depth]⟩
 | .tup l, .tup a,h=>by
  simp only [hs] at h
  obtain ⟨h1,h2,j⟩:=hss_pl l a h
  simp only [pd]
  exact ⟨.tup _ h1,by simpa [PyData.canLay0] using h2,by simp [PyData.depth,dep];lia⟩
 | .int, .non,h=>by simp [hs] at h
 | .int, .bl _,h=>by simp [hs] at h
 | .int, .str _,h=>by simp [hs] at h
 | .int, .tup _,h=>by simp [hs] at h
 | .int, .con _,h=>by simp [hs] at h
 | .int, .ref _,h=>by simp [hs] at h
 | .tup _, .non,h=>by simp [hs] at h
 | .tup _, .bl _,h=>by simp [hs] at h
 | .tup _, .int _,h=>by simp [hs] at h
 | .tup _, .str _,h=>by simp [hs] at h
 | .tup _, .con _,h=>by simp [hs] at h
 | .tup _, .ref _,h=>by simp [hs] at h
theorem hss_pl:∀ (l:List Sh) (a:List D),hss l a=true->(∀ x∈pds a,Pl x)/\PyData.canLayAll0 (pds a)=true/\PyData.depthAll (pds a)<=deps l
 | [],[],_=>by simp [pds,PyData.canLayAll0,PyData.depthAll]
 | [],_::_,h=>by simp [hss] at h
 | _::_,[],h=>by simp [hss] at h
 | s::l,x::a,h=>by
   simp only [hss,Bool.and_eq_true] at h
   obtain ⟨h1,h2,q⟩:=j9 s x h.1
   obtain ⟨g1,g2,g3⟩:=hss_pl l a h.2
   simp only [pds]
   refine ⟨fun y j => ?_,by simp [PyData.canLayAll0,h2,g2],by simp [PyData.depthAll,deps];lia⟩
   rcases List.mem_cons.mp j with z | z
   ·rw [z];exact h1
   ·exact g1 y z
end
mutual
theorem qQ (M:Mem):∀ (s:Sh) (x:D) (n:Nat),hs s x=true->dep s<=n->rb n M x=some (pd x)
 | .int, .int a,n,_,_=>by cases n <;> simp [rb,pd]
 | .tup l, .tup a,n,h,j=>by
  simp only [hs] at h
  simp only [dep] at j
  obtain ⟨k,rfl⟩:∃ k,n=k+1:=⟨n - 1,by lia⟩
  simp only [rb,pd]
  rw [hss_rb M l a k h (by lia)];rfl
 | .int, .non,_,h,_=>by simp [hs] at h
 | .int, .bl _,_,h,_=>by simp [hs] at h
 | .int, .str _,_,h,_=>by simp [hs] at h
 | .int, .tup _,_,h,_=>by simp [hs] at h
 | .int, .con _,_,h,_=>by simp [hs] at h
 | .int, .ref _,_,h,_=>by simp [hs] at h
 | .tup _, .non,_,h,_=>by simp [hs] at h
 | .tup _, .bl _,_,h,_=>by simp [hs] at h
 | .tup _, .int _,_,h,_=>by simp [hs] at h
 | .tup _, .str _,_,h,_=>by simp [hs] at h
 | .tup _, .con _,_,h,_=>by simp [hs] at h
 | .tup _, .ref _,_,h,_=>by simp [hs] at h
theorem hss_rb (M:Mem):∀ (l:List Sh) (a:List D) (n:Nat),hss l a=true->deps l<=n->aw (rb n M) a=some (pds a)
 | [],[],_,_,_=>by simp [pds,aw]
 | [],_::_,_,h,_=>by simp [hss] at h
 | _::_,[],_,h,_=>by simp [hss] at h
 | s::l,x::a,n,h,j=>by
   simp only [hss,Bool.and_eq_true] at h
   simp only [deps] at j
   simp only [pds,aw]
   rw [qQ M s x n h.1 (by lia),hss_rb M l a n h.2 (by lia)];rfl
end
theorem nE {s:Sh} (h:jI s=true):dep s<=7:=by
 match s,h with
 | .int,_=>simp [dep]
 | .tup (.int::l),h=>simp [jI] at h;simp [dep,deps];lia
 | .tup (.tup a::l),h=>simp only [jI,decide_eq_true_eq] at h;simp only [dep];lia
theorem zE {s:Sh} (h:jI s=true) {xs:List D} (hx:∀ x∈xs,hs s x=true):nC 7 (xs.map pd) /\ ∀ d∈xs.map pd,Pl d:=by
 refine ⟨⟨?_, ?_, ?_⟩, ?_⟩
 ·intro d hd e he
  obtain ⟨x,h1,rfl⟩:=List.mem_map.mp hd
  obtain ⟨y,h2,rfl⟩:=List.mem_map.mp he
  exact tS s x y (hx x h1) (hx y h2)
 ·intro d hd
  obtain ⟨x,h1,rfl⟩:=List.mem_map.mp hd
  obtain ⟨_,g2,g3⟩:=j9 s x (hx x h1)
  exact ⟨g2,by have:=nE h;lia⟩
 ·match s,h with
  | .int,_ =>
   left
   intro d hd
   obtain ⟨x,h1,rfl⟩:=List.mem_map.mp hd
   have:=hx x h1
   cases x <;> simp [hs] at this
   exact ⟨_,rfl⟩
  | .tup (.int::l),_ =>
   right;left
   intro d hd
   obtain ⟨x,h1,rfl⟩:=List.mem_map.mp hd
   have:=hx x h1
   cases x <;> simp [hs] at this
   rename_i ds
   cases ds with
   | nil=>simp [hss] at this
   | cons y ys =>
     simp [hss] at this
     cases y <;> simp [hs] at this
     exact ⟨_,_,rfl⟩
  | .tup (.tup a::l),_ =>
   right;right
   intro d hd
   obtain ⟨x,h1,rfl⟩:=List.mem_map.mp hd
   have:=hx x h1
   cases x <;> simp [hs] at this
   rename_i ds
   cases ds with
   | nil=>simp [hss] at this
   | cons y ys =>
     simp [hss] at this
     cases y <;> simp [hs] at this
     exact ⟨_,_,rfl⟩
 ·intro d hd
  obtain ⟨x,h1,rfl⟩:=List.mem_map.mp hd
  exact (j9 s x (hx x h1)).1
theorem kH {α β:Type} (f : α -> β):∀ {l m:List β},l.Perm m -> ∀ {t:List α},t.map f=m -> ∃ t':List α,t'.Perm t/\t'.map f=l:=by
 intro l m h
 induction h with
 | nil=>intro t e;exact ⟨[],by rw [List.map_eq_nil_iff.mp e],rfl⟩
 | cons x h ih =>
   intro t e
   cases t with
   | nil=>simp at e
   | cons a t =>
     simp at e
     obtain ⟨t',h1,h2⟩:=ih e.2
     exact ⟨a::t',h1.cons a,by simp [h2,e.1]⟩
 | swap x y l =>
   intro t e
   match t,e with
   | a::b::t,e =>
     simp at e
     exact ⟨b::a::t, .swap _ _ _,by simp [e]⟩
 | trans h1 h2 j q =>
   intro t e
   obtain ⟨G,p2,z⟩:=q e
   obtain ⟨t1,B,F⟩:=j z
   exact ⟨t1,B.trans p2,F⟩
noncomputable def qR (ys:List D):Prop:=ys.Pairwise fun a b=>ltK (kyD b) (kyD a)=false
end Mi
end
end L2
namespace L2
namespace Mi
open PySem PySem.Spec PyProof.Rows L2.Srt
noncomputable def kvD (kv:D×D):D := .tup [kv.1,kv.2]
noncomputable def fH (ta:TEd):TEd:=fun ρ M Q=>ta ρ M fun x M1 => ∃ a t kvs sh,x = .ref a/\M1 a=some (.dct t kvs)/\jI sh=true/\(∀ kv∈kvs,hs sh (kvD kv)=true) /\ ∀ p ys,M1 p=none->ys.Perm (kvs.map kvD)->qR ys->Q (.ref p) (af M1 p (.lst ys))
theorem qS {ta:TEd} (h:ad ta):ad (fH ta):=fun ρ M Q Q' i q=>h _ _ _ _ (fun x J ⟨a,t,kvs,sh,e,j,z,B,F⟩=>⟨a,t,kvs,sh,e,j,z,B,fun p ys n G hs=>i _ _ (F p ys n G hs)⟩) q
noncomputable def jJ (K:Frag) (H:Hp) (kv:D×D) (e:DictEntry):Prop := ∃ kV vV,RD K H kv.1 kV/\RelV kV e.key/\RD K H kv.2 vV/\RelV vV e.val
theorem pi {K:Frag} {H:Hp} {d:D} {k:Key} (h:RKey d k):RD K H d (kV k):=by
 cases d <;> first
  | exact h.elim
  | (cases h;first | exact RD.int_iff.mpr rfl | exact RD.str_iff.mpr rfl)
theorem kI {K:Frag} {H:Hp}:∀ {ds:List D} {ks:List Key},Paired RKey ds ks->RDs K H ds (ks.map kV)
 | _,_, .nil=>RDs.nil
 | _,_, .cons r t=>RDs.cons (pi r) (kI t)
theorem xV {P:Program} {w:World} {K:Frag} {H:Hp}:∀ {kvs:List (D×D)} {ps:List (Key×V)} {vs:List (Key×Value)} {es:List DictEntry},Paired (fun (p:D×D) (q:Key×V)=>RKey p.1 q.1/\RD K H p.2 q.2) kvs ps->KV ps vs->Pairs (aI P w) es vs->Paired (jJ K H) kvs es
 | _,_,_,_, .nil, .nil, .nil => .nil
 | _,_,_,_, .cons B t1, .cons F G, .cons h1 h2 t3=>by
   refine .cons ⟨kV _,_,pi B.1, ?_,B.2,by rw [h2];exact F.2⟩ (xV t1 G t3)
   rw [<- F.1] at h1
   rcases aN h1 with ⟨i,t,j,z⟩ | ⟨x,t,j,z⟩
   ·rw [j,z];exact ⟨t,rfl⟩
   ·rw [j,z];exact ⟨t,rfl⟩
theorem xW {P:Program} {w:World} {K:Frag} {H:Hp}:∀ {kvs:List (D×D)} {ps:List (List Key×V)} {xs:List (List Key×Addr×Value)},Paired (fun (p:D×D) (q:List Key×V)=>RKeys p.1 q.1/\RD K H p.2 q.2) kvs ps->Paired (fun (p:List Key×V) (q:List Key×Addr×Value)=>p.1=q.1/\H q.2.1=some (.tup (p.1.map kV))/\RelV p.2 q.2.2) ps xs->Paired (jJ K H) kvs (xs.map (entryOfKey (tupleKind (aI P w))))
 | _,_,_, .nil, .nil => .nil
 | kv::_,_,_, .cons z t1, .cons B F=>by
   refine .cons ?_ (xW t1 F)
   obtain ⟨d,v⟩:=kv
   have j:=z.1
   cases d <;> first
    | exact j.elim
    | exact ⟨.ref _,_,RD.tup_mk ⟨_,_,rfl,B.2.1,kI j⟩,rfl,z.2,B.2.2⟩
theorem bo {α β:Type} {R : α -> β -> Prop}:∀ {l:List α} {m:List β},Paired R l m->l.length=m.length
 | _,_, .nil=>rfl
 | _,_, .cons _ t=>by simp [bo t]
noncomputable abbrev Rw:=Addr×(D×D)×V×V×DictEntry
theorem xX {K:Frag} {H:Hp} {G:Addr->DictEntry->Prop}:∀ {kvs:List (D×D)} {es:List DictEntry} {us:List Value},Paired (jJ K H) kvs es->us.length=es.length->(∀ j,j < es.length -> ∃ t e,us[j]? = some (.ref t)/\es[j]? = some e/\G t e) ->
 ∃ L:List Rw,L.map (fun r=>Value.ref r.1)=us/\L.map (fun r=>r.2.1)=kvs /\ ∀ r∈L,RD K H r.2.1.1 r.2.2.1/\RelV r.2.2.1 r.2.2.2.2.key/\RD K H r.2.1.2 r.2.2.2.1/\RelV r.2.2.2.1 r.2.2.2.2.val/\G r.1 r.2.2.2.2
 | _,_,us, .nil,q,_=>⟨[],by simp at q;simp [q],rfl,fun _ h=>by simp at h⟩
 | kv::kvs,e::es,us, .cons r t,q,h=>by
   cases us with
   | nil=>simp at q
   | cons u us =>
     obtain ⟨L,h1,h2,O⟩:=xX (us:=us) t (by simpa using q) fun j U=>by
      obtain ⟨t,e',B,F,J⟩:=h (j+1) (by simpa using U)
      exact ⟨t,e',by simpa using B,by simpa using F,J⟩
     obtain ⟨t0,e',B,F,J⟩:=h 0 (by simp)
     simp at B F
     subst B F
     obtain ⟨kV,vV,g1,g2,g3,Y⟩:=r
     exact ⟨(t0,kv,kV,vV,e)::L,by simp [h1],by simp [h2],fun r Z=>by
      rcases List.mem_cons.mp Z with z | z
      ·rw [z];exact ⟨g1,g2,g3,Y,J⟩
      ·exact O r z⟩
theorem wy {L:List Rw} (j:(L.map fun r=>r.1).Nodup) {r:Rw} (q:r∈L):L.find? (fun x=>decide (x.1=r.1))=some r:=by
 induction L with
 | nil=>simp at q
 | cons x L ih =>
   simp only [List.map_cons,List.nodup_cons] at j
   rcases List.mem_cons.mp q with z | z
   ·subst z;simp
   ·have:x.1≠r.1:=fun e=>j.1 (by rw [e];exact List.mem_map_of_mem z)
    rw [List.find?_cons_of_neg (by simpa using this)]
    exact ih j.2 z
section
variable {X:Cx}
theorem nF {H:Hp} {h:Heap} {P:Program} {w:World} {K:Frag} {a:Addr} {ps:List (List Key×V)} {kvs:List (D×D)} (ok:ObjOk P w H h a (.dT ps)) (pr:Paired (fun (p:D×D) (q:List Key×V)=>RKeys p.1 q.1/\RD K H p.2 q.2) kvs ps) :
 ∃ cd dd sl es ep,h.get? a=some { cls:=cd,dict:=dd,data := .dict es ep,slots:=sl }/\es.size<=sizeLine/\Paired (jJ K H) kvs es.toList:=by
 obtain ⟨G,B,xs,j,o,es,ep,h1,h2,z,F,J⟩:=ok
 obtain ⟨cd,dd,dat,sl⟩:=o
 dsimp only at z
 subst z
 have pp:=xW (P:=P) (w:=w) pr j
 rw [<- F] at pp
 refine ⟨cd,dd,sl,es,ep,h1, ?_,pp⟩
 have:=bo pp
 have:=bo pr
 simp at *;lia
theorem zF {pins:List (Addr×Obj)} {σ:St} {H:Hp} {s:Shared} {M:Mem} (I:Inv X pins σ H s) (rm:RM X.K M H) {a:Addr} {t:Bool} {kvs:List (D×D)} (e:M a=some (.dct t kvs)) :
 ∃ cd dd sl es ep,s.heap.get? a=some { cls:=cd,dict:=dd,data := .dict es ep,slots:=sl }/\es.size<=sizeLine/\Paired (jJ X.K H) kvs es.toList/\IsD H a:=by
 have ro:=rm a _ e
 cases t with
 | false =>
   obtain ⟨ps,j,pr⟩:=ro
   obtain ⟨G,B,vs,z,o,es,ep,h1,h2,q,J,F,L⟩:=I.hok a _ j
   obtain ⟨cd,dd,dat,sl⟩:=o
   dsimp only at q
   subst q
   have pp:=xV pr z F
   refine ⟨cd,dd,sl,es,ep,h1, ?_,pp, .inl ⟨_,Rd.of j⟩⟩
   have:=bo pp
   have:=bo pr
   simp at *;lia
 | true =>
   obtain ⟨ps,j,pr⟩:=ro
   obtain ⟨cd,dd,sl,es,ep,h1,h2,q⟩:=nF (I.hok a _ j) pr
   exact ⟨cd,dd,sl,es,ep,h1,h2,q, .inr ⟨_,Rd.of j⟩⟩
theorem kJ {d:Addr} {Q:Value->Shared->Prop} {A:Around} {E:Value->Shared->Prop} {s:Shared} {cd:Value} {dd:Option Addr} {sl:Array (Option Value)} {es:Array DictEntry} {ep:Nat} {prog:Program} {w:World} (ty:s.TypeIs (.ref d) "dict") (z:(d==sysModules)=false) (hd:s.heap.get? d=some { cls:=cd,dict:=dd,data := .dict es ep,slots:=sl })
 (q:Q (.ref s.heap.objs.size) { s with heap:=s.heap.push { cls := .type "dict_items",data := .fields #[.ref d] } }):wpAny (model prog w) A (call (.builtin "dict.items") [.ref d]) Q E s:=by
 have j:cd = .type "dict" := by
  obtain ⟨o,h1,h2⟩:=ty
  rw [hd] at h1;cases h1;exact h2
 subst j
 refine wpAny_call_entry F.slot_dict_items ty F.entry_dict_items ?_ (F.args_dict_items_1 _)
 unfold Builtin.«dict.items»
 wp_walk
 exact ⟨_,rfl,q⟩
theorem wz {e:Expr} {ta:TEd} {p pos apos cpos:Pos} (hu:X.A.units+16 < cLine) (m:ad ta) (hc:X.calm=true) (he:PE X e (lE X.K ta)) (hg:Gl X "sorted") (hm:X.mg "sorted" = none)
 (Dy:attributeBase e "items" X.env (eval e X.env)=eval e X.env) (Dz:(apos.endLine==cpos.line)=true) :
 PE X (.Call (.Name "sorted" p) [.Call (.Attribute e "items" apos) [] [] cpos] [] pos) (lE X.K (fH ta)):=by
 intro pins s σ H Q I h
 obtain ⟨ρ,M,rs,rm,h⟩:=h
 refine wpAny_Call_Name_kw (dl I hg hm (u := .builtin "sorted") (by decide +kernel) ?_ (by decide) (by decide))
 refine PyProof.Rows.callWith_builtin1 ?_ rfl rfl
 refine Calls.spliced_cons ?_
 refine wpAny_Call_method0_late Dy Dz (thn (he pins s σ H (fun v H1 => ∃ Z a t kvs sh,Ext M H Z H1/\RM X.K Z H1/\v = .ref a/\Z a=some (.dct t kvs)/\jI sh=true/\(∀ kv∈kvs,hs sh (kvD kv)=true) /\ ∀ p ys,Z p=none->ys.Perm (kvs.map kvD)->qR ys->KE' X.K M H Q (.ref p) (af Z p (.lst ys))) I ⟨ρ,M,rs,rm,m _ _ _ _ (fun x Z ⟨a,t,kvs,sh,e,e1,e2,e3,q1⟩ v H1 x1 Y DK=>by
  subst e
  exact ⟨Z,a,t,kvs,sh,x1,Y,RD.ref_iff.mp DK,e1,e2,e3,q1⟩) h⟩) fun v s1 ⟨x,H1,I1,r1,Z,a,t,kvs,sh,x1,Y,ex,e1,hok,DC,q⟩ => ?_)
 subst ex
 obtain rfl:v=Value.ref a:=r1
 obtain ⟨cd,dd,sl,es,ep,hd,hz,DD,hD⟩:=zF I1 Y e1
 obtain ⟨t1,t2,DL⟩:=iB I1 hD
 refine ⟨"dict", "dict.items",F.plainAttrs_dict,F.slot_dict_items,F.type_dict_items,t1,t2,Calls.callWith_builtin rfl (PySem.evalArgs_none ?_)⟩
 refine kJ t1 DL hd ?_
 refine Calls.spliced_nil ?_
 have kpv:∀ b o,s1.heap.get? b=some o->(s1.heap.push { cls:=Value.type "dict_items",data:=Data.fields #[Value.ref a] }).get? b=some o:=fun b o e=>Heap.get?_push_of_some _ e
 obtain ⟨hS,DM⟩:=zE (xs:=kvs.map kvD) hok (fun d hd=>by
  obtain ⟨kv,DN,rfl⟩:=List.mem_map.mp hd
  exact DC kv DN)
 have U:=nE hok
 have DE:∀ (h':Heap) (r:Rw),(∀ b o,s1.heap.get? b=some o->h'.get? b=some o)->r.2.1∈kvs->RD X.K H1 r.2.1.1 r.2.2.1->RelV r.2.2.1 r.2.2.2.2.key->RD X.K H1 r.2.1.2 r.2.2.2.1->RelV r.2.2.2.1 r.2.2.2.2.val->h'.get? r.1=some { cls := .type "tuple",data := .seq #[r.2.2.2.2.key,r.2.2.2.2.val] } -> ∃ as,Reads h' (.ref r.1) (pd (kvD r.2.1)) as:=by
  intro h' r kp hm g1 g2 g3 g4 g5
  have J:=DC _ hm
  match sh,J,U with
  | .tup l,J,U =>
   simp only [kvD,hs] at J
   match l,J,U with
   | [sa,sb],J,U =>
    simp only [hss,Bool.and_eq_true,and_true] at J
    simp only [dep,deps] at U
    obtain ⟨as,ra⟩:=bm I1 Y 16 _ _ _ _ (qQ Z sa _ 16 J.1 (by lia)) g1 g2
    obtain ⟨bs,rb'⟩:=bm I1 Y 16 _ _ _ _ (qQ Z sb _ 16 J.2 (by lia)) g3 g4
    have ra:=bb (fun b o e _=>kp b o e) (j9 sa _ J.1).1 ra
    have rb':=bb (fun b o e _=>kp b o e) (j9 sb _ J.2).1 rb'
    have fin:Reads h' (.ref r.1) (.tuple [pd r.2.1.1,pd r.2.1.2]) (as++(bs++[])) := .tuple g5 rfl rfl (.cons ra (.cons rb' .nil))
    exact ⟨_,fin⟩
   | [],J,_=>simp [hss] at J
   | [_],J,_=>simp [hss] at J
   | _::_::_::_,J,_=>simp [hss] at J
  | .int,J,_=>simp [kvD,hs] at J
 refine tN (cap:=sizeLine) qN (m := 7) (ds:=(kvs.map kvD).map pd) (C:=fun h' us=>(∀ b o,s1.heap.get? b=some o->h'.get? b=some o) /\ ∃ L:List Rw,L.map (fun r=>Value.ref r.1)=us/\L.map (fun r=>r.2.1)=kvs/\us.Nodup /\ ∀ r∈L,RD X.K H1 r.2.1.1 r.2.2.1/\RelV r.2.2.1 r.2.2.2.2.key/\RD X.K H1 r.2.1.2 r.2.2.2.1/\RelV r.2.2.2.1 r.2.2.2.2.val/\h'.get? r.1=some { cls := .type "tuple",data := .seq #[r.2.2.2.2.key,r.2.2.2.2.val] }/\s1.heap.get? r.1=none) (by lia) hS DM (fun E R hR => ?_) fun h1 h2 us out n' tk hC old g2 Dv DF DT DU ht => ?_
 ·refine It.collect_view (A:=X.A.in1) (s := { s1 with heap:=s1.heap.push { cls:=Value.type "dict_items",data:=Data.fields #[Value.ref a] } }) (I.ok.hd hc) (Heap.get?_push_size _ rfl) (kpv _ _ hd) hz fun h' us k1 k2 k3 k4 => ?_
  obtain ⟨L,l1,l2,l3⟩:=xX (G:=fun t e=>h'.get? t=some { cls := .type "tuple",data := .seq #[e.key,e.val] }/\s1.heap.get? t=none) DD (by simpa using k2) fun j hj=>by
   obtain ⟨t,e,e1,e2,e3,e4⟩:=k4 j (by simpa using hj)
   refine ⟨t,e,e1,by rw [Array.getElem?_toList];exact e2,e3, ?_⟩
   cases hq:s1.heap.get? t with
   | none=>rfl
   | some o=>rw [kpv _ _ hq] at e4;cases e4
  refine hR h' us _ ⟨fun b o e=>k1 b o (kpv b o e),L,l1,l2,k3,l3⟩ (fun u hu => ?_) ⟨by rw [k2];exact hz,by rw [k2];exact hz⟩ (Nat.le_refl _)
  rw [<- l1] at hu
  obtain ⟨r,O,rfl⟩:=List.mem_map.mp hu
  obtain ⟨p1,p2,p3,p4,p5,p6⟩:=l3 r O
  have hm:r.2.1∈kvs:=by rw [<- l2];exact List.mem_map_of_mem O
  obtain ⟨as,ra⟩:=DE h' r (fun b o e=>k1 b o (kpv b o e)) hm p1 p2 p3 p4 p5
  exact ⟨_,List.mem_map_of_mem (List.mem_map_of_mem hm),as,ra⟩
 ·obtain ⟨kp,L,l1,l2,l3,l4⟩:=hC
  rw [<- l1] at Dv
  obtain ⟨L',p1,p2⟩:=kH (fun r:Rw=>Value.ref r.1) Dv rfl
  have DG:∀ b o,s1.heap.get? b=some o->h2.get? b=some o:=fun b o e=>old b o (kp b o e)
  have B:s1.heap.get? h1.objs.size=none:=by
   cases hq:s1.heap.get? h1.objs.size with
   | none=>rfl
   | some o=>exact absurd (Heap.lt_size (kp _ _ hq)) (Nat.lt_irrefl _)
  have DO:(L.map fun r=>r.1).Nodup:=by
   rw [<- l1] at l3
   have:(L.map fun r=>Value.ref r.1)=(L.map fun r=>r.1).map Value.ref:=by simp
   rw [this] at l3
   exact List.Pairwise.of_map _ (fun a b Dx he=>Dx (by rw [he])) l3
  have Dw:∀ r∈L',r∈L:=fun r O=>p1.mem_iff.mp O
  have hp:∀ r∈L,r.1≠h1.objs.size:=fun r O=>Nat.ne_of_lt (Heap.lt_size (l4 r O).2.2.2.2.1)
  let N:Addr->Option HO:=fun b=>if b=h1.objs.size then some (.lst (L'.map fun r=>V.ref r.1)) else (L.find? fun x=>decide (x.1=b)).map fun r => .tup [r.2.2.1,r.2.2.2.1]
  have DH:N h1.objs.size=some (.lst (L'.map fun r=>V.ref r.1)):=by show (if _ then _ else _)=_;rw [if_pos rfl]
  have DP:∀ r∈L,N r.1=some (.tup [r.2.2.1,r.2.2.2.1]):=fun r O=>by
   show (if _ then _ else _)=_
   rw [if_neg (hp r O),wy DO O];rfl
  have DA:∀ b o,N b=some o->b=h1.objs.size/\o = .lst (L'.map fun r=>V.ref r.1) ∨ ∃ r∈L,b=r.1/\o = .tup [r.2.2.1,r.2.2.2.1]:=fun b o e=>by
   by_cases hb:b=h1.objs.size
   ·subst hb;rw [DH] at e;cases e;exact .inl ⟨rfl,rfl⟩
   ·right
    have e:((L.find? fun x=>decide (x.1=b)).map fun r=>HO.tup [r.2.2.1,r.2.2.2.1])=some o:=by
     have e':(if b=h1.objs.size then some (HO.lst (L'.map fun r=>V.ref r.1)) else (L.find? fun x=>decide (x.1=b)).map fun r=>HO.tup [r.2.2.1,r.2.2.2.1])=some o:=e
     rw [if_neg hb] at e';exact e'
    cases hf:L.find? fun x=>decide (x.1=b) with
    | none=>rw [hf] at e;cases e
    | some r =>
      rw [hf] at e;cases e
      have DQ:=List.find?_some hf
      exact ⟨r,List.mem_of_find?_eq_some hf,(by simpa using DQ:r.1=b).symm,rfl⟩
  have oldH:∀ b o,H1 b=some o->lay H1 N b=some o:=fun b o e=>by
   rw [gk]
   ·exact e
   ·cases hq:N b with
    | none=>rfl
    | some o' =>
      obtain ⟨ob,eo⟩:=(I1.hok b o e).there
      rcases DA b o' hq with ⟨rfl,_⟩ | ⟨r,O,rfl,_⟩
      ·rw [B] at eo;cases eo
      ·rw [(l4 r O).2.2.2.2.2] at eo;cases eo
  have st:Stab H1 (lay H1 N):=⟨fun b xs e=>oldH b _ e,fun b o u e=>oldH b _ e⟩
  have DB:L'.length=kvs.length:=by rw [p1.length_eq, <- l2];simp
  have DR:=bo DD
  have I2:=I1.laidN (t':=tk) (h':=h2) (N:=N) DG (fun b o e=>by
   rcases DA b o e with ⟨rfl,_⟩ | ⟨r,O,rfl,_⟩
   ·exact B
   ·exact (l4 r O).2.2.2.2.2) (fun b o e=>by
   rcases DA b o e with ⟨rfl,rfl⟩ | ⟨r,O,rfl,rfl⟩
   ·refine ⟨by rw [List.length_map,DB,DR];simpa using hz,out,n', ?_,g2⟩
    rw [<- p2]
    have:∀ l:List Rw,Vals (l.map fun r=>V.ref r.1) (l.map fun r=>Value.ref r.1):=by
     intro l
     induction l with
     | nil=>exact .nil
     | cons r l ih=>exact .cons rfl ih
    exact this L'
   ·obtain ⟨q1,q2,q3,q4,q5,q6⟩:=l4 r O
    exact ⟨by show 2<=sizeLine;decide,[r.2.2.2.2.key,r.2.2.2.2.val], .cons q2 (.cons q4 .nil),_,old _ _ q5,rfl,0,rfl⟩)
  refine ⟨.ref h1.objs.size,_,I2,rfl, ?_⟩
  have DI:Z h1.objs.size=none:=Y.out (I1.fresh' B)
  have DJ:RDs X.K (lay H1 N) (L'.map fun r=>kvD r.2.1) (L'.map fun r=>V.ref r.1):=by
   have:∀ l:List Rw,(∀ r∈l,r∈L)->RDs X.K (lay H1 N) (l.map fun r=>kvD r.2.1) (l.map fun r=>V.ref r.1):=by
    intro l
    induction l with
    | nil=>intro _;exact RDs.nil
    | cons r l ih =>
      intro hl
      obtain ⟨q1,q2,q3,q4,q5,q6⟩:=l4 r (hl r (by simp))
      refine RDs.cons (RD.tup_mk ⟨r.1,_,rfl,jH (DP r (hl r (by simp))),RDs.cons (q1.mono st) (RDs.cons (q3.mono st) RDs.nil)⟩) (ih fun r' DS=>hl r' (by simp [DS]))
   exact this L' Dw
  refine q h1.objs.size (L'.map fun r=>kvD r.2.1) DI ?_ ?_ (.ref h1.objs.size) (lay H1 N) (x1.trans ⟨fun b o _ e=>oldH b o e,fun b o n e => ?_⟩) (fun a' o' e' => ?_) (RD.ref_iff.mpr rfl)
  ·have:=p1.map (fun r:Rw=>kvD r.2.1)
   rw [show L.map (fun r:Rw=>kvD r.2.1)=(L.map fun r=>r.2.1).map kvD by simp,l2] at this
   exact this
  ·unfold qR
   rw [List.pairwise_map]
   rw [<- p2,List.pairwise_map] at DF
   refine DF.imp_of_mem fun {a b} ha hb Dx => ?_
   have rd:∀ r∈L',SeqAt.readOf h2 (Value.ref r.1)=pd (kvD r.2.1):=fun r O=>by
    obtain ⟨q1,q2,q3,q4,q5,q6⟩:=l4 r (Dw r O)
    have hm:r.2.1∈kvs:=by rw [<- l2];exact List.mem_map_of_mem (Dw r O)
    obtain ⟨as,ra⟩:=DE h2 r DG hm q1 q2 q3 q4 (old _ _ q5)
    exact SeqAt.readOf_eq (hS.lay _ (List.mem_map_of_mem (List.mem_map_of_mem hm))).1 ra
   rw [rd a ha,rd b hb] at Dx
   exact Dx
  ·have hb:b≠h1.objs.size:=fun z=>by
    rw [z,I1.fresh' B] at e;cases e
   exact aq hb
  ·by_cases hz:a'=h1.objs.size
   ·subst hz
    rw [ab] at e';cases e'
    exact ⟨_,jH DH,DJ⟩
   ·rw [aq hz] at e'
    exact (Y a' o' e').mono st fun ho e=>oldH a' ho e
end
section
noncomputable def ja (to tk tx:TEd):TEd:=fun ρ M Q=>to ρ M fun x M1 => ∃ a t kvs,x = .ref a/\M1 a=some (.dct t kvs)/\tk ρ M1 fun k M2=>tx ρ M2 fun z M3 => ∃ t' kvs',M3 a=some (.dct t' kvs')/\dG t' k=true/\Q ((dget kvs' k).getD z) M3
theorem tT {to tk tx:TEd} (h1:ad to) (h2:ad tk) (j:ad tx):ad (ja to tk tx):=fun ρ M Q Q' i q=>h1 _ _ _ _ (fun x O ⟨a,t,kvs,e,B,F⟩=>⟨a,t,kvs,e,B,h2 _ _ _ _ (fun k M2 G=>j _ _ _ _ (fun z U ⟨t',kvs',J,ok,L⟩=>⟨t',kvs',J,ok,i _ _ L⟩) G) F⟩) q
section
variable {X:Cx}
theorem Bp {K:Frag} {M:Mem} {H:Hp} (rm:RM K M H) {a:Addr} {t:Bool} {kvs:List (D×D)} (e:M a=some (.dct t kvs)):IsD H a:=by
 have ro:=rm a _ e
 cases t with
 | false=>obtain ⟨ps,j,_⟩:=ro;exact .inl ⟨_,Rd.of j⟩
 | true=>obtain ⟨ps,j,_⟩:=ro;exact .inr ⟨_,Rd.of j⟩
theorem zG {o e f:Expr} {to tk tx:TEd} {apos cpos:Pos} (Y:X.A.units+1 < cLine) (mo:ad to) (mk:ad tk) (mx:ad tx) (ho:PE X o (lE X.K to)) (he:PE X e (lE X.K tk)) (hf:PE X f (lE X.K tx)) (m:M2 X o "get" apos e f cpos) :
 PE X (.Call (.Attribute o "get" apos) [e,f] [] cpos) (lE X.K (ja to tk tx)):=by
 refine PE.imp (vC Y ho he hf m) fun σ H Q h => ?_
 obtain ⟨ρ,M,rs,rm,q⟩:=h
 refine ⟨ρ,M,rs,rm,mo _ _ _ _ (fun x Z ⟨a,t,kvs,e,e1,q1⟩ v H1 L j rd1 => ?_) q⟩
 subst e
 cases RD.ref_iff.mp rd1
 have B:=rs.mono (L.stab rm)
 refine ⟨a,rfl,Bp j e1, ρ,Z,B,j,mk _ _ _ _ (fun k M2 q2 v2 H2 O F G => ?_) q1⟩
 have J:=B.mono (O.stab j)
 refine ⟨ρ,M2,J,F,mx _ _ _ _ (fun z M3 ⟨t',kvs',e3,ok,q3⟩ v3 H3 U rm3 rd3 => ?_) q2⟩
 obtain ⟨w,g,g1,g2⟩:=jB rm3 e3 ok (G.mono (U.stab F))
 refine ⟨w,g, ?_⟩
 refine q3 _ H3 (L.trans (O.trans U)) rm3 ?_
 cases e4:dget kvs' k with
 | none=>rw [g2 e4];exact rd3
 | some d =>
   obtain ⟨w',e5,r5⟩:=g1 d e4
   rw [e5];exact r5
end
end
end Mi
end L2
namespace L2
open PySem PySem.Spec PyProof.Rows
namespace Mi
end Mi
end L2
namespace L2
open PySem PySem.Spec PyProof.Rows
namespace Mi
end Mi
end L2
namespace L2
open PySem PySem.Spec PyProof.Rows
section
section
variable {prog:Program} {w:World} {A:Around} {E:Value->Shared->Prop}
theorem kK {it l:Addr} {items:Array Value} (j:l≠it):∀ (n i:Nat) (s:Shared) (Q:List Value->Shared->Prop),s.heap.IsListIter it l i->s.heap.IsList l items->i+n<=items.size ->
 (∀ h':Heap,h'.IsListIter it l (i+n)->Heap.SameBut it s.heap h'->Q ((items.toList.drop i).take n) { s with heap:=h' })->wpAny (model prog w) A (draw (.ref it) n) Q E s
 | 0,i,s,Q,hi,B,hs,q=>by
  unfold draw
  have:=q s.heap (by simpa using hi) ⟨rfl,fun _ _=>rfl⟩
  exact wpAny_pure (by simpa using this)
 | n+1,i,s,Q,hi,B,hs,q=>by
   unfold draw
   refine wpAny_bind (wpAny_pyNext_list_item hi B (x:=items[i]'(by lia)) (by simp) fun h' F sb => ?_)
   refine wpAny_bind (wpAny_holding (kK j n (i+1) _ _ F (B.extBut sb.extBut j) (by lia) fun h2 G z => ?_))
   refine wpAny_pure ?_
   have e:items[i]'(by lia)::(items.toList.drop (i+1)).take n=(items.toList.drop i).take (n+1):=by
    rw [List.drop_eq_getElem_cons (i:=i) (l:=items.toList) (by simp;lia),List.take_succ_cons];rfl
   have:=q h2 (by rw [show i+(n+1)=i+1+n by lia];exact G) ⟨z.1.trans sb.1,fun b J=>(z.2 b J).trans (sb.2 b J)⟩
   rw [<- e] at this
   exact this
theorem i6 {s:Shared} {l:Addr} {items:Array Value} {Q:List Value->Shared->Prop} (F:A.handled=none) (j:s.heap.IsList l items)
 (q:∀ h',(∀ b o,s.heap.get? b=some o->h'.get? b=some o)->Q items.toList { s with heap:=h' }):wpAny (model prog w) A (unpackItems (.ref l) items.size none) Q E s:=by
 unfold unpackItems
 have nb:∀ Q':Bool->Shared->Prop,Q' false s->wpAny (model prog w) A (notIterableAtAll (.ref l)) Q' E s:=fun Q' h=>by
  unfold notIterableAtAll
  refine wpAny_bind (wpAny_specialOf j.typeIs slot_list_iter.lookup ?_)
  exact wpAny_pure h
 refine wpAny_bind (nb _ ?_)
 simp only [Bool.false_eq_true,if_false]
 refine wpAny_bind (wpAny_holding (wpAny_pyIter_list j ?_))
 have lt:l < s.heap.objs.size:=by obtain ⟨o,e,_⟩:=j;exact Heap.lt_size e
 refine wpAny_bind (wpAny_holding (kK (items:=items) (Nat.ne_of_lt lt) items.size 0 _ _ ⟨_,Heap.get?_push_size _ rfl,rfl,rfl⟩ (j.push _) (by lia) fun h2 G z => ?_))
 have B:h2.IsList l items:=(j.push _).extBut z.extBut (Nat.ne_of_lt lt)
 rw [List.drop_zero,List.take_of_length_le (by simp)]
 rw [if_neg (by simp)]
 refine wpAny_bind (wpAny_holding (wpAny_pyNext_list_end F (s := { s with heap:=h2 }) G B (by simp) fun J eb => ?_))
 simp only [Option.isSome_none,Bool.false_eq_true,if_false]
 refine wpAny_pure (q J fun b o e => ?_)
 have nb:b≠s.heap.objs.size:=Nat.ne_of_lt (Heap.lt_size e)
 exact eb b o nb (z.extBut b o nb (Heap.get?_push_of_some _ e))
theorem oD {s:Shared} {env:Env} {elts:List Expr} {k:Nat} {pos:Pos} {l:Addr} {items:Array Value} {Q:Unit->Shared->Prop} (z:A.handled=none) (B:s.heap.IsList l items) (F:(assignEach elts env).length=items.size) (j:(assignEach elts env).findIdx? (·.1)=none)
 (q:∀ h',(∀ b o,s.heap.get? b=some o->h'.get? b=some o)->wpAny (model prog w) A (assignInOrder ((assignEach elts env).map (·.2)) items.toList) Q E { s with heap:=h' }) :
 wpAny (model prog w) A (assign (.Tuple elts k pos) env (.ref l)) Q E s:=by
 rw [assign_Tuple]
 refine wpAny_bind (wpAny_standAt ?_)
 unfold unpack
 rw [j,F]
 exact wpAny_bind (wpAny_holding (i6 z B q))
end
section
variable {X:Cx}
noncomputable def Dq (K:Frag) (n:Nat) (t:TGs):TG:=fun v σ H Q => ∃ a xs,v = .ref a/\SqL K H a xs/\xs.length=n/\t xs σ H Q
theorem Bq {es:List Expr} {k:Nat} {t:TGs} {n:Nat} {pos:Pos} (q:X.calm=true) (h:PGs X es t)
 (z:(assignEach es X.env).length=n) (j:(assignEach es X.env).findIdx? (·.1)=none):PG X (.Tuple es k pos) (Dq X.K n t):=by
 intro pins s σ H v u Q I r hw
 obtain ⟨a,xs,B,F,G,hw⟩:=hw
 subst B
 cases r
 obtain ⟨its,rv,J,O⟩:=I.list F
 refine oD (I.ok.hd q) J.isList (by simp [z, <- G,rv.length]) j fun h' hx => ?_
 have L:Inv X pins σ H { s with heap:=h' }:=I.kept (t':=s.toks) hx
 exact h pins _ σ H xs _ Q L (by simpa using rv) hw
end
namespace Mi
section
variable {X:Cx} {K:Frag}
noncomputable def lGL (K:Frag) (b:BTs):TG:=fun v σ H Q => ∃ a vs ds ρ ρ',v = .ref a/\SqL K H a vs/\RDs K H ds vs/\RS K H σ ρ /\ b ds ρ = some ρ' /\ ∀ σ',RS K H σ' ρ'->Q σ' H
theorem Br {es:List Expr} {k:Nat} {bs:BTs} {n:Nat} {pos:Pos} (z:X.calm=true) (hlen:∀ ds ρ ρ',bs ds ρ = some ρ'->ds.length=n) (h:PGs X es (lGs X.K bs)) (B:(assignEach es X.env).length=n) (j:(assignEach es X.env).findIdx? (·.1)=none) :
 PG X (.Tuple es k pos) (lGL X.K bs):=PG.imp (Bq z h B j) fun v σ H Q ⟨a,vs,ds, ρ, ρ',e,sq,r,rs,eb,q⟩=>⟨a,vs,e,sq,by rw [r.length];exact hlen _ _ _ eb,ds, ρ, ρ',r,rs,eb,q⟩
noncomputable def jb (te:TEd) (b:BTs):TSd:=fun D ρ M=>te ρ M fun x M1 => ∃ a ds ρ',x = .ref a/\M1 a=some (.lst ds)/\b ds ρ = some ρ'/\D.nx ρ' M1
theorem tU {te:TEd} {bt:BTs} (h:ad te):aA (jb te bt):=fun a b ρ M i q=>h _ _ _ _ (fun d F ⟨x,ds, ρ',e,j,z,B⟩=>⟨x,ds, ρ',e,j,z,i.nx _ _ B⟩) q
theorem tV {te:TEd} {b:BTs} (m:ad te) (D:be) (σ:St) (H:Hp) (h:lS K (jb te b) D σ H):lF (lE K te) (lGL K b) D σ H:=by
 obtain ⟨ρ,M,A,rs,rm,l,q⟩:=h
 refine ⟨ρ,M,rs,rm,m _ _ _ _ (fun d B ⟨a,ds, ρ',F,G,e,J⟩ v H1 z j rd1 => ?_) q⟩
 subst F
 cases RD.ref_iff.mp rd1
 obtain ⟨vs,L,rv⟩:=j _ _ G
 exact ⟨a,vs,ds, ρ, ρ',rfl,SqL.of L,rv,rs.mono (z.stab rm),e,fun σ' rs'=>l.nx ρ' B σ' H1 z rs' j J⟩
end
end Mi
end
end L2
namespace L2
namespace Mi
open PySem PySem.Spec PyProof.Rows
end Mi
end L2
namespace L2
namespace Dk
open PySem PySem.Spec PyProof.Rows
end Dk
end L2
namespace L2
namespace Mi
open PySem PySem.Spec PyProof.Rows L2.Srt
end Mi
end L2
namespace L2
open PySem PySem.Spec PyProof.Rows
namespace Mi
end Mi
end L2
namespace L2
namespace Mi
open PySem PySem.Spec PyProof.Rows
end Mi
end L2
namespace L2
open PySem PySem.Spec PyProof.Rows
section
section
variable {X:Cx} {pins:List (Addr×Obj)} {σ:St} {H:Hp} {s:Shared}
theorem Inv.freeze (I:Inv X pins σ H s) {a:Addr} {ps:List (List Key×V)} (e:H a=some (.dT ps)):∃ o,Inv X pins σ (upd H a (.frz o (.dT ps))) s:=by
 obtain ⟨B,j,xs,pr,o,es,ep,h1,h2,F,G,J⟩:=id (I.hok a _ e)
 have mu:Mut (H a):=by rw [e];exact True.intro
 have u:Un X.fs [] H (upd H a (.frz o (.dT ps))) s.heap s.heap:=Un.write mu (.inl rfl) (fun b u _ q=>q) ⟨_,h1⟩
 have ok:HOk X.prog X.w (upd H a (.frz o (.dT ps))) s.heap:=HOk.write I.hok mu (.inl rfl) (fun b u _ q=>q) ⟨_,h1⟩
  ⟨h1,(I.hok a _ e).stay (fun b u _ q=>q) (fun b q=>by rw [aj (fun z=>by subst z;rw [e] at q;cases q)];exact q) (fun b xs q=>by rw [aj (fun z=>by subst z;rw [e] at q;cases q)];exact q)⟩
 exact ⟨o,I.un (t':=s.toks) u ok⟩
end
namespace Mi
section
variable {X:Cx}
noncomputable def qT (i:Nat) (t:TSd):TSd:=fun A ρ M => ∃ a kvs, ρ[i]? = some (some (.ref a))/\((M a=some (.dct true kvs)/\t A ρ (af M a (.fdc kvs)))∨(M a=some (.fdc kvs)/\t A ρ M))
theorem wB {i:Nat} {t:TSd} (h:aA t):aA (qT i t):=fun a b ρ M l ⟨p,kvs,e,q⟩=>⟨p,kvs,e,q.imp (fun q=>⟨q.1,h _ _ _ _ l q.2⟩) fun q=>⟨q.1,h _ _ _ _ l q.2⟩⟩
theorem Bs {st:Stmt} {i:Nat} {t:TSd} (h:PS X st (lS X.K t)):PS X st (lS X.K (qT i t)):=by
 intro pins s σ H D I ⟨ρ,M,A,rs,rm,lk,a,kvs,e,q⟩
 rcases q with ⟨m,q⟩ | ⟨m,q⟩
 ·obtain ⟨ps,j,pr⟩:=rm a _ m
  obtain ⟨o,I'⟩:=I.freeze j
  have sb:Stab H (upd H a (.frz o (.dT ps))):=rm.stabPut m
  exact h pins s σ _ D I' ⟨ρ,af M a (.fdc kvs),A,rs.mono sb,rm.put m ⟨o,ps,aE,Paired.mapP pr fun _ _ z=>⟨z.1,z.2.mono sb⟩⟩,lk.ext (Ext.put m),q⟩
 ·exact h pins s σ H D I ⟨ρ,M,A,rs,rm,lk,q⟩
end
end Mi
end
end L2
namespace L2
open PySem PySem.Spec PyProof.Rows
namespace Mi
end Mi
end L2
namespace L2
namespace Mi
open PySem PySem.Spec PyProof.Rows
section
section
variable {prog:Program} {w:World} {A:Around} {R:Result->Shared->Prop} {I:Addr} {fp wr:List Addr} {n:Nat} {P:Nat->Value->Prop} {St:Nat->Heap->Prop} {h0:Heap} {S:Addr}
noncomputable def Kpt (wr:List Addr) (S:Addr) (h h':Heap):Prop := ∀ b o,b∉wr->b≠S->h.get? b=some o->h'.get? b=some o
theorem Kpt.trans {wr:List Addr} {S:Addr} {a b c:Heap} (h:Kpt wr S a b) (g:Kpt wr S b c):Kpt wr S a c:=fun x o h1 h2 e=>g x o h1 h2 (h x o h1 h2 e)
noncomputable def lsO (vs:Array Value) (c:Nat):Obj := { cls := .type "list",dict:=none,data := .seq vs c,slots := #[] }
noncomputable def wD (prog:Program) (w:World) (A:Around) (P:Nat->Value->Prop) (wr:List Addr) (S:Addr) (h0:Heap):Prop := ∀ (s:Shared) (x y:Value) (i j:Nat) (Q:Value->Shared->Prop) (E:Value->Shared->Prop),Kpt wr S h0 s.heap->P i x->P j y->(∀ b,Q (.bool b) s)->wpAny (model prog w) A (richCompare .Lt x y) Q E s
theorem Bt (W:Walks prog w A.in1 I fp wr n P St) (O:S∉fp) (U:wD prog w A.in1 P wr S h0):∀ (k j:Nat) (s:Shared) (u:Value) (c:Nat),n - (j+1)=k->j+1<=n->St (j+1) s.heap->(∃ i,P i u)->s.heap.get? S=some (lsO #[u,u] c)->Kpt wr S h0 s.heap ->
 (∀ v h' tk,(∃ i,P i v)->Kpt wr S s.heap h'->R (.ok (.ret v)) { s with heap:=h',toks:=tk })->codeAny (model prog w) A (.builtin "min.loop" ⟨[.ref I, .none, .ref S],[]⟩) R s:=by
 have Y:S∉wr:=fun h=>O (W.sub _ h)
 have nm:(toString "min" ++ toString ".loop":String) = "min.loop" := by decide
 intro k
 induction k with
 | zero =>
   intro j s u c hk hj st L Z _ hR
   have ej:j+1=n:=by lia
   refine codeAny_builtin F.entry_min_loop ?_
   rw [Around.under_plainId F.plain_min_loop _]
   refine wpAny_bind (m:=seqItems? (.ref S)) (wpAny_seqItems Z rfl ?_)
   refine wpAny_bind (m:=tryCatch (pyNext (.ref I)) _) (wpAny_tryCatch (W.done s _ _ (ej ▸ st) fun h' tk kk => ?_))
   have q:=kk S _ Y Z
   refine wpAny_bind (m:=updateSeq S (fun _ => #[])) (wpAny_updateSeq q rfl (wpAny_bind (wpAny_letGo (wpAny_pure ?_))))
   exact hR u _ tk L fun b o Dw Dx e=>(Heap.get?_update_other _ _ (Ne.symm Dx)).trans (kk b o Dw e)
 | succ k ih =>
   intro j s u c hk hj st L Z hK hR
   have B:j+1 < n:=by lia
   refine codeAny_builtin F.entry_min_loop ?_
   rw [Around.under_plainId F.plain_min_loop _]
   refine wpAny_bind (m:=seqItems? (.ref S)) (wpAny_seqItems Z rfl ?_)
   refine wpAny_bind (m:=tryCatch (pyNext (.ref I)) _) (wpAny_tryCatch (W.item (j+1) s _ _ B st fun v h' tk Dv st' kk => ?_))
   have q:=kk S _ Y Z
   obtain ⟨i,L⟩:=L
   have kk':Kpt wr S s.heap h':=fun b o h1 _ e=>kk b o h1 e
   refine wpAny_bind (m:=tryCatch (holding [v,v] (richCompare .Lt v u >>= _)) _) (wpAny_tryCatch (wpAny_holding (wpAny_bind (U _ v u (j+1) i _ _ (hK.trans kk') Dv L fun b => ?_))))
   refine wpAny_bind (wpAny_holding (wpAny_truthy_bool ?_))
   refine wpAny_bind (wpAny_letGo (wpAny_pure ?_))
   cases b with
   | true =>
     simp only [if_true]
     refine wpAny_bind (wpAny_updateSeq q rfl (wpAny_bind (wpAny_letGo ?_)))
     rw [nm]
     have up:Kpt wr S s.heap (h'.update S (Obj.mapSeq fun _ => #[v,v])):=fun b o h1 h2 e=>(Heap.get?_update_other _ _ (Ne.symm h2)).trans (kk b o h1 e)
     refine wpAny_pure ⟨plainId_quiet F.plain_min_loop _,ih (j+1) _ v _ (by lia) B (W.frame _ _ _ st' fun b Dy o e => ?_) ⟨_,Dv⟩ (Heap.get?_update_self _ q rfl) (hK.trans up) fun v' G tk'' J z=>hR v' G tk'' J (up.trans z)⟩
     exact (Heap.get?_update_other _ _ (fun h:S=b=>O (by rw [h];exact Dy))).trans e
   | false =>
     simp only [Bool.false_eq_true,if_false]
     refine wpAny_bind (wpAny_letGo ?_)
     rw [nm]
     exact wpAny_pure ⟨plainId_quiet F.plain_min_loop _,ih (j+1) _ u c (by lia) B st' ⟨i,L⟩ q (hK.trans kk') fun v' G tk'' J z=>hR v' G tk'' J (kk'.trans z)⟩
theorem tW (W:Walks prog w A.in1 I fp wr n P St) (j:S∉fp) (q:wD prog w A.in1 P wr S h0) (U : 0 < n) {s:Shared} {c:Nat} (st:St 0 s.heap) (Y:s.heap.get? S=some (lsO #[] c)) (Z:Kpt wr S h0 s.heap)
 (hR:∀ v h' tk,(∃ i,P i v)->Kpt wr S s.heap h'->R (.ok (.ret v)) { s with heap:=h',toks:=tk }):codeAny (model prog w) A (.builtin "min.loop" ⟨[.ref I, .none, .ref S],[]⟩) R s:=by
 have G:S∉wr:=fun h=>j (W.sub _ h)
 have nm:(toString "min" ++ toString ".loop":String) = "min.loop" := by decide
 refine codeAny_builtin F.entry_min_loop ?_
 rw [Around.under_plainId F.plain_min_loop _]
 refine wpAny_bind (m:=seqItems? (.ref S)) (wpAny_seqItems Y rfl ?_)
 refine wpAny_bind (m:=tryCatch (pyNext (.ref I)) _) (wpAny_tryCatch (W.item 0 s _ _ U st fun v h' tk hP st' kk => ?_))
 have z:=kk S _ G Y
 refine wpAny_bind (m:=updateSeq S (fun _ => #[v,v])) (wpAny_updateSeq z rfl ?_)
 rw [nm]
 have up:Kpt wr S s.heap (h'.update S (Obj.mapSeq fun _ => #[v,v])):=fun b o h1 h2 e=>(Heap.get?_update_other _ _ (Ne.symm h2)).trans (kk b o h1 e)
 refine wpAny_pure ⟨plainId_quiet F.plain_min_loop _,Bt W j q _ 0 _ v _ rfl U (W.frame _ _ _ st' fun b J o e => ?_) ⟨_,hP⟩ (Heap.get?_update_self _ z rfl) (Z.trans up) fun v' L tk'' O B=>hR v' L tk'' O (up.trans B)⟩
 exact (Heap.get?_update_other _ _ (fun h:S=b=>j (by rw [h];exact J))).trans e
end
section
variable {prog:Program} {w:World} {A:Around} {E:Value->Shared->Prop} {s:Shared}
theorem tX {x:Value} {Q:Value->Shared->Prop}
 (h:wpAny (model prog w) A.in1 (pyIter x) (fun it s₂ => ∃ I fp wr n P St,it = .ref I/\Walks prog w A.in1 I fp wr n P St/\St 0 s₂.heap/\(∀ b∈fp,b < s₂.heap.objs.size)/\0 < n/\wD prog w A.in1 P wr s₂.heap.objs.size s₂.heap /\
   ∀ v h' tk,(∃ i,P i v)->(∀ b o,b∉wr->s₂.heap.get? b=some o->h'.get? b=some o)->Q v { s₂ with heap:=h',toks:=tk }) E s) :
 wpAny (model prog w) A (call (.builtin "min") [x]) Q E s:=by
 have nm:(toString "min" ++ toString ".loop":String) = "min.loop" := by decide
 refine call_function_tree F.kind_min F.plain_min F.entry_min (F.args_min1 _) ?_
 refine wpAny_bind (m:=Builtin.Builtins.bindParams "min" ["key", "default"] 0 ⟨[],[]⟩) (wpAny_of_eq (show Builtin.Builtins.bindParams "min" ["key", "default"] 0 ⟨[],[]⟩=pure [none,none] from rfl) ?_)
 refine wpAny_bind (wpAny_pure ?_)
 refine wpAny_bind (wpAny_mono h (fun it s₂ G => ?_) fun _ _ e=>e)
 obtain ⟨I,fp,wr,n,P,St,rfl,W,st,q,J,j,L⟩:=G
 refine wpAny_bind (wpAny_newObj_type ?_)
 have z:s₂.heap.objs.size∉fp:=fun hm=>Nat.lt_irrefl _ (q _ hm)
 rw [nm]
 refine wpAny_pure ⟨plainId_quiet F.plain_min_loop _,tW W z j J (W.frame _ _ _ st fun b _ o e=>Heap.get?_push_of_some _ e) (Heap.get?_push_size _ rfl) (fun b o _ _ e=>Heap.get?_push_of_some _ e) fun v h' tk O U => ?_⟩
 exact L v h' tk O fun b o B e=>U b o B (Nat.ne_of_lt (Heap.lt_size e)) (Heap.get?_push_of_some _ e)
end
section
variable {X:Cx}
noncomputable def qU:RAd:=fun xs M Q => ∃ (a:Addr) (nss:List (List Int)),xs=[.ref a]/\M a=some (.lst (nss.map fun ns => .tup (ns.map .int)))/\nss≠[] /\ ∀ ns∈nss,Q (.tup (ns.map .int)) M
theorem kL:aS qU:=fun _ _ _ _ h ⟨a,nss,e,j,z,q⟩=>⟨a,nss,e,j,z,fun i hi=>h _ _ (q i hi)⟩
theorem oE (hu:X.A.units+16 < cLine) (hc:X.calm=true):CallR X (.builtin "min") (lR X.K qU):=by
 intro pins s σ H xs us Q I r h
 obtain ⟨ds,M,rm,rs,a,nss,rfl,ea,J,q⟩:=h
 obtain ⟨v,rfl,rv⟩:=rs.one
 obtain ⟨u,rfl,ru⟩:=cP r
 cases RD.ref_iff.mp rv
 cases (show u=Value.ref a from ru)
 obtain ⟨vs,ha,rvs⟩:=rm _ _ ea
 obtain ⟨its,r1,L,hz⟩:=I.list (SqL.of ha)
 have hl:=r1.length
 have O:=rvs.length
 rw [List.length_map] at O
 have U:s.heap.IsList a its.toArray:=L.isList
 have lt:=Heap.lt_size U.choose_spec.1
 have Dv : 0 < nss.length:=List.length_pos_iff.mpr J
 have hn:X.A.in1.handled=none:=I.ok.hd hc
 have z:∀ (i:Nat) (v:Value),its.toArray[i]? = some v -> ∃ (ns:List Int) (t:Addr) (ws:List Value),ns∈nss/\RD X.K H (.tup (ns.map .int)) (.ref t)/\v = .ref t/\IsTup s.heap t ws.toArray/\IntsAre ws.toArray.toList ns:=fun i v e=>by
  have e':its[i]? = some v:=by simpa using e
  have hi:i < its.length:=(List.getElem?_eq_some_iff.mp e').1
  have F:i < nss.length:=by lia
  obtain ⟨x,hx,rx⟩:=rvs.get (i:=i) (d := .tup (nss[i].map .int)) (by rw [List.getElem?_map,List.getElem?_eq_getElem F];rfl)
  obtain ⟨y,G,ry⟩:=r1.get hx
  rw [e'] at G;cases G
  obtain ⟨t,ts,rfl,ht,rts⟩:=RD.tupS rx
  rw [rts.ints_eq] at ht
  obtain ⟨ws,r2,p2,_⟩:=I.tuple ht
  exact ⟨nss[i],t,ws,List.getElem_mem F,rx,ry,p2,ql r2⟩
 refine tX (wpAny_pyIter_list U ?_)
 refine ⟨_,[_,a],[_],_,_,_,rfl,Walks.list (A:=X.A.in1) hn _ a (Nat.ne_of_lt lt) its.toArray,⟨⟨_,Heap.get?_push_size _ rfl,rfl,rfl⟩,U.push _⟩,fun d hd => ?_,by simp;lia,fun s' x y i j Q' E' Y hx G Z => ?_,fun v h' tk hP Y => ?_⟩
 ·rw [Heap.size_push]
  rcases List.mem_cons.mp hd with rfl | hd
  ·exact Nat.lt_succ_self _
  ·rcases List.mem_cons.mp hd with rfl | hd
   ·exact Nat.lt_succ_of_lt lt
   ·cases hd
 ·obtain ⟨n1,t1,w1,_,_,rfl,L,i1⟩:=z i x hx
  obtain ⟨n2,t2,w2,_,_,rfl,p2,i2⟩:=z j y G
  have up:∀ {t:Addr} {o:Obj},s.heap.get? t=some o->s'.heap.get? t=some o:=fun {t o} e=>by
   have B:=Heap.lt_size e
   refine Y t o (fun hm => ?_) ?_ (Heap.get?_push_of_some _ e)
   ·simp only [List.mem_cons,List.not_mem_nil,or_false] at hm
    rw [hm] at B;exact Nat.lt_irrefl _ B
   ·intro hm
    rw [hm,Heap.size_push] at B;exact absurd B (by lia)
  obtain ⟨o1,g1,h1⟩:=L
  obtain ⟨o2,g2,h2⟩:=p2
  exact HT.lt_tupInts ⟨o1,up g1,h1⟩ ⟨o2,up g2,h2⟩ i1 i2 (by show X.A.units+1 < cLine;lia) (Z _)
 ·obtain ⟨i,hP⟩:=hP
  obtain ⟨ns,t,ws,hm,rx,rfl,_,_⟩:=z i v hP
  refine ⟨.ref t,H,I.kept (fun b o e=>Y b o (fun hm => ?_) (Heap.get?_push_of_some _ e)),rfl,q ns hm _ H Ext.refl rm rx⟩
  rcases List.mem_cons.mp hm with e1 | hm
  ·exact absurd (e1 ▸ Heap.lt_size e) (Nat.lt_irrefl _)
  ·cases hm
end
end
end Mi
end L2
namespace L2
open PySem PySem.Spec PyProof.Rows
namespace Mi
end Mi
end L2
namespace L2
namespace Mi
open PySem PySem.Spec PyProof.Rows
section
section
variable {X:Cx}
noncomputable def wF (neg:Bool):R2d:=fun k x M Q => ∃ a t kvs,x = .ref a/\M a=some (.dct t kvs)/\dG t k=true/\Q (.bl (if neg then !(dget kvs k).isSome else (dget kvs k).isSome)) M
theorem wG {neg:Bool}:ak (wF neg):=fun _ _ _ _ _ h ⟨a,t,kvs,j,z,B,q⟩=>⟨a,t,kvs,j,z,B,h _ _ q⟩
theorem Bu {K:Frag} {M:Mem} {H:Hp} {a:Addr} {t:Bool} {kvs:List (D×D)} {k:D} {v:V} (rm:RM K M H) (e:M a=some (.dct t kvs)) (ok:dG t k=true) (rk:RD K H k v):∃ o,DGet H a v o/\o.isSome=(dget kvs k).isSome:=by
 obtain ⟨o,g,g1,g2⟩:=jB rm e ok rk
 refine ⟨o,g, ?_⟩
 cases h:dget kvs k with
 | none=>rw [g2 h];rfl
 | some d=>obtain ⟨w,rfl,_⟩:=g1 d h;rfl
theorem tY (j:X.A.units+1 < cLine):OpR X (compareOp .NotIn) (l2 X.K (wF true)):=by
 intro pins s σ H y x u v Q I ry rx h
 obtain ⟨dk,dx,M,rm,rk,rd,a,t,kvs,rfl,e,ok,q⟩:=h
 cases RD.ref_iff.mp rd
 cases rx
 obtain ⟨o,g,ho⟩:=Bu rm e ok rk
 exact yG j I g ry fun s' I'=>⟨.bl (!o.isSome),H,I',rfl,by rw [ho];exact q _ H Ext.refl rm (RD.bl_iff.mpr rfl)⟩
end
end
end Mi
end L2
namespace L2
namespace It
open PySem PySem.Spec PyProof.Rows
section
variable {prog:Program} {w:World} {A:Around} {E:Value->Shared->Prop} {s:Shared}
theorem wH {it d:Addr} {i n ep:Nat} {k v ok ov:Value} {Q:Value->Shared->Prop} (hi:s.heap.get? it=some (iO .none false d i n ep ok ov))
 (q:∀ h',h'.get? it=some (iO (rawInt s.heap.objs.size) false d i n ep k v)->h'.get? s.heap.objs.size=some { cls := .type "tuple",data := .seq #[k,v] }->(∀ b o,b≠it->s.heap.get? b=some o->h'.get? b=some o)->Q (.ref s.heap.objs.size) { s with heap:=h' }):wpAny (model prog w) A (Builtin.Dict_items.pairFromOwner (.ref it) 6 k v) Q E s:=by
 unfold Builtin.Dict_items.pairFromOwner
 refine wpAny_bind (wpAny_newTuple ?_ (by size_fits))
 have B:=Heap.lt_size hi
 have j:=Heap.get?_push_of_some ({ cls := .type "tuple",data := .seq [k,v].toArray }) hi
 unfold Builtin.Dict_items.ownedTupleIsFree
 refine wpAny_bind (wpAny_bind (wpAny_field j rfl (x := .none) rfl (wpAny_pure ?_)))
 dsimp only
 rw [if_pos rfl]
 refine wpAny_bind (wpAny_field j rfl (x:=ok) rfl ?_)
 refine wpAny_bind (wpAny_field j rfl (x:=ov) rfl ?_)
 refine wpAny_bind (wpAny_setField_rec j (by simp) fun h1 G s1 => ?_)
 refine wpAny_bind (wpAny_setField_rec G (by simp) fun h2 J s2 => ?_)
 refine wpAny_bind (wpAny_setField_rec J (by simp) fun U L s3 => ?_)
 refine wpAny_bind (wpAny_setField_rec L (by simp) fun F O s4 => ?_)
 refine wpAny_bind (wpAny_letGo ?_)
 have kp:∀ b o,b≠it->(s.heap.push { cls := .type "tuple",data := .seq [k,v].toArray }).get? b=some o->F.get? b=some o:=fun b o z e=>s4.extBut b o z (s3.extBut b o z (s2.extBut b o z (s1.extBut b o z e)))
 refine wpAny_pure (q F O (kp _ _ (Nat.ne_of_gt B) (Heap.get?_push_size _ rfl)) fun b o z e=>kp b o z (Heap.get?_push_of_some _ e))
theorem nx_any {it d:Addr} {i ep:Nat} {cd ok ov:Value} {dd:Option Addr} {sl:Array (Option Value)} {es:Array DictEntry} {e:DictEntry} {Q:Option Value->Shared->Prop} (hi:s.heap.get? it=some (iO .none false d i es.size ep ok ov)) (hd:s.heap.get? d=some { cls:=cd,dict:=dd,data := .dict es ep,slots:=sl }) (he:es[i]? = some e)
 (q:∀ h',h'.get? it=some (iO (rawInt s.heap.objs.size) false d (i+1) es.size ep e.key e.val)->h'.get? s.heap.objs.size=some { cls := .type "tuple",data := .seq #[e.key,e.val] }->(∀ b o,b≠it->s.heap.get? b=some o->h'.get? b=some o)->Q (some (.ref s.heap.objs.size)) { s with heap:=h' }):wpAny (model prog w) A (pyNext (.ref it)) Q E s:=by
 have ty:s.TypeIs (.ref it) "dict_itemiterator" := ⟨_,hi,rfl⟩
 unfold pyNext
 refine wpAny_bind (wpAny_attempt (wpAny_callSpecial?_slot (name:=Str.ofString "__next__") ty slot_next (wpAny_call_entry slot_next ty cV ?_ (dN _))))
 unfold Builtin.«dict_itemiterator.__next__»
 have hm:=fG
 wp_walk
 dsimp only
 rw [if_neg (by simp)]
 wp_walk
 simp only [Int.toNat_natCast,he]
 refine wpAny_bind (wpAny_mono (Q:=fun n s'=>n=2/\s'=s) ?_ (fun n s' hs => ?_) fun _ _ z=>z)
 ·wp_walk
  exact ⟨by kernel_rfl,rfl⟩
 obtain ⟨rfl,rfl⟩:=hs
 refine wpAny_bind (ck ty ?_)
 refine wpAny_bind (wpAny_setField_rec hi (by simp) fun h1 j s1 => ?_)
 refine wpAny_bind (wpAny_holding ?_)
 have B:Shared.TypeIs { s' with heap:=h1 } (.ref it) "dict_itemiterator" := ⟨_,j,rfl⟩
 refine wpAny_bind (ck B ?_)
 rw [if_neg (by decide +kernel)] at j
 have j:h1.get? it=some (iO .none false d (i+1) es.size ep ok ov):=j
 have hsz:h1.objs.size=s'.heap.objs.size:=s1.1
 refine wpAny_ite_false (by decide +kernel) ?_
 refine wpAny_bind (ck B ?_)
 refine wpAny_ite_false (by decide +kernel) ?_
 refine wH (s := { s' with heap:=h1 }) j fun h2 F G L => ?_
 refine wpAny_pure ⟨_,rfl,wpAny_pure ?_⟩
 dsimp only at F G ⊢
 rw [hsz] at F G ⊢
 exact q h2 F G fun b o J e=>L b o J (s1.extBut b o J e)
theorem kM:Slot "dict_itemiterator" "__iter__" "dict_itemiterator.__iter__" := .of (owner := "dict_itemiterator") (n := "__iter__") (by rw [typeLookup_type,builtinLookup_eq_fast];kernel_rfl) (by decide +kernel) (by decide +kernel) (by decide +kernel) (.inl (by decide +kernel)) (by rw [isSubtype_type];kernel_rfl)
theorem qV:entryFor table "dict_itemiterator.__iter__" = some Builtin.«dict_keyiterator.__iter__» :=
 entryFor_alias (id' := "dict_keyiterator.__iter__") (by kernel_rfl) (by first | rfl | decide +kernel | (unfold String.splitOn;simp +decide [String.splitOnAux])) (by decide +kernel) (by kernel_rfl)
theorem tZ (a:Value):argsOk "dict_itemiterator.__iter__" ⟨[a],[]⟩:=by unfold argsOk;kernel_rfl
theorem it_self {it:Addr} {f0 ok ov:Value} {b:Bool} {d:Addr} {i n ep:Nat} {Q:Value->Shared->Prop} (hi:s.heap.get? it=some (iO f0 b d i n ep ok ov)) (h:Q (.ref it) s):wpAny (model prog w) A (pyIter (.ref it)) Q E s:=by
 have ty:s.TypeIs (.ref it) "dict_itemiterator" := ⟨_,hi,rfl⟩
 refine wpAny_pyIter_slot ty kM (wpAny_call_entry kM ty qV ?_ (tZ _))
 exact wpAny_pure ⟨_,rfl, "dict_itemiterator",_,ty,slot_next.lookup,h⟩
end
end It
open PySem PySem.Spec PyProof.Rows
noncomputable def Itp (n:Nat) (G:Hp->Prop) (yl:Nat->V->V->Hp->Prop):It:=⟨fun i H=>i < n/\G H,fun i H x H' => ∃ p u v,H p=none/\x = .ref p/\H'=upd H p (.tup [u,v])/\yl i u v H,fun i H=>n<=i/\G H⟩
theorem qW {P:Program} {w:World} {K:Frag} {elts:List Expr} {cx} {pos:Pos} (a it:Addr) {cd:Value} {dd:Option Addr} {sl:Array (Option Value)} {es:Array DictEntry} {ep:Nat} {G:Hp->Prop} {yl:Nat->V->V->Hp->Prop}
 (O:∀ H,G H -> ∃ u,H a=some (.frz { cls:=cd,dict:=dd,data := .dict es ep,slots:=sl } u)) (U:∀ i H h,HOk P w H h->G H -> ∀ e,es[i]? = some e -> ∃ u v,RelV u e.key/\RelV v e.val/\yl i u v H) :
 fb P w K (.Tuple elts cx pos) (Itp es.size G yl) [it] it (fun i h=>i<=es.size /\ ∃ ok ov,h.get? it=some (It.iO .none false a i es.size ep ok ov)) where
 mem:=by simp
 obj:=fun i h st b B=>by
  have e:b=it:=by simpa using B
  subst e
  obtain ⟨_,ok,ov,e⟩:=st
  exact ⟨_,e,fun v z=>by cases z⟩
 keep:=fun i h h' st k=>by
  obtain ⟨h1,ok,ov,e⟩:=st
  exact ⟨h1,ok,ov,k it (by simp) _ e⟩
 item:=by
  intro X F hw J j i pins s σ H E I hf st q
  subst F hw J
  obtain ⟨hi,q⟩:=q
  obtain ⟨_,ok,ov,st⟩:=st
  obtain ⟨u',L⟩:=O H q
  obtain ⟨u,v,ru,rv,yx⟩:=U i H s.heap I.hok q es[i] (Array.getElem?_eq_getElem hi)
  refine It.nx_any (e:=es[i]) st (I.hok a _ L).1 (Array.getElem?_eq_getElem hi) fun h1 Y Z k1=>⟨_,rfl, ?_⟩
  refine wpAny_letOwnedTupleGo_items (s := { s with heap:=h1 }) Y fun h2 e2 s2 => ?_
  have lt:∀ {c o},s.heap.get? c=some o->c≠s.heap.objs.size:=fun e=>Nat.ne_of_lt (Heap.lt_size e)
  have nz:s.heap.objs.size≠it:=(lt st).symm
  have up:∀ c o,c≠it->h1.get? c=some o->h2.get? c=some o:=fun c o n e=>s2.extBut _ _ n e
  have IL:Inv X pins σ (upd H s.heap.objs.size (.tup [u,v])) { s with heap:=s.heap.push { cls := .type "tuple",data := .seq #[es[i].key,es[i].val] } } :=
   I.laid (t':=s.toks) (fun b o e=>Heap.get?_push_of_some _ e) (Nat.le_refl _) ⟨by rw [sizeLine_eq];simp,[es[i].key,es[i].val], .cons ru (.cons rv .nil),IsTup.new _ _⟩
  have un:∀ c∈[it],upd H s.heap.objs.size (.tup [u,v]) c=none:=fun c j=>by
   have e:c=it:=by simpa using j
   rw [e,aj nz.symm];exact (hf it (by simp)).1
  have kk:∀ c o,c∉[it]->(s.heap.push { cls := .type "tuple",data := .seq #[es[i].key,es[i].val] }).get? c=some o->h2.get? c=some o:=fun c o j e=>by
   simp only [List.mem_cons,List.not_mem_nil,or_false] at j
   rcases Heap.get?_push_cases e with ⟨rfl,rfl⟩ | e
   ·exact up _ _ nz Z
   ·exact up _ _ j (k1 c o j e)
  have I2:Inv X pins σ (upd H s.heap.objs.size (.tup [u,v])) { s with heap:=h2 } :=
   Inv.turnedL (s := { s with heap:=s.heap.push { cls := .type "tuple",data := .seq #[es[i].key,es[i].val] } }) (h':=h2) (t':=s.toks) (fp := [it]) IL (fun c j=>⟨un c j,(hf c j).2⟩) kk
  exact ⟨.ref s.heap.objs.size,_,I2,rfl,⟨_,u,v,I.hok.fresh (Nat.le_refl _),rfl,rfl,yx⟩,⟨hi,_,_,e2⟩,un⟩
 done:=by
  intro X F hw J j i pins s σ H E I hf st q
  subst F hw J
  obtain ⟨hi,q⟩:=q
  obtain ⟨h0,ok,ov,st⟩:=st
  obtain ⟨u,L⟩:=O H q
  obtain ⟨f0,f1,f2,f3,f4,f5⟩:=hf it (by simp)
  have e:i=es.size:=by lia
  subst e
  exact It.nx_end (I.ok.hd j) st (I.hok a _ L).1 fun h' k=>⟨rfl,I.turned (t':=s.toks) (fun b o B e=>k b o B e) f0 f1 f3 f4 f5⟩
 self:=fun A i s Q E st h=>by
  obtain ⟨_,ok,ov,e⟩:=st
  exact It.it_self e h
namespace Mi
section
variable {X:Cx}
noncomputable def fI (ta:TEd):TId:=fun ρ M R=>ta ρ M fun x M1 => ∃ a kvs,x = .ref a/\M1 a=some (.fdc kvs)/\R (kvs.map kvD) (fun _=>True) M1
theorem qX {ta:TEd} (h:ad ta):bR (fI ta):=fun ρ M Q Q' i q=>h _ _ _ _ (fun x B ⟨a,ds,e,j,z⟩=>⟨a,ds,e,j,i _ _ _ z⟩) q
theorem nG {K:Frag} {H:Hp}:∀ {kvs:List (D×D)} {es:List DictEntry},Paired (jJ K H) kvs es -> ∀ (i:Nat) (e:DictEntry),es[i]? = some e -> ∃ (kv:D×D) (u v:V),kvs[i]? = some kv/\RD K H kv.1 u/\RelV u e.key/\RD K H kv.2 v/\RelV v e.val
 | _,_, .nil,_,_,h=>by simp at h
 | _,_, .cons r t,0,_,h=>by
   simp at h;subst h
   obtain ⟨kV,vV,g1,g2,g3,j⟩:=r
   exact ⟨_,kV,vV,rfl,g1,g2,g3,j⟩
 | _,_, .cons _ t,i+1,e,h=>by
   obtain ⟨kv,u,v,h1,h2⟩:=nG t i e (by simpa using h)
   exact ⟨kv,u,v,by simpa using h1,h2⟩
theorem wJ {elts:List Expr} {cx} {tpos:Pos} {e:Expr} {ta:TEd} {apos cpos:Pos} (m:ad ta) (he:PE X e (lE X.K ta)) (B:attributeBase e "items" X.env (eval e X.env)=eval e X.env) (L:(apos.endLine==cpos.line)=true) :
 PI X (.Tuple elts cx tpos) (.Call (.Attribute e "items" apos) [] [] cpos) (lI X.K (fI ta)):=by
 intro pins s σ H R I h
 obtain ⟨ρ,M,rs,rm,q⟩:=h
 have hq:lE X.K ta σ H (fun v H1 => ∃ a kvs O,v = .ref a/\Ext M H O H1/\RM X.K O H1/\O a=some (.fdc kvs) /\ ∀ J,fx X.K H1 (kvs.map kvD) (fun _=>True) J->R J H1) :=
  ⟨ρ,M,rs,rm,m _ _ _ _ (fun x O ⟨a,kvs,e,e1,q1⟩ v H1 x1 j rd1=>by
    subst e
    cases RD.ref_iff.mp rd1
    exact ⟨a,kvs,O,rfl,x1,j,e1,fun J ij=>q1 J H1 x1 j ij⟩) q⟩
 refine wpAny_Call_method0_late B L (thn (he pins s σ H _ I hq) fun u s1 ⟨x,H1,I1,r1,a,kvs,O,e0,x1,j,e1,q1⟩ => ?_)
 subst e0
 obtain rfl:u=Value.ref a:=r1
 obtain ⟨o,ps,hp,pr⟩:=j _ _ e1
 obtain ⟨Z,ok⟩:=I1.hok a _ hp
 obtain ⟨cd,dd,sl,es,ep,g1,g2,g3⟩:=nF ok pr
 obtain ⟨ty,t2,Dv⟩:=iB I1 (.inr ⟨ps, .inr ⟨o,hp⟩⟩)
 rw [Z] at g1
 cases g1
 have Dw:cd = .type "dict" := by
  obtain ⟨o,h1,h2⟩:=ty
  rw [Z] at h1;cases h1;exact h2
 subst Dw
 have lz:kvs.length=es.size:=by have:=bo g3;simpa using this
 refine ⟨"dict", "dict.items",F.plainAttrs_dict,F.slot_dict_items,F.type_dict_items,ty,t2,Calls.callWith_builtin rfl (PySem.evalArgs_none ?_)⟩
 refine kJ ty Dv Z ?_
 have kpv:∀ b o,s1.heap.get? b=some o->(s1.heap.push { cls:=Value.type "dict_items",data:=Data.fields #[Value.ref a] }).get? b=some o:=fun b o e=>Heap.get?_push_of_some _ e
 have I2:Inv X pins σ H1 { s1 with heap:=s1.heap.push { cls:=Value.type "dict_items",data:=Data.fields #[Value.ref a] } }:=I1.kept (t':=s1.toks) kpv
 refine It.it_view (s := { s1 with heap:=s1.heap.push { cls:=Value.type "dict_items",data:=Data.fields #[Value.ref a] } }) (Heap.get?_push_size _ rfl) (kpv _ _ Z) ?_
 refine ⟨_,_,_,_,H1,rfl,I2.kept (t':=s1.toks) fun b o e=>Heap.get?_push_of_some _ e,qW (G:=fun H=>H a=some (.frz { cls := .type "dict",dict:=dd,data := .dict es ep,slots:=sl } (.dT ps))/\Paired (fun (p:D×D) (q:List Key×V)=>RKeys p.1 q.1/\RD X.K H p.2 q.2) kvs ps) (yl:=fun i u v H => ∃ kv,kvs[i]? = some kv/\RD X.K H kv.1 u/\RD X.K H kv.2 v) a _ (fun H h=>⟨_,h.1⟩) (fun i H h hok ⟨ha,pr'⟩ e he => ?_),⟨Nat.zero_le _,_,_,Heap.get?_push_size _ rfl⟩,fun b hb => ?_,q1 _ ?_⟩
 ·obtain ⟨z0,ok'⟩:=hok a _ ha
  obtain ⟨cd,dd,sl',es',ep',z1,_,z3⟩:=nF ok' pr'
  rw [z0] at z1
  cases z1
  obtain ⟨kv,u,v,y1,y2,y3,y4,y5⟩:=nG z3 i e (by simpa using he)
  exact ⟨u,v,y3,y5,kv,y1,y2,y4⟩
 ·have e:b=(s1.heap.push { cls:=Value.type "dict_items",data:=Data.fields #[Value.ref a] }).objs.size:=by simpa using hb
  subst e
  exact I2.fpOk (Nat.le_refl _) (I2.hok.fresh (Nat.le_refl _))
 ·intro M' H' st rm' _ i
  have U:=st.frz _ _ _ hp
  have pr':Paired (fun (p:D×D) (q:List Key×V)=>RKeys p.1 q.1/\RD X.K H' p.2 q.2) kvs ps:=Paired.mapP pr fun _ _ z=>⟨z.1,z.2.mono st⟩
  rw [List.length_map,lz]
  refine ⟨fun hi=>⟨hi,U,pr'⟩,fun hi=>⟨⟨hi,U,pr'⟩,fun x H'' y => ?_⟩⟩
  obtain ⟨p,u,v,n,e,e2,kv,y1,y2,y3⟩:=y
  subst e e2
  have Y:Stab H' (upd H' p (.tup [u,v])):=(Ext.new' (M:=M') n).stab rm'
  exact ⟨.inr ⟨p,[u,v],n,rfl⟩,kvD kv,by rw [List.getElem?_map,y1];rfl,RD.tup_mk ⟨p,[u,v],rfl,aE,RDs.cons (y2.mono Y) (RDs.cons (y3.mono Y) RDs.nil)⟩⟩
end
end Mi
end L2
namespace L2
open PySem PySem.Spec PyProof.Rows
namespace Mi
end Mi
end L2
namespace L2
open PySem PySem.Spec PyProof.Rows
namespace Mi
open L2.Srt
end Mi
end L2
namespace L2
open PySem PySem.Spec PyProof.Rows
end L2
namespace L2
namespace Mi
open PySem PySem.Spec PyProof.Rows
end Mi
end L2
namespace L2
open PySem PySem.Spec PyProof.Rows
namespace Mi
end Mi
end L2
namespace L2
namespace Mi
open PySem PySem.Spec PyProof.Rows
section
mutual
noncomputable def GV (K:Frag):D->Value->Prop
 | .int i,v => ∃ t,v = .int i t
 | .str x,v => ∃ t,v = .str x t
 | .tup ds,v => ∃ a o its n,v = .ref a/\K.lookup a=some o/\o.cls = .type "tuple" /\ o.data = .seq its n/\its.size<=sizeLine/\fk ds=false/\GVs K ds its.toList
 | _,_=>False
noncomputable def GVs (K:Frag):List D->List Value->Prop
 | [],us=>us=[]
 | d::ds,us => ∃ u r,us=u::r/\GV K d u/\GVs K ds r
end
theorem GV.ints {K:Frag} {i:Int} {t}:GV K (.int i) (.int i t):=by unfold GV;exact ⟨t,rfl⟩
theorem GV.tups {K:Frag} {ds:List D} {a:Addr} {od sl} {its:Array Value} {n:Nat} (h:K.lookup a=some ⟨.type "tuple",od, .seq its n,sl⟩) (j:its.size<=1000) (f:fk ds=false) (r:GVs K ds its.toList):GV K (.tup ds) (.ref a):=by
 unfold GV;exact ⟨a,_,its,n,rfl,h,rfl,rfl,by rw [sizeLine_eq];lia,f,r⟩
theorem GVs.nil {K:Frag}:GVs K [] []:=by unfold GVs;rfl
theorem GVs.cons {K:Frag} {d:D} {ds:List D} {u:Value} {us:List Value} (h:GV K d u) (r:GVs K ds us):GVs K (d::ds) (u::us):=by unfold GVs;exact ⟨u,us,rfl,h,r⟩
mutual
theorem xY {K:Frag}:∀ {d:D} {u:Value},GV K d u -> ∃ v,RelV v u /\ ∀ H,RD K H d v
 | .int i,u,h=>by unfold GV at h;obtain ⟨t,rfl⟩:=h;exact ⟨.int i,⟨t,rfl⟩,fun H=>RD.int_iff.mpr rfl⟩
 | .str i,u,h=>by unfold GV at h;obtain ⟨t,rfl⟩:=h;exact ⟨.str i,⟨t,rfl⟩,fun H=>RD.str_iff.mpr rfl⟩
 | .tup ds,u,h=>by
  unfold GV at h
  obtain ⟨a,o,its,n,rfl,h1,h2,j,q,z,B⟩:=h
  obtain ⟨vs,g1,g2⟩:=gvs_rd B
  exact ⟨.ref a,rfl,fun H=>RD.tup_iff.mpr ⟨a,vs,rfl, .inr ⟨z, .inr ⟨o,its,n,h1,h2,j,q,g1⟩⟩,g2 H⟩⟩
 | .non,u,h=>by unfold GV at h;exact h.elim
 | .bl _,u,h=>by unfold GV at h;exact h.elim
 | .con _,u,h=>by unfold GV at h;exact h.elim
 | .ref _,u,h=>by unfold GV at h;exact h.elim
theorem gvs_rd {K:Frag}:∀ {ds:List D} {us:List Value},GVs K ds us -> ∃ vs,Vals vs us /\ ∀ H,RDs K H ds vs
 | [],us,h=>by unfold GVs at h;subst h;exact ⟨[], .nil,fun H=>RDs.nil⟩
 | d::ds,us,h=>by
   unfold GVs at h
   obtain ⟨u,r,rfl,h1,h2⟩:=h
   obtain ⟨v,g1,g2⟩:=xY h1
   obtain ⟨vs,g3,j⟩:=gvs_rd h2
   exact ⟨v::vs, .cons g1 g3,fun H=>RDs.cons (g2 H) (j H)⟩
end
end
section
inductive BOp where | add | sub | mul | fdiv | mod | pow
inductive COp where | eq | ne | lt | le | gt | ge | is | isn | ninD
inductive BF where | len | abs | min2 | int | list | tuple | sum | all | minP
inductive MF where | append
inductive MF0 where | clear | reverse
mutual
inductive MG where
 | name (i:Nat)
 | tup (gs:MGs)
inductive MGs where
 | nil
 | cons (g:MG) (r:MGs)
end
mutual
inductive ME where
 | var (i:Nat)
 | int (i:Int)
 | bl (b:Bool)
 | non
 | bin (op:BOp) (a b:ME)
 | neg (a:ME)
 | cmp (op:COp) (a b:ME)
 | and (es:MEs)
 | or (es:MEs)
 | not (a:ME)
 | ite (c:MT) (a b:ME)
 | tup (es:MEs)
 | lst (es:MEs)
 | ix (a b:ME)
 | sl (a:ME) (lo hi:MO)
 | call (f:Nat) (es:MEs)
 | blt (f:BF) (es:MEs)
 | isin (a:ME) (T:String)
 | chain (op op':COp) (a b c:ME)
 | glob (x:Str) (d:D)
 | dnew (t:Bool)
 | sortI (a:ME)
 | dget (o k x:ME)
 | meth (m:MF) (o a:ME)
 | meth0 (m:MF0) (o:ME)
 | comp (fr:List (Option Nat)) (N:List Str) (c:MC)
inductive MEs where
 | nil
 | cons (e:ME) (r:MEs)
inductive MO where
 | none
 | some (e:ME)
inductive MT where
 | tru (e:ME)
 | cmp (op:COp) (a b:ME)
 | chain (op op':COp) (a b c:ME)
 | and (ts:MTs)
 | or (ts:MTs)
 | not (t:MT)
inductive MTs where
 | nil
 | cons (t:MT) (r:MTs)
inductive MI where
 | seq (e:ME)
 | rng1 (a:ME)
 | zip (a b:ME)
 | enum (a:ME)
 | items (a:ME)
inductive MC where
 | last (src:MI) (g:MG) (ifs:MTs) (elt:ME)
 | more (src:MI) (g:MG) (ifs:MTs) (rest:MC)
end
mutual
inductive MS where
 | asg (g:MG) (e:ME)
 | asgL (gs:MGs) (e:ME)
 | par (i j:Nat) (a b:ME)
 | put (o i e:ME)
 | augI (o i:ME) (op:BOp) (e:ME)
 | drop (e:ME)
 | ret (e:ME)
 | ite (c:MT) (a b:MSs)
 | for (g:MG) (src:MI) (b:MSs)
 | while (c:MT) (b:MSs)
 | frz (i:Nat) (s:MS)
 | pass | brk | cnt
inductive MSs where
 | nil
 | cons (s:MS) (r:MSs)
end
noncomputable def opB:BOp->R2d
 | .add=>gU | .sub=>qt | .mul=>jz | .fdiv=>lf | .mod=>qu | .pow=>qv
noncomputable def opC:COp->R2d
 | .eq=>wEq | .ne=>wNe | .lt=>wLt | .le=>wLe | .gt=>wGt | .ge=>wGe | .is=>wIs | .isn=>wk| .ninD=>wF true
noncomputable def opF:BF->RAd
 | .len=>fo | .abs=>mq| .min2=>lg | .int=>mv | .list=>qC | .tuple=>mD | .sum=>qD | .all=>qL| .minP=>qU
noncomputable def opM:MF->D->List D->Mem->QD->Prop
 | .append=>jD
noncomputable def qY:MF0->D->List D->Mem->QD->Prop
 | .clear=>mQ | .reverse=>gY
noncomputable def opI:BOp->R2d
 | .add=>lh | .sub=>lj | .mul=>lm | _=>fun _ _ _ _=>False
theorem nH:∀ o,ak (opB o)
 | .add=>vH | .sub=>vI | .mul=>vJ | .fdiv=>sH | .mod=>vK | .pow=>vL
theorem aY:∀ o,ak (opC o)
 | .eq=>yN | .ne=>yO | .lt=>yR | .le=>yS | .gt=>yT | .ge=>yU | .is=>zq | .isn=>wl| .ninD=>wG
theorem wK:∀ o,aS (opF o)
 | .len=>mn | .abs=>mw| .min2=>kj | .int=>mz | .list=>kl | .tuple=>iJ | .sum=>mG | .all=>nh| .minP=>kL
theorem wL:∀ o,dH (opM o)
 | .append=>gJ
theorem u4:∀ o,dH (qY o)
 | .clear=>iR | .reverse=>fu
theorem wM:∀ o,ak (opI o)
 | .add=>ky | .sub=>kz | .mul=>kA
 | .fdiv=>fun _ _ _ _ _ _ q=>q.elim | .mod=>fun _ _ _ _ _ _ q=>q.elim | .pow=>fun _ _ _ _ _ _ q=>q.elim
noncomputable abbrev Phi:=Nat->RAd
mutual
noncomputable def bG:MG->BT
 | .name i=>bQ i
 | .tup gs=>mR (bGs gs)
noncomputable def bGs:MGs->BTs
 | .nil=>fw
 | .cons g r=>bH (bG g) (bGs r)
end
mutual
noncomputable def wE (Φ:Phi):ME->TEd
 | .var i=>gQ i
 | .int i=>wC (.int i)
 | .bl b=>wC (.bl b)
 | .non=>wC .non
 | .bin op a b=>wOp (opB op) (wE Φ a) (wE Φ b)
 | .neg a=>wUn qw (wE Φ a)
 | .cmp op a b=>wOp (opC op) (wE Φ a) (wE Φ b)
 | .and es=>wAnds Φ es
 | .or es=>wOrs Φ es
 | .not a=>iN (wE Φ a)
 | .ite c a b=>wIf (wT Φ c) (wE Φ a) (wE Φ b)
 | .tup es=>wAr md (wA Φ es)
 | .lst es=>wAr mf (wA Φ es)
 | .ix a b=>wOp wIx (wE Φ a) (wE Φ b)
 | .sl a lo hi=>wSl (wE Φ a) (wO Φ lo) (wO Φ hi)
 | .call f es=>wAr (Φ f) (wA Φ es)
 | .blt f es=>wAr (opF f) (wA Φ es)
 | .isin a T=>iQ T (wE Φ a)
 | .chain op op' a b c=>cE (opC op) (opC op') (wE Φ a) (wE Φ b) (wE Φ c)
 | .glob _ d=>wC d
 | .dnew t=>j3 t
 | .sortI a=>fH (wE Φ a)
 | .dget o k x=>ja (wE Φ o) (wE Φ k) (wE Φ x)
 | .meth m o a=>wBM (opM m) (wE Φ o) (b9 (wE Φ a) bK)
 | .meth0 m o=>wBM (qY m) (wE Φ o) bK
 | .comp fr _ c=>wCmp Φ fr c
noncomputable def wA (Φ:Phi):MEs->TAd
 | .nil=>bK
 | .cons e r=>b9 (wE Φ e) (wA Φ r)
noncomputable def wAnds (Φ:Phi):MEs->TEd
 | .nil=>fun _ _ _=>False
 | .cons e .nil=>wE Φ e
 | .cons e (.cons f r)=>iM (wE Φ e) (wAnds Φ (.cons f r))
noncomputable def wOrs (Φ:Phi):MEs->TEd
 | .nil=>fun _ _ _=>False
 | .cons e .nil=>wE Φ e
 | .cons e (.cons f r)=>mM (wE Φ e) (wOrs Φ (.cons f r))
noncomputable def wO (Φ:Phi):MO->TOd
 | .none=>dZ
 | .some e=>iP (wE Φ e)
noncomputable def wT (Φ:Phi):MT->TTd
 | .tru e=>mK (wE Φ e)
 | .cmp op a b=>eM (wOp (opC op) (wE Φ a) (wE Φ b))
 | .chain op op' a b c=>eM (cE (opC op) (opC op') (wE Φ a) (wE Φ b) (wE Φ c))
 | .and ts=>wAndTs Φ ts
 | .or ts=>wOrTs Φ ts
 | .not t=>iK (wT Φ t)
noncomputable def wAndTs (Φ:Phi):MTs->TTd
 | .nil=>fun _ _ _=>False
 | .cons e .nil=>wT Φ e
 | .cons e (.cons f r)=>iL (wT Φ e) (wAndTs Φ (.cons f r))
noncomputable def wOrTs (Φ:Phi):MTs->TTd
 | .nil=>fun _ _ _=>False
 | .cons e .nil=>wT Φ e
 | .cons e (.cons f r)=>mL (wT Φ e) (wOrTs Φ (.cons f r))
noncomputable def wTl (Φ:Phi):MTs->List TTd
 | .nil => []
 | .cons t r=>wT Φ t::wTl Φ r
noncomputable def wI (Φ:Phi):MI->TId
 | .seq e=>mU (wE Φ e)
 | .rng1 a=>iS (b9 (wE Φ a) bK)
 | .zip a b=>mV (wE Φ a) (wE Φ b)
 | .enum a=>iU (wE Φ a)
 | .items a=>fI (wE Φ a)
noncomputable def wCl (Φ:Phi):MC->TCd
 | .last src g ifs elt=>df (wI Φ src) (bG g) (ba (wTl Φ ifs) (dI (wE Φ elt)))
 | .more src g ifs rest=>df (wI Φ src) (bG g) (ba (wTl Φ ifs) (wCl Φ rest))
noncomputable def wCmp (Φ:Phi) (fr:List (Option Nat)):MC->TEd
 | .last src g ifs elt=>fX fr (wI Φ src) (bG g) (ba (wTl Φ ifs) (dI (wE Φ elt)))
 | .more src g ifs rest=>fX fr (wI Φ src) (bG g) (ba (wTl Φ ifs) (wCl Φ rest))
end
mutual
noncomputable def wS (Φ:Phi):MS->TSd
 | .asg g e=>gZ (wE Φ e) (bG g)
 | .asgL gs e=>jb (wE Φ e) (bGs gs)
 | .par i j a b=>n0 (b9 (wE Φ a) (b9 (wE Φ b) bK)) (bH (bQ i) (bH (bQ j) fw))
 | .put o i e=>n8 (wE Φ e) (wE Φ o) (wE Φ i)
 | .augI o i op e=>iY (wE Φ o) (wE Φ i) (wE Φ e) (opI op)
 | .drop e=>iX (wE Φ e)
 | .ret e=>mZ (wE Φ e)
 | .ite c a b=>sIf (wT Φ c) (wSs Φ a) (wSs Φ b)
 | .for g src b=>n6 (wI Φ src) (bG g) (wSs Φ b)
 | .while c b=>fC (wT Φ c) (wSs Φ b)
 | .frz i s=>qT i (wS Φ s)
 | .pass=>fY
 | .brk=>fB
 | .cnt=>iW
noncomputable def wSs (Φ:Phi):MSs->TSd
 | .nil=>fY
 | .cons s r=>mY (wS Φ s) (wSs Φ r)
end
section
variable {Φ:Phi} (hΦ:∀ f,aS (Φ f))
include hΦ
mutual
theorem mE:∀ m,ad (wE Φ m)
 | .var _=>vG
 | .int _=>iH
 | .bl _=>iH
 | .non=>iH
 | .bin op a b=>dX (nH op) (mE a) (mE b)
 | .neg a=>yK mm (mE a)
 | .cmp op a b=>dX (aY op) (mE a) (mE b)
 | .and es=>mAnds es
 | .or es=>mOrs es
 | .not a=>sP (mE a)
 | .ite c a b=>za (mT c) (mE a) (mE b)
 | .tup es=>fU sC (mA es)
 | .lst es=>fU sD (mA es)
 | .ix a b=>dX oS (mE a) (mE b)
 | .sl a lo hi=>ze (mE a) (mO lo) (mO hi)
 | .call f es=>fU (hΦ f) (mA es)
 | .blt f es=>fU (wK f) (mA es)
 | .isin a T=>sU (mE a)
 | .chain op op' a b c=>eQ (aY op) (aY op') (mE a) (mE b) (mE c)
 | .glob _ _=>iH
 | .dnew _=>tz
 | .sortI a=>qS (mE a)
 | .dget o k x=>tT (mE o) (mE k) (mE x)
 | .meth m o a=>oT (wL m) (mE o) (aG (mE a) aF)
 | .meth0 m o=>oT (u4 m) (mE o) aF
 | .comp fr _ c=>mCmp fr c
theorem mA:∀ m,b6 (wA Φ m)
 | .nil=>aF
 | .cons e r=>aG (mE e) (mA r)
theorem mAnds:∀ m,ad (wAnds Φ m)
 | .nil=>fun _ _ _ _ _ q=>q.elim
 | .cons e .nil=>mE e
 | .cons e (.cons f r)=>sN (mE e) (mAnds (.cons f r))
theorem mOrs:∀ m,ad (wOrs Φ m)
 | .nil=>fun _ _ _ _ _ q=>q.elim
 | .cons e .nil=>mE e
 | .cons e (.cons f r)=>vW (mE e) (mOrs (.cons f r))
theorem mO:∀ m,eN (wO Φ m)
 | .none=>ox
 | .some e=>sR (mE e)
theorem mT:∀ m,aB (wT Φ m)
 | .tru e=>vT (mE e)
 | .cmp op a b=>m8 (dX (aY op) (mE a) (mE b))
 | .chain op op' a b c=>m8 (eQ (aY op) (aY op') (mE a) (mE b) (mE c))
 | .and ts=>mAndTs ts
 | .or ts=>mOrTs ts
 | .not t=>sL (mT t)
theorem mAndTs:∀ m,aB (wAndTs Φ m)
 | .nil=>fun _ _ _ _ _ q=>q.elim
 | .cons e .nil=>mT e
 | .cons e (.cons f r)=>sM (mT e) (mAndTs (.cons f r))
theorem mOrTs:∀ m,aB (wOrTs Φ m)
 | .nil=>fun _ _ _ _ _ q=>q.elim
 | .cons e .nil=>mT e
 | .cons e (.cons f r)=>vU (mT e) (mOrTs (.cons f r))
theorem mTl:∀ m, ∀ t∈wTl Φ m,aB t
 | .nil=>by rw [wTl];intro t j;simp at j
 | .cons t r=>by
  rw [wTl];intro t' j
  rcases List.mem_cons.mp j with e | e
  ·rw [e];exact mT t
  ·exact mTl r t' e
theorem mI:∀ m,bR (wI Φ m)
 | .seq e=>w5 (mE e)
 | .rng1 a=>sY (aG (mE a) aF)
 | .zip a b=>w6 (mE a) (mE b)
 | .enum a=>sZ (mE a)
 | .items a=>qX (mE a)
theorem mCl:∀ m,bI (wCl Φ m)
 | .last src g ifs elt=>gK (mI src) (aJ (bh (mE elt)) (mTl ifs))
 | .more src g ifs rest=>gK (mI src) (aJ (mCl rest) (mTl ifs))
theorem mCmp (fr:List (Option Nat)):∀ m,ad (wCmp Φ fr m)
 | .last src g ifs elt=>km (mI src) (aJ (bh (mE elt)) (mTl ifs))
 | .more src g ifs rest=>km (mI src) (aJ (mCl rest) (mTl ifs))
end
mutual
theorem mS:∀ m,aA (wS Φ m)
 | .asg g e=>wa (mE hΦ e)
 | .asgL gs e=>tU (mE hΦ e)
 | .par i j a b=>wb (aG (mE hΦ a) (aG (mE hΦ b) aF))
 | .put o i e=>wj (mE hΦ e) (mE hΦ o) (mE hΦ i)
 | .augI o i op e=>tu (mE hΦ o) (mE hΦ i) (mE hΦ e) (wM op)
 | .drop e=>t6 (mE hΦ e)
 | .ret e=>w8 (mE hΦ e)
 | .ite c a b=>w9 (mT hΦ c) (mSs a) (mSs b)
 | .for g src b=>wc (mI hΦ src) (mSs b)
 | .while c b=>qH (mT hΦ c) (mSs b)
 | .frz i s=>wB (mS s)
 | .pass=>kr
 | .brk=>qG
 | .cnt=>t4
theorem mSs:∀ m,aA (wSs Φ m)
 | .nil=>kr
 | .cons s r=>t5 (mS s) (mSs r)
end
end
end
section
structure Ctx where
 Γ:List Str
 N:List Str
 sc:Scope
 fn:List Str
 cs:List (Str×D)
noncomputable def glB (sc:Scope) (x:Str):Bool:=sc.names.lookup x==some .globalImplicit
noncomputable def wN (sc:Scope) (x:Str):Bool:=sc.names.lookup x==some .local || sc.names.lookup x==some .cell || sc.names.lookup x==some .free
noncomputable def wP (sc:Scope) (x:Str):Bool:=sc.names.lookup x==some .local || sc.names.lookup x==some .cell
noncomputable def aQ:Expr->Bool
 | .Starred .. => false
 | _=>true
noncomputable def nI:Expr->Bool
 | .Name .. | .Call .. | .Subscript .. | .Constant .. | .BinOp .. | .Attribute .. => true
 | _=>false
noncomputable def cr:Expr->Bool
 | .Slice .. => false
 | _=>true
noncomputable def eB:Expr->Bool
 | .ListComp .. | .SetComp .. | .DictComp .. => false
 | _=>true
noncomputable def lp:Expr->Bool
 | .Set .. => false
 | _=>true
noncomputable def cu:Expr->Bool
 | .Call .. => false
 | _=>true
noncomputable def opO:BOp->Operator
 | .add => .Add | .sub => .Sub | .mul => .Mult | .fdiv => .FloorDiv | .mod => .Mod | .pow => .Pow
noncomputable def i7:COp->CmpOp
 | .eq => .Eq | .ne => .NotEq | .lt => .Lt | .le => .LtE | .gt => .Gt | .ge => .GtE | .is => .Is | .isn => .IsNot| .ninD => .NotIn
noncomputable def nJ:BF->Str
 | .len => "len" | .abs => "abs"| .min2 => "min" | .int => "int" | .list => "list" | .tuple => "tuple" | .sum => "sum" | .all => "all"| .minP => "min"
noncomputable def Bv:MF->Str
 | .append => "append"
noncomputable def zH:MF0->Str
 | .clear => "clear" | .reverse => "reverse"
noncomputable def bltNames:List Str := ["len", "abs", "max", "min", "int", "list", "tuple", "sum", "isinstance", "range", "bool", "str", "dict", "zip", "enumerate", "reversed", "sorted", "all", "any", "set"]
noncomputable def i8 (sc osc:Scope):Scope :=
 { sc with names:=sc.names.map fun (n,k)=>if (k == .free&&osc.kind == .function&&osc.names.lookup n==some .cell) then (n, .cell) else (n,k) }
theorem oF (sc:Scope) (env:Env):relabel sc env=i8 sc env.scope:=rfl
noncomputable def wQ (sc osc:Scope) (oN N':List Str) (fr:List (Option Nat)):Bool :=
 decide (sc.kind = .function)&&decide ((sc.names.map (·.1)).Nodup)&&decide (N'.Nodup)
  && sc.names.all (fun x => !(x.2 == .free) || osc.names.lookup x.1==some .cell || osc.names.lookup x.1==some .free)
  && decide (fr.length=N'.length)
  && (List.range N'.length).all fun i=>match fr[i]?,N'[i]? with
   | some (some j),some x=>decide (oN[j]? = some x)&&sc.names.any (fun y=>decide (y=(x,NameKind.free)))
   | _,_=>true
mutual
noncomputable def okG:MG->Ctx->Expr->Bool
 | .name i,C,e=>match e with
  | .Name x _=>decide (C.N[i]? = some x)&&wP C.sc x&&(C.sc.names.lookup x==some .local || C.fn.contains x)
  | _=>false
 | .tup gs,C,e=>match e with
  | .Tuple es _ _=>okGs gs C es
  | _=>false
noncomputable def okGs:MGs->Ctx->List Expr->Bool
 | .nil,_,es=>es.isEmpty
 | .cons g r,C,es=>match es with
  | e::es=>aQ e&&okG g C e&&okGs r C es
  | [] => false
end
noncomputable def i9:Expr->Option Str
 | .Name x _=>some x
 | _=>none
noncomputable def dO:Expr->Option (List Expr)
 | .Tuple ts _ _=>some ts
 | _=>none
noncomputable def xZ:Stmt->Option (List Expr×Expr)
 | .Assign ts e _=>some (ts,e)
 | _=>none
theorem gm {e:Expr} {x:Str} (h:i9 e=some x):∃ p,e = .Name x p:=by
 cases e <;> first
  | (cases h;exact ⟨_,rfl⟩)
  | cases h
theorem dy {e:Expr} {ts:List Expr} (h:dO e=some ts):∃ k p,e = .Tuple ts k p:=by
 cases e <;> first
  | (cases h;exact ⟨_,_,rfl⟩)
  | cases h
theorem wR {s:Stmt} {ts:List Expr} {e:Expr} (h:xZ s=some (ts,e)):∃ p,s = .Assign ts e p:=by
 cases s <;> first
  | (cases h;exact ⟨_,rfl⟩)
  | cases h
noncomputable def cOf:Expr->Option (Expr×List Expr×List Keyword×Pos)
 | .Call f xs ks p=>some (f,xs,ks,p)
 | _=>none
noncomputable def lq:Expr->Option (Expr×Str×Pos)
 | .Attribute o n p=>some (o,n,p)
 | _=>none
noncomputable def lr:Expr->Option (Expr×Expr)
 | .Subscript x y _=>some (x,y)
 | _=>none
noncomputable def qZ:Expr->Option (Option Expr×Option Expr×Option Expr)
 | .Slice l u s _=>some (l,u,s)
 | _=>none
noncomputable def eU:Expr->Option (Expr×List CmpOp×List Expr)
 | .Compare l os rs _=>some (l,os,rs)
 | _=>none
noncomputable def Bw:Expr->Option (Expr×Expr×Comprehension×Scope)
 | .DictComp k v [g] sc _=>some (k,v,g,sc)
 | _=>none
theorem u5 {e f:Expr} {xs:List Expr} {ks:List Keyword} {p:Pos} (h:cOf e=some (f,xs,ks,p)):e = .Call f xs ks p:=by
 cases e <;> first
  | (cases h;rfl)
  | cases h
theorem wU {e o:Expr} {n:Str} {p:Pos} (h:lq e=some (o,n,p)):e = .Attribute o n p:=by
 cases e <;> first
  | (cases h;rfl)
  | cases h
theorem wV {e x y:Expr} (h:lr e=some (x,y)):∃ p,e = .Subscript x y p:=by
 cases e <;> first
  | (cases h;exact ⟨_,rfl⟩)
  | cases h
theorem zI {e:Expr} {l u s:Option Expr} (h:qZ e=some (l,u,s)):∃ p,e = .Slice l u s p:=by
 cases e <;> first
  | (cases h;exact ⟨_,rfl⟩)
  | cases h
theorem eV {e l:Expr} {os:List CmpOp} {rs:List Expr} (h:eU e=some (l,os,rs)):∃ p,e = .Compare l os rs p:=by
 cases e <;> first
  | (cases h;exact ⟨_,rfl⟩)
  | cases h
noncomputable def bB (e:Expr):Option (Str×List Expr):=match cOf e with
 | some (f,xs,[],_)=>match i9 f with
   | some x=>some (x,xs)
   | none=>none
 | _=>none
noncomputable def cm (e:Expr):Option (Expr×Str×List Expr×Pos×Pos):=match cOf e with
 | some (f,xs,[],p)=>match lq f with
   | some (o,n,q)=>some (o,n,xs,q,p)
   | none=>none
 | _=>none
noncomputable def eC (e:Expr):Option (Expr×Option Expr×Option Expr×Option Expr):=match lr e with
 | some (x,y)=>match qZ y with
   | some (l,u,s)=>some (x,l,u,s)
   | none=>none
 | none=>none
theorem bC {e:Expr} {x:Str} {xs:List Expr} (h:bB e=some (x,xs)):∃ p pos,e = .Call (.Name x p) xs [] pos:=by
 unfold bB at h
 split at h
 ·next f ys q h1 =>
  split at h
  ·next y h2 =>
   cases h
   obtain ⟨p,rfl⟩:=gm h2
   exact ⟨p,q,u5 h1⟩
  ·cases h
 ·cases h
theorem cH {e o:Expr} {n:Str} {xs:List Expr} {q p:Pos} (h:cm e=some (o,n,xs,q,p)):e = .Call (.Attribute o n q) xs [] p:=by
 unfold cm at h
 split at h
 ·next f ys p' h1 =>
  split at h
  ·next o' n' q' h2 =>
   cases h
   rw [u5 h1,wU h2]
  ·cases h
 ·cases h
theorem r0 {e x:Expr} {l u s:Option Expr} (h:eC e=some (x,l,u,s)):∃ p pos,e = .Subscript x (.Slice l u s p) pos:=by
 unfold eC at h
 split at h
 ·next x' y h1 =>
  split at h
  ·next l' u' s' h2 =>
   cases h
   obtain ⟨pos,rfl⟩:=wV h1
   obtain ⟨p,rfl⟩:=zI h2
   exact ⟨p,pos,rfl⟩
  ·cases h
 ·cases h
mutual
noncomputable def okE:ME->Ctx->Expr->Bool
 | .var i,C,e=>match e with
  | .Name x _=>decide (C.N[i]? = some x)&&wN C.sc x && !(x==("__debug__":Str)) && !(x==("__classdict__":Str))
  | _=>false
 | .int i,_,e=>match e with
  | .Constant (.int j) _ _=>decide (i=j)
  | _=>false
 | .bl i,_,e=>match e with
  | .Constant (.bool j) _ _=>i==j
  | _=>false
 | .non,_,e=>match e with
  | .Constant .none _ _=>true
  | _=>false
 | .bin op a b,C,e=>match e with
  | .BinOp l o r _=>decide (o=opO op)&&okE a C l&&okE b C r
  | _=>false
 | .neg a,C,e=>match e with
  | .UnaryOp .USub x _=>okE a C x
  | _=>false
 | .cmp op a b,C,e=>match eU e with
  | some (l,[o],[r])=>decide (o=i7 op)&&okE a C l&&okE b C r && !(behindInMarks o r)
  | _=>false
 | .and es,C,e=>match e with
  | .BoolOp .And xs _ => !xs.isEmpty&&okEs es C xs
  | _=>false
 | .or es,C,e=>match e with
  | .BoolOp .Or xs _ => !xs.isEmpty&&okEs es C xs
  | _=>false
 | .not a,C,e=>match e with
  | .UnaryOp .Not x _=>okE a C x
  | _=>false
 | .ite c a b,C,e=>match e with
  | .IfExp t x y _=>okT c C t&&okE a C x&&okE b C y
  | _=>false
 | .tup es,C,e=>match e with
  | .Tuple xs _ _=>okEs es C xs
  | _=>false
 | .lst es,C,e=>match e with
  | .List xs _=>okEs es C xs
  | _=>false
 | .ix a b,C,e=>match e with
  | .Subscript x y _=>cr y&&okE a C x&&okE b C y
  | _=>false
 | .sl a lo hi,C,e=>match eC e with
  | some (x,l,u,none)=>okE a C x&&okO lo C l&&okO hi C u
  | _=>false
 | .call f es,C,e=>match bB e with
  | some (x,xs)=>decide (C.Γ[f]? = some x)&&glB C.sc x && !(x==("__debug__":Str))&&okEs es C xs
  | _=>false
 | .blt f es,C,e=>match bB e with
  | some (x,xs)=>decide (x=nJ f)&&glB C.sc x && !xs.isEmpty&&okEs es C xs
  | _=>false
 | .isin a T,C,e=>match bB e with
  | some (x,[y,z'])=>match i9 z' with
    | some z=>decide (x = "isinstance")&&glB C.sc x&&glB C.sc z&&decide (z=Str.ofString T)&&decide (T∈["bool", "int", "str", "tuple", "list", "dict"])&&aQ y&&okE a C y
    | none=>false
  | _=>false
 | .chain op op' a b c,C,e=>match eU e with
  | some (l,[o,o'],[r,q])=>decide (o=i7 op)&&decide (o'=i7 op')&&okE a C l&&okE b C r&&okE c C q && !(lastMarks [o,o'] [r,q])
  | _=>false
 | .glob x k,C,e=>match e with
  | .Name y _=>decide (y=x)&&glB C.sc y&&decide ((x,k)∈C.cs) && !(x==("__debug__":Str))
  | _=>false
 | .dnew _,_,e=>match e with
  | .Dict [] [] _=>true
  | _=>false
 | .sortI a,C,e=>match bB e with
  | some (x,[w])=>match cm w with
    | some (y,n,[],ap,cp)=>decide (x = "sorted")&&glB C.sc x&&decide (n = "items")&&cu y&&(ap.endLine==cp.line)&&okE a C y
    | _=>false
  | _=>false
 | .dget o k x,C,e=>match cm e with
  | some (y,n,[e1,e2],ap,cp)=>decide (n = "get")&&cu y&&(ap.endLine==cp.line)&&aQ e1&&aQ e2&&okE o C y&&okE k C e1&&okE x C e2
  | _=>false
 | .meth m o a,C,e=>match cm e with
  | some (x,n,[y],ap,cp)=>decide (n=Bv m)&&cu x&&(ap.endLine==cp.line)&&aQ y&&okE o C x&&okE a C y
  | _=>false
 | .meth0 m o,C,e=>match cm e with
  | some (x,n,[],ap,cp)=>decide (n=zH m)&&cu x&&(ap.endLine==cp.line)&&okE o C x
  | _=>false
 | .comp fr N' c,C,e=>match e with
  | .ListComp elt gens sc _=>wQ sc C.sc C.N N' fr&&okC c C ⟨C.Γ,N',i8 sc C.sc,(sc.names.filter (·.2 == .cell)).map (·.1),C.cs⟩ gens elt
  | _=>false
noncomputable def okEs:MEs->Ctx->List Expr->Bool
 | .nil,_,es=>es.isEmpty
 | .cons m r,C,es=>match es with
  | e::es=>aQ e&&okE m C e&&okEs r C es
  | [] => false
noncomputable def okO:MO->Ctx->Option Expr->Bool
 | .none,_,e=>e.isNone
 | .some m,C,e=>match e with
  | some e=>okE m C e
  | none=>false
noncomputable def okT:MT->Ctx->Expr->Bool
 | .tru m,C,e=>nI e&&okE m C e
 | .cmp op a b,C,e=>match eU e with
  | some (l,[o],[r])=>decide (o=i7 op)&&okE a C l&&okE b C r && !(behindInMarks o r)
  | _=>false
 | .chain op op' a b c,C,e=>match eU e with
  | some (l,[o,o'],[r,q])=>decide (o=i7 op)&&decide (o'=i7 op')&&okE a C l&&okE b C r&&okE c C q && !(lastMarks [o,o'] [r,q])
  | _=>false
 | .and ts,C,e=>match e with
  | .BoolOp .And xs _ => !xs.isEmpty&&okTs ts C xs
  | _=>false
 | .or ts,C,e=>match e with
  | .BoolOp .Or xs _ => !xs.isEmpty&&okTs ts C xs
  | _=>false
 | .not t,C,e=>match e with
  | .UnaryOp .Not x _=>okT t C x
  | _=>false
noncomputable def okTs:MTs->Ctx->List Expr->Bool
 | .nil,_,es=>es.isEmpty
 | .cons m r,C,es=>match es with
  | e::es=>okT m C e&&okTs r C es
  | [] => false
noncomputable def okI:MI->Ctx->Expr->Expr->Bool
 | .seq m,C,_,e=>lp e&&okE m C e
 | .items a,C,t,e=>match cm e with
  | some (x,n,[],ap,cp)=>(dO t).isSome&&decide (n = "items")&&cu x&&(ap.endLine==cp.line)&&okE a C x
  | _=>false
 | .rng1 a,C,_,e=>match bB e with
  | some (x,[y])=>decide (x = "range")&&glB C.sc x&&aQ y&&okE a C y
  | _=>false
 | .enum a,C,t,e=>match bB e with
  | some (x,[y])=>(dO t).isSome&&decide (x = "enumerate")&&glB C.sc x&&aQ y&&okE a C y
  | _=>false
 | .zip a b,C,t,e=>match bB e with
  | some (x,[y,z])=>(dO t).isSome&&decide (x = "zip")&&glB C.sc x&&aQ y&&aQ z&&okE a C y&&okE b C z
  | _=>false
noncomputable def okC:MC->Ctx->Ctx->List Comprehension->Expr->Bool
 | .last src g ifs m,Cs,C,gens,elt=>match gens with
  | [⟨t,it,fs,a⟩] => decide (a=0)&&okI src Cs t it&&okG g C t&&okTs ifs C fs&&okE m C elt
  | _=>false
 | .more src g ifs rest,Cs,C,gens,elt=>match gens with
  | ⟨t,it,fs,a⟩::g2::gs=>decide (a=0)&&okI src Cs t it&&okG g C t&&okTs ifs C fs&&okC rest C C (g2::gs) elt
  | _=>false
end
noncomputable def aT (sc:Scope) (ts:List Expr):List Str:=ts.filterMap fun
 | .Name id pos=>if sc.names.lookup id==some .local&&pos.line==(ts.head?.map (·.pos.line)).getD 0 then some id else none
 | _=>none
noncomputable def r6 (sc:Scope) (ts vs:List Expr):Bool := !(ts.length==2 || ts.length==3) || vs.length != ts.length || (aT sc ts).length != ts.length || (aT sc ts).eraseDups.length != (aT sc ts).length || vs.all (foldedForSure 8)
noncomputable def r8 (C:Ctx) (i:Nat) (x:Str):Bool:=decide (C.N[i]? = some x)&&decide (C.sc.names.lookup x=some .local)
noncomputable def r9 (sc:Scope) (ts vs:List Expr) (ns:List Str):Bool := !(!(ts.length==2 || ts.length==3) || vs.length != ts.length) && !(vs.any fun | .Starred .. => true | _=>false)&&decide (aT sc ts=ns) && !((aT sc ts).length != ts.length || (aT sc ts).eraseDups.length != (aT sc ts).length) && !(vs.all (foldedForSure 8)) && !(vs.all (constantsAlone 8))
noncomputable def gn (sc:Scope) (tg e:Expr):Bool:=match tg,e with
 | .Tuple ts _ _, .Tuple vs _ _=>r6 sc ts vs
 | .Tuple ..,_=>true
 | .Name ..,_=>true
 | _,_=>false
noncomputable def By (sc:Scope) (x:Str) (px:Pos) (e:Expr):Bool:=match e with
 | .DictComp _ _ _ s _ => !(sc.names.lookup x==some .local&&px.line==e.pos.line && !(s.names.any fun (n,k)=>n==x&&(k == .local || k == .cell)))
 | _=>true
noncomputable def rf (sc:Scope) (x:Str) (px:Pos) (e:Expr):Bool:=match e with
 | .ListComp _ _ s _=>sc.names.lookup x==some .local&&px.line==e.pos.line && !(s.names.any fun (n,k)=>n==x&&(k == .local || k == .cell))
 | _=>false
noncomputable def rg (s:Stmt):Option (List Expr×List Expr):=match xZ s with
 | some ([t],e)=>match dO t with
   | some ts=>match dO e with
     | some es=>some (ts,es)
     | none=>none
   | none=>none
 | _=>none
theorem wW {s:Stmt} {ts es:List Expr} (h:rg s=some (ts,es)):∃ k p k' p' pos,s = .Assign [.Tuple ts k p] (.Tuple es k' p') pos:=by
 unfold rg at h
 split at h
 ·next t e h1 =>
  split at h
  ·next ts' h2 =>
   split at h
   ·next es' j =>
    cases h
    obtain ⟨k,p,rfl⟩:=dy h2
    obtain ⟨k',p',rfl⟩:=dy j
    obtain ⟨pos,rfl⟩:=wR h1
    exact ⟨k,p,k',p',pos,rfl⟩
   ·cases h
  ·cases h
 ·cases h
mutual
noncomputable def okS:MS->Ctx->Stmt->Bool
 | .asg g m,C,s=>match s with
  | .Assign [tg] e _=>okG g C tg&&okE m C e&&gn C.sc tg e&&(match tg with | .Name x px=>By C.sc x px e | _=>eB e)
  | _=>false
 | .asgL gs m,C,s=>match s with
  | .Assign [.Tuple ts k p] e _=>okGs gs C ts&&okE m C e&&gn C.sc (.Tuple ts k p) e&&eB e
  | _=>false
 | .par i j a b,C,s=>match rg s with
  | some ([t,u],[e,f])=>match i9 t with
    | some x=>match i9 u with
      | some y=>r8 C i x&&r8 C j y&&decide (i≠j)&&aQ e&&aQ f&&okE a C e&&okE b C f&&r9 C.sc [t,u] [e,f] [x,y]
      | none=>false
    | none=>false
  | _=>false
 | .put o i m,C,s=>match s with
  | .Assign [.Subscript x y _] e _=>cr y&&eB e&&okE o C x&&okE i C y&&okE m C e
  | _=>false
 | .augI o i op m,C,s=>match s with
  | .AugAssign (.Subscript x y _) o' e _=>decide (o'=opO op)&&(match op with | .add | .sub | .mul=>true | _=>false)&&cr y&&okE o C x&&okE i C y&&okE m C e
  | _=>false
 | .drop m,C,s=>match s with
  | .Expr e _=>eB e&&okE m C e
  | _=>false
 | .ret m,C,s=>match s with
  | .Return (some e) _=>okE m C e
  | _=>false
 | .ite c a b,C,s=>match s with
  | .If t x y _=>okT c C t&&okSs a C x&&okSs b C y
  | _=>false
 | .for g src b,C,s=>match s with
  | .For tg it body [] _=>lp it&&okG g C tg&&okI src C tg it&&okSs b C body
  | _=>false
 | .while c b,C,s=>match s with
  | .While t body [] _=>okT c C t&&okSs b C body
  | _=>false
 | .frz _ m,C,s=>okS m C s
 | .pass,_,s=>match s with
  | .Pass _=>true
  | _=>false
 | .brk,_,s=>match s with
  | .Break _=>true
  | _=>false
 | .cnt,_,s=>match s with
  | .Continue _=>true
  | _=>false
noncomputable def okSs:MSs->Ctx->List Stmt->Bool
 | .nil,_,ss=>ss.isEmpty
 | .cons m r,C,ss=>match ss with
  | s::ss=>okS m C s&&okSs r C ss
  | [] => false
end
theorem am {e:Expr} {es:List Expr} {env:Env} (h:aQ e=true):starEach (e::es) env=(false,eval e env)::starEach es env:=by
 cases e <;> first | rfl | (simp [aQ] at h;done)
theorem kN {e:Expr} {es:List Expr} {env:Env} (h:aQ e=true):assignEach (e::es) env=(false,assign e env)::assignEach es env:=by
 cases e <;> first | rfl | (simp [aQ] at h;done)
theorem rh {e:Expr} {env:Env} (h:nI e=true):∀ whole,isTrue e env whole=(do let v <- whole;standAt e.pos;holding [v] (truthy v)):=by
 intro w
 cases e <;> first | rfl | (simp [nI] at h;done)
theorem wX {e:Expr} (h:cr e=true):jv e:=by
 intro o i
 cases e <;> first | rfl | (simp [cr] at h;done)
theorem u6 {e:Expr} {env:Env} (h:lp e=true):∀ x,foldedSetIterable e env x=pure x:=by
 intro x
 cases e <;> first | rfl | (simp [lp] at h;done)
theorem cv {e:Expr} {n:Str} {env:Env} (h:cu e=true):attributeBase e n env (eval e env)=eval e env:=by
 cases e <;> first | rfl | (simp [cu] at h;done)
theorem gp {e:Expr} {t:Option Expr} {l:Nat} {env:Env} (h:eB e=true):swapsWith e t l env=pure false:=by
 cases e <;> first | rfl | (simp [eB] at h;done)
end
section
noncomputable def lSp (K:Frag) (r:RAd):Sp:=fun vs H Q _=>lR K r vs H Q
structure Good (C:Ctx) (Φ:Phi) (k:Nat) (X:Cx):Prop where
 hx:∀ e s,X.xe e s->False
 calm:X.calm=true
 N:X.N=C.N
 sc:X.env.scope=C.sc
 nd:X.N.Nodup
 fn:∀ x∈C.fn,X.fn x=true
 room:Room k X.A
 mgB:∀ x∈bltNames,X.mg x=none
 fns:∀ (i:Nat) (x:Str),C.Γ[i]? = some x -> ∃ f fd ps,X.mg x=some (.ref f)/\PySem.W.keepIn X.K (.ref f)=true/\Binds X.K fd ps []/\dm X.prog X.w X.K X.mg X.base CX0 k f fd ps (lSp X.K (Φ i))
 mono:∀ f,aS (Φ f)
 cs:∀ x d,(x,d)∈C.cs -> ∃ u,X.mg x=some u/\GV X.K d u
section
variable {C:Ctx} {Φ:Phi} {k:Nat} {X:Cx}
theorem Good.units (G:Good C Φ k X):X.A.units+64 < cLine:=G.room.units
theorem Good.gl (G:Good C Φ k X) {x:Str} (h:glB C.sc x=true):Gl X x:=by
 show X.env.scope.names.lookup x=_
 rw [G.sc]
 simpa [glB] using h
theorem Good.vis (G:Good C Φ k X) {x:Str} (h:wN C.sc x=true):Vis X.env.scope x:=by
 unfold Vis
 rw [G.sc]
 simp [wN] at h
 rcases h with (h | h) | h
 ·exact .inl h
 ·exact .inr (.inl h)
 ·exact .inr (.inr h)
theorem Good.loc (G:Good C Φ k X) {x:Str} (h:wP C.sc x=true):Loc X.env.scope x:=by
 unfold Loc
 rw [G.sc]
 simpa [wP] using h
theorem Good.own (G:Good C Φ k X) {x:Str} (h:(C.sc.names.lookup x==some .local || C.fn.contains x)=true):X.fn x=true∨X.env.scope.names.lookup x=some .local:=by
 rw [G.sc]
 simp at h
 rcases h with h | h
 ·exact .inr h
 ·exact .inl (G.fn x h)
theorem Bz (G:Good C Φ k X):∀ o:BOp,OpR X (binaryOp (opO o)) (l2 X.K (opB o))
 | .add=>vM | .sub=>vN | .mul=>vO | .fdiv=>sJ | .mod=>vQ | .pow=>vR
theorem dh (G:Good C Φ k X):∀ o:COp,OpR X (compareOp (i7 o)) (l2 X.K (opC o))
 | .eq=>yP (by have:=G.units;lia) | .ne=>yQ (by have:=G.units;lia) | .lt=>yV | .le=>yW | .gt=>yX | .ge=>yY | .is=>zt | .isn=>wn| .ninD=>tY (by have:=G.units;lia)
theorem BA (G:Good C Φ k X) {f:BF} {e:Expr} {es:List Expr} {t:TAd} {p pos:Pos} (mt:b6 t) (q:Gl X (nJ f)) (z:PA X (e::es) (lA X.K t))
 (he:starEach (e::es) X.env=(false,eval e X.env)::starEach es X.env) (j:(backTo pos (starEach es X.env)).any (·.1)=false):PE X (.Call (.Name (nJ f) p) (e::es) [] pos) (lE X.K (wAr (opF f) t)):=by
 cases f with
 | len=>exact PE.imp (bU qz q (G.mgB _ (by decide)) PySem.boot_len z (by decide) (by decide) he j) (bq mn mt)
 | abs=>exact PE.imp (bU qA q (G.mgB _ (by decide)) (by decide +kernel) z (by decide) (by decide) he j) (bq mw mt)
 | min2=>exact PE.imp (bU (ou G.calm) q (G.mgB _ (by decide)) (by decide +kernel) z (by decide) (by decide) he j) (bq kj mt)
 | int=>exact PE.imp (fe qB q (G.mgB _ (by decide)) (by decide +kernel) z (by decide) (by decide) he j) (bq mz mt)
 | list=>exact PE.imp (fe ow q (G.mgB _ (by decide)) (by decide +kernel) z (by decide) (by decide) he j) (bq kl mt)
 | tuple=>exact PE.imp (fe mF q (G.mgB _ (by decide)) (by decide +kernel) z (by decide) (by decide) he j) (bq iJ mt)
 | sum=>exact PE.imp (bU (qE G.calm) q (G.mgB _ (by decide)) (by decide +kernel) z (by decide) (by decide) he j) (bq mG mt)
 | all=>exact PE.imp (bU (qM G.calm) q (G.mgB _ (by decide)) (by decide +kernel) z (by decide) (by decide) he j) (bq nh mt)
 | minP=>exact PE.imp (bU (oE (by have:=G.units;lia) G.calm) q (G.mgB _ (by decide)) (by decide +kernel) z (by decide) (by decide) he j) (bq kL mt)
theorem zJ (G:Good C Φ k X) {f:Nat} {x:Str} {e:Expr} {es:List Expr} {t:TAd} {p pos:Pos} (mt:b6 t) (hf:C.Γ[f]? = some x) (z:Gl X x) (j:(x==("__debug__":Str))=false) (B:PA X (e::es) (lA X.K t))
 (he:starEach (e::es) X.env=(false,eval e X.env)::starEach es X.env) (q:(backTo pos (starEach es X.env)).any (·.1)=false):PE X (.Call (.Name x p) (e::es) [] pos) (lE X.K (wAr (Φ f) t)):=by
 obtain ⟨a,fd,ps,hm,J,L,F⟩:=G.fns f x hf
 refine PE.imp (yC F G.room z hm J L .nil xM B j he q) fun σ H Q h => ?_
 have h2:=bq (G.mono f) mt σ H Q h
 have:(fun vs H1=>lSp X.K (Φ f) (vs++[]) H1 Q E0)=fun vs H1=>lR X.K (Φ f) vs H1 Q:=by
  funext vs H1;rw [List.append_nil];rfl
 show (lA X.K t) σ H _
 rw [this]
 exact h2
theorem wY (G:Good C Φ k X) {f:Nat} {x:Str} {p pos:Pos} (hf:C.Γ[f]? = some x) (z:Gl X x) (j:(x==("__debug__":Str))=false):PE X (.Call (.Name x p) [] [] pos) (lE X.K (wAr (Φ f) bK)):=by
 obtain ⟨a,fd,ps,hm,B,J,F⟩:=G.fns f x hf
 refine PE.imp (vg F G.room z hm B J .nil xM j) fun σ H Q h => ?_
 obtain ⟨ρ,M,rs,rm,q⟩:=h
 exact ⟨[],M,rm,RDs.nil,q⟩
theorem ic {env:Env} {pos:Pos}:∀ {es:List Expr},es.all aQ=true->(backTo pos (starEach es env)).any (·.1)=false
 | [],_=>rfl
 | e::es,h=>by
   simp only [List.all_cons,Bool.and_eq_true] at h
   rw [am h.1]
   show (false || (backTo pos (starEach es env)).any (·.1))=false
   rw [ic h.2];rfl
theorem fJ:∀ {ms:MEs} {es:List Expr},okEs ms C es=true->es.all aQ=true
 | .nil,[],_=>rfl
 | .nil,_::_,h=>by simp [okEs] at h
 | .cons m r,[],h=>by simp [okEs] at h
 | .cons m r,e::es,h=>by
  simp only [okEs,Bool.and_eq_true] at h
  simp only [List.all_cons,Bool.and_eq_true]
  exact ⟨h.1.1,fJ h.2⟩
theorem jK:∀ {gs:MGs} {es:List Expr},okGs gs C es=true -> ∀ ds ρ ρ',bGs gs ds ρ = some ρ'->ds.length=es.length
 | .nil,es,h,ds, ρ, ρ',e=>by
  simp [okGs] at h;subst h
  rw [bGs] at e
  cases ds with
  | nil=>rfl
  | cons _ _=>cases e
 | .cons g r,[],h,_,_,_,_=>by simp [okGs] at h
 | .cons g r,x::es,h,ds, ρ, ρ',e=>by
  simp only [okGs,Bool.and_eq_true] at h
  rw [bGs] at e
  cases ds with
  | nil=>cases e
  | cons d ds =>
    simp only [bH] at e
    cases e1:bG g d ρ with
    | none=>rw [e1] at e;cases e
    | some ρ1 =>
      rw [e1] at e
      simp [jK h.2 ds ρ1 ρ' e]
theorem ie {env:Env}:∀ {gs:MGs} {es:List Expr},okGs gs C es=true->(assignEach es env).length=es.length/\(assignEach es env).findIdx? (·.1)=none
 | .nil,es,h=>by simp [okGs] at h;subst h;exact ⟨rfl,rfl⟩
 | .cons g r,[],h=>by simp [okGs] at h
 | .cons g r,x::es,h=>by
  simp only [okGs,Bool.and_eq_true] at h
  obtain ⟨a,b⟩:=ie (env:=env) h.2
  rw [kN h.1.1]
  refine ⟨by simp [a], ?_⟩
  rw [List.findIdx?_cons]
  simp [b]
mutual
theorem sG (G:Good C Φ k X):∀ (m:MG) (e:Expr),okG m C e=true->PG X e (lG X.K (bG m))
 | .name i,e,h=>by
  simp only [okG] at h
  split at h
  ·simp only [Bool.and_eq_true] at h
   exact zk G.nd (by rw [G.N];exact of_decide_eq_true h.1.1) (G.loc h.1.2) (G.own h.2)
  ·cases h
 | .tup gs,e,h=>by
  simp only [okG] at h
  split at h
  ·rw [bG]
   obtain ⟨a,b⟩:=ie (env:=X.env) h
   exact Bd G.calm (jK h) (sGs G gs _ h) a b
  ·cases h
theorem sGs (G:Good C Φ k X):∀ (m:MGs) (es:List Expr),okGs m C es=true->PGs X es (lGs X.K (bGs m))
 | .nil,es,h=>by
  simp [okGs] at h;subst h
  exact zm
 | .cons g r,[],h=>by simp [okGs] at h
 | .cons g r,e::es,h=>by
  simp only [okGs,Bool.and_eq_true] at h
  exact vZ (sG G g e h.1.2) (sGs G r es h.2) (by rw [kN h.1.1];rfl)
end
theorem PB.imp {F:Sem Fin->Sem Fin} {t t':TC} (h:PB X F t) (i:∀ σ H N,t' σ H N->t σ H N):PB X F t':=fun pins s σ H N k Q E I q hk=>h pins s σ H N k Q E I (i _ _ _ q) hk
theorem jc {sc osc:Scope} {oN N':List Str} {fr:List (Option Nat)} (h:wQ sc osc oN N' fr=true):aV sc osc oN N' fr:=by
 simp only [wQ,Bool.and_eq_true,decide_eq_true_eq] at h
 obtain ⟨⟨⟨⟨⟨h1,h2⟩,F⟩,G⟩,J⟩,L⟩:=h
 refine ⟨h1,h2,F,fun x hx e => ?_,J,fun i j x hi hf => ?_⟩
 ·have z:=List.all_eq_true.mp G x hx
  rw [e] at z
  simpa using z
 ·have B:i < N'.length:=(List.getElem?_eq_some_iff.mp hi).1
  have q:=List.all_eq_true.mp L i (List.mem_range.mpr B)
  rw [hf,hi] at q
  simp only [Bool.and_eq_true,decide_eq_true_eq,List.any_eq_true] at q
  obtain ⟨a,y,O,e⟩:=q
  exact ⟨a,by rw [<- e];exact O⟩
theorem Good.blk (G:Good C Φ k X) {sc:Scope} {N':List Str} {fr:List (Option Nat)} (B:aV sc C.sc C.N N' fr) (s:Shared) (H:Hp) (fp:List Addr) :
 Good ⟨C.Γ,N',i8 sc C.sc,(sc.names.filter (·.2 == .cell)).map (·.1),C.cs⟩ Φ k (aC X sc N' s H fp):=by
 refine ⟨fun _ _ h=>h,G.calm,rfl, ?_,B.ndN,fun x hx => ?_,G.room,G.mgB,G.fns,G.mono,G.cs⟩
 ·show relabel sc X.env=_
  rw [oF,G.sc]
 ·obtain ⟨y,q,e⟩:=List.mem_map.mp hx
  obtain ⟨h1,h2⟩:=List.mem_filter.mp q
  obtain ⟨n,kd⟩:=y
  have j:kd = .cell:=by simpa using h2
  subst j
  have e':n=x:=e
  subst e'
  show (sc.names.lookup n==some .cell)=true
  rw [aO B.nd h1]
  rfl
end
end
section
section
variable {Φ:Phi} {k:Nat}
theorem di {C:Ctx} {X:Cx} (G:Good C Φ k X) {F:Sem Fin->Sem Fin} {p:Addr} {tb:TCd} {ifs:List Expr} {ts:List TTd} (mb:bI tb) (mt:∀ t∈ts,aB t) (j:PB X F (lC X.K p tb)) (q:Paired (fun c t=>PT X c t) ifs (ts.map (lT X.K))) :
 PB X (fun k=>b4 ifs X.env >>= fun ok=>if ok=true then F k else k) (lC X.K p (ba ts tb)) :=
 PB.imp (vD G.hx j q) (iV mb mt)
theorem fK {m:MC} {Cs C:Ctx} {g2:Comprehension} {gs:List Comprehension} {elt:Expr} (h:okC m Cs C (g2::gs) elt=true):g2.is_async=0:=by
 obtain ⟨t,i,f,a⟩:=g2
 cases m with
 | last src g ifs m =>
   cases gs with
   | nil=>simp only [okC,Bool.and_eq_true,decide_eq_true_eq] at h;exact h.1.1.1.1
   | cons _ _=>simp [okC] at h
 | more src g ifs rest =>
   cases gs with
   | nil=>simp [okC] at h
   | cons _ _=>simp only [okC,Bool.and_eq_true,decide_eq_true_eq] at h;exact h.1.1.1.1
theorem wZ {C:Ctx} {X:Cx} (G:Good C Φ k X):∀ T∈["bool", "int", "str", "tuple", "list", "dict"],X.mg (Str.ofString T)=none/\bootBuiltins (Str.ofString T)=some (.type T)/\Str.ofString T ≠ "__name__" /\ (Str.ofString T==("__debug__":Str))=false:=by
 intro T j
 simp only [List.mem_cons,List.not_mem_nil,or_false] at j
 rcases j with rfl | rfl | rfl | rfl | rfl | rfl
 all_goals exact ⟨G.mgB _ (by decide),by decide +kernel,by decide,by decide⟩
mutual
theorem sE:∀ (m:ME) {C:Ctx} {X:Cx} (G:Good C Φ k X) (e:Expr),okE m C e=true->PE X e (lE X.K (wE Φ m))
 | .var i,C,X,G,e,h=>by
  simp only [okE] at h
  split at h
  ·simp only [Bool.and_eq_true,Bool.not_eq_true',decide_eq_true_eq] at h
   exact AY (by rw [G.N];exact h.1.1.1) (G.vis h.1.1.2) h.1.2 h.2
  ·cases h
 | .int i,C,X,G,e,h=>by
  simp only [okE] at h
  split at h
  ·rw [of_decide_eq_true h];exact le_int
  ·cases h
 | .bl i,C,X,G,e,h=>by
  simp only [okE] at h
  split at h
  ·rw [eq_of_beq h];exact Ct
  ·cases h
 | .non,C,X,G,e,h=>by
  simp only [okE] at h
  split at h
  ·exact AZ
  ·cases h
 | .bin op a b,C,X,G,e,h=>by
  simp only [okE] at h
  split at h
  ·simp only [Bool.and_eq_true,decide_eq_true_eq] at h
   rw [h.1.1]
   exact Cu (Bz G op) (nH op) (mE G.mono a) (mE G.mono b) (sE a G _ h.1.2) (sE b G _ h.2)
  ·cases h
 | .neg a,C,X,G,e,h=>by
  simp only [okE] at h
  split at h
  ·exact Cv vS mm (mE G.mono a) (sE a G _ h)
  ·cases h
 | .cmp op a b,C,X,G,e,h=>by
  simp only [okE] at h
  split at h
  ·next l o r j =>
   obtain ⟨pos,rfl⟩:=eV j
   simp only [Bool.and_eq_true,decide_eq_true_eq] at h
   obtain ⟨⟨⟨ho,U⟩,hb⟩,hm⟩:=h
   rw [Bool.not_eq_true'] at hm
   subst ho
   exact B0 (dh G op) (aY op) (mE G.mono a) (mE G.mono b) (sE a G _ U) (sE b G _ hb) hm
  ·cases h
 | .and es,C,X,G,e,h=>by
  simp only [okE] at h
  split at h
  ·simp only [Bool.and_eq_true] at h
   exact sAnds es G _ _ h.2 (by intro z;rw [z] at h;simp at h)
  ·cases h
 | .or es,C,X,G,e,h=>by
  simp only [okE] at h
  split at h
  ·simp only [Bool.and_eq_true] at h
   exact sOrs es G _ _ h.2 (by intro z;rw [z] at h;simp at h)
  ·cases h
 | .not a,C,X,G,e,h=>by
  simp only [okE] at h
  split at h
  ·exact Bc (mE G.mono a) (sE a G _ h)
  ·cases h
 | .ite c a b,C,X,G,e,h=>by
  simp only [okE] at h
  split at h
  ·simp only [Bool.and_eq_true] at h
   exact CC (mT G.mono c) (mE G.mono a) (mE G.mono b) (sT c G _ h.1.1) (sE a G _ h.1.2) (sE b G _ h.2)
  ·cases h
 | .tup es,C,X,G,e,h=>by
  simp only [okE] at h
  split at h
  ·exact B4 (mA G.mono es) (sA es G _ h)
  ·cases h
 | .lst es,C,X,G,e,h=>by
  simp only [okE] at h
  split at h
  ·exact B5 (mA G.mono es) (sA es G _ h)
  ·cases h
 | .ix a b,C,X,G,e,h=>by
  simp only [okE] at h
  split at h
  ·simp only [Bool.and_eq_true] at h
   exact Cw (Dm (by have:=G.units;lia)) oS (mE G.mono a) (mE G.mono b) (sE a G _ h.1.2) (sE b G _ h.2) (wX h.1.1)
  ·cases h
 | .sl a lo hi,C,X,G,e,h=>by
  simp only [okE] at h
  split at h
  ·next x l u j =>
   obtain ⟨p,pos,rfl⟩:=r0 j
   simp only [Bool.and_eq_true] at h
   exact CD (mE G.mono a) (mO G.mono lo) (mO G.mono hi) (sE a G _ h.1.1) (sO lo G _ h.1.2) (sO hi G _ h.2)
  ·cases h
 | .call f es,C,X,G,e,h=>by
  simp only [okE] at h
  split at h
  ·next x xs j =>
   obtain ⟨p,pos,rfl⟩:=bC j
   simp only [Bool.and_eq_true,decide_eq_true_eq,Bool.not_eq_true'] at h
   have hA:=sA es G _ h.2
   have L:=fJ h.2
   cases xs with
   | nil =>
     cases es with
     | nil=>exact wY G h.1.1.1 (G.gl h.1.1.2) h.1.2
     | cons _ _=>simp [okEs] at h
   | cons y ys =>
     simp only [List.all_cons,Bool.and_eq_true] at L
     exact zJ G (mA G.mono es) h.1.1.1 (G.gl h.1.1.2) h.1.2 hA (am L.1) (ic L.2)
  ·cases h
 | .blt f es,C,X,G,e,h=>by
  simp only [okE] at h
  split at h
  ·next x xs j =>
   obtain ⟨p,pos,rfl⟩:=bC j
   simp only [Bool.and_eq_true,decide_eq_true_eq,Bool.not_eq_true'] at h
   have hA:=sA es G _ h.2
   have L:=fJ h.2
   obtain ⟨⟨⟨rfl,O⟩,Dv⟩,_⟩:=h
   cases xs with
   | nil=>simp at Dv
   | cons y ys =>
     simp only [List.all_cons,Bool.and_eq_true] at L
     exact BA G (mA G.mono es) (G.gl O) hA (am L.1) (ic L.2)
  ·cases h
 | .chain op op' a b c,C,X,G,e,h=>by
  simp only [okE] at h
  split at h
  ·next l o o' r q Dw =>
   obtain ⟨pos,rfl⟩:=eV Dw
   simp only [Bool.and_eq_true,decide_eq_true_eq,Bool.not_eq_true'] at h
   obtain ⟨⟨⟨⟨⟨rfl,rfl⟩,U⟩,hb⟩,j⟩,hm⟩:=h
   exact wq (dh G op) (dh G op') (aY op) (aY op') (mE G.mono a) (mE G.mono b) (mE G.mono c) (sE a G _ U) (sE b G _ hb) (sE c G _ j) hm
  ·cases h
 | .glob x k',C,X,G,e,h=>by
  simp only [okE] at h
  split at h
  ·simp only [Bool.and_eq_true,decide_eq_true_eq,Bool.not_eq_true'] at h
   obtain ⟨⟨⟨rfl,O⟩,j⟩,hd⟩:=h
   obtain ⟨u,Z,hv⟩:=G.cs _ _ j
   obtain ⟨v,rv,rd⟩:=xY hv
   exact PE.imp (ym (v:=v) (G.gl O) Z rv hd) fun σ H Q ⟨ρ,M,rs,rm,q⟩=>q _ H Ext.refl rm (rd H)
  ·cases h
 | .dnew t,C,X,G,e,h=>by
  simp only [okE] at h
  split at h
  ·exact zv
  ·cases h
 | .sortI a,C,X,G,e,h=>by
  simp only [okE] at h
  split at h
  ·next x w j =>
   obtain ⟨p,pos,rfl⟩:=bC j
   split at h
   ·next y n ap cp Dx =>
    cases cH Dx
    simp only [Bool.and_eq_true,decide_eq_true_eq] at h
    obtain ⟨⟨⟨⟨⟨rfl,O⟩,rfl⟩,J⟩,Y⟩,U⟩:=h
    exact wz (by have:=G.units;lia) (mE G.mono a) G.calm (sE a G _ U) (G.gl O) (G.mgB _ (by decide)) (cv J) Y
   ·cases h
  ·cases h
 | .dget o k' x,C,X,G,e,h=>by
  simp only [okE] at h
  split at h
  ·next y n e1 e2 ap cp j =>
   cases cH j
   simp only [Bool.and_eq_true,decide_eq_true_eq] at h
   obtain ⟨⟨⟨⟨⟨⟨⟨rfl,J⟩,Y⟩,Dy⟩,Dz⟩,ho⟩,hk⟩,hx⟩:=h
   have st:starEach [e1,e2] X.env=[(false,eval e1 X.env),(false,eval e2 X.env)]:=by
    rw [am Dy,am Dz];rfl
   refine zG (by have:=G.units;lia) (mE G.mono o) (mE G.mono k') (mE G.mono x) (sE o G _ ho) (sE k' G _ hk) (sE x G _ hx) ⟨cv J, ?_,Y, ?_⟩
   ·rw [st];rfl
   ·rw [st];rfl
  ·cases h
 | .isin a T,C,X,G,e,h=>by
  simp only [okE] at h
  split at h
  ·next x y z' j =>
   obtain ⟨p,pos,rfl⟩:=bC j
   split at h
   ·next z DA =>
    obtain ⟨p2,rfl⟩:=gm DA
    simp only [Bool.and_eq_true,decide_eq_true_eq] at h
    obtain ⟨⟨⟨⟨⟨⟨rfl,O⟩,DB⟩,hz⟩,hT⟩,hs⟩,U⟩:=h
    obtain ⟨n1,n2,n3,n4⟩:=wZ G T hT
    subst hz
    exact zh hT (mE G.mono a) (sE a G _ U) (G.gl O) (G.mgB _ (by decide)) (G.gl DB) n1 n2 n3 n4 (am hs) rfl
   ·cases h
  ·cases h
 | .meth m o a,C,X,G,e,h=>by
  simp only [okE] at h
  split at h
  ·next x n y ap cp j =>
   cases cH j
   simp only [Bool.and_eq_true,decide_eq_true_eq] at h
   obtain ⟨⟨⟨⟨⟨hn,J⟩,Y⟩,hs⟩,ho⟩,U⟩:=h
   subst hn
   have pa:PA X [y] (lA X.K (b9 (wE Φ a) bK)):=bZ (mE G.mono a) aF (sE a G _ U) dY (am hs)
   have few:((backTo cp (starEach [y] X.env)).all (fun x => !x.1)&&(backToKw cp (keywordEach [] X.env)).all (fun x=>x.1.isSome)&&decide (([y]:List Expr).length+([]:List Keyword).length+(if ([]:List Keyword).isEmpty then 0 else 1) < 30))=true:=by
    rw [am hs];rfl
   cases m with
   | append=>exact PE.imp (Cn PySem.F.plainAttrs_list PySem.F.slot_list_append PySem.F.type_list_append kb (sE o G _ ho) pa (cv J) few Y (am hs) rfl) (zi gJ (mE G.mono o) (aG (mE G.mono a) aF) vY)
  ·cases h
 | .meth0 m o,C,X,G,e,h=>by
  simp only [okE] at h
  split at h
  ·next x n ap cp j =>
   cases cH j
   simp only [Bool.and_eq_true,decide_eq_true_eq] at h
   obtain ⟨⟨⟨hn,J⟩,Y⟩,ho⟩:=h
   subst hn
   cases m with
   | clear=>exact PE.imp (se PySem.F.plainAttrs_list PySem.F.slot_list_clear PySem.F.type_list_clear vt (sE o G _ ho) (cv J) Y) (mP iR (mE G.mono o) zj)
   | reverse=>exact PE.imp (se PySem.F.plainAttrs_list PySem.F.slot_list_reverse PySem.F.type_list_reverse qo (sE o G _ ho) (cv J) Y) (mP fu (mE G.mono o) sW)
  ·cases h
 | .comp fr N' c,C,X,G,e,h=>by
  simp only [okE] at h
  split at h
  ·rename_i elt gens sc pos
   simp only [Bool.and_eq_true] at h
   have B:aV sc X.env.scope X.N N' fr:=by rw [G.sc,G.N];exact jc h.1
   have B':aV sc C.sc C.N N' fr:=jc h.1
   cases c with
   | last src g ifs m =>
     have h2:=h.2
     simp only [okC] at h2
     split at h2
     ·rename_i t it fs a
      simp only [Bool.and_eq_true,decide_eq_true_eq] at h2
      obtain ⟨⟨⟨⟨rfl,hi⟩,O⟩,Z⟩,he⟩:=h2
      refine PE.imp (gI G.calm G.hx B (fun g' z=>by simp at z) (sI src G _ t hi).1 (fun s H fp=>sG (G.blk B' s H fp) g t O) (tb:=fun p=>lC X.K p (ba (wTl Φ ifs) (dI (wE Φ m)))) (fun s H fp p => ?_) (sI src G _ t hi).2) (dJ (mI G.mono src) (aJ (bh (mE G.mono m)) (mTl G.mono ifs)))
      have G':=G.blk B' s H fp
      exact di (p:=p) G' (bh (mE G.mono m)) (mTl G.mono ifs) (PB.imp (jw G'.hx (sE m G' elt he) rfl) (fA (mE G.mono m))) (sTl ifs G' fs Z)
     ·cases h2
   | more src g ifs rest =>
     have h2:=h.2
     simp only [okC] at h2
     split at h2
     ·rename_i t it fs a g2 gs
      simp only [Bool.and_eq_true,decide_eq_true_eq] at h2
      obtain ⟨⟨⟨⟨rfl,hi⟩,O⟩,Z⟩,he⟩:=h2
      have DC:∀ g',(g2::gs)[0]? = some g'->g'.is_async=0:=fun g' z=>by
       have z':g2=g':=by simpa using z
       subst z'
       exact fK he
      refine PE.imp (gI G.calm G.hx B DC (sI src G _ t hi).1 (fun s H fp=>sG (G.blk B' s H fp) g t O) (tb:=fun p=>lC X.K p (ba (wTl Φ ifs) (wCl Φ rest))) (fun s H fp p => ?_) (sI src G _ t hi).2) (dJ (mI G.mono src) (aJ (mCl G.mono rest) (mTl G.mono ifs)))
      have G':=G.blk B' s H fp
      exact di (p:=p) G' (mCl G.mono rest) (mTl G.mono ifs) (sCl rest G' elt (⟨t,it,fs,0⟩::g2::gs) sc pos 0 (.inl rfl) p he) (sTl ifs G' fs Z)
     ·cases h2
  ·cases h
theorem sA:∀ (m:MEs) {C:Ctx} {X:Cx} (G:Good C Φ k X) (es:List Expr),okEs m C es=true->PA X es (lA X.K (wA Φ m))
 | .nil,C,X,G,es,h=>by
  simp [okEs] at h;subst h
  exact dY
 | .cons m r,C,X,G,[],h=>by simp [okEs] at h
 | .cons m r,C,X,G,e::es,h=>by
  simp only [okEs,Bool.and_eq_true] at h
  exact bZ (mE G.mono m) (mA G.mono r) (sE m G e h.1.2) (sA r G es h.2) (am h.1.1)
theorem sAnds:∀ (m:MEs) {C:Ctx} {X:Cx} (G:Good C Φ k X) (es:List Expr) (pos:Pos),okEs m C es=true->es≠[]->PE X (.BoolOp .And es pos) (lE X.K (wAnds Φ m))
 | .nil,C,X,G,es,pos,h,j=>by simp [okEs] at h;exact absurd h j
 | .cons m r,C,X,G,[],pos,h,j=>absurd rfl j
 | .cons m .nil,C,X,G,e::es,pos,h,_=>by
  simp only [okEs,Bool.and_eq_true] at h
  obtain ⟨h1,h2⟩:=h
  simp at h2;subst h2
  exact sQ (sE m G e h1.2)
 | .cons m (.cons m2 r),C,X,G,e::es,pos,h,_=>by
  simp only [okEs,Bool.and_eq_true] at h
  obtain ⟨h1,h2⟩:=h
  cases es with
  | nil=>simp at h2
  | cons f fs =>
    exact Bb (mE G.mono m) (mAnds G.mono _) (sE m G e h1.2) (sAnds (.cons m2 r) G (f::fs) pos (by simpa only [okEs,Bool.and_eq_true] using h2) (by simp))
theorem sOrs:∀ (m:MEs) {C:Ctx} {X:Cx} (G:Good C Φ k X) (es:List Expr) (pos:Pos),okEs m C es=true->es≠[]->PE X (.BoolOp .Or es pos) (lE X.K (wOrs Φ m))
 | .nil,C,X,G,es,pos,h,j=>by simp [okEs] at h;exact absurd h j
 | .cons m r,C,X,G,[],pos,h,j=>absurd rfl j
 | .cons m .nil,C,X,G,e::es,pos,h,_=>by
  simp only [okEs,Bool.and_eq_true] at h
  obtain ⟨h1,h2⟩:=h
  simp at h2;subst h2
  exact sQ (sE m G e h1.2)
 | .cons m (.cons m2 r),C,X,G,e::es,pos,h,_=>by
  simp only [okEs,Bool.and_eq_true] at h
  obtain ⟨h1,h2⟩:=h
  cases es with
  | nil=>simp at h2
  | cons f fs =>
    exact CB (mE G.mono m) (mOrs G.mono _) (sE m G e h1.2) (sOrs (.cons m2 r) G (f::fs) pos (by simpa only [okEs,Bool.and_eq_true] using h2) (by simp))
theorem sO:∀ (m:MO) {C:Ctx} {X:Cx} (G:Good C Φ k X) (e:Option Expr),okO m C e=true->PO X e (lO X.K (wO Φ m))
 | .none,C,X,G,e,h=>by
  simp [okO] at h;subst h
  exact zb
 | .some m,C,X,G,none,h=>by simp [okO] at h
 | .some m,C,X,G,some e,h=>by
  simp only [okO] at h
  exact zc (mE G.mono m) (sE m G e h)
theorem sT:∀ (m:MT) {C:Ctx} {X:Cx} (G:Good C Φ k X) (e:Expr),okT m C e=true->PT X e (lT X.K (wT Φ m))
 | .tru m,C,X,G,e,h=>by
  simp only [okT,Bool.and_eq_true] at h
  exact B7 (mE G.mono m) (sE m G e h.2) (rh h.1)
 | .cmp op a b,C,X,G,e,h=>by
  simp only [okT] at h
  split at h
  ·next l o r j =>
   obtain ⟨pos,rfl⟩:=eV j
   simp only [Bool.and_eq_true,decide_eq_true_eq] at h
   obtain ⟨⟨⟨ho,B⟩,F⟩,hm⟩:=h
   rw [Bool.not_eq_true'] at hm
   subst ho
   exact B3 (dh G op) (aY op) (mE G.mono a) (mE G.mono b) (sE a G _ B) (sE b G _ F) hm
  ·cases h
 | .chain op op' a b c,C,X,G,e,h=>by
  simp only [okT] at h
  split at h
  ·next l o o' r q J =>
   obtain ⟨pos,rfl⟩:=eV J
   simp only [Bool.and_eq_true,decide_eq_true_eq,Bool.not_eq_true'] at h
   obtain ⟨⟨⟨⟨⟨rfl,rfl⟩,B⟩,F⟩,j⟩,hm⟩:=h
   exact wt (dh G op) (dh G op') (aY op) (aY op') (mE G.mono a) (mE G.mono b) (mE G.mono c) (sE a G _ B) (sE b G _ F) (sE c G _ j) hm
  ·cases h
 | .and ts,C,X,G,e,h=>by
  simp only [okT] at h
  split at h
  ·simp only [Bool.and_eq_true] at h
   exact (sAndTs ts G _ _ h.2 (by intro z;rw [z] at h;simp at h)).pt
  ·cases h
 | .or ts,C,X,G,e,h=>by
  simp only [okT] at h
  split at h
  ·simp only [Bool.and_eq_true] at h
   exact (sOrTs ts G _ _ h.2 (by intro z;rw [z] at h;simp at h)).pt
  ·cases h
 | .not t,C,X,G,e,h=>by
  simp only [okT] at h
  split at h
  ·exact B8 (mT G.mono t) (sT t G _ h)
  ·cases h
theorem sAndTs:∀ (m:MTs) {C:Ctx} {X:Cx} (G:Good C Φ k X) (es:List Expr) (pos:Pos),okTs m C es=true->es≠[]->PW X (.BoolOp .And es pos) (lT X.K (wAndTs Φ m))
 | .nil,C,X,G,es,pos,h,j=>by simp [okTs] at h;exact absurd h j
 | .cons m r,C,X,G,[],pos,h,j=>absurd rfl j
 | .cons m .nil,C,X,G,e::es,pos,h,_=>by
  simp only [okTs,Bool.and_eq_true] at h
  obtain ⟨h1,h2⟩:=h
  simp at h2;subst h2
  exact z9 (sT m G e h1)
 | .cons m (.cons m2 r),C,X,G,e::es,pos,h,_=>by
  simp only [okTs,Bool.and_eq_true] at h
  obtain ⟨h1,h2⟩:=h
  cases es with
  | nil=>simp at h2
  | cons f fs =>
    exact Ba (mT G.mono m) (mAndTs G.mono _) (sT m G e h1) (sAndTs (.cons m2 r) G (f::fs) pos (by simpa only [okTs,Bool.and_eq_true] using h2) (by simp))
theorem sOrTs:∀ (m:MTs) {C:Ctx} {X:Cx} (G:Good C Φ k X) (es:List Expr) (pos:Pos),okTs m C es=true->es≠[]->PW X (.BoolOp .Or es pos) (lT X.K (wOrTs Φ m))
 | .nil,C,X,G,es,pos,h,j=>by simp [okTs] at h;exact absurd h j
 | .cons m r,C,X,G,[],pos,h,j=>absurd rfl j
 | .cons m .nil,C,X,G,e::es,pos,h,_=>by
  simp only [okTs,Bool.and_eq_true] at h
  obtain ⟨h1,h2⟩:=h
  simp at h2;subst h2
  exact B9 (sT m G e h1)
 | .cons m (.cons m2 r),C,X,G,e::es,pos,h,_=>by
  simp only [okTs,Bool.and_eq_true] at h
  obtain ⟨h1,h2⟩:=h
  cases es with
  | nil=>simp at h2
  | cons f fs =>
    exact CA (mT G.mono m) (mOrTs G.mono _) (sT m G e h1) (sOrTs (.cons m2 r) G (f::fs) pos (by simpa only [okTs,Bool.and_eq_true] using h2) (by simp))
theorem sTl:∀ (m:MTs) {C:Ctx} {X:Cx} (G:Good C Φ k X) (es:List Expr),okTs m C es=true->Paired (fun c t=>PT X c t) es ((wTl Φ m).map (lT X.K))
 | .nil,C,X,G,es,h=>by
  simp [okTs] at h;subst h
  exact .nil
 | .cons m r,C,X,G,[],h=>by simp [okTs] at h
 | .cons m r,C,X,G,e::es,h=>by
  simp only [okTs,Bool.and_eq_true] at h
  exact .cons (sT m G e h.1) (sTl r G es h.2)
theorem sI:∀ (m:MI) {C:Ctx} {X:Cx} (G:Good C Φ k X) (e tg:Expr),okI m C tg e=true->PI X tg e (lI X.K (wI Φ m)) /\ ∀ x,foldedSetIterable e X.env x=pure x
 | .seq m,C,X,G,e,tg,h=>by
  simp only [okI,Bool.and_eq_true] at h
  exact ⟨Bg (mE G.mono m) (sE m G e h.2),u6 h.1⟩
 | .rng1 a,C,X,G,e,tg,h=>by
  simp only [okI] at h
  split at h
  ·next x y q =>
   obtain ⟨p,pos,rfl⟩:=bC q
   simp only [Bool.and_eq_true,decide_eq_true_eq] at h
   obtain ⟨⟨⟨rfl,J⟩,hs⟩,B⟩:=h
   exact ⟨zn (aG (mE G.mono a) aF) (G.gl J) (G.mgB _ (by decide)) (bZ (mE G.mono a) aF (sE a G _ B) dY (am hs)) (am hs),fun x=>rfl⟩
  ·cases h
 | .enum a,C,X,G,e,tg,h=>by
  simp only [okI] at h
  split at h
  ·next x y q =>
   obtain ⟨p,pos,rfl⟩:=bC q
   simp only [Bool.and_eq_true,decide_eq_true_eq] at h
   obtain ⟨⟨⟨⟨j,rfl⟩,J⟩,hs⟩,B⟩:=h
   obtain ⟨ts,j⟩:=Option.isSome_iff_exists.mp j
   obtain ⟨kt,pt,rfl⟩:=dy j
   exact ⟨zo (mE G.mono a) (G.gl J) (G.mgB _ (by decide)) (bZ (mE G.mono a) aF (sE a G _ B) dY (am hs)) (am hs),fun x=>rfl⟩
  ·cases h
 | .items a,C,X,G,e,tg,h=>by
  simp only [okI] at h
  split at h
  ·next x n ap cp q =>
   cases cH q
   simp only [Bool.and_eq_true,decide_eq_true_eq] at h
   obtain ⟨⟨⟨⟨j,rfl⟩,L⟩,O⟩,B⟩:=h
   obtain ⟨ts,j⟩:=Option.isSome_iff_exists.mp j
   obtain ⟨kt,pt,rfl⟩:=dy j
   exact ⟨wJ (mE G.mono a) (sE a G _ B) (cv L) O,fun x=>rfl⟩
  ·cases h
 | .zip a b,C,X,G,e,tg,h=>by
  simp only [okI] at h
  split at h
  ·next x y z q =>
   obtain ⟨p,pos,rfl⟩:=bC q
   simp only [Bool.and_eq_true,decide_eq_true_eq] at h
   obtain ⟨⟨⟨⟨⟨⟨j,rfl⟩,J⟩,hs⟩,F⟩,B⟩,U⟩:=h
   obtain ⟨ts,j⟩:=Option.isSome_iff_exists.mp j
   obtain ⟨kt,pt,rfl⟩:=dy j
   exact ⟨Bj (mE G.mono a) (mE G.mono b) (G.gl J) (G.mgB _ (by decide)) (bZ (mE G.mono a) (aG (mE G.mono b) aF) (sE a G _ B) (bZ (mE G.mono b) aF (sE b G _ U) dY (am F)) (am hs)) (by rw [am hs,am F];rfl) (am F),fun x=>rfl⟩
  ·cases h
theorem sCl:∀ (m:MC) {C:Ctx} {X:Cx} (G:Good C Φ k X) (elt:Expr) (gens:List Comprehension) (sc:Scope) (pos:Pos) (d:Nat) (_:d=0∨d=d) (p:Addr),okC m C C (gens.drop (d+1)) elt=true ->
 PB X (aU elt gens sc pos d (.ref p) X.env) (lC X.K p (wCl Φ m))
 | .last src g ifs m,C,X,G,elt,gens,sc,pos,d,_,p,h=>by
  simp only [okC] at h
  split at h
  ·rename_i t it fs a hd
   simp only [Bool.and_eq_true,decide_eq_true_eq] at h
   obtain ⟨⟨⟨⟨rfl,hi⟩,q⟩,B⟩,he⟩:=h
   have F:gens[d+1]? = some ⟨t,it,fs,0⟩:=by
    have z:(gens.drop (d+1))[0]? = some ⟨t,it,fs,0⟩:=by rw [hd];rfl
    rw [List.getElem?_drop] at z;simpa using z
   have j:gens[d+1+1]? = none:=by
    have z:(gens.drop (d+1))[1]? = none:=by rw [hd];rfl
    rw [List.getElem?_drop] at z;simpa using z
   refine PB.imp (kg G.hx G.calm F (fun g' z=>by rw [j] at z;cases z) (sI src G _ t hi).1 (sG G g t q) (di (p:=p) G (bh (mE G.mono m)) (mTl G.mono ifs) (PB.imp (jw G.hx (sE m G elt he) j) (fA (mE G.mono m))) (sTl ifs G fs B)) (sI src G _ t hi).2) (gL (mI G.mono src) (aJ (bh (mE G.mono m)) (mTl G.mono ifs)))
  ·cases h
 | .more src g ifs rest,C,X,G,elt,gens,sc,pos,d,_,p,h=>by
  simp only [okC] at h
  split at h
  ·rename_i t it fs a g2 gs hd
   simp only [Bool.and_eq_true,decide_eq_true_eq] at h
   obtain ⟨⟨⟨⟨rfl,hi⟩,q⟩,B⟩,he⟩:=h
   have F:gens[d+1]? = some ⟨t,it,fs,0⟩:=by
    have z:(gens.drop (d+1))[0]? = some ⟨t,it,fs,0⟩:=by rw [hd];rfl
    rw [List.getElem?_drop] at z;simpa using z
   have j:gens[d+1+1]? = some g2:=by
    have z:(gens.drop (d+1))[1]? = some g2:=by rw [hd];rfl
    rw [List.getElem?_drop] at z;simpa using z
   have L:gens.drop (d+1+1)=g2::gs:=by
    have z:(gens.drop (d+1)).drop 1=g2::gs:=by rw [hd];rfl
    rw [List.drop_drop] at z;simpa using z
   have J:∀ g',gens[d+1+1]? = some g'->g'.is_async=0:=fun g' z=>by
    rw [j] at z;cases z
    exact fK he
   refine PB.imp (kg G.hx G.calm F J (sI src G _ t hi).1 (sG G g t q) (di (p:=p) G (mCl G.mono rest) (mTl G.mono ifs) (sCl rest G elt gens sc pos (d+1) (.inr rfl) p (by rw [L];exact he)) (sTl ifs G fs B)) (sI src G _ t hi).2) (gL (mI G.mono src) (aJ (mCl G.mono rest) (mTl G.mono ifs)))
  ·cases h
end
end
end
section
section
variable {Φ:Phi} {k:Nat} {C:Ctx} {X:Cx}
theorem xa {sc:Scope} {ts vs:List Expr} {kk j:Nat} {pp p2:Pos} {env:Env} (hs:env.scope=sc) (q:sc.kind = .function) (h:r6 sc ts vs=true):swappedStores [.Tuple ts kk pp] (.Tuple vs j p2) env=pure none:=by
 have z:env.blockKind = .function:=by unfold Env.blockKind;rw [hs,q];rfl
 have h':r6 sc ts vs=true:=h
 unfold swappedStores
 dsimp only
 rw [z]
 by_cases c1:(!(ts.length==2 || ts.length==3) || vs.length != ts.length)=true
 ·simp only [c1,Bool.true_or,if_true]
 ·simp only [Bool.not_eq_true] at c1
  rw [c1]
  simp only [Bool.false_or,bne_self_eq_false,Bool.false_eq_true,if_false]
  split
  ·rfl
  ·
    generalize B:List.filterMap _ ts=L
    obtain rfl:L=aT sc ts:=by
     rw [<- B]
     unfold aT
     congr 1
     funext x
     cases x <;> first | rfl | (unfold Env.kindOf;rw [hs])
    unfold r6 at h'
    rw [c1] at h'
    simp only [Bool.false_or,Bool.or_eq_true] at h'
    by_cases c3:((aT sc ts).length != ts.length || (aT sc ts).eraseDups.length != (aT sc ts).length)=true
    ·rw [if_pos c3]
    ·rw [if_neg c3]
     have F:vs.all (foldedForSure 8)=true:=by
      rcases h' with h' | h'
      ·exact absurd (Bool.or_eq_true _ _ |>.mpr h') c3
      ·exact h'
     rw [if_pos F]
theorem zK {sc:Scope} {ts vs:List Expr} {ns:List Str} {kk j:Nat} {pp p2:Pos} {env:Env} (hs:env.scope=sc) (q:sc.kind = .function) (h:r9 sc ts vs ns=true):swappedStores [.Tuple ts kk pp] (.Tuple vs j p2) env=pure (some ns):=by
 have B:env.blockKind = .function:=by unfold Env.blockKind;rw [hs,q];rfl
 simp only [r9,Bool.and_eq_true,Bool.not_eq_true',decide_eq_true_eq] at h
 obtain ⟨⟨⟨⟨⟨F,G⟩,J⟩,O⟩,U⟩,Y⟩:=h
 unfold swappedStores
 dsimp only
 rw [B,F]
 simp only [Bool.false_or,bne_self_eq_false,Bool.false_eq_true,if_false]
 split
 ·next z=>exact absurd z (by rw [Bool.not_eq_true];exact G)
 ·generalize Z:List.filterMap _ ts=L
  obtain rfl:L=aT sc ts:=by
   rw [<- Z]
   unfold aT
   congr 1
   funext x
   cases x <;> first | rfl | (unfold Env.kindOf;rw [hs])
  rw [O,U,Y,J]
  rfl
theorem pj {C:Ctx} {i:Nat} {x:Str} (h:r8 C i x=true):C.N[i]? = some x/\C.sc.names.lookup x=some .local:=by
 simpa [r8] using h
theorem cw {tg e:Expr} {l:Nat} {env:Env} {b:Bool} (h:swapsWith e (some tg) l env=pure b):swapsWithSole [tg] e l env=pure b:=by
 unfold swapsWithSole
 exact h
theorem pq {sc:Scope} {tg e:Expr} {env:Env} (hs:env.scope=sc) (j:sc.kind = .function) (h:gn sc tg e=true):swappedStores [tg] e env=pure none:=by
 cases tg with
 | Tuple ts kk pp =>
   cases e with
   | Tuple vs q p2=>exact xa hs j h
   | _=>rfl
 | _=>first | rfl | (simp [gn] at h;done)
theorem nK {elt:Expr} {gens:List Comprehension} {s sc:Scope} {pos px:Pos} {x:Str} {l:Nat} {env:Env} (hs:env.scope=sc) (j:sc.kind = .function) :
 swapsWith (.ListComp elt gens s pos) (some (.Name x px)) l env=pure (rf sc x px (.ListComp elt gens s pos)):=by
 have q:env.blockKind = .function:=by unfold Env.blockKind;rw [hs,j];rfl
 unfold swapsWith
 dsimp only
 rw [q]
 unfold rf Env.kindOf
 rw [hs]
 rfl
theorem u7 {ek ev:Expr} {gens:List Comprehension} {s sc:Scope} {pos px:Pos} {x:Str} {l:Nat} {env:Env} (hs:env.scope=sc) (j:sc.kind = .function) :
 swapsWith (.DictComp ek ev gens s pos) (some (.Name x px)) l env=pure (sc.names.lookup x==some .local&&px.line==(Expr.DictComp ek ev gens s pos).pos.line && !(s.names.any fun (n,k)=>n==x&&(k == .local || k == .cell))):=by
 have q:env.blockKind = .function:=by unfold Env.blockKind;rw [hs,j];rfl
 unfold swapsWith
 dsimp only
 rw [q]
 unfold Env.kindOf
 rw [hs]
 rfl
mutual
theorem sS:∀ (m:MS) (G:Good C Φ k X) (q:C.sc.kind = .function) (s:Stmt),okS m C s=true->PS X s (lS X.K (wS Φ m))
 | .asgL gs m,G,q,s,h=>by
  simp only [okS] at h
  split at h
  ·simp only [Bool.and_eq_true] at h
   obtain ⟨⟨⟨F,he⟩,J⟩,O⟩:=h
   obtain ⟨a,b⟩:=ie (env:=X.env) F
   exact PS.imp (lH (sE m G _ he) (Br G.calm (jK F) (sGs G gs _ F) a b) (cw (gp O)) (pq G.sc q J) rfl) (tV (mE G.mono m))
  ·cases h
 | .asg g m,G,q,s,h=>by
  simp only [okS] at h
  split at h
  ·rename_i tg e pos
   simp only [Bool.and_eq_true] at h
   obtain ⟨⟨⟨F,he⟩,J⟩,O⟩:=h
   have hw:=pq G.sc q J
   have pg:=sG G g tg F
   have plain:swapsWithSole [tg] e pos.line X.env=pure false->PS X (.Assign [tg] e pos) (lS X.K (gZ (wE Φ m) (bG g))):=fun hs =>
    PS.imp (lH (sE m G e he) pg hs hw (by cases tg <;> first | rfl | (simp [gn] at J;done))) (wf (mE G.mono m))
   cases tg with
   | Tuple ts a b=>exact plain (cw (gp O))
   | Name x px =>
     cases e with
     | ListComp elt gens sc cpos =>
       by_cases sw:rf C.sc x px (.ListComp elt gens sc cpos)=true
       ·cases g with
        | tup gs=>simp [okG] at F
        | name i =>
          cases m with
          | comp fr N' c =>
            simp only [okE,Bool.and_eq_true] at he
            have B:aV sc X.env.scope X.N N' fr:=by rw [G.sc,G.N];exact jc he.1
            have B':aV sc C.sc C.N N' fr:=jc he.1
            have Z:PG X (.Name x px) (im i):=by
             simp only [okG,Bool.and_eq_true] at F
             exact oH G.nd (by rw [G.N];exact of_decide_eq_true F.1.1) (G.loc F.1.2) (G.own F.2)
            have Dv:∀ l,swapsWith (.ListComp elt gens sc cpos) (some (.Name x px)) l X.env=pure true:=fun l=>by rw [nK G.sc q,sw]
            have mc:=mCmp G.mono fr c
            cases c with
            | last src g ifs m =>
              have h2:=he.2
              simp only [okC] at h2
              split at h2
              ·rename_i t it fs a
               simp only [Bool.and_eq_true,decide_eq_true_eq] at h2
               obtain ⟨⟨⟨⟨rfl,hi⟩,U⟩,ht⟩,L⟩:=h2
               refine PS.imp (iG (i:=i) (g:=lG X.K (bG g)) (wi:=lI X.K (wI Φ src)) G.calm G.hx B (fun g' z=>by simp at z) (sI src G _ t hi).1 (fun s H fp=>sG (G.blk B' s H fp) g t U) (tb:=fun p=>lC X.K p (ba (wTl Φ ifs) (dI (wE Φ m)))) (fun s H fp p => ?_) (sI src G _ t hi).2 Z (Dv _)) fun D σ H h => ?_
               ·have G':=G.blk B' s H fp
                exact di (p:=p) G' (bh (mE G.mono m)) (mTl G.mono ifs) (PB.imp (jw G'.hx (sE m G' elt L) rfl) (fA (mE G.mono m))) (sTl ifs G' fs ht)
               ·exact dJ (mI G.mono src) (aJ (bh (mE G.mono m)) (mTl G.mono ifs)) σ H _ (kw mc D σ H h)
              ·cases h2
            | more src g ifs rest =>
              have h2:=he.2
              simp only [okC] at h2
              split at h2
              ·rename_i t it fs a g2 gs
               simp only [Bool.and_eq_true,decide_eq_true_eq] at h2
               obtain ⟨⟨⟨⟨rfl,hi⟩,U⟩,ht⟩,L⟩:=h2
               have Dw:∀ g',(g2::gs)[0]? = some g'->g'.is_async=0:=fun g' z=>by
                have z':g2=g':=by simpa using z
                subst z'
                exact fK L
               refine PS.imp (iG (i:=i) (g:=lG X.K (bG g)) (wi:=lI X.K (wI Φ src)) G.calm G.hx B Dw (sI src G _ t hi).1 (fun s H fp=>sG (G.blk B' s H fp) g t U) (tb:=fun p=>lC X.K p (ba (wTl Φ ifs) (wCl Φ rest))) (fun s H fp p => ?_) (sI src G _ t hi).2 Z (Dv _)) fun D σ H h => ?_
               ·have G':=G.blk B' s H fp
                exact di (p:=p) G' (mCl G.mono rest) (mTl G.mono ifs) (sCl rest G' elt (⟨t,it,fs,0⟩::g2::gs) sc cpos 0 (.inl rfl) p L) (sTl ifs G' fs ht)
               ·exact dJ (mI G.mono src) (aJ (mCl G.mono rest) (mTl G.mono ifs)) σ H _ (kw mc D σ H h)
              ·cases h2
          | _=>simp [okE,i9,dO,cOf,lq,lr,qZ,eU,bB,cm,eC,Bw] at he
       ·refine plain ?_
        simp only [Bool.not_eq_true] at sw
        refine cw ?_
        rw [nK G.sc q,sw]
     | SetComp _ _ _ _=>cases m <;> simp [okE,i9,dO,cOf,lq,lr,qZ,eU,bB,cm,eC,Bw] at he
     | DictComp _ _ _ _ _ =>
       refine plain (cw ?_)
       rw [u7 G.sc q]
       unfold By at O
       simp only [Bool.not_eq_true'] at O
       rw [O]
     | _=>exact plain (cw rfl)
   | _=>simp [gn] at J
  ·cases h
 | .par i j a b,G,q,s,h=>by
  simp only [okS] at h
  split at h
  ·next t u e f hp =>
   split at h
   ·next x hx =>
    split at h
    ·next y hy =>
     obtain ⟨k,p,k',p',pos,rfl⟩:=wW hp
     obtain ⟨px,rfl⟩:=gm hx
     obtain ⟨py,rfl⟩:=gm hy
     simp only [Bool.and_eq_true,decide_eq_true_eq] at h
     obtain ⟨⟨⟨⟨⟨⟨⟨hi,hj⟩,Dx⟩,n1⟩,n2⟩,J⟩,hb⟩,hw⟩:=h
     obtain ⟨i1,i2⟩:=pj hi
     obtain ⟨j1,j2⟩:=pj hj
     exact PS.imp (AB G.calm G.nd (by rw [G.N];exact i1) (by rw [G.N];exact j1) Dx (by rw [G.sc];exact i2) (by rw [G.sc];exact j2) (bZ (mE G.mono a) (aG (mE G.mono b) aF) (sE a G _ J) (bZ (mE G.mono b) aF (sE b G _ hb) dY (am n2)) (am n1)) (zK G.sc q hw) (cw rfl)) (tq (aG (mE G.mono a) (aG (mE G.mono b) aF)))
    ·cases h
   ·cases h
  ·cases h
 | .put o i m,G,q,s,h=>by
  simp only [okS] at h
  split at h
  ·rename_i x y tp e pos
   simp only [Bool.and_eq_true] at h
   obtain ⟨⟨⟨⟨Y,O⟩,ho⟩,hi⟩,he⟩:=h
   exact Bl (by have:=G.units;lia) (mE G.mono m) (mE G.mono o) (mE G.mono i) (sE m G e he) (sE o G x ho) (sE i G y hi) (cw (gp O)) rfl (fun v=>by cases y <;> first | rfl | (simp [cr] at Y;done))
  ·cases h
 | .augI o i op m,G,q,s,h=>by
  simp only [okS] at h
  split at h
  ·rename_i x y tp o' e pos
   simp only [Bool.and_eq_true,decide_eq_true_eq] at h
   obtain ⟨⟨⟨⟨⟨rfl,Dy⟩,Y⟩,ho⟩,hi⟩,he⟩:=h
   have hu:X.A.units+1 < cLine:=by have:=G.units;lia
   have J:∀ ov iv new,augStore y ov iv new=(do holding [new,ov,iv] (setItem ov iv new);release [new,ov,iv] [];pure .next):=fun ov iv new=>by cases y <;> first | rfl | (simp [cr] at Y;done)
   cases op with
   | add=>exact jF hu (mE G.mono o) (mE G.mono i) (mE G.mono m) ky (sE o G x ho) (sE i G y hi) (sE m G e he) t9 J
   | sub=>exact jF hu (mE G.mono o) (mE G.mono i) (mE G.mono m) kz (sE o G x ho) (sE i G y hi) (sE m G e he) tf J
   | mul=>exact jF hu (mE G.mono o) (mE G.mono i) (mE G.mono m) kA (sE o G x ho) (sE i G y hi) (sE m G e he) tm J
   | _=>simp at Dy
  ·cases h
 | .drop m,G,q,s,h=>by
  simp only [okS] at h
  split at h
  ·simp only [Bool.and_eq_true] at h
   exact PS.imp (yr (sE m G _ h.2) (gp h.1)) (t8 (mE G.mono m))
  ·cases h
 | .ret m,G,q,s,h=>by
  simp only [okS] at h
  split at h
  ·rw [wS]
   exact PS.imp (Aw (sE m G _ h)) (we (mE G.mono m))
  ·cases h
 | .ite c a b,G,q,s,h=>by
  simp only [okS] at h
  split at h
  ·simp only [Bool.and_eq_true] at h
   exact PS.imp (C9 (sT c G _ h.1.1) (sSs a G q _ h.1.2) (sSs b G q _ h.2)) (zp (mT G.mono c))
  ·cases h
 | .for g src b,G,q,s,h=>by
  simp only [okS] at h
  split at h
  ·simp only [Bool.and_eq_true] at h
   obtain ⟨⟨⟨hs,F⟩,hi⟩,hb⟩:=h
   exact PS.imp (AE (fun e s z=>(G.hx e s z).elim) G.calm (sI src G _ _ hi).1 (sG G g _ F) (sSs b G q _ hb) (u6 hs)) (wg (mI G.mono src) (mSs G.mono b))
  ·cases h
 | .while c b,G,q,s,h=>by
  simp only [okS] at h
  split at h
  ·simp only [Bool.and_eq_true] at h
   exact PS.imp (uX (fun e s z=>(G.hx e s z).elim) (sT c G _ h.1) (sSs b G q _ h.2)) (qJ (mT G.mono c) (mSs G.mono b))
  ·cases h
 | .frz i m,G,q,s,h=>by
  simp only [okS] at h
  exact Bs (sS m G q s h)
 | .pass,G,q,s,h=>by
  simp only [okS] at h
  split at h
  ·exact PS.imp yq ku
  ·cases h
 | .brk,G,q,s,h=>by
  simp only [okS] at h
  split at h
  ·exact PS.imp uV qI
  ·cases h
 | .cnt,G,q,s,h=>by
  simp only [okS] at h
  split at h
  ·exact PS.imp ot t7
  ·cases h
theorem sSs:∀ (m:MSs) (G:Good C Φ k X) (j:C.sc.kind = .function) (s:List Stmt),okSs m C s=true->PSs X s (lS X.K (wSs Φ m))
 | .nil,G,j,s,h=>by
  simp [okSs] at h;subst h
  exact PSs.imp yp ku
 | .cons m r,G,j,[],h=>by simp [okSs] at h
 | .cons m r,G,j,s::ss,h=>by
  simp only [okSs,Bool.and_eq_true] at h
  exact PSs.imp (uU (sS m G j s h.1) (sSs r G j ss h.2)) (wd (mS G.mono m) (mSs G.mono r))
end
end
end
section
structure FD where
 name:Str
 st:Stmt
 N:List Str
 np:Nat
 body:MSs
noncomputable def eD (N:List Str) (ds:List D):ao:=ds.map some++List.replicate (N.length - ds.length) none
noncomputable def phi (T:List FD):Nat->Phi
 | 0=>fun _ _ _ _=>False
 | k+1=>fun f ds M Q => ∃ d,T[f]? = some d/\ds.length=d.np/\wSs (phi T k) d.body { nx:=fun _ M'=>Q .non M',rt:=Q } (eD d.N ds) M
theorem ig (T:List FD):∀ k f,aS (phi T k f)
 | 0,f=>fun _ _ _ _ _ q=>q.elim
 | k+1,f=>fun ds M Q Q' h ⟨d,e,l,q⟩=>⟨d,e,l,mSs (ig T k) d.body { nx:=fun _ M'=>Q .non M',rt:=Q } { nx:=fun _ M'=>Q' .non M',rt:=Q' } _ _ ⟨fun _ M' q'=>h _ _ q',h,fun _ _ z=>z,fun _ _ z=>z⟩ q⟩
noncomputable def rj (Γ:List Str) (cs:List (Str×D)) (d:FD):Bool :=
 decide ((av d.st).kind = .function) && !(av d.st).isCoroutine && !(av d.st).isGenerator&&decide (d.N.Nodup)&&decide (d.np<=d.N.length)
  && (d.N.take d.np).all (fun x=>(av d.st).names.lookup x==some .local || (av d.st).names.lookup x==some .cell)
  && (av d.st).names.all (fun y => !(y.2 == .free))&&okSs d.body ⟨Γ,d.N,av d.st,d.N,cs⟩ (bF d.st)
theorem xb {Γ:List Str} {cs:List (Str×D)} {d:FD} (h:rj Γ cs d=true):fS d.N (d.N.take d.np) (av d.st)/\(d.N.take d.np).length=d.np/\okSs d.body ⟨Γ,d.N,av d.st,d.N,cs⟩ (bF d.st)=true:=by
 simp only [rj,Bool.and_eq_true,decide_eq_true_eq,Bool.not_eq_true'] at h
 obtain ⟨⟨⟨⟨⟨⟨⟨h1,h2⟩,q⟩,B⟩,O⟩,F⟩,G⟩,J⟩:=h
 have j:(d.N.take d.np).length=d.np:=by rw [List.length_take];lia
 refine ⟨⟨h1,h2,q,B,by rw [j],fun x hx => ?_,fun y L e => ?_⟩,j,J⟩
 ·have z:=List.all_eq_true.mp F x hx
  simpa using z
 ·have z:=List.all_eq_true.mp G y L
  rw [e] at z
  simp at z
section
variable {P:Program} {w:World} {K:Frag} {mg:Str->Option Value} {base:Heap}
structure y7 (K:Frag) (mg:Str->Option Value) (T:List FD) (cs:List (Str×D)):Prop where
 blt:∀ x∈bltNames,mg x=none
 fns:∀ (i:Nat) (d:FD),T[i]? = some d -> ∃ f fd,Fun K d.name d.name d.st f fd/\mg d.name=some (.ref f)/\Binds K fd (d.N.take d.np) []
 ok:∀ d∈T,rj (T.map (·.name)) cs d=true
 cst:∀ x d,(x,d)∈cs -> ∃ u,mg x=some u/\GV K d u
theorem u8 {T:List FD} {cs:List (Str×D)} (O:y7 K mg T cs):∀ (k i:Nat) (d:FD) (f:Addr) (fd:FuncData),T[i]? = some d->Fun K d.name d.name d.st f fd->dm P w K mg base CX0 k f fd (d.N.take d.np) (lSp K (phi T k i))
 | 0,i,d,f,fd,e,F=>⟨fun vs H Q E h=>by obtain ⟨ds,M,_,_,q⟩:=h;exact q.elim,fun A outer s H args us vs Q E _ _ _ _ h=>by obtain ⟨ds,M,_,_,q⟩:=h;exact q.elim⟩
 | k+1,i,d,f,fd,e,F=>by
   obtain ⟨S,hl,hb⟩:=xb (O.ok d (List.mem_of_getElem? e))
   refine F.ok S (fun vs H Q E h => ?_) fun cdv A outer s H vs Q E hr h => ?_
   ·obtain ⟨ds,M,rm,rs,d',e',l,q⟩:=h
    rw [e] at e';cases e'
    rw [rs.length,l,hl]
   ·obtain ⟨ds,M,rm,rs,d',e',l,q⟩:=h
    rw [e] at e';cases e'
    have G:Good ⟨T.map (·.name),d.N,av d.st,d.N,cs⟩ (phi T k) k ((gP CX0 P w K mg base d.N d.name (av d.st) f cdv A outer s H E).nox):=by
     refine ⟨fun _ _ z=>z,rfl,rfl,rfl,S.nd,fun _ _=>rfl,hr,O.blt,fun j x hx => ?_,ig T k,O.cst⟩
     have B:(T.map (·.name))[j]? = some x:=hx
     rw [List.getElem?_map] at B
     cases Y:T[j]? with
     | none=>rw [Y] at B;cases B
     | some d2 =>
       rw [Y] at B;cases B
       obtain ⟨f2,U,Z,m2,b2⟩:=O.fns j d2 Y
       exact ⟨f2,U,_,m2,Z.kp,b2,u8 O k j d2 f2 U Y Z⟩
    refine ⟨_,sSs d.body G S.kind _ hb,eD d.N ds,M, { nx:=fun _ M'=>KE' K M H Q .non M',rt:=KE' K M H Q }, ?_,rm,⟨fun ρ M' σ H' x rs' rm' q' => ?_,fun d M' v H' x rm' rd' q'=>q' v H' x rm' rd',fun _ _ _ _ _ _ _ z=>z,fun _ _ _ _ _ _ _ z=>z⟩,q⟩
    ·refine ⟨by simp [cC,eD,rs.length],fun j dd J => ?_⟩
     unfold eD at J
     unfold cC
     by_cases L:j < ds.length
     ·rw [List.getElem?_append_left (by simpa using L),List.getElem?_map] at J
      cases e3:ds[j]? with
      | none=>rw [e3] at J;cases J
      | some z =>
        rw [e3] at J;cases J
        obtain ⟨v,hv,rv⟩:=rs.get e3
        refine ⟨v, ?_,rv⟩
        rw [List.getElem?_append_left (by rw [List.length_map,rs.length];exact L),List.getElem?_map,hv];rfl
     ·rw [List.getElem?_append_right (by simpa using L),List.getElem?_replicate] at J
      split at J <;> cases J
    ·exact q' .non H' x rm' (RD.non_iff.mpr rfl)
theorem BB {T:List FD} {k i:Nat} {H:Hp} {a:Addr} {ns:List Int} (B:qp H) (F:SqL K H a (ns.map V.int)) (h:phi T k i [.con (ns.map D.int)] (fun _=>none) fun d _=>d = .bl true) :
 lSp K (phi T k i) [.ref a] H (fun v _=>v = .bl true) fun _ _ _=>False:=by
 have j:RM K (fun _=>none) H:=fun _ _ z=>by cases z
 refine ⟨[.con (ns.map D.int)],fun _=>none,j,RDs.cons (RD.con_iff.mpr ⟨a,ns.map V.int,rfl, ?_,RDs.ints ns⟩) RDs.nil,ig T k i [.con (ns.map D.int)] (fun _=>none) (fun d _=>d = .bl true) (KE' K (fun _=>none) H fun v _=>v = .bl true) (fun d M' e=>fun v H' x rm rd => ?_) h⟩
 ·rcases F with (z | ⟨o,z⟩) | z
  ·rcases B a with q | ⟨o,xs,q⟩
   ·rw [z] at q;cases q
   ·rw [z] at q;cases q
  ·exact .inl ⟨o,z⟩
  ·exact .inr z
 ·subst e
  exact RD.bl_iff.mp rd
end
theorem CJ (us:List Value) (h:us.length=0):us=[]:=List.length_eq_zero_iff.mp h
theorem cW (us:List Value) (h:us.length=1):∃ a,us=[a]:=List.length_eq_one_iff.mp h
theorem bv (us:List Value) (h:us.length=2):∃ a b,us=[a,b]:=by
 cases us with
 | nil=>cases h
 | cons a us=>obtain ⟨b,rfl⟩:=cW us (Nat.succ.inj h);exact ⟨a,b,rfl⟩
theorem ls (us:List Value) (h:us.length=3):∃ a b c,us=[a,b,c]:=by
 cases us with
 | nil=>cases h
 | cons a us=>obtain ⟨b,c,rfl⟩:=bv us (Nat.succ.inj h);exact ⟨a,b,c,rfl⟩
theorem CK (us:List Value) (h:us.length=4):∃ a b c d,us=[a,b,c,d]:=by
 cases us with
 | nil=>cases h
 | cons a us=>obtain ⟨b,c,d,rfl⟩:=ls us (Nat.succ.inj h);exact ⟨a,b,c,d,rfl⟩
end
section
theorem BC {T:List FD} {k f:Nat} {d:FD} {ds:List D} {M:Mem} {Q:QD} (e:T[f]? = some d) (l:ds.length=d.np) {ρ:ao} (r:eD d.N ds = ρ)
 (h:wSs (phi T k) d.body { nx:=fun _ M'=>Q .non M',rt:=Q } ρ M):phi T (k+1) f ds M Q:=⟨d,e,l,by rw [r];exact h⟩
theorem ar {T:List FD} {n f:Nat} {d:FD} {ds:List D} {M:Mem} {Q:QD} (j : 1<=n) (e:T[f]? = some d) (l:ds.length=d.np) {ρ:ao} (r:eD d.N ds = ρ)
 (h:wSs (phi T (n - 1)) d.body { nx:=fun _ M'=>Q .non M',rt:=Q } ρ M):phi T n f ds M Q:=by
 obtain ⟨k,rfl⟩:∃ k,n=k+1:=⟨n - 1,by lia⟩
 exact BC e l r h
theorem zL {Φ:Phi} {D:b8} {ρ:ao} {M:Mem}:wSs Φ .nil D ρ M=D.nx ρ M:=by rw [wSs];rfl
theorem bW {Φ:Phi} {s:MS} {r:MSs} {D:b8} {ρ:ao} {M:Mem}:wSs Φ (.cons s r) D ρ M=wS Φ s { D with nx:=wSs Φ r D } ρ M:=by rw [wSs];rfl
theorem pv {ds:List D} {y:D} {M:Mem} {Q:QD}:wIx (.tup ds) y M Q = ∃ i d,y = .int i/\atI ds i=some d/\Q d M:=rfl
theorem pA {ds:List D} {y:D} {M:Mem} {Q:QD}:wIx (.con ds) y M Q = ∃ i d,y = .int i/\atI ds i=some d/\Q d M:=rfl
theorem bD {a:Addr} {i:Int} {ds:List D} {d:D} {M:Mem} {Q:QD} (h:M a=some (.lst ds)) (e:atI ds i=some d) (q:Q d M):wIx (.ref a) (.int i) M Q := .inl ⟨ds,i,d,h,rfl,e,q⟩
theorem bX {a:Addr} {i:Int} {ds:List D} {v:D} {j:Nat} {M:Mem} {Q:Mem->Prop} (h:M a=some (.lst ds)) (e:ixN ds.length i=some j) (q:Q (af M a (.lst (ds.set j v)))):eP (.ref a) (.int i) v M Q:=⟨a,rfl, .inl ⟨ds,i,j,rfl,h,e,q⟩⟩
theorem ag {a:Addr} {ds:List D} {M:Mem} (h:M a=some (.lst ds)):al M (.ref a)=some ds:=by simp only [al,h]
theorem BD {i:Int} {M:Mem} {Q:QD}:mv [.int i] M Q=Q (.int i) M:=by
 apply propext;constructor
 ·rintro (⟨j,e,q⟩ | ⟨k,e,q⟩)
  ·cases e;exact q
  ·cases e
 ·exact fun q => .inl ⟨i,rfl,q⟩
theorem BE {b:Bool} {M:Mem} {Q:QD}:mv [.bl b] M Q=Q (.int (if b then 1 else 0)) M:=by
 apply propext;constructor
 ·rintro (⟨j,e,q⟩ | ⟨k,e,q⟩)
  ·cases e
  ·cases e;exact q
 ·exact fun q => .inr ⟨b,rfl,q⟩
theorem CL {i j:Int} {M:Mem} {Q:QD}:wEq (.int i) (.int j) M Q=Q (.bl (i==j)) M:=by
 simp [wEq,rb,PyData.eqv]
theorem CM {i j:Int} {M:Mem} {Q:QD}:wNe (.int i) (.int j) M Q=Q (.bl (!(i==j))) M:=by
 simp [wNe,rb,PyData.eqv]
theorem u9 {i j:Int} {M:Mem} {Q:QD}:gU (.int i) (.int j) M Q=Q (.int (i+j)) M:=rfl
theorem ua {a b:List D} {M:Mem} {Q:QD}:gU (.tup a) (.tup b) M Q=((a≠[]∨True)/\a.length+b.length<=sizeLine/\Q (.tup (a++b)) M):=rfl
theorem ub {i j:Int} {M:Mem} {Q:QD}:qt (.int i) (.int j) M Q=Q (.int (i - j)) M:=rfl
theorem uc {i j:Int} {M:Mem} {Q:QD}:jz (.int i) (.int j) M Q=(MulOk i j/\Q (.int (i*j)) M):=rfl
theorem ud {ds:List D} {k:Int} {M:Mem} {Q:QD}:jz (.tup ds) (.int k) M Q=(-(2 ^ 63)<=k/\k < 2 ^ 63/\ds.length*k.toNat<=sizeLine/\Q (.tup (List.replicate k.toNat ds).flatten) M):=rfl
theorem pB {i j:Int} {M:Mem} {Q:QD}:lf (.int i) (.int j) M Q=(0 < j/\j < 2 ^ 256/\Q (.int (i / j)) M):=rfl
theorem ue {i j:Int} {M:Mem} {Q:QD}:qu (.int i) (.int j) M Q=(0 < j/\Q (.int (i % j)) M):=rfl
theorem uf {i j:Int} {M:Mem} {Q:QD}:qv (.int i) (.int j) M Q=(0<=j/\j<=1000000/\i.natAbs < 2 ^ 64/\Q (.int (i ^ j.toNat)) M):=rfl
theorem y8 {i j:Int} {M:Mem} {Q:QD}:wLt (.int i) (.int j) M Q=Q (.bl (decide (i < j))) M:=rfl
theorem y9 {i j:Int} {M:Mem} {Q:QD}:wLe (.int i) (.int j) M Q=Q (.bl (decide (i<=j))) M:=rfl
theorem rl {i j:Int} {M:Mem} {Q:QD}:wGt (.int i) (.int j) M Q=Q (.bl (decide (j < i))) M:=rfl
theorem ya {i j:Int} {M:Mem} {Q:QD}:wGe (.int i) (.int j) M Q=Q (.bl (decide (j<=i))) M:=rfl
theorem pC {i j:Int} {M:Mem} {Q:QD}:lh (.int i) (.int j) M Q=Q (.int (i+j)) M:=rfl
theorem pE {i j:Int} {M:Mem} {Q:QD}:lj (.int i) (.int j) M Q=Q (.int (i - j)) M:=rfl
theorem pF {i j:Int} {M:Mem} {Q:QD}:lm (.int i) (.int j) M Q=(MulOk i j/\Q (.int (i*j)) M):=rfl
theorem ug {i:Int} {M:Mem} {Q:QD}:qw (.int i) M Q=Q (.int (-i)) M:=rfl
theorem BG {i:Int} {M:Mem} {Q:QD}:mq [.int i] M Q=Q (.int (if i < 0 then -i else i)) M:=by simp [mq]
theorem zM {i j:Int} {M:Mem} {Q:QD}:lg [.int i, .int j] M Q=Q (.int (if j < i then j else i)) M:=by
 apply propext;constructor
 ·rintro ⟨a,b,e,q⟩;cases e;exact q
 ·exact fun q=>⟨i,j,rfl,q⟩
theorem BH {ds:List D} {M:Mem} {Q:QD}:fo [.con ds] M Q=Q (.int ds.length) M:=by simp [fo,jC]
theorem BI {ds:List D} {M:Mem} {Q:QD}:fo [.tup ds] M Q=Q (.int ds.length) M:=by simp [fo,jC]
theorem jd {ds:List D} {M:Mem}:al M (.tup ds)=some ds:=rfl
theorem uh {ds:List D} {M:Mem}:al M (.con ds)=some ds:=rfl
theorem yb {α:Sort _} {a b : α}:(if true=true then a else b)=a:=rfl
theorem yc {α:Sort _} {a b : α}:(if false=true then a else b)=b:=rfl
theorem zN {ta tb:TEd} {ρ:ao} {M:Mem} {R:List D->(Mem->Prop)->Mem->Prop}:mV ta tb ρ M R=ta ρ M fun x j=>tb ρ j fun y M2 => ∃ xs ys,al M2 x=some xs/\al M2 y=some ys/\R (List.zipWith iT xs ys) (fun M=>al M x=some xs/\al M y=some ys) M2:=by
 unfold mV b9
 congr 1;funext x j
 unfold bK
 congr 1;funext y M2
 apply propext;constructor
 ·rintro ⟨x',y',xs,ys,e,q⟩
  cases e;exact ⟨xs,ys,q⟩
 ·rintro ⟨xs,ys,q⟩
  exact ⟨x,y,xs,ys,rfl,q⟩
theorem ui {x y:Str} {M:Mem} {Q:QD}:gU (.str x) (.str y) M Q=(x.length+y.length<=sizeLine/\Q (.str (x++y)) M):=rfl
local macro_rules | `(tactic| walk_at "wp") => `(tactic| ((try dsimp only [wS,wE,wA,wAnds,wOrs,wO,wT,wAndTs,wOrTs,wTl,wI,wCl,wCmp,bG,bGs,opB,opC,opF,opM,qY,opI,gQ,wC,wOp,wUn,bK,b9,wAr,eM,md,mf,mK,iK,iL,mL,iM,mM,iN,wIf,dZ,iP,wSl,iQ,cE,j3,fH,ja,wBM,bQ,fw,bH,mR,mU,iU,fI,iS,dI,ba,df,fX,jx,fY,mY,fB,iW,iX,mZ,sIf,gZ,n0,jb,n6,fC,n8,iY,u9,ua,ui,ub,uc,ud,pB,ue,uf,y8,y9,rl,ya,pC,pE,pF,ug,jd,uh,pv,pA,yb,yc,List.getElem?_cons_zero,List.getElem?_cons_succ,List.set_cons_zero,List.set_cons_succ,Option.bind_some,Option.map_some,Option.join_some,Option.bind_none,Option.join_none,List.map_cons,List.map_nil,List.length_cons,List.length_nil]);(try simp only [wS,wE,wA,wAnds,wOrs,wO,wT,wAndTs,wOrTs,wTl,wI,wCl,wCmp,bG,bGs,opB,opC,opF,opM,qY,opI,gQ,wC,wOp,wUn,bK,b9,wAr,eM,md,mf,mK,iK,iL,mL,iM,mM,iN,wIf,dZ,iP,wSl,iQ,cE,j3,fH,ja,wBM,bQ,fw,bH,mR,mU,zN,iU,fI,iS,dI,ba,df,fX,jx,fY,mY,fB,iW,iX,mZ,sIf,gZ,n0,jb,n6,fC,n8,iY,zL,
 u9,ua,ui,ub,uc,ud,pB,ue,uf,y8,y9,rl,ya,pC,pE,pF,ug,BD,BE,CL,CM,BG,zM,BH,BI,jd,uh,pv,pA,yb,yc,Bool.false_eq_true,if_false,if_true,
 List.getElem?_cons_zero,List.getElem?_cons_succ,List.set_cons_zero,List.set_cons_succ,Option.some.injEq,exists_eq_left',exists_eq_left,exists_eq_right,exists_and_left,exists_and_right,D.bl.injEq,D.int.injEq,D.ref.injEq,D.tup.injEq,Option.bind_some,Option.map_some,Option.join_some,Option.bind_none,Option.join_none,List.map_cons,List.map_nil,decide_eq_true_eq,List.cons.injEq,and_true,true_and,List.length_cons,List.length_nil])))
local macro_rules | `(tactic| walk_at "st") => `(tactic| ((first | rw [bW] | (dsimp only;rw [bW]));walk_at "wp"))
theorem BJ {a:Addr} {t:Bool} {kvs:List (D×D)} {k d:D} {M:Mem} {Q:QD} (h:M a=some (.dct t kvs)) (ok:dG t k=true) (e:dget kvs k=some d) (q:Q d M):wIx (.ref a) k M Q := .inr (.inl ⟨t,kvs,d,h,ok,e,q⟩)
theorem zO {i:Nat} {t:TSd} {A:b8} {ρ:ao} {M:Mem} {a:Addr} {kvs:List (D×D)} (e : ρ[i]? = some (some (.ref a))) (m:M a=some (.dct true kvs)) (h:t A ρ (af M a (.fdc kvs))):qT i t A ρ M:=⟨a,kvs,e, .inl ⟨m,h⟩⟩
theorem nL {a:Addr} {t:Bool} {kvs:List (D×D)} {k v:D} {M:Mem} {Q:Mem->Prop} (h:M a=some (.dct t kvs)) (ok:dG t k=true) (j:kvs.length < sizeLine) (q:Q (af M a (.dct t (dS kvs k v)))):eP (.ref a) k v M Q:=⟨a,rfl, .inr ⟨t,kvs,h,ok,j,q⟩⟩
theorem uj {M:Mem} {a:Addr} {o o':O}:af (af M a o) a o'=af M a o':=by
 funext b;unfold af;split <;> rfl
theorem uk {M:Mem} {a:Addr} {o:O} (h:M a=some o):af M a o=M:=by
 funext b;unfold af;split
 ·next e=>rw [e,h]
 ·rfl
noncomputable def Ge (M M':Mem):Prop := ∀ a o,M a=some o->M' a=some o
theorem Ge.refl {M:Mem}:Ge M M:=fun _ _ h=>h
theorem Ge.trans {M M' M'':Mem} (h:Ge M M') (g:Ge M' M''):Ge M M'':=fun _ _ e=>g _ _ (h _ _ e)
theorem Ge.new {M:Mem} {p:Addr} {o:O} (h:M p=none):Ge M (af M p o):=fun a o' e=>by
 rw [aq (fun z=>by rw [z,h] at e;cases e)];exact e
noncomputable def Box (b:Addr) (M:Mem):Prop := ∃ x y z:Int,M b=some (.lst [.int x, .int y, .int z])
structure Bx (b:Addr) (M M':Mem):Prop where
 box:Box b M'
 keep:∀ a o,a≠b->M a=some o->M' a=some o
theorem Bx.refl {b:Addr} {M:Mem} (h:Box b M):Bx b M M:=⟨h,fun _ _ _ e=>e⟩
theorem Bx.trans {b:Addr} {M M' M'':Mem} (h:Bx b M M') (g:Bx b M' M''):Bx b M M'':=⟨g.box,fun a o n e=>g.keep a o n (h.keep a o n e)⟩
theorem Bx.ge {b:Addr} {M M' M'':Mem} (h:Bx b M M') (g:Ge M' M''):Bx b M M'':=⟨by obtain ⟨x,y,z,e⟩:=h.box;exact ⟨x,y,z,g _ _ e⟩,fun a o n e=>g _ _ (h.keep a o n e)⟩
theorem Bx.put {b:Addr} {M:Mem} {x y z:Int}:Bx b M (af M b (.lst [.int x, .int y, .int z])):=⟨⟨x,y,z,ab⟩,fun a o n e=>by rw [aq n];exact e⟩
theorem Bx.of {b:Addr} {M M':Mem} (h:Box b M) (g:Ge M M'):Bx b M M':=(Bx.refl h).ge g
theorem um {b:BT} {tb:TCd} {chk:Mem->Prop} {N:NC} (I:List D->ao->Mem->List D->Prop) {xs:List D} {ρ:ao} {M:Mem} {acc:List D}
 (h0:I [] ρ M acc)
 (q:∀ l ρ M acc,I l ρ M acc->chk M)
 (hs:∀ l x r ρ M acc,xs=l++x::r->I l ρ M acc -> ∃ ρ',b x ρ = some ρ' /\ ∀ N':NC,(∀ ρ2 M2 j,I (l++[x]) ρ2 M2 j->N' ρ2 M2 j)->tb ρ' M acc N')
 (z:∀ ρ M acc,I xs ρ M acc->N ρ M acc):bS b tb chk N xs ρ M acc:=by
 have g:∀ (r l:List D) (ρ:ao) (M:Mem) (acc:List D),xs=l++r->I l ρ M acc->bS b tb chk N r ρ M acc:=by
  intro r
  induction r with
  | nil=>intro l ρ M acc e i;rw [List.append_nil] at e;subst e;exact ⟨q _ _ _ _ i,z _ _ _ i⟩
  | cons x r ih =>
    intro l ρ M acc e i
    obtain ⟨ρ',B,h⟩:=hs l x r ρ M acc e i
    exact ⟨q _ _ _ _ i, ρ',B,h _ fun ρ2 M2 j F=>ih (l++[x]) ρ2 M2 j (by rw [e];simp) F⟩
 exact g xs [] ρ M acc rfl h0
section
variable {T:List FD}
noncomputable def je (s:Stmt):FD:=⟨"_law_cell_at",s,["_law_script", "_law_k"],2,
 (.cons (.ite (.cmp .lt (.var 1) (.blt .len (.cons (.var 0) .nil))) (.cons (.ret (.ix (.var 0) (.var 1)))
 .nil) .nil)
 (.cons (.ret (.int 0))
 .nil))⟩
theorem xc {α:Type} {xs:List α} {i:Int} (h0 : 0<=i) (h1:i < xs.length):∃ x,atI xs i=some x/\xs[i.toNat]? = some x:=by
 have:i.toNat < xs.length:=by lia
 refine ⟨xs[i.toNat], ?_,List.getElem?_eq_getElem this⟩
 unfold atI ixN
 simp [h0,h1,List.getElem?_eq_getElem this]
theorem zP {f:Nat} {s:Stmt} (hf:T[f]? = some (je s)) {n:Nat} (z : 1<=n) {ns:List Int} {k:Int} {M:Mem} {Q:QD} (h0 : 0<=k) (q:∀ i,Q (.int i) M):phi T n f [.con (ns.map D.int), .int k] M Q:=by
 refine ar z hf rfl (ρ := [some _,some _]) rfl ?_
 unfold je
 walk_at "st"
 split
 ·next h =>
  walk_at "st"
  obtain ⟨x,e,j⟩:=xc (xs:=ns.map D.int) h0 h
  rw [List.getElem?_map] at j
  cases e3:ns[k.toNat]? with
  | none=>rw [e3] at j;cases j
  | some y=>rw [e3] at j;cases j;exact ⟨_,e,q y⟩
 ·walk_at "st"
  exact q 0
theorem b5 {i j:Int} (h : -(2 ^ 64) < i/\i < 2 ^ 64):MulOk i j := .inl h
theorem jL {i j:Int} (h : -(2 ^ 64) < j/\j < 2 ^ 64):MulOk i j := .inr (.inl h)
noncomputable def pG (s:Stmt):FD:=⟨"_law_mixed",s,["_law_number_here", "_law_k", "_law_once", "_law_twice"],2,
 (.cons (.asg (.name 2) (.bin .mod (.bin .mul (.bin .add (.bin .add (.bin .mod (.var 0) (.int 1000000007)) (.bin .mul (.int 7) (.var 1))) (.int 1)) (.int 48271)) (.int 2147483647)))
 (.cons (.asg (.name 3) (.bin .mod (.bin .mul (.var 2) (.bin .add (.bin .add (.bin .mod (.var 2) (.int 1009)) (.var 1)) (.int 3))) (.int 998244353)))
 (.cons (.ret (.bin .fdiv (.bin .mod (.bin .add (.bin .mul (.var 3) (.int 39373)) (.var 2)) (.int 2147483629)) (.int 64)))
 .nil)))⟩
noncomputable def rn (s:Stmt) (fc fm:Nat):FD:=⟨"_law_box",s,["_law_script", "_law_k", "_law_cell"],2,
 (.cons (.asg (.name 2) (.call fc (.cons (.var 0) (.cons (.var 1) .nil))))
 (.cons (.ret (.lst (.cons (.bin .mul (.blt .abs (.cons (.var 2) .nil)) (.blt .int (.cons (.cmp .ge (.blt .abs (.cons (.var 2) .nil)) (.bin .pow (.int 10) (.int 18))) .nil))) (.cons (.call fm (.cons (.var 2) (.cons (.bin .add (.int 900) (.var 1)) .nil))) (.cons (.int 0) .nil)))))
 .nil))⟩
theorem BK {f fc fm:Nat} {s sc:Stmt} (hf:T[f]? = some (rn s fc fm)) (z:T[fc]? = some (je sc)) {n:Nat} (B:∀ {x k:Int} {M:Mem} {Q:QD},(∀ i,Q (.int i) M)->phi T (n - 1) fm [.int x, .int k] M Q) (G : 2<=n) {ns:List Int} {k:Int} {M:Mem} {Q:QD} (h0 : 0<=k)
 (q:∀ p x y,M p=none->Q (.ref p) (af M p (.lst [.int x, .int y, .int 0]))):phi T n f [.con (ns.map D.int), .int k] M Q:=by
 refine ar (by lia) hf rfl (ρ := [some _,some _,none]) rfl ?_
 unfold rn
 walk_at "st"
 refine zP z (by lia) h0 fun i => ?_
 walk_at "st"
 refine ⟨by decide,by decide,by decide,jL ?_, ?_⟩
 ·split <;> lia
 refine B fun j => ?_
 exact ⟨by rw [sizeLine_eq];lia,fun p F=>q p _ _ F⟩
noncomputable def nM (s:Stmt) (fm:Nat):FD:=⟨"_law_take",s,["_law_box_here", "_law_many", "_law_found", "_law_reach"],2,
 (.cons (.ite (.cmp .gt (.ix (.var 0) (.int 0)) (.int 0)) (.cons (.asg (.name 2) (.bin .mod (.ix (.var 0) (.int 0)) (.var 1)))
 (.cons (.put (.var 0) (.int 0) (.bin .fdiv (.ix (.var 0) (.int 0)) (.var 1)))
 (.cons (.ret (.var 2))
 .nil))) .nil)
 (.cons (.asg (.tup (.cons (.name 2) (.cons (.name 3) .nil))) (.tup (.cons (.int 0) (.cons (.int 1) .nil))))
 (.cons (.while (.cmp .lt (.var 3) (.var 1)) (.cons (.put (.var 0) (.int 2) (.bin .add (.ix (.var 0) (.int 2)) (.int 1)))
 (.cons (.asg (.name 2) (.bin .add (.bin .mul (.var 2) (.int 33554432)) (.call fm (.cons (.ix (.var 0) (.int 1)) (.cons (.ix (.var 0) (.int 2)) .nil)))))
 (.cons (.asg (.name 3) (.bin .mul (.var 3) (.int 33554432)))
 .nil))))
 (.cons (.ret (.bin .mod (.var 2) (.var 1)))
 .nil))))⟩
noncomputable def rp (T:List FD) (n fm:Nat):Prop := ∀ {x k:Int} {M:Mem} {Q:QD},(∀ i,Q (.int i) M)->phi T n fm [.int x, .int k] M Q
theorem zQ {f fm:Nat} {s:Stmt} (hf:T[f]? = some (nM s fm)) {n:Nat} (J:rp T (n - 1) fm) (O : 2<=n) {b:Addr} {m:Int} {M:Mem} {Q:QD} (L:Box b M) (h1 : 0 < m) (h2:m<=2 ^ 100)
 (q:∀ r M',0<=r->r < m->Bx b M M'->Q (.int r) M'):phi T n f [.ref b, .int m] M Q:=by
 refine ar (by lia) hf rfl (ρ := [some _,some _,none,none]) rfl ?_
 unfold nM
 obtain ⟨x,y,z,G⟩:=L
 walk_at "st"
 refine bD G (d := .int x) rfl ?_
 simp only [rl]
 walk_at "wp"
 split
 ·next hx =>
  walk_at "st"
  refine bD G (d := .int x) rfl ?_
  walk_at "wp"
  refine ⟨h1, ?_⟩
  walk_at "st"
  refine bD G (d := .int x) rfl ?_
  walk_at "wp"
  refine ⟨h1,by lia, ?_⟩
  refine bX G (j := 0) rfl ?_
  walk_at "st"
  exact q _ _ (Int.emod_nonneg _ (by lia)) (Int.emod_lt_of_pos _ h1) Bx.put
 ·next hx =>
  walk_at "st"
  refine ⟨by rw [sizeLine_eq];lia, ?_⟩
  walk_at "st"
  refine ⟨5, ?_⟩
  have go:∀ (f:Nat) (found reach z:Int) (M':Mem),m<=reach*33554432 ^ f->M' b=some (.lst [.int x, .int y, .int z])->Bx b M M' ->
   aZ (eM (wOp wLt (gQ 3) (gQ 1))) (wSs (phi T (n - 1)) (MSs.cons (MS.put (ME.var 0) (ME.int 2) (ME.bin BOp.add ((ME.var 0).ix (ME.int 2)) (ME.int 1)))
    (MSs.cons (MS.asg (MG.name 2) (ME.bin BOp.add (ME.bin BOp.mul (ME.var 2) (ME.int 33554432)) (ME.call fm (MEs.cons ((ME.var 0).ix (ME.int 1)) (MEs.cons ((ME.var 0).ix (ME.int 2)) MEs.nil)))))
      (MSs.cons (MS.asg (MG.name 3) (ME.bin BOp.mul (ME.var 3) (ME.int 33554432))) MSs.nil))))
    { nx:=wSs (phi T (n - 1)) (MSs.cons (MS.ret (ME.bin BOp.mod (ME.var 2) (ME.var 1))) MSs.nil) { nx:=fun x M'=>Q D.non M',rt:=Q },rt:=Q } (f+1) [some (.ref b),some (.int m),some (.int found),some (.int reach)] M':=by
   intro f
   induction f with
   | zero =>
     intro found reach z M' hm F B
     simp only [aZ]
     walk_at "wp"
     rw [if_neg (by lia)]
     walk_at "st"
     exact ⟨h1,q _ _ (Int.emod_nonneg _ (by lia)) (Int.emod_lt_of_pos _ h1) B⟩
   | succ f ih =>
     intro found reach z M' hm F B
     rw [aZ]
     walk_at "wp"
     split
     ·next U =>
      walk_at "st"
      refine bD F (d := .int z) rfl ?_
      walk_at "wp"
      refine bX F (j := 2) rfl ?_
      walk_at "st"
      refine ⟨jL (by decide), ?_⟩
      refine bD ab (d := .int y) rfl ?_
      refine bD ab (d := .int (z+1)) rfl ?_
      refine J fun i => ?_
      walk_at "wp"
      walk_at "st"
      refine ⟨jL (by decide), ?_⟩
      exact ih _ _ (z+1) _ (by rw [Int.mul_assoc, <- Int.pow_succ'];exact hm) ab (B.trans Bx.put)
     ·walk_at "st"
      exact ⟨h1,q _ _ (Int.emod_nonneg _ (by lia)) (Int.emod_lt_of_pos _ h1) B⟩
  exact go 4 0 1 z M (by lia) G (Bx.refl ⟨x,y,z,G⟩)
noncomputable def uo (T:List FD) (n f:Nat):Prop := ∀ {b:Addr} {m:Int} {M:Mem} {Q:QD},Box b M->0 < m->m<=2 ^ 100->(∀ r M',0<=r->r < m->Bx b M M'->Q (.int r) M')->phi T n f [.ref b, .int m] M Q
end
section
variable {T:List FD}
noncomputable def gu (ns:List Int):Prop := ∀ x∈ns, -1000<=x/\x<=1000
theorem jf {lo:Int} {n:Nat}:(ci lo n).length=n:=by simp [ci]
theorem aH {α:Type} {xs l r:List α} {x : α} (e:xs=l++x::r):l.length < xs.length:=by rw [e];simp
noncomputable abbrev Pr:=List Int×List Int×List Int
noncomputable def prD (p:Pr):D := .tup [.tup (p.1.map .int), .tup (p.2.1.map .int), .tup (p.2.2.map .int)]
noncomputable def cy (p:Pr):PyData := .tuple [.tuple (p.1.map .int), .tuple (p.2.1.map .int), .tuple (p.2.2.map .int)]
structure PrOk (L0 L1 L2:Nat) (p:Pr):Prop where
 l0:p.1.length=L0
 l1:p.2.1.length=L1
 l2:p.2.2.length=L2
 s0:gu p.1
 s1:gu p.2.1
 s2:gu p.2.2
theorem jM {k:Nat} {M:Mem}:∀ ns:List Int,aw (rb k M) (ns.map D.int)=some (ns.map PyData.int)
 | [] => rfl
 | x::r=>by
   have e:rb k M (.int x)=some (.int x):=by cases k <;> rfl
   simp [aw,e,jM r]
theorem CN {k:Nat} {M:Mem} (p:Pr):rb (k+2) M (prD p)=some (cy p):=by
 simp [rb,prD,cy,aw,jM]
theorem nN {k:Nat} {M:Mem}:∀ ps:List Pr,aw (rb (k+2) M) (ps.map prD)=some (ps.map cy)
 | [] => rfl
 | p::r=>by simp [aw,CN,nN r]
theorem jg {k:Nat} {M:Mem} {a:Addr} {ds:List D} (h:M a=some (.lst ds)):rb (k+1) M (.ref a)=(aw (rb k M) ds).map PyData.list:=by
 simp only [rb,h]
theorem xf {Φ:Phi} {s:MS} {r:MSs} {E:b8} {ρ:ao} {M:Mem} (I:ao->Mem->Prop) (h1:∀ R:ao->Mem->Prop,(∀ ρ M,I ρ M->R ρ M)->wS Φ s { E with nx:=R } ρ M) (h2:∀ ρ M,I ρ M->wSs Φ r E ρ M):wSs Φ (.cons s r) E ρ M:=by
 rw [bW];exact h1 _ h2
theorem Bx.upd {b q:Addr} {M M':Mem} {o:O} (h:Bx b M M') (B:M q=none) (j:q≠b):Bx b M (af M' q o) :=
 ⟨by obtain ⟨x,y,z,e⟩:=h.box;exact ⟨x,y,z,by rw [aq j.symm];exact e⟩,fun u o' nu eu=>by
   rw [aq (fun z=>by rw [z,B] at eu;cases eu)];exact h.keep u o' nu eu⟩
theorem Bx.none {b q:Addr} {M M':Mem} (h:Bx b M M') (z:M' q=none) (j:q≠b):M q=none:=by
 cases e:M q with
 | none=>rfl
 | some o=>rw [h.keep q o j e] at z;cases z
theorem rq {k:Nat}:(List.replicate k [D.int 0]).flatten=(List.replicate k (0:Int)).map D.int:=by
 induction k with
 | zero=>rfl
 | succ k ih=>rw [List.replicate_succ,List.flatten_cons,ih];rfl
end
section
theorem aM {α:Type} {f : α -> D} {b:BT} {tb:TCd} {chk:Mem->Prop} {N:NC} (I:List α -> ao->Mem->List D->Prop) {ys:List α} {xs:List D} (hx:xs=ys.map f) {ρ:ao} {M:Mem} {acc:List D}
 (h0:I [] ρ M acc)
 (q:∀ l ρ M acc,I l ρ M acc->chk M)
 (hs:∀ l x r ρ M acc,ys=l++x::r->I l ρ M acc -> ∃ ρ',b (f x) ρ = some ρ' /\ ∀ N':NC,(∀ ρ2 M2 j,I (l++[x]) ρ2 M2 j->N' ρ2 M2 j)->tb ρ' M acc N')
 (z:∀ ρ M acc,I ys ρ M acc->N ρ M acc):bS b tb chk N xs ρ M acc:=by
 subst hx
 have g:∀ (r l:List α) (ρ:ao) (M:Mem) (acc:List D),ys=l++r->I l ρ M acc->bS b tb chk N (r.map f) ρ M acc:=by
  intro r
  induction r with
  | nil=>intro l ρ M acc e i;rw [List.append_nil] at e;subst e;exact ⟨q _ _ _ _ i,z _ _ _ i⟩
  | cons x r ih =>
    intro l ρ M acc e i
    obtain ⟨ρ',B,h⟩:=hs l x r ρ M acc e i
    exact ⟨q _ _ _ _ i, ρ',B,h _ fun ρ2 M2 j F=>ih (l++[x]) ρ2 M2 j (by rw [e];simp) F⟩
 exact g ys [] ρ M acc rfl h0
theorem bE {α:Type} {f : α -> D} {b:BT} {tb:TSd} {chk:Mem->Prop} {E:b8} (I:List α -> ao->Mem->Prop) {ys:List α} {xs:List D} (hx:xs=ys.map f) {ρ:ao} {M:Mem}
 (h0:I [] ρ M)
 (j:∀ l ρ M,I l ρ M->chk M)
 (hs:∀ l x r ρ M,ys=l++x::r->I l ρ M -> ∃ ρ',b (f x) ρ = some ρ' /\ ∀ F:ao->Mem->Prop,(∀ ρ2 M2,I (l++[x]) ρ2 M2->F ρ2 M2)->tb { E with nx:=F,ct:=F,bk:=E.nx } ρ' M)
 (q:∀ ρ M,I ys ρ M->E.nx ρ M):bu b tb chk E xs ρ M:=by
 subst hx
 have g:∀ (r l:List α) (ρ:ao) (M:Mem),ys=l++r->I l ρ M->bu b tb chk E (r.map f) ρ M:=by
  intro r
  induction r with
  | nil=>intro l ρ M e i;rw [List.append_nil] at e;subst e;exact ⟨j _ _ _ i,q _ _ i⟩
  | cons x r ih =>
    intro l ρ M e i
    obtain ⟨ρ',z,h⟩:=hs l x r ρ M e i
    exact ⟨j _ _ _ i, ρ',z,h _ fun ρ2 M2 B=>ih (l++[x]) ρ2 M2 (by rw [e];simp) B⟩
 exact g ys [] ρ M rfl h0
theorem dj {M M':Mem} {x:D} {ds:List D} (h:al M x=some ds) (g:Ge M M'):al M' x=some ds:=by
 cases x with
 | ref a =>
   simp only [al] at h ⊢
   split at h
   ·next e=>rw [g _ _ e];exact h
   ·cases h
 | _=>exact h
theorem nO {M:Mem} {x:D} {ds:List D} (h:al M x=some ds):jC M x=some ds.length:=by
 cases x with
 | ref a =>
   simp only [al] at h
   split at h
   ·next e=>cases h;simp only [jC,e]
   ·cases h
 | tup es=>cases h;rfl
 | con es=>cases h;rfl
 | _=>cases h
theorem pH {M:Mem} {x:D} {ds:List D} {Q:QD} (h:al M x=some ds) (q:Q (.int ds.length) M):fo [x] M Q:=⟨_,_,rfl,nO h,q⟩
theorem zR {M:Mem} {x:D} {ns:List Int} {Q:QD} (h:al M x=some (ns.map .int)) (q:Q (.int ns.sum) M):qD [x] M Q:=⟨_,_,rfl,h,q⟩
theorem eE {α:Type} {xs:List α} {k:Nat} {x : α} (h:xs[k]? = some x):atI xs (k:Int)=some x:=by
 have j:k < xs.length:=(List.getElem?_eq_some_iff.mp h).1
 unfold atI ixN
 rw [if_pos (by lia),if_pos (by lia)]
 exact h
theorem cX {n:Nat}:ci 0 n=(List.range n).map fun i=>D.int (i:Nat):=by simp [ci]
end
section
variable {T:List FD}
noncomputable def Big (ns:List Int):Prop := ∀ x∈ns, -1000000000000<=x/\x<=1000000000000
noncomputable def rA (s:Stmt) (ft:Nat):FD:=⟨"_law_row",s,["_law_box_here", "_law_length", "_law_most"],2,
 (.cons (.asg (.name 2) (.ix (.lst (.cons (.int 9) (.cons (.int 9) (.cons (.int 9) (.cons (.bin .pow (.int 10) (.int 12)) .nil))))) (.call ft (.cons (.var 0) (.cons (.int 4) .nil)))))
 (.cons (.ret (.comp [none,(some 0),(some 2)] ["_law_k", "_law_box_here", "_law_most"] (.last (.rng1 (.var 1)) (.name 0) .nil (.bin .sub (.call ft (.cons (.var 1) (.cons (.bin .add (.bin .mul (.int 2) (.var 2)) (.int 1)) .nil))) (.var 2)))))
 .nil))⟩
noncomputable def yd (T:List FD) (n f:Nat):Prop := ∀ {b:Addr} {L:Nat} {M:Mem} {Q:QD},L<=1000->Box b M ->
 (∀ (ns:List Int) p M',ns.length=L->Big ns->Bx b M M'->M p=none->M' p=some (.lst (ns.map .int))->Q (.ref p) M')->phi T n f [.ref b, .int L] M Q
theorem BL {f ft:Nat} {s:Stmt} (hf:T[f]? = some (rA s ft)) {n:Nat} (F:uo T (n - 1) ft) (hn : 1<=n):yd T n f:=by
 intro b L M Q hL Z q
 refine ar (by lia) hf rfl (ρ := [some _,some _,none]) rfl ?_
 unfold rA
 walk_at "st"
 refine ⟨by decide,by decide,by decide,by rw [sizeLine_eq];lia,fun p hp => ?_⟩
 have g0:=Ge.new (o := .lst [.int 9, .int 9, .int 9, .int (10 ^ (12:Int).toNat)]) hp
 have O:p≠b:=fun z=>by obtain ⟨x,y,w,e⟩:=Z;rw [<- z,hp] at e;cases e
 have x0:=Bx.of Z g0
 refine F x0.box (by decide) (by decide) fun w M1 w0 w1 j => ?_
 have U:=j.keep p _ O ab
 have hw:∃ m:Int,0<=m/\m<=1000000000000/\atI [D.int 9, .int 9, .int 9, .int (10 ^ (12:Int).toNat)] w=some (.int m):=by
  have:w=0∨w=1∨w=2∨w=3:=by lia
  rcases this with rfl | rfl | rfl | rfl
  ·exact ⟨9,by decide,by decide,rfl⟩
  ·exact ⟨9,by decide,by decide,rfl⟩
  ·exact ⟨9,by decide,by decide,rfl⟩
  ·exact ⟨_,by decide,by decide,rfl⟩
 obtain ⟨m,m0,m1,em⟩:=hw
 refine bD U em ?_
 have Y:=x0.trans j
 walk_at "st"
 refine ⟨by lia,by lia, ?_⟩
 refine um (I:=fun l ρ M' acc => ∃ (ns:List Int) (x:Option D),acc=ns.map .int/\ns.length=l.length/\Big ns/\Bx b M M' /\ ρ = [x,some (.ref b),some (.int m)]) ⟨[],none,rfl,rfl,fun _ h=>by simp at h,Y,rfl⟩ (fun _ _ _ _ _=>trivial) ?_ ?_
 ·rintro l x r ρ M1 acc e ⟨ns,o,rfl,J,hs,j,rfl⟩
  refine ⟨_,rfl,fun N' hN => ?_⟩
  walk_at "wp"
  refine ⟨b5 (by decide), ?_⟩
  refine F j.box (by lia) (by lia) fun v M2 h1 h2 x2 => ?_
  walk_at "wp"
  have:=aH e
  rw [jf] at this
  refine ⟨by rw [List.length_map,J,sizeLine_eq];lia,hN _ _ _ ⟨ns++[v - m],_,by simp,by simp [J], ?_,j.trans x2,rfl⟩⟩
  intro y hy
  rcases List.mem_append.mp hy with h | h
  ·exact hs y h
  ·simp at h;subst h;lia
 ·rintro ρ M1 acc ⟨ns,o,rfl,J,hs,j,rfl⟩ p2 B
  rw [jf] at J
  have G:p2≠b:=fun z=>by obtain ⟨x,y,w,e⟩:=j.box;rw [<- z,B] at e;cases e
  exact q ns p2 _ (by lia) hs (j.ge (Ge.new B)) (j.none B G) ab
noncomputable def dot (a b:List Int):Int:=(List.zipWith (· * ·) a b).sum
theorem kO {B:Int}:∀ {l:List Int},(∀ x∈l, -B<=x/\x<=B) -> -(l.length*B)<=l.sum/\l.sum<=l.length*B
 | [],_=>by simp
 | x::r,h=>by
   obtain ⟨h1,h2⟩:=h x (by simp)
   obtain ⟨q,z⟩:=kO (l:=r) fun y j=>h y (by simp [j])
   rw [List.sum_cons,List.length_cons,Int.natCast_add,Int.add_mul]
   lia
theorem uq {x y:Int} (hx : -1000<=x/\x<=1000) (j : -1000000000000<=y/\y<=1000000000000) : -1000000000000000<=x*y/\x*y<=1000000000000000:=by
 have h:(x*y).natAbs<=1000*1000000000000:=by
  rw [Int.natAbs_mul]
  exact Nat.mul_le_mul (by lia) (by lia)
 lia
theorem ur {a b:List Int} (j:gu a) (q:Big b) (z:a.length<=1000) : -(2 ^ 64) < dot a b/\dot a b < 2 ^ 64:=by
 have h:∀ x∈List.zipWith (· * ·) a b, -1000000000000000<=x/\x<=1000000000000000:=by
  intro x hx
  obtain ⟨i,hi,e⟩:=List.mem_iff_getElem.mp hx
  rw [List.getElem_zipWith] at e
  rw [<- e]
  exact uq (j _ (List.getElem_mem _)) (q _ (List.getElem_mem _))
 obtain ⟨h1,h2⟩:=kO h
 have hlen:(List.zipWith (· * ·) a b).length<=1000:=by rw [List.length_zipWith];lia
 unfold dot
 have:((List.zipWith (· * ·) a b).length:Int)*1000000000000000<=1000*1000000000000000:=Int.mul_le_mul_of_nonneg_right (by lia) (by lia)
 lia
theorem nP (a b:List Int):List.zipWith iT (a.map .int) (b.map .int)=(a.zip b).map fun xy => .tup [.int xy.1, .int xy.2]:=by
 rw [List.zipWith_map,List.zip_eq_zipWith,List.map_zipWith];rfl
theorem gN {α β γ:Type} (f : α -> β -> γ) (a:List α) (b:List β):List.zipWith f a b=(a.zip b).map fun xy=>f xy.1 xy.2:=by
 rw [List.zip_eq_zipWith,List.map_zipWith]
theorem ut {a b:List Int} {L:Nat} (j:a.length=L) (q:b.length=L):((List.range L).map fun i=>a.getD i 0*b.getD i 0).sum=dot a b:=by
 unfold dot
 congr 1
 apply List.ext_getElem
 ·simp [j,q]
 ·intro i h1 h2
  have:i < L:=by simpa using h1
  simp [List.getD_eq_getElem?_getD,List.getElem?_eq_getElem (show i < a.length by lia),List.getElem?_eq_getElem (show i < b.length by lia)]
end
section
variable {T:List FD}
noncomputable def nQ (x:Str) (s:Stmt):FD:=⟨"_law_mixed",s,[x, "_law_k", "_law_once", "_law_twice"],2,(pG s).body⟩
theorem uu {f:Nat} {x:Str} {s:Stmt} (hf:T[f]? = some (nQ x s)) {n:Nat} (j : 1<=n):rp T n f:=by
 intro x k M Q q
 refine ar j hf rfl (ρ := [some _,some _,none,none]) rfl ?_
 unfold nQ pG
 walk_at "st"
 refine ⟨by decide,b5 (by decide),jL (by decide),by decide, ?_⟩
 walk_at "st"
 refine ⟨by decide,b5 ?_,by decide, ?_⟩
 ·have h1:=Int.emod_nonneg ((x % 1000000007+7*k+1)*48271) (b := 2147483647) (by decide)
  have h2:=Int.emod_lt_of_pos ((x % 1000000007+7*k+1)*48271) (b := 2147483647) (by decide)
  lia
 walk_at "st"
 refine ⟨jL (by decide),by decide,by decide,by decide, ?_⟩
 exact q _
end
section
open PySem PySem.Spec PyProof.Rows L2.Srt
variable {T:List FD}
noncomputable abbrev K3:=Int×Int×Int
noncomputable abbrev Tm:=K3×Int
noncomputable def k3D (k:K3):D := .tup [.int k.1, .int k.2.1, .int k.2.2]
noncomputable def tmD (t:Tm):D := .tup [.int t.1.1, .int t.1.2.1, .int t.1.2.2, .int t.2]
noncomputable def kcD (t:Tm):D×D:=(k3D t.1, .int t.2)
noncomputable def k3K (k:K3):Ky := .tup [.int k.1, .int k.2.1, .int k.2.2]
noncomputable def klt (a b:K3):Prop:=ltK (k3K a) (k3K b)=true
theorem jN {a b:K3} (h:k3D a=k3D b):a=b:=by
 obtain ⟨a1,a2,j⟩:=a
 obtain ⟨b1,b2,b3⟩:=b
 simp [k3D] at h
 simp [h]
theorem zS {a b:K3} (h:k3K a=k3K b):a=b:=by
 obtain ⟨a1,a2,j⟩:=a
 obtain ⟨b1,b2,b3⟩:=b
 simp [k3K] at h
 simp [h]
noncomputable def cf (ts:List Tm) (k:K3):Int:=((ts.filter fun t=>decide (t.1=k)).map (·.2)).sum
theorem bO {k:K3}:cf [] k=0:=rfl
theorem aD {t:Tm} {ts:List Tm} {k:K3}:cf (t::ts) k=(if t.1=k then t.2 else 0)+cf ts k:=by
 unfold cf
 by_cases h:t.1=k
 ·rw [List.filter_cons_of_pos (by simpa using h),if_pos h];simp
 ·rw [List.filter_cons_of_neg (by simpa using h),if_neg h];simp
theorem bj {a b:List Tm} {k:K3}:cf (a++b) k=cf a k+cf b k:=by
 induction a with
 | nil=>simp [bO]
 | cons t a ih=>rw [List.cons_append,aD,aD,ih];lia
theorem zT {a b:List Tm} (h:a.Perm b) {k:K3}:cf a k=cf b k:=by
 induction h with
 | nil=>rfl
 | cons x h ih=>rw [aD,aD,ih]
 | swap x y l=>simp only [aD];lia
 | trans _ _ j q=>rw [j,q]
theorem gv {ts:List Tm} {k:K3} (h:∀ t∈ts,t.1≠k):cf ts k=0:=by
 induction ts with
 | nil=>rfl
 | cons t ts ih=>rw [aD,if_neg (h t (by simp)),ih fun u j=>h u (by simp [j])];rfl
theorem uv {ts:List Tm} (j:(ts.map (·.1)).Nodup) {t:Tm} (q:t∈ts):cf ts t.1=t.2:=by
 induction ts with
 | nil=>simp at q
 | cons u ts ih =>
   simp only [List.map_cons,List.nodup_cons] at j
   rw [aD]
   rcases List.mem_cons.mp q with z | z
   ·subst z
    rw [if_pos rfl,gv fun v B e=>j.1 (by rw [<- e];exact List.mem_map_of_mem B)]
    lia
   ·rw [if_neg fun e=>j.1 (by rw [e];exact List.mem_map_of_mem z),ih j.2 z];lia
noncomputable def cM (L:List Tm) (k:K3) (c:Int):List Tm:=if (L.any fun p=>decide (p.1=k))=true then L.map fun p=>if p.1=k then (p.1,p.2+c) else p else L++[(k,c)]
theorem zU {L:List Tm} {k:K3}:dget (L.map kcD) (k3D k)=(L.find? fun p=>decide (p.1=k)).map fun p => .int p.2:=by
 unfold dget
 induction L with
 | nil=>rfl
 | cons t L ih =>
   by_cases h:t.1=k
   ·rw [List.map_cons,List.find?_cons_of_pos (by simp [kcD,h]),List.find?_cons_of_pos (by simpa using h)];rfl
   ·rw [List.map_cons,List.find?_cons_of_neg (by simp only [decide_eq_true_eq];exact fun e=>h (jN e)),List.find?_cons_of_neg (by simpa using h),ih]
theorem BM {L:List Tm} {k:K3}:((L.map kcD).any fun p=>decide (p.1=k3D k))=L.any fun p=>decide (p.1=k):=by
 induction L with
 | nil=>rfl
 | cons t L ih =>
   rw [List.map_cons,List.any_cons,List.any_cons,ih]
   congr 1
   by_cases h:t.1=k
   ·simp [kcD,h]
   ·rw [decide_eq_false h];exact decide_eq_false (fun e=>h (jN e))
theorem zV {L:List Tm} (j:(L.map (·.1)).Nodup) {k:K3} {c:Int}:dS (L.map kcD) (k3D k) (.int ((((L.find? fun p=>decide (p.1=k)).map (·.2)).getD 0)+c))=(cM L k c).map kcD:=by
 unfold dS cM
 rw [BM]
 split
 ·next h =>
  rw [List.map_map,List.map_map]
  apply List.map_congr_left
  intro t q
  simp only [Function.comp]
  by_cases e:t.1=k
  ·rw [if_pos (by rw [<- e];rfl),if_pos e]
   have:L.find? (fun p=>decide (p.1=k))=some t:=by
    clear h
    induction L with
    | nil=>simp at q
    | cons u L ih =>
      simp only [List.map_cons,List.nodup_cons] at j
      rcases List.mem_cons.mp q with z | z
      ·subst z;rw [List.find?_cons_of_pos (by simpa using e)]
      ·rw [List.find?_cons_of_neg (by simp;intro B;exact j.1 (by rw [B, <- e];exact List.mem_map_of_mem z))]
       exact ih j.2 z
   rw [this];rfl
  ·rw [if_neg (c:=(kcD t).1=k3D k) (fun z=>e (jN z)),if_neg e]
 ·next h =>
  have:L.find? (fun p=>decide (p.1=k))=none:=by
   rw [List.find?_eq_none]
   intro x hx
   simp only [decide_eq_true_eq]
   intro e
   exact h (List.any_eq_true.mpr ⟨x,hx,by simpa using e⟩)
  rw [this];simp [kcD]
theorem kP {L:List Tm} {k:K3} {c:Int}:(cM L k c).map (·.1)=if (L.any fun p=>decide (p.1=k))=true then L.map (·.1) else L.map (·.1)++[k]:=by
 unfold cM
 split
 ·rw [List.map_map]
  apply List.map_congr_left
  intro t _
  simp only [Function.comp]
  split <;> rfl
 ·simp
theorem rB {L:List Tm} (j:(L.map (·.1)).Nodup) {k:K3} {c:Int}:((cM L k c).map (·.1)).Nodup:=by
 rw [kP]
 split
 ·exact j
 ·next h =>
  refine List.nodup_append.mpr ⟨j,by simp,fun a z b q e => ?_⟩
  simp at q;subst q;subst e
  obtain ⟨t,B,e⟩:=List.mem_map.mp z
  exact h (List.any_eq_true.mpr ⟨t,B,by simpa using e⟩)
theorem xg {L:List Tm} {k:K3} {c:Int} {a:K3} (h:a∈(cM L k c).map (·.1)):a∈L.map (·.1)∨a=k:=by
 rw [kP] at h
 split at h
 ·exact .inl h
 ·rcases List.mem_append.mp h with z | z
  ·exact .inl z
  ·exact .inr (by simpa using z)
theorem xh {L:List Tm} {k:K3} {c:Int}:(cM L k c).length<=L.length+1:=by
 unfold cM;split <;> simp
theorem zW {L:List Tm} (j:(L.map (·.1)).Nodup) {k a:K3} {c:Int}:cf (cM L k c) a=cf L a+if k=a then c else 0:=by
 unfold cM
 split
 ·next h =>
  obtain ⟨t,q,e⟩:=List.any_eq_true.mp h
  have e:t.1=k:=by simpa using e
  clear h
  induction L with
  | nil=>simp at q
  | cons u L ih =>
    simp only [List.map_cons,List.nodup_cons] at j
    rw [List.map_cons,aD,aD]
    by_cases eu:u.1=k
    ·have rest:(L.map fun p=>if p.1=k then (p.1,p.2+c) else p)=L:=by
      conv=>rhs;rw [<- List.map_id L]
      apply List.map_congr_left
      intro p B
      rw [if_neg fun z=>j.1 (by rw [eu, <- z];exact List.mem_map_of_mem B)];rfl
     rw [rest,if_pos eu]
     dsimp only
     by_cases ea:u.1=a
     ·rw [if_pos ea,if_pos ea,if_pos (by rw [<- eu];exact ea)];lia
     ·rw [if_neg ea,if_neg ea,if_neg (by rw [<- eu];exact ea)];lia
    ·rcases List.mem_cons.mp q with z | z
     ·exact absurd (by rw [<- z];exact e) eu
     ·rw [ih j.2 z,if_neg eu];lia
 ·rw [bj,aD,bO];simp
noncomputable def tset (ts:List Tm):List Tm:=ts.foldl (fun L t=>cM L t.1 t.2) []
theorem cI {ts:List Tm} {t:Tm}:tset (ts++[t])=cM (tset ts) t.1 t.2:=by simp [tset]
theorem dA {α:Type} {P:List α -> Prop} (h0:P []) (h1:∀ l x,P l->P (l++[x])) (l:List α):P l:=by
 have:∀ r:List α,P r.reverse:=by
  intro r
  induction r with
  | nil=>exact h0
  | cons x r ih=>rw [List.reverse_cons];exact h1 _ _ ih
 have:=this l.reverse
 rw [List.reverse_reverse] at this
 exact this
theorem eW (ts:List Tm):((tset ts).map (·.1)).Nodup:=dA (P:=fun ts=>((tset ts).map (·.1)).Nodup) (by simp [tset]) (fun l x ih=>by rw [cI];exact rB ih) ts
theorem zX (ts:List Tm) (k:K3):cf (tset ts) k=cf ts k:=dA (P:=fun ts=>cf (tset ts) k=cf ts k) rfl (fun l x ih=>by
 rw [cI,zW (eW l),ih,bj,aD,bO];lia) ts
theorem nR (ts:List Tm):(tset ts).length<=ts.length:=dA (P:=fun ts=>(tset ts).length<=ts.length) (by simp [tset]) (fun l x ih=>by
 rw [cI];have:=xh (L:=tset l) (k:=x.1) (c:=x.2);simp;lia) ts
theorem xi (ts:List Tm):∀ a∈(tset ts).map (·.1),a∈ts.map (·.1):=dA (P:=fun ts => ∀ a∈(tset ts).map (·.1),a∈ts.map (·.1)) (by simp [tset]) (fun l x ih a j=>by
 rw [cI] at j
 rw [List.map_append]
 rcases xg j with z | z
 ·exact List.mem_append_left _ (ih a z)
 ·exact List.mem_append_right _ (by simp [z])) ts
structure IsTask (ts rs:List Tm):Prop where
 srt:rs.Pairwise fun a b=>klt a.1 b.1
 nz:∀ r∈rs,r.2≠0
 cf:∀ k,cf rs k=cf ts k
 mem:∀ r∈rs,r.1∈ts.map (·.1)
 len:rs.length<=ts.length
theorem zY {a:K3} (h:klt a a):False:=by
 have:=hW _ _ h
 unfold klt at h
 rw [h] at this;cases this
theorem IsTask.nodup {ts rs:List Tm} (h:IsTask ts rs):(rs.map (·.1)).Nodup:=by
 rw [List.nodup_iff_pairwise_ne,List.pairwise_map]
 refine h.srt.imp ?_
 intro a b j e
 rw [e] at j
 exact zY j
theorem IsTask.val {ts rs:List Tm} (h:IsTask ts rs) {r:Tm} (j:r∈rs):r.2=Mi.cf ts r.1:=by rw [<- h.cf,uv h.nodup j]
theorem CO {ts:List Tm} {k:K3}:Mi.cf (ts.filter fun t => !(t.2==0)) k=Mi.cf ts k:=by
 induction ts with
 | nil=>rfl
 | cons t ts ih =>
   rw [aD]
   by_cases h:t.2=0
   ·rw [List.filter_cons_of_neg (by simp [h]),ih,h];split <;> lia
   ·rw [List.filter_cons_of_pos (by simp [h]),aD,ih]
theorem Ge.upd {M j:Mem} {d:Addr} {o:O} (g:Ge M j) (hd:M d=none):Ge M (af j d o):=fun a o' e=>by
 rw [aq (fun z=>by rw [z,hd] at e;cases e)];exact g _ _ e
noncomputable def fL (s:Stmt):FD:=⟨"task_of",s,["left", "right", "many", "terms", "sums", "k", "i", "j", "c"],4,
 (.cons (.asg (.name 4) (.dnew true))
 (.cons (.for (.tup (.cons (.name 5) (.cons (.name 6) (.cons (.name 7) (.cons (.name 8) .nil))))) (.seq (.var 3)) (.cons (.put (.var 4) (.tup (.cons (.var 5) (.cons (.var 6) (.cons (.var 7) .nil)))) (.bin .add (.dget (.var 4) (.tup (.cons (.var 5) (.cons (.var 6) (.cons (.var 7) .nil)))) (.int 0)) (.var 8)))
 .nil))
 (.cons (.ret (.tup (.cons (.var 0) (.cons (.var 1) (.cons (.var 2) (.cons (.comp [none,none,none,none] ["k", "i", "j", "c"] (.last (.seq (.sortI (.var 4))) (.tup (.cons (.tup (.cons (.name 0) (.cons (.name 1) (.cons (.name 2) .nil)))) (.cons (.name 3) .nil))) (.cons (.cmp .ne (.var 3) (.int 0)) .nil) (.tup (.cons (.var 0) (.cons (.var 1) (.cons (.var 2) (.cons (.var 3) .nil))))))) .nil))))))
 .nil)))⟩
theorem jO {f:Nat} {s:Stmt} (hf:T[f]? = some (fL s)) {n:Nat} (hn : 1<=n) {L R N:D} {x:D} {ts:List Tm} {M:Mem} {Q:QD} (hx:al M x=some (ts.map tmD)) (hl:ts.length<=100000)
 (q:∀ (rs:List Tm) p M',IsTask ts rs->Ge M M'->M p=none->M' p=some (.lst (rs.map tmD))->Q (.tup [L,R,N, .ref p]) M'):phi T n f [L,R,N,x] M Q:=by
 refine ar (by lia) hf rfl (ρ := [some _,some _,some _,some _,none,none,none,none,none]) rfl ?_
 unfold fL
 walk_at "st"
 intro d hd
 walk_at "st"
 have g0:=Ge.new (o := .dct true []) hd
 refine ⟨_,dj hx g0, ?_⟩
 refine bE (I:=fun l ρ M' => ∃ Z o6 o7 o8, ρ = [some L,some R,some N,some x,some (.ref d),Z,o6,o7,o8]/\Ge M M'/\M' d=some (.dct true ((tset l).map kcD))) rfl ⟨_,_,_,_,rfl,g0,ab⟩ (fun l ρ M' ⟨_,_,_,_,_,g,_⟩=>dj hx g) ?_ ?_
 ·rintro l t r ρ M1 e ⟨Z,o6,o7,o8,rfl,g1,B⟩
  refine ⟨_,rfl,fun F hF => ?_⟩
  have Dv:=aH e
  have Dy:=nR l
  rw [bW]
  walk_at "wp"
  refine ⟨⟨_,_,B⟩,by rw [sizeLine_eq];lia,_,_,B,rfl, ?_⟩
  have ek:D.tup [D.int t.1.1,D.int t.1.2.1,D.int t.1.2.2]=k3D t.1:=rfl
  rw [ek,zU]
  have eg:((Option.map (fun p:Tm=>D.int p.2) ((tset l).find? fun p=>decide (p.1=t.1))).getD (.int 0)) = .int (((((tset l).find? fun p=>decide (p.1=t.1)).map (·.2)).getD 0)):=by
   cases (tset l).find? fun p=>decide (p.1=t.1) <;> rfl
  rw [eg]
  walk_at "wp"
  refine ⟨by rw [sizeLine_eq];lia,nL B rfl (by rw [List.length_map,sizeLine_eq];lia) ?_⟩
  rw [zV (eW l)]
  refine hF _ _ ⟨_,_,_,_,rfl,g1.upd hd, ?_⟩
  rw [ab,cI]
 ·rintro ρ M1 ⟨Z,o6,o7,o8,rfl,g1,B⟩
  dsimp only
  walk_at "st"
  refine ⟨_,_,B, .tup [.tup [.int, .int, .int], .int],rfl,fun kv Dw => ?_,fun p ys hp z j => ?_⟩
  ·obtain ⟨t,_,rfl⟩:=List.mem_map.mp Dw
   rfl
  rw [List.map_map] at z
  obtain ⟨L',U,p2⟩:=kH (fun t:Tm=>kvD (kcD t)) z rfl
  have G:(L'.map (·.1)).Nodup:=(U.map (·.1)).nodup_iff.mpr (eW ts)
  have Dx:L'.Pairwise fun a b=>klt a.1 b.1:=by
   rw [<- p2] at j
   unfold qR at j
   rw [List.pairwise_map] at j
   rw [List.nodup_iff_pairwise_ne,List.pairwise_map] at G
   refine (j.and G).imp ?_
   rintro a b ⟨h1,h2⟩
   unfold klt
   cases e1:ltK (k3K a.1) (k3K b.1) with
   | true=>rfl
   | false =>
     exfalso
     cases J:ltK (k3K b.1) (k3K a.1) with
     | false=>exact h2 (zS (kD _ _ e1 J))
     | true =>
       have:ltK (kyD (kvD (kcD b))) (kyD (kvD (kcD a)))=true:=by
        show ltK (.tup [k3K b.1, .int b.2]) (.tup [k3K a.1, .int a.2])=true
        unfold ltK at J ⊢
        have J:au (k3K b.1) (k3K a.1) = .lt:=by simpa using J
        simp only [au,cmpKs]
        rw [J];rfl
       rw [this] at h1;cases h1
  have g2:=g1.trans (Ge.new (o := .lst ys) hp)
  subst p2
  refine ⟨_,ag ab, ?_⟩
  have Dz:L'.length<=ts.length:=by rw [U.length_eq];exact nR ts
  refine aM (f:=fun t:Tm=>kvD (kcD t)) (I:=fun l ρ M' acc=>(∃ o0 o1 o2 o3, ρ = [o0,o1,o2,o3])/\M'=af M1 p (.lst (L'.map fun t=>kvD (kcD t)))/\acc=(l.filter fun t => !(t.2==0)).map tmD) rfl ⟨⟨_,_,_,_,rfl⟩,rfl,rfl⟩ (fun _ _ _ _ hI=>by rw [hI.2.1];exact ag ab) ?_ ?_
  ·rintro l t r ρ M2 acc e ⟨⟨o0,o1,o2,o3,rfl⟩,rfl,rfl⟩
   refine ⟨_,rfl,fun N' hN => ?_⟩
   have Dv:=aH e
   have DA:(l.filter fun t => !(t.2==0)).length<=l.length:=List.length_filter_le _ _
   walk_at "wp"
   simp only [show (kcD t).2=D.int t.2 from rfl]
   walk_at "wp"
   by_cases Y:t.2=0
   ·rw [if_neg (by simp [Y])]
    exact hN _ _ _ ⟨⟨_,_,_,_,rfl⟩,rfl,by simp [List.filter_append,Y]⟩
   ·rw [if_pos (by simp [Y])]
    refine ⟨by rw [sizeLine_eq];lia,by rw [List.length_map,sizeLine_eq];lia,hN _ _ _ ⟨⟨_,_,_,_,rfl⟩,rfl, ?_⟩⟩
    simp [List.filter_append,Y,tmD]
  ·rintro ρ M2 acc ⟨_,rfl,rfl⟩ p2 hp2
   refine ⟨by rw [sizeLine_eq];lia, ?_⟩
   have O:M p2=none:=by
    cases hq:M p2 with
    | none=>rfl
    | some o=>rw [g2 _ _ hq] at hp2;cases hp2
   refine q (L'.filter fun t => !(t.2==0)) p2 _ ⟨Dx.sublist List.filter_sublist,fun r hr=>by simpa using (List.mem_filter.mp hr).2,fun k => ?_,fun r hr => ?_, ?_⟩ (g2.trans (Ge.new hp2)) O ab
   ·rw [CO,zT U,zX]
   ·have:=(List.mem_filter.mp hr).1
    exact xi ts _ (List.mem_map_of_mem (U.mem_iff.mp this))
   ·have:=List.length_filter_le (fun t:Tm => !(t.2==0)) L'
    lia
end
section
open PySem PySem.Spec PyProof.Rows L2.Srt
variable {T:List FD}
noncomputable def gi (l:List Int) (i:Int):Int:=l.getD i.toNat 0
noncomputable def vk (rs:List Tm) (a b:List Int) (k:Int):Int:=((rs.filter fun r=>decide (r.1.1=k)).map fun r=>r.2*gi a r.1.2.1*gi b r.1.2.2).sum
noncomputable def val (rs:List Tm) (a b:List Int) (N:Nat):List Int:=(List.range N).map fun k=>vk rs a b (k:Nat)
theorem zZ {rs:List Tm} {r:Tm} {a b:List Int} {k:Int}:vk (rs++[r]) a b k=vk rs a b k+if r.1.1=k then r.2*gi a r.1.2.1*gi b r.1.2.2 else 0:=by
 unfold vk
 rw [List.filter_append,List.map_append,List.sum_append]
 by_cases h:r.1.1=k <;> simp [h]
theorem gw {rs:List Tm} {a b:List Int} {N:Nat}:(val rs a b N).length=N:=by simp [val]
theorem A0 {a b:List Int} {N:Nat}:val [] a b N=List.replicate N 0:=by
 unfold val
 apply List.ext_getElem
 ·simp
 ·intro i h1 h2;simp [vk]
theorem gx {rs:List Tm} {a b:List Int} {N k:Nat} (j:k < N):(val rs a b N)[k]? = some (vk rs a b k):=by
 unfold val
 rw [List.getElem?_map,List.getElem?_range j];rfl
theorem xj {rs:List Tm} {r:Tm} {a b:List Int} {N k:Nat} (q:r.1.1=k) (B:k < N):(val rs a b N).set k (vk rs a b k+r.2*gi a r.1.2.1*gi b r.1.2.2)=val (rs++[r]) a b N:=by
 apply List.ext_getElem?
 intro j
 by_cases z:j < N
 ·rw [gx z,zZ]
  by_cases hjk:k=j
  ·subst hjk
   rw [List.getElem?_set_self (by rw [gw];exact B),if_pos q]
  ·rw [List.getElem?_set_ne hjk,gx z,if_neg (by rw [q];lia)];simp
 ·rw [List.getElem?_eq_none (by rw [List.length_set,gw];lia),List.getElem?_eq_none (by rw [gw];lia)]
theorem uw {M:Mem} {x d:D} {ds:List D} {i:Int} {Q:QD} (h:al M x=some ds) (e:atI ds i=some d) (q:Q d M):wIx x (.int i) M Q:=by
 cases x with
 | ref a =>
   simp only [al] at h
   split at h
   ·next j=>cases h;exact bD j e q
   ·cases h
 | tup es=>cases h;exact ⟨i,d,rfl,e,q⟩
 | con es=>cases h;exact ⟨i,d,rfl,e,q⟩
 | _=>cases h
theorem nS {l:List Int} {i:Int} (h0 : 0<=i) (h1:i < l.length):atI (l.map D.int) i=some (.int (gi l i)):=by
 obtain ⟨k,rfl⟩:∃ k:Nat,i=k:=⟨i.toNat,by lia⟩
 refine eE ?_
 unfold gi
 rw [List.getElem?_map,Int.toNat_natCast,List.getD_eq_getElem?_getD,List.getElem?_eq_getElem (show k < l.length by lia)];rfl
noncomputable def jP (s:Stmt):FD:=⟨"value_of",s,["task", "one", "other", "left", "right", "many", "terms", "row", "k", "i", "j", "c"],3,
 (.cons (.asg (.tup (.cons (.name 3) (.cons (.name 4) (.cons (.name 5) (.cons (.name 6) .nil))))) (.var 0))
 (.cons (.asg (.name 7) (.bin .mul (.lst (.cons (.int 0) .nil)) (.var 5)))
 (.cons (.for (.tup (.cons (.name 8) (.cons (.name 9) (.cons (.name 10) (.cons (.name 11) .nil))))) (.seq (.var 6)) (.cons (.augI (.var 7) (.var 8) .add (.bin .mul (.bin .mul (.var 11) (.ix (.var 1) (.var 9))) (.ix (.var 2) (.var 10))))
 .nil))
 (.cons (.ret (.var 7))
 .nil))))⟩
structure InB (rs:List Tm) (la lb N:Nat):Prop where
 k:∀ r∈rs,0<=r.1.1/\r.1.1 < N
 i:∀ r∈rs,0<=r.1.2.1/\r.1.2.1 < la
 j:∀ r∈rs,0<=r.1.2.2/\r.1.2.2 < lb
 c:∀ r∈rs, -(2 ^ 64) < r.2/\r.2 < 2 ^ 64
noncomputable def Med (l:List Int):Prop := ∀ x∈l, -(2 ^ 64) < x/\x < 2 ^ 64
theorem BN {l:List Int} (h:Med l) {i:Int} : -(2 ^ 64) < gi l i/\gi l i < 2 ^ 64:=by
 unfold gi
 rw [List.getD_eq_getElem?_getD]
 cases e:l[i.toNat]? with
 | none=>simp
 | some x=>exact h x (List.mem_of_getElem? e)
theorem xk {f:Nat} {s:Stmt} (hf:T[f]? = some (jP s)) {n:Nat} (hn : 1<=n) {L R:D} {N:Nat} {p:Addr} {x y:D} {rs:List Tm} {a b:List Int} {M:Mem} {Q:QD} (hp:M p=some (.lst (rs.map tmD))) (hx:al M x=some (a.map .int)) (hy:al M y=some (b.map .int)) (hN:N<=1000) (U:InB rs a.length b.length N) (hm:Med b)
 (q:∀ p' M',Ge M M'->M p'=none->M' p'=some (.lst ((val rs a b N).map .int))->Q (.ref p') M'):phi T n f [.tup [L,R, .int N, .ref p],x,y] M Q:=by
 refine ar (by lia) hf rfl (ρ := [some _,some _,some _,none,none,none,none,none,none,none,none,none]) rfl ?_
 unfold jP
 walk_at "st"
 walk_at "st"
 refine ⟨by rw [sizeLine_eq];lia,fun p1 Dv => ?_⟩
 have g1:=Ge.new (o := .lst [.int 0]) Dv
 refine ⟨_,ab,by lia,by lia,by rw [sizeLine_eq];simp;lia,fun p2 B => ?_⟩
 have g2:=g1.trans (Ge.new (o := .lst (List.replicate (N:Int).toNat [D.int 0]).flatten) B)
 have z:M p2=none:=by
  cases hq:M p2 with
  | none=>rfl
  | some o=>rw [g1 _ _ hq] at B;cases B
 have e2:af (af M p1 (.lst [.int 0])) p2 (.lst (List.replicate (N:Int).toNat [D.int 0]).flatten) p2=some (.lst ((val [] a b N).map .int)):=by
  rw [ab,rq,A0];simp
 generalize af (af M p1 (.lst [.int 0])) p2 (.lst (List.replicate (N:Int).toNat [D.int 0]).flatten)=M2 at g2 e2
 walk_at "st"
 refine ⟨_,ag (g2 _ _ hp), ?_⟩
 refine bE (I:=fun l ρ M' => ∃ o8 o9 G J, ρ = [some (.tup [L,R, .int N, .ref p]),some x,some y,some L,some R,some (.int N),some (.ref p),some (.ref p2),o8,o9,G,J]/\Ge M M'/\M' p2=some (.lst ((val l a b N).map .int))) rfl ⟨_,_,_,_,rfl,g2,e2⟩ (fun l ρ M' ⟨_,_,_,_,_,g,_⟩=>ag (g _ _ hp)) ?_ ?_
 ·rintro l r t ρ M3 e ⟨o8,o9,G,J,rfl,g3,Y⟩
  have Z:r∈rs:=by rw [e];simp
  refine ⟨_,rfl,fun F hF => ?_⟩
  rw [bW]
  walk_at "wp"
  obtain ⟨k0,k1⟩:=U.k r Z
  obtain ⟨i0,i1⟩:=U.i r Z
  obtain ⟨j0,j1⟩:=U.j r Z
  obtain ⟨kn,ek⟩:∃ k:Nat,r.1.1=k:=⟨r.1.1.toNat,by lia⟩
  have O:kn < N:=by lia
  refine ⟨p2,_,_, .int (vk l a b kn),rfl,rfl,Y, ?_, ?_⟩
  ·rw [ek]
   refine eE ?_
   rw [List.getElem?_map,gx O];rfl
  refine uw (dj hx g3) (nS i0 i1) ?_
  walk_at "wp"
  refine ⟨b5 (U.c r Z), ?_⟩
  refine uw (dj hy g3) (nS j0 j1) ?_
  walk_at "wp"
  refine ⟨jL (BN hm), ?_⟩
  rw [ek]
  refine bX Y (j:=kn) ?_ ?_
  ·unfold ixN
   rw [List.length_map,gw,if_pos (by lia),if_pos (by lia)];simp
  refine hF _ _ ⟨_,_,_,_,rfl,g3.upd z, ?_⟩
  rw [ab, <- xj ek O,List.map_set]
 ·rintro ρ M3 ⟨o8,o9,G,J,rfl,g3,Y⟩
  dsimp only
  walk_at "st"
  exact q p2 M3 g3 z Y
end
section
open PySem PySem.Spec PyProof.Rows L2.Srt
noncomputable def bf (f:K3->Int) (ts:List Tm):Int:=(ts.map fun t=>t.2*f t.1).sum
theorem eX {f:K3->Int}:bf f []=0:=rfl
theorem ca {f:K3->Int} {t:Tm} {ts:List Tm}:bf f (t::ts)=t.2*f t.1+bf f ts:=by simp [bf]
theorem cD {f:K3->Int} {a b:List Tm}:bf f (a++b)=bf f a+bf f b:=by simp [bf]
noncomputable def bp (ts:List Tm):List Tm:=ts.map fun t=>(t.1, -t.2)
theorem xm {f:K3->Int} {ts:List Tm}:bf f (bp ts) = -bf f ts:=by
 unfold bp
 induction ts with
 | nil=>rfl
 | cons t ts ih=>rw [List.map_cons,ca,ca,ih];dsimp only;rw [Int.neg_mul];lia
theorem uz {ts:List Tm} {k:K3}:cf (bp ts) k = -cf ts k:=by
 unfold bp
 induction ts with
 | nil=>rfl
 | cons t ts ih=>rw [List.map_cons,aD,aD,ih];dsimp only;split <;> lia
theorem jh {f:K3->Int} {k:K3}:∀ ts:List Tm,bf f ts=cf ts k*f k+bf f (ts.filter fun t=>decide (t.1≠k))
 | [] => by simp [eX,bO]
 | t::ts=>by
   rw [ca,aD,jh (k:=k) ts]
   by_cases h:t.1=k
   ·rw [if_pos h,List.filter_cons_of_neg (by simp [h]),Int.add_mul,h];lia
   ·rw [if_neg h,List.filter_cons_of_pos (by simp [h]),ca,Int.zero_add];lia
theorem fM {k j:K3}:∀ ts:List Tm,cf (ts.filter fun t=>decide (t.1≠k)) j=if j=k then 0 else cf ts j
 | [] => by simp [bO]
 | t::ts=>by
   by_cases h:t.1=k
   ·rw [List.filter_cons_of_neg (by simp [h]),fM ts,aD]
    split
    ·rfl
    ·next e=>rw [if_neg (by rw [h];exact fun z=>e z.symm)];lia
   ·rw [List.filter_cons_of_pos (by simp [h]),aD,aD,fM ts]
    by_cases e:j=k
    ·rw [if_pos e,if_pos e,if_neg (by rw [e];exact h)];lia
    ·rw [if_neg e,if_neg e]
theorem kQ {f:K3->Int}:∀ (n:Nat) (ts:List Tm),ts.length<=n->(∀ k,cf ts k=0)->bf f ts=0
 | _,[],_,_=>rfl
 | 0,_::_,h,_=>by simp at h
 | n+1,t::ts,h,z=>by
   rw [jh (k:=t.1),z,kQ n]
   ·lia
   ·rw [List.filter_cons_of_neg (by simp)]
    have:=List.length_filter_le (fun u:Tm=>decide (u.1≠t.1)) ts
    simp at h;lia
   ·intro k
    rw [fM,z];split <;> rfl
theorem A1 {f:K3->Int} {a b:List Tm} (h:∀ k,cf a k=cf b k):bf f a=bf f b:=by
 have:=kQ (f:=f) _ (a++bp b) (Nat.le_refl _) fun k=>by rw [bj,uz,h];lia
 rw [cD,xm] at this;lia
noncomputable def fkk (a b:List Int) (k:Int):K3->Int:=fun q=>if q.1=k then gi a q.2.1*gi b q.2.2 else 0
theorem gy {a b:List Int} {k:Int}:∀ rs:List Tm,vk rs a b k=bf (fkk a b k) rs
 | [] => rfl
 | r::rs=>by
   rw [ca, <- gy rs]
   unfold vk fkk
   by_cases h:r.1.1=k
   ·rw [List.filter_cons_of_pos (by simpa using h),if_pos h,List.map_cons,List.sum_cons,Int.mul_assoc]
   ·rw [List.filter_cons_of_neg (by simpa using h),if_neg h];lia
theorem ye {rs ts:List Tm} (h:∀ k,cf rs k=cf ts k) {a b:List Int} {k:Int}:vk rs a b k=vk ts a b k:=by
 rw [gy,gy,A1 h]
theorem pI {α:Type} {lt : α -> α -> Prop} (as:∀ a b,lt a b->lt b a->False):∀ {l m:List α},l.Pairwise lt->m.Pairwise lt->(∀ x,x∈l↔x∈m)->l=m
 | [],[],_,_,_=>rfl
 | [],y::m,_,_,h=>by have:=(h y).mpr (by simp);simp at this
 | x::l,[],_,_,h=>by have:=(h x).mp (by simp);simp at this
 | x::l,y::m,q,hm,h=>by
   rw [List.pairwise_cons] at q hm
   have e:x=y:=by
    rcases List.mem_cons.mp ((h x).mp (by simp)) with z | z
    ·exact z
    ·rcases List.mem_cons.mp ((h y).mpr (by simp)) with w | w
     ·exact w.symm
     ·exact (as _ _ (hm.1 _ z) (q.1 _ w)).elim
   subst e
   rw [pI as q.2 hm.2 fun z => ?_]
   constructor
   ·intro j
    rcases List.mem_cons.mp ((h z).mp (by simp [j])) with w | w
    ·subst w;exact (as _ _ (q.1 _ j) (q.1 _ j)).elim
    ·exact w
   ·intro j
    rcases List.mem_cons.mp ((h z).mpr (by simp [j])) with w | w
    ·subst w;exact (as _ _ (hm.1 _ j) (hm.1 _ j)).elim
    ·exact w
theorem IsTask.iff {ts rs:List Tm} (h:IsTask ts rs) {r:Tm}:r∈rs↔r.2≠0/\r.2=Mi.cf ts r.1:=by
 constructor
 ·exact fun j=>⟨h.nz r j,h.val j⟩
 ·rintro ⟨h1,h2⟩
  apply Classical.byContradiction
  intro z
  apply h1
  rw [h2, <- h.cf]
  refine gv fun t q e=>z ?_
  have:=h.val q
  rw [e, <- h2] at this
  have B:t=r:=Prod.ext e this
  rw [<- B];exact q
theorem IsTask.uniq {ts ts' rs rs':List Tm} (h:IsTask ts rs) (h':IsTask ts' rs') (e:∀ k,Mi.cf ts k=Mi.cf ts' k):rs=rs':=by
 refine pI (fun a b h1 h2 => ?_) h.srt h'.srt fun r=>by rw [h.iff,h'.iff,e]
 have j:=hW _ _ h1
 unfold klt at h2
 rw [h2] at j;cases j
end
section
open PySem PySem.Spec PyProof.Rows L2.Srt
variable {T:List FD}
theorem kR {l:List Nat} {i:Nat} {G:Nat->List Tm}:(l++[i]).flatMap G=l.flatMap G++G i:=by simp
theorem nT {l:List Nat} {m:Nat} {g:Nat->Nat->Tm}:(l.flatMap fun i=>(List.range m).map (g i)).length=l.length*m:=by
 induction l with
 | nil=>simp
 | cons i l ih=>rw [List.flatMap_cons,List.length_append,ih,List.length_cons,Nat.succ_mul];simp;lia
end
section
open PySem PySem.Spec PyProof.Rows L2.Srt
theorem xo (a:List Int):PyData.eqv (.list (a.map .int)) (.list (a.map .int))=true:=by
 simp only [PyData.eqv]
 induction a with
 | nil=>rfl
 | cons x a ih=>simp [PyData.eqvAll,PyData.eqv,ih]
noncomputable def cN (t:Tm):PyData := .tuple [.int t.1.1, .int t.1.2.1, .int t.1.2.2, .int t.2]
theorem CP {k:Nat} {M:Mem} (t:Tm):rb (k+2) M (tmD t)=some (cN t):=by
 simp [tmD,rb,aw,cN]
theorem uA {k:Nat} {M:Mem}:∀ ts:List Tm,aw (rb (k+2) M) (ts.map tmD)=some (ts.map cN)
 | [] => rfl
 | t::r=>by simp [aw,CP,uA r]
theorem pJ {M:Mem} {p:Addr} {ts:List Tm} {a b c:Int} (h:M p=some (.lst (ts.map tmD))):rb 16 M (.tup [.int a, .int b, .int c, .ref p])=some (.tuple [.int a, .int b, .int c, .list (ts.map cN)]):=by
 have e:rb 15 M (.ref p)=some (.list (ts.map cN)):=by rw [jg h,uA];rfl
 have ei:∀ x:Int,rb 15 M (.int x)=some (.int x):=fun _=>rfl
 show (aw (rb 15 M) [.int a, .int b, .int c, .ref p]).map PyData.tuple=_
 simp [aw,e,ei]
theorem IsTask.sub {ts rs:List Tm} (h:IsTask ts rs) (z:(ts.map (·.1)).Nodup) {r:Tm} (j:r∈rs):r∈ts:=by
 obtain ⟨u,q,e⟩:=List.mem_map.mp (h.mem r j)
 have:=h.val j
 rw [<- e,uv z q] at this
 have B:u=r:=Prod.ext e this.symm
 rw [<- B];exact q
end
section
open PySem PySem.Spec PyProof.Rows L2.Srt
variable {T:List FD}
noncomputable def dB (m p a b c:Nat):Tm:=(((a*p+c:Nat),((a*m+b:Nat):Int),((b*p+c:Nat):Int)),1)
noncomputable def dC (m p a:Nat):List Tm:=(List.range m).flatMap fun b=>(List.range p).map (dB m p a b)
noncomputable def aK (n m p:Nat):List Tm:=(List.range n).flatMap (dC m p)
theorem xp {m p a:Nat}:(dC m p a).length=m*p:=by unfold dC;rw [nT,List.length_range]
theorem pK {m p:Nat} {l:List Nat}:(l.flatMap (dC m p)).length=l.length*(m*p):=by
 induction l with
 | nil=>simp
 | cons i l ih=>rw [List.flatMap_cons,List.length_append,ih,List.length_cons,xp,Nat.succ_mul];lia
theorem A2 {n m p:Nat} {t:Tm} (h:t∈aK n m p):∃ a b c,a < n/\b < m/\c < p/\t=dB m p a b c:=by
 obtain ⟨a,j,h⟩:=List.mem_flatMap.mp h
 obtain ⟨b,q,h⟩:=List.mem_flatMap.mp h
 obtain ⟨c,z,rfl⟩:=List.mem_map.mp h
 exact ⟨a,b,c,List.mem_range.mp j,List.mem_range.mp q,List.mem_range.mp z,rfl⟩
noncomputable def jQ (s:Stmt) (ft:Nat):FD:=⟨"table_task",s,["n", "m", "p", "terms"],3,
 (.cons (.asg (.name 3) (.comp [none,none,none,(some 2),(some 1)] ["a", "b", "c", "p", "m"] (.more (.rng1 (.var 0)) (.name 0) .nil (.more (.rng1 (.var 4)) (.name 1) .nil (.last (.rng1 (.var 3)) (.name 2) .nil (.tup (.cons (.bin .add (.bin .mul (.var 0) (.var 3)) (.var 2)) (.cons (.bin .add (.bin .mul (.var 0) (.var 4)) (.var 1)) (.cons (.bin .add (.bin .mul (.var 1) (.var 3)) (.var 2)) (.cons (.int 1) .nil))))))))))
 (.cons (.ret (.call ft (.cons (.bin .mul (.var 0) (.var 1)) (.cons (.bin .mul (.var 1) (.var 2)) (.cons (.bin .mul (.var 0) (.var 2)) (.cons (.var 3) .nil))))))
 .nil))⟩
theorem xq {f ft:Nat} {s s':Stmt} (hf:T[f]? = some (jQ s ft)) (Z:T[ft]? = some (fL s')) {k:Nat} (hk : 2<=k) {n m p:Nat} {M:Mem} {Q:QD} (hn:n<=40) (hm:m<=40) (Y:p<=40)
 (q:∀ (rs:List Tm) a M',IsTask (aK n m p) rs->Ge M M'->M a=none->M' a=some (.lst (rs.map tmD))->Q (.tup [.int ((n*m:Nat):Int), .int ((m*p:Nat):Int), .int ((n*p:Nat):Int), .ref a]) M'):phi T k f [.int n, .int m, .int p] M Q:=by
 refine ar (by lia) hf rfl (ρ := [some _,some _,some _,none]) rfl ?_
 unfold jQ
 have B:m*p<=40*40:=Nat.mul_le_mul hm Y
 walk_at "st"
 refine ⟨by lia,by lia, ?_⟩
 refine aM (f:=fun i=>D.int (i:Nat)) (I:=fun l ρ M' acc=>(∃ o0 z j, ρ = [o0,z,j,some (.int p),some (.int m)])/\M'=M/\acc=(l.flatMap (dC m p)).map tmD) cX ⟨⟨_,_,_,rfl⟩,rfl,rfl⟩ (fun _ _ _ _ _=>trivial) ?_ ?_
 ·rintro l a r ρ M1 acc e ⟨⟨o0,z,j,rfl⟩,rfl,rfl⟩
  refine ⟨_,rfl,fun N' hN => ?_⟩
  have L:=aH e
  rw [List.length_range] at L
  have ha:a < n:=by
   have:a∈List.range (n:Int).toNat:=by rw [e];simp
   have:=List.mem_range.mp this
   lia
  walk_at "wp"
  refine ⟨by lia,by lia, ?_⟩
  refine aM (f:=fun i=>D.int (i:Nat)) (I:=fun l' ρ M' acc=>(∃ z j, ρ = [some (.int a),z,j,some (.int p),some (.int m)])/\M'=M1/\acc=((l.flatMap (dC m p))++l'.flatMap fun b=>(List.range p).map (dB m p a b)).map tmD) cX ⟨⟨_,_,rfl⟩,rfl,by simp⟩ (fun _ _ _ _ _=>trivial) ?_ ?_
  ·rintro l' b r' ρ M2 acc e' ⟨⟨z,j,rfl⟩,rfl,rfl⟩
   refine ⟨_,rfl,fun N2 O => ?_⟩
   have F:=aH e'
   rw [List.length_range] at F
   have hb:b < m:=by
    have:b∈List.range (m:Int).toNat:=by rw [e'];simp
    have:=List.mem_range.mp this
    lia
   walk_at "wp"
   refine ⟨by lia,by lia, ?_⟩
   refine aM (f:=fun i=>D.int (i:Nat)) (I:=fun l3 ρ M' acc=>(∃ j, ρ = [some (.int a),some (.int b),j,some (.int p),some (.int m)])/\M'=M2/\acc=(((l.flatMap (dC m p))++l'.flatMap fun b=>(List.range p).map (dB m p a b))++l3.map (dB m p a b)).map tmD) cX ⟨⟨_,rfl⟩,rfl,by simp⟩ (fun _ _ _ _ _=>trivial) ?_ ?_
   ·rintro l3 c r3 ρ M3 acc e3 ⟨⟨j,rfl⟩,rfl,rfl⟩
    refine ⟨_,rfl,fun N3 U => ?_⟩
    have G:=aH e3
    rw [List.length_range] at G
    have h1:l.length*(m*p)<=40*(40*40):=Nat.mul_le_mul (by lia) B
    have h2:l'.length*p<=40*40:=Nat.mul_le_mul (by lia) Y
    walk_at "wp"
    refine ⟨b5 (by lia),b5 (by lia),b5 (by lia),by rw [sizeLine_eq];lia, ?_,U _ _ _ ⟨⟨_,rfl⟩,rfl, ?_⟩⟩
    ·rw [List.length_map,List.length_append,List.length_append,pK,nT,List.length_map,sizeLine_eq];lia
    ·simp [tmD,dB]
   ·rintro ρ M3 acc ⟨⟨j,rfl⟩,rfl,rfl⟩
    refine O _ _ _ ⟨⟨_,_,rfl⟩,rfl, ?_⟩
    rw [kR];simp
  ·rintro ρ M2 acc ⟨⟨z,j,rfl⟩,rfl,rfl⟩
   refine hN _ _ _ ⟨⟨_,_,_,rfl⟩,rfl, ?_⟩
   rw [kR];simp [dC]
 ·rintro ρ M1 acc ⟨_,rfl,rfl⟩ pa hpa
  have eL:((List.range (n:Int).toNat).flatMap (dC m p))=aK n m p:=by rw [Int.toNat_natCast];rfl
  rw [eL]
  have hl:(aK n m p).length<=40*(40*40):=by unfold aK;rw [pK,List.length_range];exact Nat.mul_le_mul hn B
  walk_at "st"
  refine ⟨b5 (by lia),b5 (by lia),b5 (by lia), ?_⟩
  refine jO Z (by lia) (ag ab) (by lia) fun rs p2 M2 h1 g J e2 => ?_
  have g1:=Ge.new (o := .lst ((aK n m p).map tmD)) hpa
  rw [<- Int.natCast_mul, <- Int.natCast_mul, <- Int.natCast_mul]
  refine q rs p2 M2 h1 (g1.trans g) ?_ e2
  cases hq:M1 p2 with
  | none=>rfl
  | some o=>rw [g1 _ _ hq] at J;cases J
end
section
open PySem PySem.Spec PyProof.Rows L2.Srt
variable {T:List FD}
noncomputable def idx (l:List Int):List (Int×Int):=l.mapIdx fun i x=>((i:Nat),x)
noncomputable def nz (l:List Int):List (Int×Int):=(idx l).filter fun q => !(q.2==0)
noncomputable def pD (q:Int×Int):D := .tup [.int q.1, .int q.2]
theorem pL {l:List Int}:(idx l).length=l.length:=by simp [idx]
theorem uB {l:List Int}:(nz l).length<=l.length:=by
 unfold nz;exact Nat.le_trans (List.length_filter_le _ _) (by rw [pL];exact Nat.le_refl _)
theorem xr {l:List Int}:eO (l.map .int)=(idx l).map pD:=by
 unfold eO idx
 apply List.ext_getElem?
 intro j
 simp only [List.getElem?_mapIdx,List.getElem?_map]
 cases l[j]? <;> rfl
noncomputable def cz (i a j b:Int) (zs:List (Int×Int)):List Tm:=zs.map fun z=>((z.1,i,j),a*b*z.2)
noncomputable def cA (i a:Int) (ys zs:List (Int×Int)):List Tm:=ys.flatMap fun y=>cz i a y.1 y.2 zs
noncomputable def dD (xs ys zs:List (Int×Int)):List Tm:=xs.flatMap fun x=>cA x.1 x.2 ys zs
noncomputable def nU (p:Pr):List Tm:=dD (nz p.1) (nz p.2.1) (nz p.2.2)
noncomputable def rC (ps:List Pr):List Tm:=ps.flatMap nU
noncomputable abbrev bd (x:Int):Prop := -1000000000000<=x/\x<=1000000000000
theorem uC {l:List Int} (h:Big l):∀ z∈nz l,bd z.2:=fun z j=>by
 unfold nz at j
 have j:=(List.mem_filter.mp j).1
 unfold idx at j
 obtain ⟨i,hi,e⟩:=List.mem_mapIdx.mp j
 rw [<- e]
 exact h _ (List.getElem_mem hi)
end
section
open PySem PySem.Spec PyProof.Rows L2.Srt
noncomputable def S1 (zs:List (Int×Int)) (k:Int):Int:=(zs.map fun z=>if z.1=k then z.2 else 0).sum
theorem br {z:Int×Int} {zs:List (Int×Int)} {k:Int}:S1 (z::zs) k=(if z.1=k then z.2 else 0)+S1 zs k:=by simp [S1]
theorem pM {α:Type} {F : α -> List Tm} {k:K3}:∀ l:List α,cf (l.flatMap F) k=(l.map fun x=>cf (F x) k).sum
 | [] => rfl
 | x::l=>by rw [List.flatMap_cons,bj,pM l];simp
theorem jR {i a j b k i' j':Int}:∀ {zs:List (Int×Int)},cf (cz i a j b zs) (k,i',j')=if i=i'/\j=j' then a*b*S1 zs k else 0
 | [] => by simp [cz,bO,S1]
 | z::zs=>by
   rw [show cz i a j b (z::zs)=((z.1,i,j),a*b*z.2)::cz i a j b zs from rfl,aD,jR,br]
   by_cases h:i=i'/\j=j'
   ·obtain ⟨rfl,rfl⟩:=h
    by_cases q:z.1=k
    ·subst q;simp [Int.mul_add]
    ·have : ¬ ((z.1,i,j)=(k,i,j)):=fun e=>q (congrArg (·.1) e)
     rw [if_neg this,if_pos ⟨rfl,rfl⟩,if_pos ⟨rfl,rfl⟩,if_neg q];simp
   ·have : ¬ ((z.1,i,j)=(k,i',j')):=fun e=>h ⟨congrArg (·.2.1) e,congrArg (·.2.2) e⟩
    rw [if_neg this,if_neg h,if_neg h];rfl
theorem pN {i a k i' j':Int} {zs:List (Int×Int)}:∀ {ys:List (Int×Int)},cf (cA i a ys zs) (k,i',j')=if i=i' then a*S1 ys j'*S1 zs k else 0
 | [] => by simp [cA,bO,S1]
 | y::ys=>by
   rw [show cA i a (y::ys) zs=cz i a y.1 y.2 zs++cA i a ys zs from by simp [cA],bj,pN,jR,br]
   by_cases h:i=i'
   ·subst h
    by_cases j:y.1=j'
    ·subst j;simp [Int.mul_add,Int.add_mul]
    ·rw [if_neg (fun e=>j e.2),if_pos rfl,if_pos rfl,if_neg j];simp
   ·rw [if_neg (fun e=>h e.1),if_neg h,if_neg h];rfl
theorem pO {k i' j':Int} {ys zs:List (Int×Int)}:∀ {xs:List (Int×Int)},cf (dD xs ys zs) (k,i',j')=S1 xs i'*S1 ys j'*S1 zs k
 | [] => by simp [dD,bO,S1]
 | x::xs=>by
   rw [show dD (x::xs) ys zs=cA x.1 x.2 ys zs++dD xs ys zs from by simp [dD],bj,pO,pN,br]
   by_cases h:x.1=i'
   ·subst h;simp [Int.add_mul]
   ·rw [if_neg h,if_neg h];simp
noncomputable def gz (l:List Int) (i:Int):Int:=if i < 0 then 0 else l.getD i.toNat 0
theorem uD {l:List Int} {i:Int} (h:i < 0):gz l i=0:=if_pos h
theorem uE {i:Int}:gz [] i=0:=by unfold gz;split <;> simp
theorem jS {x:Int} {l:List Int} {i:Int}:gz (x::l) i=if i=0 then x else gz l (i - 1):=by
 unfold gz
 by_cases h:i < 0
 ·rw [if_pos h,if_neg (by lia),if_pos (by lia)]
 ·rw [if_neg h]
  by_cases h0:i=0
  ·subst h0;simp
  ·rw [if_neg h0,if_neg (by lia)]
   obtain ⟨n,rfl⟩:∃ n:Nat,i=((n+1:Nat):Int):=⟨(i - 1).toNat,by lia⟩
   rw [show (((n+1:Nat):Int) - 1).toNat=n by lia,Int.toNat_natCast]
   simp
theorem uF {a b:List Int}:∀ {i:Int},gz (a++b) i=if i < a.length then gz a i else gz b (i - a.length):=by
 induction a with
 | nil =>
   intro i
   by_cases h:i < 0
   ·rw [if_pos (by simpa using h),List.nil_append,uD h,uD h]
   ·rw [if_neg (by simpa using h)];simp
 | cons x a ih =>
   intro i
   rw [List.cons_append,jS,jS,ih,List.length_cons]
   by_cases h0:i=0
   ·subst h0;rw [if_pos rfl,if_pos rfl,if_pos (by lia)]
   ·rw [if_neg h0,if_neg h0]
    by_cases h:i < ((a.length+1:Nat):Int)
    ·rw [if_pos (by lia),if_pos h]
    ·rw [if_neg (by lia),if_neg h]
     congr 1;lia
theorem ji {l:List Int} {i:Int} (h:gz l i≠0) : 0<=i/\i < l.length:=by
 unfold gz at h
 by_cases hi:i < 0
 ·rw [if_pos hi] at h;exact absurd rfl h
 ·rw [if_neg hi] at h
  refine ⟨by lia, ?_⟩
  by_cases hl:i.toNat < l.length
  ·lia
  ·rw [List.getD_eq_getElem?_getD,List.getElem?_eq_none (by lia)] at h;exact absurd rfl h
theorem dP {a b:List (Int×Int)} {k:Int}:S1 (a++b) k=S1 a k+S1 b k:=by simp [S1]
theorem eY {k:Int}:∀ zs:List (Int×Int),S1 (zs.filter fun q => !(q.2==0)) k=S1 zs k
 | [] => rfl
 | z::zs=>by
   rw [br]
   by_cases h:z.2=0
   ·rw [List.filter_cons_of_neg (by simp [h]),eY zs,h];simp
   ·rw [List.filter_cons_of_pos (by simp [h]),br,eY zs]
theorem fN (l:List Int) (k:Int):S1 (idx l) k=gz l k:=dA (P:=fun l=>S1 (idx l) k=gz l k) (by rw [uE];rfl) (fun l x ih=>by
 have e:idx (l++[x])=idx l++[(((l.length:Nat):Int),x)]:=by simp [idx,List.mapIdx_append]
 rw [e,dP,ih,uF,br]
 simp only [S1,List.map_nil,List.sum_nil]
 by_cases h:k < l.length
 ·rw [if_pos h,if_neg (by lia)];lia
 ·rw [if_neg h,jS,uE]
  have z:gz l k=0:=by
   cases Decidable.em (gz l k=0) with
   | inl h=>exact h
   | inr h'=>exact absurd (ji h').2 h
  rw [z]
  by_cases e:(l.length:Int)=k
  ·rw [if_pos e,if_pos (by lia)];lia
  ·rw [if_neg e,if_neg (by lia)];rfl) l
theorem A3 {p:Pr} {k i j:Int}:cf (nU p) (k,i,j)=gz p.1 i*gz p.2.1 j*gz p.2.2 k:=by
 unfold nU
 rw [pO]
 unfold nz
 rw [eY,eY,eY,fN,fN,fN]
noncomputable def Tn (ps:List Pr) (k i j:Int):Int:=(ps.map fun p=>gz p.1 i*gz p.2.1 j*gz p.2.2 k).sum
theorem A4 {ps:List Pr} {k i j:Int}:cf (rC ps) (k,i,j)=Tn ps k i j:=by
 unfold rC Tn
 rw [pM]
 congr 1
 exact List.map_congr_left fun p _=>A3
theorem uG {a b:List Pr} {k i j:Int}:Tn (a++b) k i j=Tn a k i j+Tn b k i j:=by simp [Tn]
theorem A5 {p:Pr} {a:List Pr} {k i j:Int}:Tn (p::a) k i j=gz p.1 i*gz p.2.1 j*gz p.2.2 k+Tn a k i j:=by simp [Tn]
theorem nV {L0 L1 L2:Nat} {k i j:Int}:∀ {us:List Pr},(∀ u∈us,u.1.length=L0/\u.2.1.length=L1/\u.2.2.length=L2)->Tn us k i j≠0->(0<=k/\k < L2)/\(0<=i/\i < L0)/\(0<=j/\j < L1)
 | [],_,h=>absurd (by simp [Tn]) h
 | u::us,q,h=>by
   obtain ⟨G,J,L⟩:=q u (by simp)
   rw [A5] at h
   by_cases z:gz u.1 i*gz u.2.1 j*gz u.2.2 k=0
   ·rw [z,Int.zero_add] at h
    exact nV (fun v B=>q v (by simp [B])) h
   ·have a1:gz u.1 i≠0:=fun e=>z (by rw [e];simp)
    have a2:gz u.2.1 j≠0:=fun e=>z (by rw [e];simp)
    have F:gz u.2.2 k≠0:=fun e=>z (by rw [e];simp)
    have:=ji a1
    have:=ji a2
    have:=ji F
    lia
end
section
noncomputable abbrev K2:=Int×Int
noncomputable def k2D (k:K2):D := .tup [.int k.1, .int k.2]
noncomputable def raD (r:K2×Addr):D×D:=(k2D r.1, .ref r.2)
theorem pP {a b:K2} (h:k2D a=k2D b):a=b:=by
 obtain ⟨a1,a2⟩:=a
 obtain ⟨b1,b2⟩:=b
 simp only [k2D,D.tup.injEq,List.cons.injEq,D.int.injEq,and_true] at h
 rw [h.1,h.2]
theorem dE {α β:Type} {f : α -> β}:∀ {l:List α},(l.map f).Nodup -> ∀ {x y : α},x∈l->y∈l->f x=f y->x=y
 | [],_,x,_,hx,_,_=>by cases hx
 | z::l,h,x,y,hx,B,e=>by
   rw [List.map_cons,List.nodup_cons] at h
   rcases List.mem_cons.mp hx with rfl | j <;> rcases List.mem_cons.mp B with rfl | q
   ·rfl
   ·exact absurd (List.mem_map.mpr ⟨y,q,e.symm⟩) h.1
   ·exact absurd (List.mem_map.mpr ⟨x,j,e⟩) h.1
   ·exact dE h.2 j q e
structure RI (d:Addr) (N:Nat) (M:Mem) (R:List (K2×Addr)) (g:K2->List Int):Prop where
 dct:M d=some (.dct true (R.map raD))
 keys:(R.map (·.1)).Nodup
 ads:(R.map (·.2)).Nodup
 nd:∀ r∈R,r.2≠d
 row:∀ r∈R,M r.2=some (.lst ((g r.1).map .int))
 ln:∀ k,(g k).length=N
 out:∀ k,k∉R.map (·.1)->g k=List.replicate N 0
structure Run (d:Addr) (R:List (K2×Addr)) (M:Mem) (R':List (K2×Addr)) (M':Mem):Prop where
 ex:∀ r∈R',r∈R∨M r.2=none
 kp:∀ b o,b≠d->b∉R.map (·.2)->M b=some o->M' b=some o
theorem Run.refl {d:Addr} {R:List (K2×Addr)} {M:Mem}:Run d R M R M:=⟨fun r h => .inl h,fun _ _ _ _ e=>e⟩
theorem jT {k:K2}:∀ R:List (K2×Addr),dget (R.map raD) (k2D k)=(R.find? fun r=>decide (r.1=k)).map fun r => .ref r.2
 | [] => rfl
 | r::R=>by
   have ih:=jT (k:=k) R
   unfold dget at ih ⊢
   rw [List.map_cons,List.find?_cons,List.find?_cons]
   by_cases h:r.1=k
   ·have e:decide ((raD r).1=k2D k)=true:=decide_eq_true (by rw [<- h];rfl)
    rw [e,decide_eq_true h];rfl
   ·have e:decide ((raD r).1=k2D k)=false:=decide_eq_false (fun z=>h (pP z))
    rw [e,decide_eq_false h];exact ih
theorem A6 {k:K2} {R:List (K2×Addr)} (h:k∉R.map (·.1)):dget (R.map raD) (k2D k)=none:=by
 rw [jT,List.find?_eq_none.mpr fun r j=>by
  intro z
  exact h (List.mem_map.mpr ⟨r,j,of_decide_eq_true z⟩)]
 rfl
theorem pQ {k:K2} {R:List (K2×Addr)} (h:k∈R.map (·.1)):∃ a,(k,a)∈R/\dget (R.map raD) (k2D k)=some (.ref a):=by
 cases e:R.find? fun r=>decide (r.1=k) with
 | none =>
   obtain ⟨r,j,q⟩:=List.mem_map.mp h
   exact absurd (decide_eq_true q) (List.find?_eq_none.mp e r j)
 | some r =>
   have h1:=List.find?_some e
   have h2:=List.mem_of_find?_eq_some e
   have z:r.1=k:=of_decide_eq_true h1
   obtain ⟨rk,ra⟩:=r
   cases z
   exact ⟨ra,h2,by rw [jT,e];rfl⟩
theorem A7 {k:K2} {R:List (K2×Addr)} {a:Addr} (h:k∉R.map (·.1)):dS (R.map raD) (k2D k) (.ref a)=(R++[(k,a)]).map raD:=by
 unfold dS
 rw [if_neg,List.map_append]
 ·rfl
 ·intro z
  obtain ⟨x,hx,j⟩:=List.any_eq_true.mp z
  obtain ⟨r,q,rfl⟩:=List.mem_map.mp hx
  exact h (List.mem_map.mpr ⟨r,q,pP (of_decide_eq_true j)⟩)
theorem RI.ge {d:Addr} {N:Nat} {M M':Mem} {R:List (K2×Addr)} {g:K2->List Int} (h:RI d N M R g) (x:Ge M M'):RI d N M' R g:=⟨x _ _ h.dct,h.keys,h.ads,h.nd,fun r j=>x _ _ (h.row r j),h.ln,h.out⟩
theorem Run.trans {d:Addr} {N:Nat} {R R' R'':List (K2×Addr)} {M M' M'':Mem} {g g':K2->List Int} (h:Run d R M R' M') (h2:Run d R' M' R'' M'') (i:RI d N M' R' g') (sub:∀ r∈R,r∈R'):Run d R M R'' M'':=by
 refine ⟨fun r B => ?_,fun b o n m e => ?_⟩
 ·rcases h2.ex r B with j | j
  ·exact h.ex r j
  ·by_cases z:r.2∈R.map (·.2)
   ·obtain ⟨r',q,e⟩:=List.mem_map.mp z
    rw [<- e,i.row r' (sub r' q)] at j;cases j
   ·refine .inr ?_
    cases e:M r.2 with
    | none=>rfl
    | some o =>
      by_cases zd:r.2=d
      ·rw [zd,i.dct] at j;cases j
      ·rw [h.kp _ _ zd z e] at j;cases j
 ·refine h2.kp b o n (fun z => ?_) (h.kp b o n m e)
  obtain ⟨r',q,e'⟩:=List.mem_map.mp z
  rcases h.ex r' q with j | j
  ·exact m (List.mem_map.mpr ⟨r',j,e'⟩)
  ·rw [e',e] at j;cases j
theorem RI.new {d:Addr} {N:Nat} {M:Mem} {R:List (K2×Addr)} {g:K2->List Int} (h:RI d N M R g) {k:K2} (L:k∉R.map (·.1)) {G:Mem} {a:Addr} (ga:Ge M G) (q:M a=none) (h1:G a=some (.lst ((List.replicate N (0:Int)).map .int))) :
 RI d N (af G d (.dct true ((R++[(k,a)]).map raD))) (R++[(k,a)]) g/\Run d R M (R++[(k,a)]) (af G d (.dct true ((R++[(k,a)]).map raD))):=by
 have B:a≠d:=fun z=>by rw [z,h.dct] at q;cases q
 refine ⟨⟨ab, ?_, ?_, ?_, ?_,h.ln, ?_⟩,⟨?_, ?_⟩⟩
 ·rw [List.map_append,List.nodup_append]
  exact ⟨h.keys,by simp,fun x hx y F=>by simp at F;subst F;exact fun z=>L (z ▸ hx)⟩
 ·rw [List.map_append,List.nodup_append]
  refine ⟨h.ads,by simp,fun x hx y F => ?_⟩
  simp at F;subst F
  intro z
  obtain ⟨r,j,rfl⟩:=List.mem_map.mp hx
  rw [<- z,h.row r j] at q;cases q
 ·intro r j
  rcases List.mem_append.mp j with j | j
  ·exact h.nd r j
  ·simp at j;subst j;exact B
 ·intro r j
  rcases List.mem_append.mp j with j | j
  ·rw [aq (h.nd r j)];exact ga _ _ (h.row r j)
  ·simp at j;subst j
   rw [aq B,h1,h.out k L]
 ·intro k' J
  exact h.out k' fun z=>J (by rw [List.map_append];exact List.mem_append_left _ z)
 ·intro r j
  rcases List.mem_append.mp j with j | j
  ·exact .inl j
  ·simp at j;subst j;exact .inr q
 ·intro b o n m e
  rw [aq n];exact ga _ _ e
theorem RI.put {d:Addr} {N:Nat} {M:Mem} {R:List (K2×Addr)} {g:K2->List Int} (h:RI d N M R g) {k:K2} {a:Addr} (q:(k,a)∈R) {row:List Int} (F:row.length=N) :
 RI d N (af M a (.lst (row.map .int))) R (fun k'=>if k'=k then row else g k')/\Run d R M R (af M a (.lst (row.map .int))):=by
 refine ⟨⟨?_,h.keys,h.ads,h.nd, ?_, ?_, ?_⟩,⟨fun r h => .inl h, ?_⟩⟩
 ·rw [aq (fun z=>h.nd _ q z.symm)];exact h.dct
 ·intro r j
  by_cases e:r=(k,a)
  ·subst e;rw [ab,if_pos rfl]
  ·have na:r.2≠a:=fun z=>e (dE h.ads j q z)
   have nk:r.1≠k:=fun z=>e (dE h.keys j q z)
   rw [aq na,if_neg nk];exact h.row r j
 ·intro k'
  split
  ·exact F
  ·exact h.ln k'
 ·intro k' B
  rw [if_neg (fun z=>B (List.mem_map.mpr ⟨_,q,z.symm⟩))]
  exact h.out k' B
 ·intro b o n m e
  rw [aq (fun z=>m (List.mem_map.mpr ⟨_,q,z.symm⟩))];exact e
end
section
open PySem PySem.Spec PyProof.Rows L2.Srt
variable {T:List FD}
noncomputable def dF (s:Stmt):FD:=⟨"filled",s,["part"],1,
 (.cons (.ret (.comp [none,none] ["at", "x"] (.last (.enum (.var 0)) (.tup (.cons (.name 0) (.cons (.name 1) .nil))) (.cons (.cmp .ne (.var 1) (.int 0)) .nil) (.tup (.cons (.var 0) (.cons (.var 1) .nil))))))
 .nil)⟩
theorem dQ {f:Nat} {s:Stmt} (hf:T[f]? = some (dF s)) {n:Nat} (G : 1<=n) {x:D} {l:List Int} (J:l.length<=1000000) {M:Mem} {Q:QD} (hx:al M x=some (l.map .int)) (q:∀ p,M p=none->Q (.ref p) (af M p (.lst ((nz l).map pD)))):phi T n f [x] M Q:=by
 refine ar (by lia) hf rfl (ρ := [some _]) rfl ?_
 unfold dF
 walk_at "st"
 refine ⟨_,hx, ?_⟩
 rw [xr]
 refine aM (f:=pD) (ys:=idx l) (I:=fun r ρ M' acc=>(∃ o0 z, ρ = [o0,z])/\M'=M/\acc=(r.filter fun q => !(q.2==0)).map pD) rfl ⟨⟨_,_,rfl⟩,rfl,rfl⟩ (fun _ _ _ _ h=>by rw [h.2.1];exact hx) ?_ ?_
 ·rintro l' y r ρ M1 acc e ⟨⟨o0,z,rfl⟩,rfl,rfl⟩
  refine ⟨_,rfl,fun N' j => ?_⟩
  have B:=aH e
  rw [pL] at B
  have F:(l'.filter fun q => !(q.2==0)).length<=l'.length:=List.length_filter_le _ _
  walk_at "wp"
  by_cases hz:y.2=0
  ·rw [if_neg (by simp [hz])]
   refine j _ _ _ ⟨⟨_,_,rfl⟩,rfl, ?_⟩
   rw [List.filter_append,List.filter_cons_of_neg (by simp [hz])];simp
  ·rw [if_pos (by simp [hz])]
   refine ⟨by rw [sizeLine_eq];lia,by rw [List.length_map,sizeLine_eq];lia,j _ _ _ ⟨⟨_,_,rfl⟩,rfl, ?_⟩⟩
   rw [List.filter_append,List.filter_cons_of_pos (by simp [hz])];simp [pD]
 ·rintro ρ M1 acc ⟨⟨o0,z,rfl⟩,rfl,rfl⟩ p hp
  exact q p hp
theorem BO {l:List Int} {v:Int} {k:Nat} (j:k < l.length) {i:Int}:gz (l.set k v) i=if i=k then v else gz l i:=by
 unfold gz
 by_cases h:i < 0
 ·rw [if_pos h,if_pos h,if_neg (by lia)]
 ·rw [if_neg h,if_neg h,List.getD_eq_getElem?_getD,List.getD_eq_getElem?_getD]
  by_cases e:i=k
  ·subst e;rw [Int.toNat_natCast,List.getElem?_set_self j,if_pos rfl];rfl
  ·rw [List.getElem?_set_ne (by lia),if_neg e]
theorem BP {l:List Int} {k:Nat} (j:k < l.length):l[k]? = some (gz l k):=by
 unfold gz
 rw [if_neg (by lia),Int.toNat_natCast,List.getD_eq_getElem?_getD,List.getElem?_eq_getElem j];rfl
theorem uH {n:Nat} {i:Int}:gz (List.replicate n 0) i=0:=by
 unfold gz
 split
 ·rfl
 ·rw [List.getD_eq_getElem?_getD]
  cases e:(List.replicate n (0:Int))[i.toNat]? with
  | none=>rfl
  | some x=>exact List.eq_of_mem_replicate (List.mem_of_getElem? e)
noncomputable def rD:MSs := .cons (.augI (.var 15) (.var 17) .add (.bin .mul (.var 18) (.var 16))) .nil
theorem CQ {Φ:Phi} {v0 v1 v2 v3 v4 v5 v6 v7 v8 v10 v11 J L O B G:Option D} {a po:Addr} {pr:Int} {N:Nat} {row:List Int} {zs:List (Int×Int)} {M:Mem} {E:b8} (Y:M po=some (.lst (zs.map pD))) (Dv:po≠a) (ha:M a=some (.lst (row.map .int))) (hl:row.length=N) (hz:∀ z∈zs,0<=z.1/\z.1 < N/\bd z.2)
 (q:∀ row' B G,row'.length=N->(∀ k,gz row' k=gz row k+pr*S1 zs k)->E.nx [v0,v1,v2,v3,v4,v5,v6,v7,v8,some (.ref po),v10,v11,J,L,O,some (.ref a),some (.int pr),B,G] (af M a (.lst (row'.map .int)))) :
 wSs Φ (.cons (.for (.tup (.cons (.name 17) (.cons (.name 18) .nil))) (.seq (.var 9)) rD) .nil) E [v0,v1,v2,v3,v4,v5,v6,v7,v8,some (.ref po),v10,v11,J,L,O,some (.ref a),some (.int pr),B,G] M:=by
 walk_at "st"
 refine ⟨_,ag Y, ?_⟩
 refine bE (f:=pD) (ys:=zs) (I:=fun l ρ M' => ∃ B G row', ρ = [v0,v1,v2,v3,v4,v5,v6,v7,v8,some (.ref po),v10,v11,J,L,O,some (.ref a),some (.int pr),B,G]/\M'=af M a (.lst (row'.map .int))/\row'.length=N /\ ∀ k,gz row' k=gz row k+pr*S1 l k) rfl ⟨_,_,row,rfl,(uk ha).symm,hl,fun k=>by simp [S1]⟩ (fun l ρ M' ⟨_,_,_,_,e,_⟩=>by rw [e];exact ag (by rw [aq Dv];exact Y)) ?_ ?_
 ·rintro l z r ρ M1 e ⟨B,G,row',rfl,rfl,U,hg⟩
  refine ⟨_,rfl,fun F hF => ?_⟩
  obtain ⟨z0,z1,z2⟩:=hz z (by rw [e];simp)
  obtain ⟨kn,ek⟩:∃ k:Nat,z.1=k:=⟨z.1.toNat,by lia⟩
  have Z:kn < row'.length:=by lia
  unfold rD
  rw [bW]
  walk_at "wp"
  refine ⟨a,_,_, .int (gz row' kn),rfl,rfl,ab, ?_, ?_⟩
  ·rw [ek]
   refine eE ?_
   rw [List.getElem?_map,BP Z];rfl
  walk_at "wp"
  refine ⟨b5 (by unfold bd at z2;lia), ?_⟩
  rw [ek]
  refine bX ab (j:=kn) ?_ ?_
  ·unfold ixN
   rw [List.length_map,if_pos (by lia),if_pos (by lia)];simp
  rw [uj]
  refine hF _ _ ⟨_,_,row'.set kn (gz row' kn+z.2*pr),rfl,by rw [List.map_set],by rw [List.length_set];exact U,fun k => ?_⟩
  rw [BO Z,dP,br,show S1 [] k=0 from rfl,Int.add_zero,ek,Int.mul_add, <- Int.add_assoc, <- hg]
  by_cases ekk:k=kn
  ·rw [if_pos ekk,if_pos ekk.symm,ekk,Int.mul_comm]
  ·rw [if_neg ekk,if_neg (fun h=>ekk h.symm)];lia
 ·rintro ρ M1 ⟨B,G,row',rfl,rfl,U,hg⟩
  dsimp only
  walk_at "wp"
  exact q row' _ _ U hg
theorem Run.keep {d:Addr} {N:Nat} {M M':Mem} {R R':List (K2×Addr)} {g:K2->List Int} (h:Run d R M R' M') (i:RI d N M R g) {a:Addr} {ds:List D} (e:M a=some (.lst ds)) (j:a∉R.map (·.2)):M' a=some (.lst ds) :=
 h.kp a _ (fun z=>by rw [z,i.dct] at e;cases e) j e
noncomputable def rE:MSs:=(.cons (.ite (.cmp .ninD (.tup (.cons (.var 11) (.cons (.var 13) .nil))) (.var 5)) (.cons (.put (.var 5) (.tup (.cons (.var 11) (.cons (.var 13) .nil))) (.bin .mul (.lst (.cons (.int 0) .nil)) (.var 3)))
 .nil) .nil)
 (.cons (.par 15 16 (.ix (.var 5) (.tup (.cons (.var 11) (.cons (.var 13) .nil)))) (.bin .mul (.var 12) (.var 14)))
 (.cons (.for (.tup (.cons (.name 17) (.cons (.name 18) .nil))) (.seq (.var 9)) rD)
 .nil)))
theorem gA {d:Addr} {N:Nat} {M M':Mem} {R R':List (K2×Addr)} {g:K2->List Int} (h:Run d R M R' M') (i:RI d N M R g) {a:Addr} {o:O} (e:M a=some o) (j:a∉R.map (·.2)):a∉R'.map (·.2):=fun z=>by
 obtain ⟨r,q,rfl⟩:=List.mem_map.mp z
 rcases h.ex r q with h1 | h1
 ·exact j (List.mem_map.mpr ⟨r,h1,rfl⟩)
 ·rw [h1] at e;cases e
theorem Dr {Φ:Phi} {v0 v1 v2 v4 v6 v7 v8 v10 G J B F:Option D} {d po:Addr} {i x j y:Int} {N:Nat} {R:List (K2×Addr)} {g:K2->List Int} {zs:List (Int×Int)} {M:Mem} {E:b8} (hN:N<=1000) (I:RI d N M R g) (U:M po=some (.lst (zs.map pD))) (Y:po∉R.map (·.2)) (hl:R.length<=1000000) (hx:bd x) (hz:∀ z∈zs,0<=z.1/\z.1 < N/\bd z.2)
 (q:∀ M' R' g' G J B F,RI d N M' R' g'->Run d R M R' M'->(∀ r∈R,r∈R')->R'.length<=R.length+1->(∀ k i' j',gz (g' (i',j')) k=gz (g (i',j')) k+if i'=i/\j'=j then x*y*S1 zs k else 0)->E.nx [v0,v1,v2,some (.int N),v4,some (.ref d),v6,v7,v8,some (.ref po),v10,some (.int i),some (.int x),some (.int j),some (.int y),G,J,B,F] M') :
 wSs Φ rE E [v0,v1,v2,some (.int N),v4,some (.ref d),v6,v7,v8,some (.ref po),v10,some (.int i),some (.int x),some (.int j),some (.int y),G,J,B,F] M:=by
 unfold rE
 have ek:D.tup [D.int i,D.int j]=k2D (i,j):=rfl
 refine xf (I:=fun ρ M' => ρ = [v0,v1,v2,some (.int N),v4,some (.ref d),v6,v7,v8,some (.ref po),v10,some (.int i),some (.int x),some (.int j),some (.int y),G,J,B,F] /\ ∃ R',RI d N M' R' g/\Run d R M R' M'/\(∀ r∈R,r∈R')/\R'.length<=R.length+1/\(i,j)∈R'.map (·.1)) (fun RR hR => ?_) (fun ρ M1 h => ?_)
 ·walk_at "wp"
  refine ⟨by rw [sizeLine_eq];lia,d,true,_,rfl,I.dct,rfl, ?_⟩
  walk_at "wp"
  rw [ek]
  by_cases L:(i,j)∈R.map (·.1)
  ·obtain ⟨a,ha,e⟩:=pQ L
   rw [e]
   walk_at "wp"
   exact hR _ _ ⟨rfl,R,I,Run.refl,fun r h=>h,by lia,L⟩
  ·rw [A6 L]
   walk_at "wp"
   rw [bW]
   walk_at "wp"
   refine ⟨by rw [sizeLine_eq];lia,fun p1 Dx => ?_⟩
   have g1:=Ge.new (o := .lst [.int 0]) Dx
   refine ⟨_,ab,by lia,by lia,by rw [sizeLine_eq];simp;lia,fun p2 O => ?_⟩
   have g2:=g1.trans (Ge.new (o := .lst (List.replicate (N:Int).toNat [D.int 0]).flatten) O)
   have Z:M p2=none:=by
    cases hq:M p2 with
    | none=>rfl
    | some o=>rw [g1 _ _ hq] at O;cases O
   have e2:af (af M p1 (.lst [.int 0])) p2 (.lst (List.replicate (N:Int).toNat [D.int 0]).flatten) p2=some (.lst ((List.replicate N (0:Int)).map .int)):=by
    rw [ab,rq];simp
   generalize af (af M p1 (.lst [.int 0])) p2 (.lst (List.replicate (N:Int).toNat [D.int 0]).flatten)=M2 at g2 e2
   refine ⟨by rw [sizeLine_eq];lia,nL (g2 _ _ I.dct) rfl (by rw [List.length_map,sizeLine_eq];lia) ?_⟩
   rw [ek,A7 L]
   obtain ⟨I2,r2⟩:=I.new L g2 Z e2
   exact hR _ _ ⟨rfl,_,I2,r2,fun r h=>List.mem_append_left _ h,by simp,by simp⟩
 ·obtain ⟨rfl,R',I1,r1,sub,Dy,L⟩:=h
  obtain ⟨a,ha,e⟩:=pQ L
  walk_at "st"
  refine ⟨by rw [sizeLine_eq];lia, ?_⟩
  rw [ek]
  refine BJ I1.dct rfl e ?_
  walk_at "wp"
  refine ⟨b5 (by unfold bd at hx;lia), ?_⟩
  have Dv:=r1.keep I U Y
  have Dw:=gA r1 I U Y
  refine CQ (pr:=x*y) Dv (fun z=>Dw (List.mem_map.mpr ⟨_,ha,z.symm⟩)) (I1.row _ ha) (I1.ln _) hz fun row' B F Dz hg => ?_
  obtain ⟨I2,r2⟩:=I1.put ha Dz
  refine q _ _ _ _ _ _ _ I2 (r1.trans (g:=g) r2 I1 sub) sub Dy fun k i' j' => ?_
  by_cases h:i'=i/\j'=j
  ·obtain ⟨rfl,rfl⟩:=h
   rw [if_pos rfl,if_pos ⟨rfl,rfl⟩];exact hg k
  ·rw [if_neg (fun z=>h ⟨congrArg (·.1) z,congrArg (·.2) z⟩),if_neg h,Int.add_zero]
noncomputable def rF:MSs := .cons (.for (.tup (.cons (.name 13) (.cons (.name 14) .nil))) (.seq (.var 10)) rE) .nil
theorem Ds {Φ:Phi} {v0 v1 v2 v4 v6 v7 v8 O U B G J L:Option D} {d po pr:Addr} {i x:Int} {N:Nat} {R:List (K2×Addr)} {g:K2->List Int} {ys zs:List (Int×Int)} {M:Mem} {E:b8} (hN:N<=1000) (I:RI d N M R g) (Z:M po=some (.lst (zs.map pD))) (Dv:po∉R.map (·.2)) (Dw:M pr=some (.lst (ys.map pD))) (Dz:pr∉R.map (·.2)) (hl:R.length+ys.length<=1000000) (hx:bd x) (hz:∀ z∈zs,0<=z.1/\z.1 < N/\bd z.2)
 (q:∀ M' R' g' O U B G J L,RI d N M' R' g'->Run d R M R' M'->(∀ r∈R,r∈R')->R'.length<=R.length+ys.length->(∀ k i' j',gz (g' (i',j')) k=gz (g (i',j')) k+if i=i' then x*S1 ys j'*S1 zs k else 0)->E.nx [v0,v1,v2,some (.int N),v4,some (.ref d),v6,v7,v8,some (.ref po),some (.ref pr),some (.int i),some (.int x),O,U,B,G,J,L] M') :
 wSs Φ rF E [v0,v1,v2,some (.int N),v4,some (.ref d),v6,v7,v8,some (.ref po),some (.ref pr),some (.int i),some (.int x),O,U,B,G,J,L] M:=by
 unfold rF
 walk_at "st"
 refine ⟨_,ag Dw, ?_⟩
 refine bE (f:=pD) (ys:=ys) (I:=fun l ρ M' => ∃ R' g' O U B G J L, ρ = [v0,v1,v2,some (.int N),v4,some (.ref d),v6,v7,v8,some (.ref po),some (.ref pr),some (.int i),some (.int x),O,U,B,G,J,L]/\RI d N M' R' g'/\Run d R M R' M'/\(∀ r∈R,r∈R')/\R'.length<=R.length+l.length /\ ∀ k i' j',gz (g' (i',j')) k=gz (g (i',j')) k+if i=i' then x*S1 l j'*S1 zs k else 0) rfl ⟨R,g,_,_,_,_,_,_,rfl,I,Run.refl,fun r h=>h,by simp,fun k i' j'=>by simp [S1]⟩ (fun l ρ M' ⟨_,_,_,_,_,_,_,_,_,_,Y,_⟩=>ag (Y.keep I Dw Dz)) ?_ ?_
 ·rintro l y r ρ M1 e ⟨R1,g1,O,U,B,G,J,L,rfl,I1,Y,sub,Dx,hg⟩
  refine ⟨_,rfl,fun F hF => ?_⟩
  have DB:=aH e
  refine Dr (j:=y.1) (y:=y.2) hN I1 (Y.keep I Z Dv) (gA Y I Z Dv) (by lia) hx hz fun M2 R2 g2 B G J L I2 r2 Dy DC DA=>hF _ _ ⟨R2,g2,_,_,_,_,_,_,rfl,I2,Y.trans (g:=g) r2 I1 sub,fun r h=>Dy r (sub r h),by simp;lia,fun k i' j' => ?_⟩
  rw [DA,hg,dP,br,show S1 [] j'=0 from rfl,Int.add_zero,Int.add_assoc]
  congr 1
  by_cases hi:i=i'
  ·subst hi
   by_cases hj:y.1=j'
   ·subst hj;simp [Int.mul_add,Int.add_mul]
   ·rw [if_pos rfl,if_neg (fun z=>hj z.2.symm),if_pos rfl,if_neg hj];simp
  ·rw [if_neg hi,if_neg (fun z=>hi z.1.symm),if_neg hi];rfl
 ·rintro ρ M1 ⟨R1,g1,O,U,B,G,J,L,rfl,I1,Y,sub,Dx,hg⟩
  dsimp only
  walk_at "wp"
  exact q _ _ _ _ _ _ _ _ _ I1 Y sub Dx hg
theorem Dt {Φ:Phi} {v0 v1 v2 v4 v6 v7 v8 U Y j B G J L O:Option D} {d po pr pl:Addr} {N:Nat} {R:List (K2×Addr)} {g:K2->List Int} {xs ys zs:List (Int×Int)} {M:Mem} {E:b8} (hN:N<=1000) (I:RI d N M R g) (Dv:M po=some (.lst (zs.map pD))) (Dw:po∉R.map (·.2)) (Dx:M pr=some (.lst (ys.map pD))) (Dy:pr∉R.map (·.2)) (DB:M pl=some (.lst (xs.map pD))) (DC:pl∉R.map (·.2)) (hl:R.length+xs.length*ys.length<=1000000) (hx:∀ z∈xs,bd z.2) (hz:∀ z∈zs,0<=z.1/\z.1 < N/\bd z.2)
 (q:∀ M' R' g' U Y j B G J L O,RI d N M' R' g'->Run d R M R' M'->(∀ r∈R,r∈R')->R'.length<=R.length+xs.length*ys.length->(∀ k i' j',gz (g' (i',j')) k=gz (g (i',j')) k+S1 xs i'*S1 ys j'*S1 zs k)->E.nx [v0,v1,v2,some (.int N),v4,some (.ref d),v6,v7,v8,some (.ref po),some (.ref pr),U,Y,j,B,G,J,L,O] M') :
 bu (mR (bH (bQ 11) (bH (bQ 12) fw))) (wSs Φ rF) (fun M=>al M (.ref pl)=some (xs.map pD)) E (xs.map pD) [v0,v1,v2,some (.int N),v4,some (.ref d),v6,v7,v8,some (.ref po),some (.ref pr),U,Y,j,B,G,J,L,O] M:=by
 refine bE (f:=pD) (ys:=xs) (I:=fun l ρ M' => ∃ R' g' U Y j B G J L O, ρ = [v0,v1,v2,some (.int N),v4,some (.ref d),v6,v7,v8,some (.ref po),some (.ref pr),U,Y,j,B,G,J,L,O]/\RI d N M' R' g'/\Run d R M R' M'/\(∀ r∈R,r∈R')/\R'.length<=R.length+l.length*ys.length /\ ∀ k i' j',gz (g' (i',j')) k=gz (g (i',j')) k+S1 l i'*S1 ys j'*S1 zs k) rfl ⟨R,g,_,_,_,_,_,_,_,_,rfl,I,Run.refl,fun r h=>h,by simp,fun k i' j'=>by simp [S1]⟩ (fun l ρ M' ⟨_,_,_,_,_,_,_,_,_,_,_,_,Z,_⟩=>ag (Z.keep I DB DC)) ?_ ?_
 ·rintro l x r ρ M1 e ⟨R1,g1,U,Y,j,B,G,J,L,O,rfl,I1,Z,sub,Dz,hg⟩
  refine ⟨_,rfl,fun F hF => ?_⟩
  have DD:=aH e
  have hm:(l.length+1)*ys.length<=xs.length*ys.length:=Nat.mul_le_mul_right _ DD
  rw [Nat.succ_mul] at hm
  refine Ds (i:=x.1) (x:=x.2) hN I1 (Z.keep I Dv Dw) (gA Z I Dv Dw) (Z.keep I Dx Dy) (gA Z I Dx Dy) (by lia) (hx x (by rw [e];simp)) hz fun M2 R2 g2 j B G J L O I2 r2 DA DF DE=>hF _ _ ⟨R2,g2,_,_,_,_,_,_,_,_,rfl,I2,Z.trans (g:=g) r2 I1 sub,fun r h=>DA r (sub r h),by rw [List.length_append,List.length_singleton,Nat.succ_mul];lia,fun k i' j' => ?_⟩
  rw [DE,hg,dP,br,show S1 [] i'=0 from rfl,Int.add_zero,Int.add_assoc,Int.add_mul,Int.add_mul]
  congr 2
  by_cases hi:x.1=i'
  ·rw [if_pos hi,if_pos hi]
  ·rw [if_neg hi,if_neg hi];simp
 ·rintro ρ M1 ⟨R1,g1,U,Y,j,B,G,J,L,O,rfl,I1,Z,sub,Dz,hg⟩
  exact q _ _ _ _ _ _ _ _ _ _ _ I1 Z sub Dz hg
noncomputable def jj (s:Stmt) (ff:Nat):FD:=⟨"rows_by_pairs",s,["scheme", "left", "right", "many", "products", "rows", "l", "r", "o", "outs", "rights", "i", "x", "j", "y", "row", "product", "k", "c"],1,
 (.cons (.asg (.tup (.cons (.name 1) (.cons (.name 2) (.cons (.name 3) (.cons (.name 4) .nil))))) (.var 0))
 (.cons (.asg (.name 5) (.dnew true))
 (.cons (.for (.tup (.cons (.name 6) (.cons (.name 7) (.cons (.name 8) .nil)))) (.seq (.var 4)) (.cons (.par 9 10 (.call ff (.cons (.var 8) .nil)) (.call ff (.cons (.var 7) .nil)))
 (.cons (.for (.tup (.cons (.name 11) (.cons (.name 12) .nil))) (.seq (.call ff (.cons (.var 6) .nil))) (.cons (.for (.tup (.cons (.name 13) (.cons (.name 14) .nil))) (.seq (.var 10)) (.cons (.ite (.cmp .ninD (.tup (.cons (.var 11) (.cons (.var 13) .nil))) (.var 5)) (.cons (.put (.var 5) (.tup (.cons (.var 11) (.cons (.var 13) .nil))) (.bin .mul (.lst (.cons (.int 0) .nil)) (.var 3)))
 .nil) .nil)
 (.cons (.par 15 16 (.ix (.var 5) (.tup (.cons (.var 11) (.cons (.var 13) .nil)))) (.bin .mul (.var 12) (.var 14)))
 (.cons (.for (.tup (.cons (.name 17) (.cons (.name 18) .nil))) (.seq (.var 9)) (.cons (.augI (.var 15) (.var 17) .add (.bin .mul (.var 18) (.var 16)))
 .nil))
 .nil))))
 .nil))
 .nil)))
 (.cons (.ret (.var 5))
 .nil))))⟩
theorem CS {l:List Int} {N:Nat} (h:Big l) (B:l.length=N):∀ z∈nz l,0<=z.1/\z.1 < N/\bd z.2:=fun z j=>by
 have q:=uC h z j
 unfold nz at j
 have j:=(List.mem_filter.mp j).1
 unfold idx at j
 obtain ⟨i,hi,e⟩:=List.mem_mapIdx.mp j
 refine ⟨?_, ?_,q⟩ <;> rw [<- e] <;> dsimp only <;> lia
theorem jk {l:List Int} {k:Int}:S1 (nz l) k=gz l k:=by unfold nz;rw [eY,fN]
structure Pf (L0 L1 L2:Nat) (p:Pr):Prop where
 b1:Big p.1
 b2:Big p.2.1
 b3:Big p.2.2
 l1:p.1.length=L0
 l2:p.2.1.length=L1
 l3:p.2.2.length=L2
theorem xt {f ff:Nat} {s sf:Stmt} (hf:T[f]? = some (jj s ff)) (Dw:T[ff]? = some (dF sf)) {n:Nat} (hn : 2<=n) {x0 x1:D} {L0 L1 N B:Nat} {p:Addr} {ps:List Pr} {M:Mem} {Q:QD} (hp:M p=some (.lst (ps.map prD))) (hN:N<=1000) (h0:L0<=1000) (h1:L1<=1000) (hB:ps.length*B<=1000000) (hF:∀ p∈ps,Pf L0 L1 N p) (hZ:∀ p∈ps,(nz p.1).length*(nz p.2.1).length<=B)
 (q:∀ d M' R g,RI d N M' R g->Ge M M'->M d=none->(∀ r∈R,M r.2=none)->R.length<=ps.length*B->(∀ k i j,gz (g (i,j)) k=Tn ps k i j)->Q (.ref d) M'):phi T n f [.tup [x0,x1, .int N, .ref p]] M Q:=by
 refine ar (by lia) hf rfl (ρ := [some _,none,none,none,none,none,none,none,none,none,none,none,none,none,none,none,none,none,none]) rfl ?_
 unfold jj
 walk_at "st"
 walk_at "st"
 intro d hd
 have g0:=Ge.new (o := .dct true []) hd
 have d0:=ab (M:=M) (a:=d) (o := .dct true [])
 generalize af M d (.dct true [])=M0 at g0 d0 ⊢
 walk_at "st"
 refine ⟨_,ag (g0 _ _ hp), ?_⟩
 have DJ:p≠d:=fun z=>by rw [z,hd] at hp;cases hp
 refine bE (f:=prD) (ys:=ps) (I:=fun l ρ M' => ∃ R g o6 o7 o8 o9 Dx G J L O U Y Z Dv, ρ = [some (.tup [x0,x1, .int N, .ref p]),some x0,some x1,some (.int N),some (.ref p),some (.ref d),o6,o7,o8,o9,Dx,G,J,L,O,U,Y,Z,Dv]/\Ge M M'/\RI d N M' R g/\(∀ r∈R,M r.2=none)/\R.length<=l.length*B /\ ∀ k i j,gz (g (i,j)) k=Tn l k i j) rfl ⟨[],fun _=>List.replicate N 0,_,_,_,_,_,_,_,_,_,_,_,_,_,rfl,g0,⟨d0,by simp,by simp,by simp,by simp,by simp,fun _ _=>rfl⟩,by simp,by simp,fun k i j=>by rw [uH];simp [Tn]⟩ (fun l ρ M' ⟨_,_,_,_,_,_,_,_,_,_,_,_,_,_,_,_,g,_⟩=>ag (g _ _ hp)) ?_ ?_
 ·rintro l x r ρ M1 e ⟨R,g,o6,o7,o8,o9,Dx,G,J,L,O,U,Y,Z,Dv,rfl,g1,I1,fr,DB,hg⟩
  refine ⟨_,rfl,fun F DC => ?_⟩
  have hx:=hF x (by rw [e];simp)
  have DD:=aH e
  have hm:(l.length+1)*B<=ps.length*B:=Nat.mul_le_mul_right _ DD
  rw [Nat.succ_mul] at hm
  have DK:=hZ x (by rw [e];simp)
  have nr:∀ {M2:Mem} {a:Addr},Ge M1 M2->M2 a=none->a∉R.map (·.2):=fun {M2 a} g2 ha z=>by
   obtain ⟨r,hr,rfl⟩:=List.mem_map.mp z
   rw [g2 _ _ (I1.row r hr)] at ha;cases ha
  walk_at "st"
  refine dQ Dw (by lia) (l:=x.2.2) (by have:=hx.l3;lia) rfl fun po Dy => ?_
  have DE:=nr Ge.refl Dy
  have g2:Ge M1 _:=Ge.new (o := .lst ((nz x.2.2).map pD)) Dy
  have eo:=ab (M:=M1) (a:=po) (o := .lst ((nz x.2.2).map pD))
  generalize af M1 po (.lst ((nz x.2.2).map pD))=M2 at eo g2 ⊢
  walk_at "wp"
  refine dQ Dw (by lia) (l:=x.2.1) (by have:=hx.l2;lia) rfl fun pr Dz => ?_
  have DF:=nr g2 Dz
  have gr:=Ge.new (o := .lst ((nz x.2.1).map pD)) Dz
  have er:=ab (M:=M2) (a:=pr) (o := .lst ((nz x.2.1).map pD))
  have eo:=gr _ _ eo
  have g3:=g2.trans gr
  generalize af M2 pr (.lst ((nz x.2.1).map pD))=M3 at eo er g3 ⊢
  clear g2 gr Dy Dz
  walk_at "wp"
  walk_at "st"
  refine dQ Dw (by lia) (l:=x.1) (by have:=hx.l1;lia) rfl fun pl DA => ?_
  have DG:=nr g3 DA
  have gl:=Ge.new (o := .lst ((nz x.1).map pD)) DA
  have el:=ab (M:=M3) (a:=pl) (o := .lst ((nz x.1).map pD))
  have eo:=gl _ _ eo
  have er:=gl _ _ er
  have g4:=g3.trans gl
  generalize af M3 pl (.lst ((nz x.1).map pD))=M4 at eo er el g4 ⊢
  clear g3 gl DA
  refine ⟨_,ag el, ?_⟩
  refine Dt hN (I1.ge g4) eo DE er DF el DG (by lia) (uC hx.b1) (CS hx.b3 hx.l3) fun M5 R5 g5 G J L O U Y Z Dv I5 r5 sub DL DH => ?_
  walk_at "wp"
  refine DC _ _ ⟨R5,g5,_,_,_,_,_,_,_,_,_,_,_,_,_,rfl,fun a o ea => ?_,I5,fun r hr => ?_, ?_,fun k i j => ?_⟩
  ·refine r5.kp a o (fun z=>by rw [z,hd] at ea;cases ea) (fun z => ?_) (g4 _ _ (g1 _ _ ea))
   obtain ⟨r',DI,rfl⟩:=List.mem_map.mp z
   rw [fr r' DI] at ea;cases ea
  ·rcases r5.ex r hr with h | h
   ·exact fr r h
   ·cases ea:M r.2 with
    | none=>rfl
    | some o=>rw [g4 _ _ (g1 _ _ ea)] at h;cases h
  ·rw [List.length_append,List.length_singleton,Nat.succ_mul];lia
  ·rw [DH,hg,jk,jk,jk,uG]
   simp [Tn]
 ·rintro ρ M1 ⟨R,g,o6,o7,o8,o9,Dx,G,J,L,O,U,Y,Z,Dv,rfl,g1,I1,fr,DB,hg⟩
  dsimp only
  walk_at "st"
  exact q d M1 R g I1 g1 hd fr DB hg
end
section
open PySem PySem.Spec PyProof.Rows L2.Srt
variable {T:List FD}
noncomputable def tr1 (k:K2) (zs:List (Int×Int)):List Tm:=zs.map fun z=>((z.1,k.1,k.2),z.2)
noncomputable def tr (g:K2->List Int) (r:K2×Addr):List Tm:=tr1 r.1 (nz (g r.1))
theorem A8 {k:K2} {zs:List (Int×Int)}:tr1 k zs=cz k.1 1 k.2 1 zs:=by
 unfold tr1 cz
 exact List.map_congr_left fun z _=>by rw [Int.one_mul,Int.one_mul]
theorem yf {g:K2->List Int} {k i j:Int}:∀ {R:List (K2×Addr)},(R.map (·.1)).Nodup->cf (R.flatMap (tr g)) (k,i,j)=if (i,j)∈R.map (·.1) then gz (g (i,j)) k else 0
 | [],_=>by simp [bO]
 | r::R,h=>by
   rw [List.map_cons,List.nodup_cons] at h
   rw [List.flatMap_cons,bj,yf h.2]
   unfold tr
   rw [A8,jR,jk,List.map_cons]
   by_cases e:r.1=(i,j)
   ·have q:r.1.1=i:=by rw [e]
    have B:r.1.2=j:=by rw [e]
    rw [if_pos ⟨q,B⟩,if_neg (by rw [<- e];exact h.1),if_pos (by rw [e];simp),e];simp
   ·rw [if_neg (fun z=>e (Prod.ext z.1 z.2))]
    by_cases m:(i,j)∈R.map (·.1)
    ·rw [if_pos m,if_pos (List.mem_cons_of_mem _ m)];simp
    ·rw [if_neg m,if_neg (fun z=>by
      rcases List.mem_cons.mp z with z | z
      ·exact e z.symm
      ·exact m z)];rfl
theorem nW {g:K2->List Int} {N:Nat} (h:∀ k,(g k).length=N):∀ {R:List (K2×Addr)},(R.flatMap (tr g)).length<=R.length*N
 | [] => by simp
 | r::R=>by
   rw [List.flatMap_cons,List.length_append,List.length_cons,Nat.succ_mul]
   have h1:=nW h (R:=R)
   have h2:=uB (l:=g r.1)
   rw [h] at h2
   have j:(tr g r).length=(nz (g r.1)).length:=by simp [tr,tr1]
   lia
noncomputable def ii (s:Stmt) (ft ff fr:Nat):FD:=⟨"task_by",s,["scheme", "left", "right", "many", "products", "rows"],1,
 (.cons (.asg (.tup (.cons (.name 1) (.cons (.name 2) (.cons (.name 3) (.cons (.name 4) .nil))))) (.var 0))
 (.cons (.asg (.name 5) (.call fr (.cons (.var 0) .nil)))
 (.cons (.frz 5 (.ret (.call ft (.cons (.var 1) (.cons (.var 2) (.cons (.var 3) (.cons (.comp [none,none,none,none,none] ["i", "j", "row", "k", "c"] (.more (.items (.var 5)) (.tup (.cons (.tup (.cons (.name 0) (.cons (.name 1) .nil))) (.cons (.name 2) .nil))) .nil (.last (.seq (.call ff (.cons (.var 2) .nil))) (.tup (.cons (.name 3) (.cons (.name 4) .nil))) .nil (.tup (.cons (.var 3) (.cons (.var 0) (.cons (.var 1) (.cons (.var 4) .nil)))))))) .nil)))))))
 .nil)))⟩
theorem oG {f ft ff fr:Nat} {s sk sf sr:Stmt} (hf:T[f]? = some (ii s ft ff fr)) (Dv:T[ft]? = some (fL sk)) (L:T[ff]? = some (dF sf)) (Dw:T[fr]? = some (jj sr ff)) {n:Nat} (hn : 3<=n) {x0 x1:D} {L0 L1 N B:Nat} {p:Addr} {ps:List Pr} {M:Mem} {Q:QD} (hp:M p=some (.lst (ps.map prD))) (hN:N<=1000) (h0:L0<=1000) (h1:L1<=1000) (hB:ps.length*B*N<=100000) (DA:ps.length*B<=100000) (hF:∀ p∈ps,Pf L0 L1 N p) (hZ:∀ p∈ps,(nz p.1).length*(nz p.2.1).length<=B)
 (q:∀ (ts rs:List Tm) p' M',IsTask ts rs->(∀ k i j,cf ts (k,i,j)=Tn ps k i j)->Ge M M'->M p'=none->M' p'=some (.lst (rs.map tmD))->Q (.tup [x0,x1, .int N, .ref p']) M'):phi T n f [.tup [x0,x1, .int N, .ref p]] M Q:=by
 refine ar (by lia) hf rfl (ρ := [some _,none,none,none,none,none]) rfl ?_
 unfold ii
 walk_at "st"
 walk_at "st"
 refine xt Dw L (by lia) hp hN h0 h1 (by lia) hF hZ fun d Z R g I g1 hd fr hl hg => ?_
 walk_at "st"
 refine zO rfl I.dct ?_
 have fd:=ab (M:=Z) (a:=d) (o := .fdc (R.map raD))
 have g2:Ge M (af Z d (.fdc (R.map raD))):=g1.upd hd
 have F:∀ r∈R,af Z d (.fdc (R.map raD)) r.2=some (.lst ((g r.1).map .int)):=fun r hr=>by
  rw [aq (I.nd r hr)];exact I.row r hr
 generalize af Z d (.fdc (R.map raD))=M2 at fd g2 F ⊢
 have hlen:=nW I.ln (R:=R)
 have DB:R.length*N<=ps.length*B*N:=Nat.mul_le_mul_right _ hl
 walk_at "wp"
 refine ⟨_,fd, ?_⟩
 refine aM (f:=fun r:K2×Addr=>kvD (raD r)) (ys:=R) (I:=fun l ρ M' acc=>(∃ o0 o1 o2 G J, ρ = [o0,o1,o2,G,J])/\Ge M2 M'/\acc=(l.flatMap (tr g)).map tmD) (by rw [List.map_map];rfl) ⟨⟨_,_,_,_,_,rfl⟩,Ge.refl,rfl⟩ (fun _ _ _ _ _=>trivial) ?_ ?_
 ·rintro l r rr ρ O acc e ⟨⟨o0,o1,o2,G,J,rfl⟩,g3,rfl⟩
  refine ⟨_,rfl,fun N' Dx => ?_⟩
  have hr:r∈R:=by rw [e];simp
  have DC:=nW I.ln (R:=l)
  have DD:(l.flatMap (tr g)).length+(nz (g r.1)).length<=(R.flatMap (tr g)).length:=by
   rw [e,List.flatMap_append,List.flatMap_cons,List.length_append,List.length_append]
   have:(tr g r).length=(nz (g r.1)).length:=by simp [tr,tr1]
   lia
  walk_at "wp"
  refine dQ L (by lia) (l:=g r.1) (by rw [I.ln];lia) (ag (g3 _ _ (F r hr))) fun pz Dy => ?_
  have U:=g3.trans (Ge.new (o := .lst ((nz (g r.1)).map pD)) Dy)
  have ez:=ab (M:=O) (a:=pz) (o := .lst ((nz (g r.1)).map pD))
  generalize af O pz (.lst ((nz (g r.1)).map pD))=M4 at U ez ⊢
  walk_at "wp"
  refine ⟨_,ag ez, ?_⟩
  refine aM (f:=pD) (ys:=nz (g r.1)) (I:=fun zs ρ M' acc=>(∃ G J, ρ = [some (.int r.1.1),some (.int r.1.2),some (.ref r.2),G,J])/\M'=M4/\acc=(l.flatMap (tr g)).map tmD++(tr1 r.1 zs).map tmD) rfl ⟨⟨_,_,rfl⟩,rfl,by simp [tr1]⟩ (fun _ _ _ _ h=>by rw [h.2.1];exact ag ez) ?_ ?_
  ·rintro zs z r' ρ M5 acc e' ⟨⟨G,J,rfl⟩,rfl,rfl⟩
   refine ⟨_,rfl,fun N2 Dz => ?_⟩
   have DE:=aH e'
   have DF:(tr1 r.1 zs).length=zs.length:=by simp [tr1]
   walk_at "wp"
   refine ⟨by rw [sizeLine_eq];lia,by rw [List.length_append,List.length_map,List.length_map,sizeLine_eq];lia,Dz _ _ _ ⟨⟨_,_,rfl⟩,rfl, ?_⟩⟩
   simp [tr1,tmD]
  ·rintro ρ M5 acc ⟨⟨G,J,rfl⟩,rfl,rfl⟩
   exact Dx _ _ _ ⟨⟨_,_,_,_,_,rfl⟩,U,by rw [List.flatMap_append];simp [tr]⟩
 ·rintro ρ O acc ⟨⟨o0,o1,o2,G,J,rfl⟩,g3,rfl⟩ pt hpt
  have U:=g3.trans (Ge.new (o := .lst ((R.flatMap (tr g)).map tmD)) hpt)
  have et:=ab (M:=O) (a:=pt) (o := .lst ((R.flatMap (tr g)).map tmD))
  generalize af O pt (.lst ((R.flatMap (tr g)).map tmD))=M4 at U et ⊢
  walk_at "wp"
  refine jO Dv (by lia) (ag et) (by lia) fun rs p' M' hT gT Y eT => ?_
  have gM:=g2.trans U
  refine q _ rs p' M' hT (fun k i j => ?_) (gM.trans gT) ?_ eT
  ·rw [yf I.keys]
   by_cases m:(i,j)∈R.map (·.1)
   ·rw [if_pos m];exact hg k i j
   ·rw [if_neg m, <- hg,I.out _ m,uH]
  ·cases hq:M p' with
   | none=>rfl
   | some o=>rw [gM _ _ hq] at Y;cases Y
end
section
open PySem PySem.Spec PyProof.Rows L2.Srt
theorem pR {a b m:Nat} (j:b < m):(a*m+b) / m=a:=by
 rw [Nat.mul_comm,Nat.mul_add_div (by lia),Nat.div_eq_of_lt j,Nat.add_zero]
theorem uI {n m p:Nat}:((aK n m p).map (·.1)).Nodup:=by
 unfold aK dC
 rw [List.map_flatMap,List.nodup_iff_pairwise_ne,List.pairwise_flatMap]
 refine ⟨fun a _ => ?_, ?_⟩
 ·rw [List.map_flatMap,List.pairwise_flatMap]
  refine ⟨fun b _ => ?_, ?_⟩
  ·rw [List.map_map,List.pairwise_map]
   refine (List.nodup_iff_pairwise_ne.mp List.nodup_range).imp ?_
   intro c c' F e
   have h:=congrArg (fun k:K3=>k.2.2) e
   simp only [Function.comp,dB] at h
   lia
  ·refine (List.nodup_iff_pairwise_ne.mp List.nodup_range).imp ?_
   intro b b' z x hx y j e
   rw [List.map_map] at hx j
   obtain ⟨u,_,rfl⟩:=List.mem_map.mp hx
   obtain ⟨v,_,rfl⟩:=List.mem_map.mp j
   have h:=congrArg (fun k:K3=>k.2.1) e
   simp only [Function.comp,dB] at h
   lia
 ·refine (List.nodup_iff_pairwise_ne.mp List.nodup_range).imp ?_
  intro a a' B x hx y j e
  rw [List.map_flatMap] at hx j
  obtain ⟨b,z,hx⟩:=List.mem_flatMap.mp hx
  obtain ⟨b',q,j⟩:=List.mem_flatMap.mp j
  rw [List.map_map] at hx j
  obtain ⟨u,_,rfl⟩:=List.mem_map.mp hx
  obtain ⟨v,_,rfl⟩:=List.mem_map.mp j
  have h:=congrArg (fun k:K3=>k.2.1) e
  simp only [Function.comp,dB] at h
  have h2:a*m+b=a'*m+b':=by lia
  apply B
  rw [<- pR (a:=a) (List.mem_range.mp z),h2,pR (List.mem_range.mp q)]
end
section
open PySem PySem.Spec PyProof.Rows L2.Srt
variable {T:List FD}
noncomputable def one (L:Nat) (k:Int):List Int:=(List.range L).map fun h=>if ((h:Nat):Int)=k then 1 else 0
theorem pS {L:Nat} {k:Int}:(one L k).length=L:=by simp [one]
end
section
open PySem PySem.Spec PyProof.Rows L2.Srt
noncomputable def seven:List Pr := [([1,0,0,1],[1,0,0,1],[1,0,0,1]),([0,0,1,1],[1,0,0,0],[0,0,1, -1]),([1,0,0,0],[0,1,0, -1],[0,1,0,1]),([0,0,0,1],[-1,0,1,0],[1,0,1,0]),([1,1,0,0],[0,0,0,1],[-1,1,0,0]),([-1,0,1,0],[1,1,0,0],[0,0,0,1]),([0,1,0, -1],[0,0,1,1],[1,0,0,0])]
theorem xu:∀ a b c:Fin 4,Tn seven (a.val:Nat) (b.val:Nat) (c.val:Nat)=cf (aK 2 2 2) (((a.val:Nat):Int),((b.val:Nat):Int),((c.val:Nat):Int)):=by decide +kernel
theorem nX {k i j:Int}:Tn seven k i j=cf (aK 2 2 2) (k,i,j):=by
 by_cases h:(0<=k/\k < 4)/\(0<=i/\i < 4)/\(0<=j/\j < 4)
 ·have:=xu ⟨k.toNat,by lia⟩ ⟨i.toNat,by lia⟩ ⟨j.toNat,by lia⟩
  dsimp only at this
  rw [Int.toNat_of_nonneg h.1.1,Int.toNat_of_nonneg h.2.1.1,Int.toNat_of_nonneg h.2.2.1] at this
  exact this
 ·have z:Tn seven k i j=0:=by
   cases Decidable.em (Tn seven k i j=0) with
   | inl e=>exact e
   | inr e=>exact absurd (nV (L0 := 4) (L1 := 4) (L2 := 4) (us:=seven) (by decide) e) h
  have B:cf (aK 2 2 2) (k,i,j)=0:=gv fun t F e=>by
   obtain ⟨a,b,c,O,U,Y,rfl⟩:=A2 F
   unfold dB at e
   have G:=congrArg (fun q:K3=>q.1) e
   have J:=congrArg (fun q:K3=>q.2.1) e
   have L:=congrArg (fun q:K3=>q.2.2) e
   dsimp only at G J L
   lia
  rw [z,B]
end
section
open PySem PySem.Spec PyProof.Rows L2.Srt
variable {T:List FD}
noncomputable def ixs (l:List Int) (ks:List Nat):List (Int×Int):=ks.map fun k:Nat=>((k:Int),gi l (k:Int))
theorem A9 {l:List Int} {N:Nat} (h:l.length=N):ixs l (List.range N)=idx l:=by
 unfold ixs idx
 apply List.ext_getElem?
 intro j
 rw [List.getElem?_map,List.getElem?_mapIdx]
 by_cases hj:j < N
 ·rw [List.getElem?_range hj,List.getElem?_eq_getElem (by lia)]
  simp only [Option.map_some,gi,Int.toNat_natCast]
  rw [List.getD_eq_getElem?_getD,List.getElem?_eq_getElem (by lia)];rfl
 ·rw [List.getElem?_eq_none (by simp;lia),List.getElem?_eq_none (by lia)];rfl
end
section
variable {T:List FD}
noncomputable def lu (s:Stmt):FD:=⟨"part_of_row",s,["part", "row"],2,
 (.cons (.ret (.blt .sum (.cons (.comp [none,none] ["x", "y"] (.last (.zip (.var 0) (.var 1)) (.tup (.cons (.name 0) (.cons (.name 1) .nil))) .nil (.bin .mul (.var 0) (.var 1)))) .nil)))
 .nil)⟩
theorem nY {f:Nat} {s:Stmt} (hf:T[f]? = some (lu s)) {n:Nat} (G : 1<=n) {x y:D} {a b:List Int} {M:Mem} {Q:QD} (hx:al M x=some (a.map .int)) (z:al M y=some (b.map .int)) (sa:gu a) (L:a.length<=1000)
 (q:∀ M',Ge M M'->Q (.int (dot a b)) M'):phi T n f [x,y] M Q:=by
 refine ar G hf rfl (ρ := [some _,some _]) rfl ?_
 unfold lu
 walk_at "st"
 refine ⟨_,hx,_,z, ?_⟩
 refine aM (I:=fun l ρ M' acc=>(∃ B F, ρ = [B,F])/\M'=M/\acc=(l.map fun xy=>xy.1*xy.2).map .int) (ys:=a.zip b) (f:=fun xy => .tup [.int xy.1, .int xy.2]) (nP a b) ⟨⟨_,_,rfl⟩,rfl,rfl⟩ (fun _ _ _ _ h=>by rw [h.2.1];exact ⟨hx,z⟩) ?_ ?_
 ·rintro l xy r ρ M1 acc e ⟨⟨B,F,rfl⟩,rfl,rfl⟩
  refine ⟨_,rfl,fun N J => ?_⟩
  walk_at "wp"
  have j:=aH e
  rw [List.length_zip] at j
  have hm:xy.1∈a:=by
   have:xy∈a.zip b:=by rw [e];simp
   exact (List.of_mem_zip this).1
  have hs:=sa _ hm
  exact ⟨b5 (by lia),by simp [sizeLine_eq];lia,J _ _ _ ⟨⟨_,_,rfl⟩,rfl,by simp⟩⟩
 ·rintro ρ M1 acc ⟨_,rfl,rfl⟩ p hp
  refine zR (ag ab) ?_
  have:((a.zip b).map fun xy=>xy.1*xy.2).sum=dot a b:=by unfold dot;rw [gN]
  rw [this]
  exact q _ (Ge.new hp)
noncomputable def ik (one other:List Int) (p:Pr):Int:=dot p.1 one*dot p.2.1 other
noncomputable def bM (one other:List Int) (L:Nat) (ps:List Pr):List Int:=(List.range L).map fun k=>(ps.map fun p=>p.2.2.getD k 0*ik one other p).sum
theorem xv {one other:List Int} {L:Nat}:bM one other L []=List.replicate L 0:=by
 unfold bM
 apply List.ext_getElem
 ·simp
 ·intro i h1 h2;simp
theorem uJ {one other:List Int} {L:Nat} {ps:List Pr} {p:Pr} (h:p.2.2.length=L):bM one other L (ps++[p])=List.zipWith (fun x c=>x+c*ik one other p) (bM one other L ps) p.2.2:=by
 unfold bM
 apply List.ext_getElem
 ·simp [h]
 ·intro i h1 h2
  have:i < L:=by simpa using h1
  simp [List.getD_eq_getElem?_getD,List.getElem?_eq_getElem (show i < p.2.2.length by lia)]
noncomputable def fO (s:Stmt) (fp:Nat):FD:=⟨"applied",s,["scheme", "one", "other", "left", "right", "many", "products", "told", "l", "r", "o", "product"],3,
 (.cons (.asg (.tup (.cons (.name 3) (.cons (.name 4) (.cons (.name 5) (.cons (.name 6) .nil))))) (.var 0))
 (.cons (.asg (.name 7) (.bin .mul (.lst (.cons (.int 0) .nil)) (.var 5)))
 (.cons (.for (.tup (.cons (.name 8) (.cons (.name 9) (.cons (.name 10) .nil)))) (.seq (.var 6)) (.cons (.asg (.name 11) (.bin .mul (.call fp (.cons (.var 8) (.cons (.var 1) .nil))) (.call fp (.cons (.var 9) (.cons (.var 2) .nil)))))
 (.cons (.asg (.name 7) (.comp [none,none,(some 11)] ["x", "c", "product"] (.last (.zip (.var 7) (.var 10)) (.tup (.cons (.name 0) (.cons (.name 1) .nil))) .nil (.bin .add (.var 0) (.bin .mul (.var 1) (.var 2))))))
 .nil)))
 (.cons (.ret (.var 7))
 .nil))))⟩
theorem pT {f fp:Nat} {s s2:Stmt} (hf:T[f]? = some (fO s fp)) (O:T[fp]? = some (lu s2)) {n:Nat} (hn : 2<=n) {L0 L1 L2:Nat} (h0:L0<=1000) (h1:L1<=1000) (h2:L2<=1000) {pr:Addr} {ps:List Pr} {x y:D} {one other:List Int} {M:Mem} {Q:QD} (hp:∀ p∈ps,PrOk L0 L1 L2 p) (h:M pr=some (.lst (ps.map prD)))
 (hx:al M x=some (one.map .int)) (hy:al M y=some (other.map .int)) (Y:Big one) (Dw:Big other)
 (q:∀ M' p,Ge M M'->M p=none->M' p=some (.lst ((bM one other L2 ps).map .int))->Q (.ref p) M'):phi T n f [.tup [.int L0, .int L1, .int L2, .ref pr],x,y] M Q:=by
 refine ar (by lia) hf rfl (ρ := [some _,some _,some _,none,none,none,none,none,none,none,none,none]) rfl ?_
 unfold fO
 walk_at "st"
 walk_at "st"
 refine ⟨by rw [sizeLine_eq];lia,fun p0 U => ?_⟩
 have Z:=Ge.new (o := .lst [.int 0]) U
 refine ⟨_,ab,by lia,by lia,by rw [sizeLine_eq];simp;lia,fun L z => ?_⟩
 have g1:=Z.trans (Ge.new (o := .lst (List.replicate (L2:Int).toNat [D.int 0]).flatten) z)
 have e1:af (af M p0 (.lst [.int 0])) L (.lst (List.replicate (L2:Int).toNat [D.int 0]).flatten) L=some (.lst ((bM one other L2 []).map .int)):=by
  rw [ab,rq,xv,Int.toNat_natCast]
 have n1:M L=none:=by
  cases e:M L with
  | none=>rfl
  | some o=>rw [Z _ _ e] at z;cases z
 generalize af (af M p0 (.lst [.int 0])) L (.lst (List.replicate (L2:Int).toNat [D.int 0]).flatten)=M1 at g1 e1
 clear Z z U
 walk_at "st"
 refine ⟨_,ag (g1 _ _ h), ?_⟩
 refine bE (I:=fun l ρ M' => ∃ pt o8 o9 B G, ρ = [some (.tup [.int L0, .int L1, .int L2, .ref pr]),some x,some y,some (.int L0),some (.int L1),some (.int L2),some (.ref pr),some (.ref pt),o8,o9,B,G]/\Ge M M'/\M pt=none/\M' pt=some (.lst ((bM one other L2 l).map .int)))
  rfl ⟨L,none,none,none,none,rfl,g1,n1,e1⟩ (fun _ _ _ ⟨_,_,_,_,_,_,g,_⟩=>ag (g _ _ h)) ?_ ?_
 ·rintro l p r ρ M2 e ⟨pt,o8,o9,B,G,rfl,g2,n2,e2⟩
  have j:=hp p (by rw [e];simp)
  refine ⟨_,rfl,fun F hF => ?_⟩
  walk_at "st"
  refine nY O (by lia) jd (dj hx g2) j.s0 (by rw [j.l0];exact h0) fun M3 g3 => ?_
  refine nY O (by lia) jd (dj hy (g2.trans g3)) j.s1 (by rw [j.l1];exact h1) fun M4 g4 => ?_
  walk_at "wp"
  have db:=ur j.s0 Y (by rw [j.l0];exact h0)
  refine ⟨b5 db, ?_⟩
  have e4:=g4 _ _ (g3 _ _ e2)
  have gg:=(g2.trans g3).trans g4
  walk_at "st"
  refine ⟨_,ag e4, ?_⟩
  refine aM (I:=fun l' ρ M' acc=>(∃ o1 o2, ρ = [o1,o2,some (.int (ik one other p))])/\M'=M4/\acc=(l'.map fun xy=>xy.1+xy.2*ik one other p).map .int) (ys:=(bM one other L2 l).zip p.2.2) (f:=fun xy => .tup [.int xy.1, .int xy.2]) (nP _ _) ⟨⟨_,_,rfl⟩,rfl,rfl⟩ (fun _ _ _ _ h=>by rw [h.2.1];exact ag e4) ?_ ?_
  ·rintro l' xy r' ρ M5 acc e' ⟨⟨o1,o2,rfl⟩,rfl,rfl⟩
   refine ⟨_,rfl,fun N hN => ?_⟩
   walk_at "wp"
   have Dv:=aH e'
   rw [List.length_zip] at Dv
   have Dx:=j.l2
   have hm:xy.2∈p.2.2:=by
    have:xy∈(bM one other L2 l).zip p.2.2:=by rw [e'];simp
    exact (List.of_mem_zip this).2
   have hs:=j.s2 _ hm
   exact ⟨b5 (by lia),by simp [sizeLine_eq];lia,hN _ _ _ ⟨⟨_,_,rfl⟩,rfl,by simp⟩⟩
  ·rintro ρ M5 acc ⟨_,rfl,rfl⟩ p2 J
   refine hF _ _ ⟨p2,_,_,_,_,rfl,gg.trans (Ge.new J), ?_, ?_⟩
   ·cases e0:M p2 with
    | none=>rfl
    | some o=>rw [gg _ _ e0] at J;cases J
   ·rw [ab,uJ j.l2,gN]
 ·rintro ρ M2 ⟨pt,o8,o9,B,G,rfl,g2,n2,e2⟩
  walk_at "st"
  exact q M2 pt g2 n2 e2
end
section
open PySem PySem.Spec PyProof.Rows L2.Srt
noncomputable def dz (zs:List (Int×Int)) (a:List Int):Int:=(zs.map fun z=>z.2*gi a z.1).sum
theorem gB {z:Int×Int} {zs:List (Int×Int)} {a:List Int}:dz (z::zs) a=z.2*gi a z.1+dz zs a:=by simp [dz]
theorem kS {a b:List Int} {k i x j y:Int}:∀ {zs:List (Int×Int)},bf (fkk a b k) (cz i x j y zs)=(x*gi a i)*(y*gi b j)*S1 zs k
 | [] => by simp [cz,eX,S1]
 | z::zs=>by
   rw [show cz i x j y (z::zs)=((z.1,i,j),x*y*z.2)::cz i x j y zs from rfl,ca,kS,br]
   unfold fkk
   dsimp only
   by_cases h:z.1=k
   ·rw [if_pos h,if_pos h,Int.mul_add]
    congr 1
    simp only [Int.mul_assoc,Int.mul_comm,Int.mul_left_comm]
   ·rw [if_neg h,if_neg h];simp
theorem kT {a b:List Int} {k i x:Int} {zs:List (Int×Int)}:∀ {ys:List (Int×Int)},bf (fkk a b k) (cA i x ys zs)=(x*gi a i)*dz ys b*S1 zs k
 | [] => by simp [cA,eX,dz]
 | y::ys=>by
   rw [show cA i x (y::ys) zs=cz i x y.1 y.2 zs++cA i x ys zs from by simp [cA],cD,kT,kS,gB,Int.mul_add,Int.add_mul]
theorem kU {a b:List Int} {k:Int} {ys zs:List (Int×Int)}:∀ {xs:List (Int×Int)},bf (fkk a b k) (dD xs ys zs)=dz xs a*dz ys b*S1 zs k
 | [] => by simp [dD,eX,dz]
 | x::xs=>by
   rw [show dD (x::xs) ys zs=cA x.1 x.2 ys zs++dD xs ys zs from by simp [dD],cD,kU,kT,gB,Int.add_mul,Int.add_mul]
theorem rG {a:List Int}:∀ zs:List (Int×Int),dz (zs.filter fun q => !(q.2==0)) a=dz zs a
 | [] => rfl
 | z::zs=>by
   rw [gB]
   by_cases h:z.2=0
   ·rw [List.filter_cons_of_neg (by simp [h]),rG zs,h];simp
   ·rw [List.filter_cons_of_pos (by simp [h]),gB,rG zs]
theorem uK {l a:List Int} {N:Nat} (j:l.length=N) (q:a.length=N):dz (nz l) a=dot l a:=by
 unfold nz
 rw [rG, <- A9 j, <- ut j q]
 unfold dz ixs
 rw [List.map_map]
 congr 1
theorem pU {l:List Int} {k:Nat}:gz l (k:Int)=l.getD k 0:=by
 unfold gz
 rw [if_neg (by lia),Int.toNat_natCast]
theorem xw {L0 L1 L2:Nat} {ps:List Pr} {rs:List Tm} {one other:List Int} (h:∀ k,cf rs k=cf (rC ps) k) (z:∀ p∈ps,p.1.length=L0/\p.2.1.length=L1) (h1:one.length=L0) (h2:other.length=L1):val rs one other L2=bM one other L2 ps:=by
 unfold val bM
 refine List.map_congr_left fun k _ => ?_
 rw [ye h,gy]
 unfold rC
 have:∀ qs:List Pr,(∀ p∈qs,p.1.length=L0/\p.2.1.length=L1)->bf (fkk one other (k:Nat)) (qs.flatMap nU)=(qs.map fun p=>p.2.2.getD k 0*ik one other p).sum:=by
  intro qs
  induction qs with
  | nil=>intro _;rfl
  | cons p qs ih =>
    intro j
    obtain ⟨B,F⟩:=j p (by simp)
    rw [List.flatMap_cons,cD,ih fun q hm=>j q (by simp [hm]),List.map_cons,List.sum_cons]
    unfold nU
    rw [kU,uK B h1,uK F h2]
    unfold nz
    rw [eY,fN,pU]
    unfold ik
    rw [Int.mul_comm]
 exact this ps z
theorem fP {l:List Int} (h:gu l):Big l:=fun x hx=>by have:=h x hx;lia
theorem PrOk.pf {L0 L1 L2:Nat} {p:Pr} (h:PrOk L0 L1 L2 p):Big p.1/\Big p.2.2/\p.1.length=L0/\p.2.1.length=L1/\p.2.2.length=L2:=⟨fP h.s0,fP h.s2,h.l0,h.l1,h.l2⟩
end
section
variable {T:List FD}
noncomputable def eZ (s:Stmt):FD:=⟨"is_number",s,["thing"],1,
 (.cons (.ret (.and (.cons (.isin (.var 0) "int") (.cons (.not (.isin (.var 0) "bool")) .nil))))
 .nil)⟩
noncomputable def lw (s:Stmt) (fn:Nat):FD:=⟨"is_length",s,["thing"],1,
 (.cons (.ret (.and (.cons (.call fn (.cons (.var 0) .nil)) (.cons (.chain .le .le (.int 1) (.var 0) (.glob "LONGEST" (.int 81))) .nil))))
 .nil)⟩
noncomputable def eF (s:Stmt) (fn:Nat):FD:=⟨"is_part",s,["thing", "length"],2,
 (.cons (.ret (.and (.cons (.isin (.var 0) "tuple") (.cons (.cmp .eq (.blt .len (.cons (.var 0) .nil)) (.var 1)) (.cons (.blt .all (.cons (.comp [none] ["x"] (.last (.seq (.var 0)) (.name 0) .nil (.call fn (.cons (.var 0) .nil)))) .nil)) .nil)))))
 .nil)⟩
noncomputable def gC (s:Stmt) (fp:Nat):FD:=⟨"is_product",s,["thing", "lengths"],2,
 (.cons (.ite (.or (.cons (.not (.tru (.isin (.var 0) "tuple"))) (.cons (.cmp .ne (.blt .len (.cons (.var 0) .nil)) (.int 3)) .nil))) (.cons (.ret (.bl false))
 .nil) .nil)
 (.cons (.ret (.blt .all (.cons (.comp [none,none] ["part", "length"] (.last (.zip (.var 0) (.var 1)) (.tup (.cons (.name 0) (.cons (.name 1) .nil))) .nil (.call fp (.cons (.var 0) (.cons (.var 1) .nil))))) .nil)))
 .nil))⟩
noncomputable def nZ (s:Stmt) (fl fq:Nat):FD:=⟨"is_scheme",s,["thing", "lengths", "products"],1,
 (.cons (.ite (.or (.cons (.not (.tru (.isin (.var 0) "tuple"))) (.cons (.cmp .ne (.blt .len (.cons (.var 0) .nil)) (.int 4)) .nil))) (.cons (.ret (.bl false))
 .nil) .nil)
 (.cons (.asg (.tup (.cons (.name 1) (.cons (.name 2) .nil))) (.tup (.cons (.sl (.var 0) .none (.some (.int 3))) (.cons (.ix (.var 0) (.int 3)) .nil))))
 (.cons (.ite (.not (.tru (.blt .all (.cons (.comp [none] ["x"] (.last (.seq (.var 1)) (.name 0) .nil (.call fl (.cons (.var 0) .nil)))) .nil)))) (.cons (.ret (.bl false))
 .nil) .nil)
 (.cons (.ite (.or (.cons (.not (.tru (.isin (.var 2) "list"))) (.cons (.cmp .gt (.blt .len (.cons (.var 2) .nil)) (.glob "MOST_PRODUCTS" (.int 400))) .nil))) (.cons (.ret (.bl false))
 .nil) .nil)
 (.cons (.ret (.blt .all (.cons (.comp [none,(some 1)] ["x", "lengths"] (.last (.seq (.var 2)) (.name 0) .nil (.call fq (.cons (.var 0) (.cons (.var 1) .nil))))) .nil)))
 .nil)))))⟩
theorem uL {f:Nat} {s:Stmt} (hf:T[f]? = some (eZ s)) {n:Nat} (j : 1<=n) {i:Int} {M:Mem} {Q:QD} (q:Q (.bl true) M):phi T n f [.int i] M Q:=by
 refine ar j hf rfl (ρ := [some _]) rfl ?_
 unfold eZ
 walk_at "st"
 refine ⟨_,rfl, ?_⟩
 rw [if_pos (by decide)]
 exact ⟨_,rfl,q⟩
theorem pV:∀ n:Nat,aw qK (List.replicate n (D.bl true))=some (List.replicate n true)
 | 0=>rfl
 | n+1=>by
   rw [List.replicate_succ]
   unfold aw
   rw [pV n];rfl
theorem jl {M:Mem} {p:Addr} {n:Nat} {Q:QD} (e:M p=some (.lst (List.replicate n (.bl true)))) (q:Q (.bl true) M):qL [.ref p] M Q:=by
 refine ⟨_,_,_,rfl,ag e,pV n, ?_⟩
 rw [show (List.replicate n true).all id=true by simp]
 exact q
theorem jU {f fn:Nat} {s sn:Stmt} (hf:T[f]? = some (lw s fn)) (j:T[fn]? = some (eZ sn)) {n:Nat} (z : 2<=n) {i:Int} (h1 : 1<=i) (h2:i<=81) {M:Mem} {Q:QD} (q:Q (.bl true) M):phi T n f [.int i] M Q:=by
 refine ar (by lia) hf rfl (ρ := [some _]) rfl ?_
 unfold lw
 walk_at "st"
 refine uL j (by lia) ?_
 refine ⟨_,rfl, ?_⟩
 rw [if_pos (by decide)]
 walk_at "wp"
 rw [if_pos h1,show decide (i<=81)=true by simpa using h2]
 exact q
theorem il {f fn:Nat} {s sn:Stmt} (hf:T[f]? = some (eF s fn)) (j:T[fn]? = some (eZ sn)) {n:Nat} (G : 2<=n) {l:List Int} {L:Int} (z:(l.length:Int)=L) (J:l.length<=1000) {M:Mem} {Q:QD} (q:∀ M',Ge M M'->Q (.bl true) M'):phi T n f [.tup (l.map .int), .int L] M Q:=by
 refine ar (by lia) hf rfl (ρ := [some _,some _]) rfl ?_
 unfold eF
 walk_at "st"
 refine ⟨_,rfl, ?_⟩
 rw [if_pos (by decide)]
 walk_at "wp"
 rw [List.length_map,if_pos (by simpa using z)]
 refine aM (I:=fun l ρ M' acc=>(∃ o, ρ = [o])/\M'=M/\acc=List.replicate l.length (.bl true)) (ys:=l) (f:=D.int) rfl ⟨⟨_,rfl⟩,rfl,rfl⟩ (fun _ _ _ _ O=>by first | trivial | simp) ?_ ?_
 ·rintro l' y r ρ M1 acc e ⟨⟨o,rfl⟩,rfl,rfl⟩
  refine ⟨_,rfl,fun N B => ?_⟩
  have F:=aH e
  walk_at "wp"
  refine uL j (by lia) ⟨by rw [List.length_replicate,sizeLine_eq];lia,B _ _ _ ⟨⟨_,rfl⟩,rfl,by simp [List.replicate_succ']⟩⟩
 ·rintro ρ M1 acc ⟨⟨o,rfl⟩,rfl,rfl⟩ p hp
  exact jl ab (q _ (Ge.new hp))
theorem xx {f fp fn:Nat} {s sp sn:Stmt} (hf:T[f]? = some (gC s fp)) (j:T[fp]? = some (eF sp fn)) (z:T[fn]? = some (eZ sn)) {n:Nat} (F : 3<=n) {p:Pr} {L0 L1 N:Nat} (h:p.1.length=L0/\p.2.1.length=L1/\p.2.2.length=N) (h0:L0<=1000) (h1:L1<=1000) (G:N<=1000) {M:Mem} {Q:QD} (q:∀ M',Ge M M'->Q (.bl true) M'):phi T n f [prD p, .tup [.int L0, .int L1, .int N]] M Q:=by
 refine ar (by lia) hf rfl (ρ := [some _,some _]) rfl ?_
 unfold gC prD
 walk_at "st"
 refine ⟨_,rfl,_,rfl, ?_⟩
 rw [if_neg (by decide)]
 walk_at "wp"
 rw [if_neg (by decide)]
 walk_at "st"
 refine ⟨trivial,_,rfl, ?_⟩
 walk_at "wp"
 refine il j z (by lia) (by rw [h.1]) (by lia) fun J g1=>⟨by rw [sizeLine_eq];simp,trivial,_,rfl, ?_⟩
 walk_at "wp"
 refine il j z (by lia) (by rw [h.2.1]) (by lia) fun M2 g2=>⟨by rw [sizeLine_eq];simp,trivial,_,rfl, ?_⟩
 walk_at "wp"
 refine il j z (by lia) (by rw [h.2.2]) (by lia) fun L g3=>⟨by rw [sizeLine_eq];simp,trivial,fun p B => ?_⟩
 exact jl (n := 3) ab (q _ (((g1.trans g2).trans g3).trans (Ge.new B)))
theorem Aa {a b c d:D} {M:Mem} {Q:QD} (q:Q (.tup [a,b,c]) M):ee (.tup [a,b,c,d]) none (some 3) M Q:=q
theorem Ab {f fl fq fp fn:Nat} {s sl sq sp sn:Stmt} (hf:T[f]? = some (nZ s fl fq)) (z:T[fl]? = some (lw sl fn)) (F:T[fq]? = some (gC sq fp)) (G:T[fp]? = some (eF sp fn)) (j:T[fn]? = some (eZ sn)) {n:Nat} (Z : 4<=n) {ps:List Pr} {pr:Addr} {L0 L1 N:Nat} (h0 : 1<=L0/\L0<=81) (h1 : 1<=L1/\L1<=81) (hN : 1<=N/\N<=81) (hc:ps.length<=400) (h:∀ p∈ps,p.1.length=L0/\p.2.1.length=L1/\p.2.2.length=N) {M:Mem} {Q:QD} (e:M pr=some (.lst (ps.map prD))) (q:∀ M',Ge M M'->Q (.bl true) M'):phi T n f [.tup [.int L0, .int L1, .int N, .ref pr]] M Q:=by
 refine ar (by lia) hf rfl (ρ := [some _,none,none]) rfl ?_
 unfold nZ
 walk_at "st"
 refine ⟨_,rfl,_,rfl, ?_⟩
 rw [if_neg (by decide)]
 walk_at "wp"
 rw [if_neg (by decide)]
 walk_at "st"
 refine Aa ⟨_,rfl,by rw [sizeLine_eq];lia, ?_⟩
 walk_at "st"
 refine ⟨trivial,_,rfl, ?_⟩
 walk_at "wp"
 refine jU z j (by lia) (by lia) (by lia) ⟨by rw [sizeLine_eq];simp,trivial,_,rfl, ?_⟩
 walk_at "wp"
 refine jU z j (by lia) (by lia) (by lia) ⟨by rw [sizeLine_eq];simp,trivial,_,rfl, ?_⟩
 walk_at "wp"
 refine jU z j (by lia) (by lia) (by lia) ⟨by rw [sizeLine_eq];simp,trivial,fun O J => ?_⟩
 have g1:=Ge.new (o := .lst ([]++[D.bl true]++[D.bl true]++[D.bl true])) J
 refine jl (n := 3) ab ⟨_,rfl, ?_⟩
 have B:=g1 _ _ e
 generalize af M O (.lst ([]++[D.bl true]++[D.bl true]++[D.bl true]))=M1 at g1 B ⊢
 rw [if_neg (by decide)]
 walk_at "st"
 refine ⟨"list",by simp [tyN,B],_,rfl, ?_⟩
 rw [if_neg (by decide)]
 refine ⟨_,_,rfl,nO (ag B), ?_⟩
 walk_at "wp"
 rw [List.length_map,if_neg (by lia)]
 walk_at "st"
 refine ⟨_,ag B, ?_⟩
 refine aM (I:=fun l ρ M' acc=>(∃ o, ρ = [o,some (.tup [.int L0, .int L1, .int N])])/\Ge M1 M'/\acc=List.replicate l.length (.bl true)) (ys:=ps) (f:=prD) rfl ⟨⟨_,rfl⟩,Ge.refl,rfl⟩ (fun _ _ _ _ U=>ag (U.2.1 _ _ B)) ?_ ?_
 ·rintro l' y r ρ M2 acc e' ⟨⟨o,rfl⟩,g2,rfl⟩
  refine ⟨_,rfl,fun N' L => ?_⟩
  have Y:=aH e'
  walk_at "wp"
  refine xx F G j (by lia) (h y (by rw [e'];simp)) (by lia) (by lia) (by lia) fun M3 g3=>⟨by rw [List.length_replicate,sizeLine_eq];lia,L _ _ _ ⟨⟨_,rfl⟩,g2.trans g3,by simp [List.replicate_succ']⟩⟩
 ·rintro ρ M2 acc ⟨⟨o,rfl⟩,g2,rfl⟩ p hp
  exact jl ab (q _ ((g1.trans g2).trans (Ge.new hp)))
end
section
open PySem PySem.Spec PyProof.Rows L2.Srt
theorem BQ:∀ ns:List Int,PyData.eqvAll (ns.map .int) (ns.map .int)=true
 | [] => rfl
 | n::ns=>by simp [PyData.eqvAll,PyData.eqv,BQ ns]
theorem xz:∀ ps:List Pr,PyData.eqvAll (ps.map cy) (ps.map cy)=true
 | [] => rfl
 | p::ps=>by simp [PyData.eqvAll,PyData.eqv,xz ps,cy,BQ]
theorem yg {M:Mem} {a:Addr} {ps:List Pr} (h:M a=some (.lst (ps.map prD))):rb 16 M (.ref a)=some (.list (ps.map cy)):=by rw [jg h,nN];rfl
theorem yh {M:Mem} {x y z:Int} {a:Addr} {ps:List Pr} (h:M a=some (.lst (ps.map prD))):rb 16 M (.tup [.int x, .int y, .int z, .ref a])=some (.tuple [.int x, .int y, .int z, .list (ps.map cy)]):=by
 have e:rb 15 M (.ref a)=some (.list (ps.map cy)):=by rw [jg h,nN];rfl
 show (aw (rb 15 M) [.int x, .int y, .int z, .ref a]).map PyData.tuple=_
 simp only [aw,e]
 simp [rb]
end
section
namespace K14
noncomputable def ai (i:Nat):Stmt:=PySem.Challenge.pw_fewtimes_k14_seven_products.main.body.getD i (.Pass ⟨0,0,0,0⟩)
noncomputable def d0:FD:=fL (ai 1)
noncomputable def d1:FD:=jP (ai 2)
noncomputable def d2:FD:=jQ (ai 3) 0
noncomputable def d3:FD:=eZ (ai 7)
noncomputable def d4:FD:=lw (ai 8) 3
noncomputable def d5:FD:=eF (ai 9) 3
noncomputable def d6:FD:=gC (ai 10) 5
noncomputable def d7:FD:=nZ (ai 11) 4 6
noncomputable def d8:FD:=lu (ai 12)
noncomputable def d9:FD:=fO (ai 13) 8
noncomputable def b10:MSs :=
 (.cons (.ret (.blt .len (.cons (.ix (.var 0) (.int 3)) .nil)))
 .nil)
noncomputable def d10:FD:=⟨"times_in",ai 14,["scheme"],1,b10⟩
noncomputable def d11:FD:=dF (ai 15)
noncomputable def d12:FD:=jj (ai 16) 11
noncomputable def d13:FD:=ii (ai 17) 0 11 12
noncomputable def b14:MSs :=
 (.cons (.ret (.cmp .eq (.call 13 (.cons (.var 0) .nil)) (.var 1)))
 .nil)
noncomputable def d14:FD:=⟨"does",ai 18,["scheme", "task"],2,b14⟩
noncomputable def b15:MSs :=
 (.cons (.asg (.name 2) (.bin .mul (.lst (.cons (.int 0) .nil)) (.var 0)))
 (.cons (.put (.var 2) (.var 1) (.int 1))
 (.cons (.ret (.var 2))
 .nil)))
noncomputable def d15:FD:=⟨"single_one",ai 19,["length", "at", "row"],2,b15⟩
noncomputable def b16:MSs :=
 (.cons (.asg (.tup (.cons (.name 2) (.cons (.name 3) (.cons (.name 4) (.cons (.name 5) .nil))))) (.var 1))
 (.cons (.asg (.name 6) (.ix (.call 0 (.cons (.var 2) (.cons (.var 3) (.cons (.var 4) (.cons (.bin .add (.ix (.call 13 (.cons (.var 0) .nil)) (.int 3)) (.comp [none,none,none,none] ["k", "i", "j", "c"] (.last (.seq (.var 5)) (.tup (.cons (.name 0) (.cons (.name 1) (.cons (.name 2) (.cons (.name 3) .nil))))) .nil (.tup (.cons (.var 0) (.cons (.var 1) (.cons (.var 2) (.cons (.neg (.var 3)) .nil)))))))) .nil))))) (.int 3)))
 (.cons (.ite (.not (.tru (.var 6))) (.cons (.ret .non)
 .nil) .nil)
 (.cons (.asg (.tup (.cons (.name 7) (.cons (.name 8) .nil))) (.blt .minP (.cons (.comp [none] ["term"] (.last (.seq (.var 6)) (.name 0) .nil (.sl (.var 0) (.some (.int 1)) (.some (.int 3))))) .nil)))
 (.cons (.ret (.tup (.cons (.call 15 (.cons (.var 2) (.cons (.var 7) .nil))) (.cons (.call 15 (.cons (.var 3) (.cons (.var 8) .nil))) .nil))))
 .nil)))))
noncomputable def d16:FD:=⟨"fails_at",ai 20,["scheme", "task", "left", "right", "many", "terms", "wrong", "i", "j"],2,b16⟩
noncomputable def b17:MSs :=
 (.cons (.ret (.tup (.cons (.int 4) (.cons (.int 4) (.cons (.int 4) (.cons (.blt .list (.cons (.glob "SEVEN" (.tup [(.tup [(.tup [(.int 1),(.int 0),(.int 0),(.int 1)]),(.tup [(.int 1),(.int 0),(.int 0),(.int 1)]),(.tup [(.int 1),(.int 0),(.int 0),(.int 1)])]),(.tup [(.tup [(.int 0),(.int 0),(.int 1),(.int 1)]),(.tup [(.int 1),(.int 0),(.int 0),(.int 0)]),(.tup [(.int 0),(.int 0),(.int 1),(.int (-1))])]),(.tup [(.tup [(.int 1),(.int 0),(.int 0),(.int 0)]),(.tup [(.int 0),(.int 1),(.int 0),(.int (-1))]),(.tup [(.int 0),(.int 1),(.int 0),(.int 1)])]),(.tup [(.tup [(.int 0),(.int 0),(.int 0),(.int 1)]),(.tup [(.int (-1)),(.int 0),(.int 1),(.int 0)]),(.tup [(.int 1),(.int 0),(.int 1),(.int 0)])]),(.tup [(.tup [(.int 1),(.int 1),(.int 0),(.int 0)]),(.tup [(.int 0),(.int 0),(.int 0),(.int 1)]),(.tup [(.int (-1)),(.int 1),(.int 0),(.int 0)])]),(.tup [(.tup [(.int (-1)),(.int 0),(.int 1),(.int 0)]),(.tup [(.int 1),(.int 1),(.int 0),(.int 0)]),(.tup [(.int 0),(.int 0),(.int 0),(.int 1)])]),(.tup [(.tup [(.int 0),(.int 1),(.int 0),(.int (-1))]),(.tup [(.int 0),(.int 0),(.int 1),(.int 1)]),(.tup [(.int 1),(.int 0),(.int 0),(.int 0)])])])) .nil)) .nil))))))
 .nil)
noncomputable def d17:FD:=⟨"seven",ai 23,[],0,b17⟩
noncomputable def d18:FD:=je (ai 25)
noncomputable def b19:MSs :=
 (.cons (.asg (.name 2) (.bin .mod (.bin .mul (.bin .add (.bin .add (.bin .mod (.var 0) (.int 1000000007)) (.bin .mul (.int 7) (.var 1))) (.int 1)) (.int 48271)) (.int 2147483647)))
 (.cons (.asg (.name 3) (.bin .mod (.bin .mul (.var 2) (.bin .add (.bin .add (.bin .mod (.var 2) (.int 1009)) (.var 1)) (.int 3))) (.int 998244353)))
 (.cons (.ret (.bin .fdiv (.bin .mod (.bin .add (.bin .mul (.var 3) (.int 39373)) (.var 2)) (.int 2147483629)) (.int 64)))
 .nil)))
noncomputable def d19:FD:=⟨"_law_mixed",ai 26,["_law_number", "_law_k", "_law_once", "_law_twice"],2,b19⟩
noncomputable def d20:FD:=rn (ai 27) 18 19
noncomputable def d21:FD:=nM (ai 28) 19
noncomputable def d22:FD:=rA (ai 29) 21
noncomputable def b23:MSs :=
 (.cons (.asgL (.cons (.name 2) (.cons (.name 3) (.cons (.name 4) (.cons (.name 5) .nil)))) (.var 0))
 (.cons (.asgL (.cons (.name 6) (.cons (.name 7) (.cons (.name 8) (.cons (.name 9) .nil)))) (.var 1))
 (.cons (.ret (.lst (.cons (.bin .add (.bin .mul (.var 2) (.var 6)) (.bin .mul (.var 3) (.var 8))) (.cons (.bin .add (.bin .mul (.var 2) (.var 7)) (.bin .mul (.var 3) (.var 9))) (.cons (.bin .add (.bin .mul (.var 4) (.var 6)) (.bin .mul (.var 5) (.var 8))) (.cons (.bin .add (.bin .mul (.var 4) (.var 7)) (.bin .mul (.var 5) (.var 9))) .nil))))))
 .nil)))
noncomputable def d23:FD:=⟨"_law_product",ai 30,["_law_one", "_law_other", "_law_a", "_law_b", "_law_c", "_law_d", "_law_e", "_law_f", "_law_g", "_law_h"],2,b23⟩
noncomputable def b24:MSs :=
 (.cons (.asg (.name 2) (.call 21 (.cons (.var 0) (.cons (.blt .len (.cons (.var 1) .nil)) .nil))))
 (.cons (.ite (.cmp .eq (.call 21 (.cons (.var 0) (.cons (.int 2) .nil))) (.int 0)) (.cons (.ret (.bin .add (.sl (.var 1) .none (.some (.var 2))) (.sl (.var 1) (.some (.bin .add (.var 2) (.int 1))) .none)))
 .nil) .nil)
 (.cons (.asg (.name 3) (.blt .list (.cons (.ix (.var 1) (.var 2)) .nil)))
 (.cons (.asg (.name 4) (.call 21 (.cons (.var 0) (.cons (.int 3) .nil))))
 (.cons (.asg (.name 5) (.blt .list (.cons (.ix (.var 3) (.var 4)) .nil)))
 (.cons (.augI (.var 5) (.call 21 (.cons (.var 0) (.cons (.int 4) .nil))) .add (.ix (.lst (.cons (.int 1) (.cons (.neg (.int 1)) (.cons (.int 3) .nil)))) (.call 21 (.cons (.var 0) (.cons (.int 3) .nil)))))
 (.cons (.put (.var 3) (.var 4) (.blt .tuple (.cons (.var 5) .nil)))
 (.cons (.ret (.bin .add (.bin .add (.sl (.var 1) .none (.some (.var 2))) (.lst (.cons (.blt .tuple (.cons (.var 3) .nil)) .nil))) (.sl (.var 1) (.some (.bin .add (.var 2) (.int 1))) .none)))
 .nil))))))))
noncomputable def d24:FD:=⟨"_law_spoilt",ai 31,["_law_box_here", "_law_products", "_law_at", "_law_product_here", "_law_side", "_law_row_here"],2,b24⟩
noncomputable def b25:MSs :=
 (.cons (.asg (.name 1) (.call 2 (.cons (.int 2) (.cons (.int 2) (.cons (.int 2) .nil)))))
 (.cons (.asg (.name 2) (.call 17 .nil))
 (.cons (.asg (.name 3) (.blt .list (.cons (.ix (.var 2) (.int 3)) .nil)))
 (.cons (.ite (.or (.cons (.cmp .isn (.call 7 (.cons (.var 2) .nil)) (.bl true)) (.cons (.cmp .ne (.call 10 (.cons (.var 2) .nil)) (.int 7)) (.cons (.cmp .ne (.sl (.var 2) .none (.some (.int 3))) (.tup (.cons (.int 4) (.cons (.int 4) (.cons (.int 4) .nil))))) (.cons (.cmp .isn (.call 14 (.cons (.var 2) (.cons (.var 1) .nil))) (.bl true)) .nil))))) (.cons (.ret (.bl false))
 .nil) .nil)
 (.cons (.for (.name 4) (.rng1 (.bin .add (.int 1) (.blt .min2 (.cons (.int 12) (.cons (.blt .len (.cons (.var 0) .nil)) .nil))))) (.cons (.asg (.name 5) (.call 20 (.cons (.var 0) (.cons (.var 4) .nil))))
 (.cons (.par 6 7 (.call 22 (.cons (.var 5) (.cons (.int 4) .nil))) (.call 22 (.cons (.var 5) (.cons (.int 4) .nil))))
 (.cons (.ite (.cmp .ne (.call 9 (.cons (.call 17 .nil) (.cons (.var 6) (.cons (.var 7) .nil)))) (.call 23 (.cons (.var 6) (.cons (.var 7) .nil)))) (.cons (.ret (.bl false))
 .nil) .nil)
 (.cons (.asg (.name 8) (.bin .add (.sl (.var 2) .none (.some (.int 3))) (.tup (.cons (.call 24 (.cons (.var 5) (.cons (.var 3) .nil))) .nil))))
 (.cons (.asg (.name 9) (.call 16 (.cons (.var 8) (.cons (.var 1) .nil))))
 (.cons (.ite (.or (.cons (.cmp .isn (.call 14 (.cons (.var 8) (.cons (.var 1) .nil))) (.bl false)) (.cons (.cmp .is (.var 9) .non) .nil))) (.cons (.ret (.bl false))
 .nil) .nil)
 (.cons (.ite (.cmp .eq (.call 9 (.cons (.var 8) (.cons (.ix (.var 9) (.int 0)) (.cons (.ix (.var 9) (.int 1)) .nil)))) (.call 1 (.cons (.var 1) (.cons (.ix (.var 9) (.int 0)) (.cons (.ix (.var 9) (.int 1)) .nil))))) (.cons (.ret (.bl false))
 .nil) .nil)
 (.cons (.drop (.meth0 .clear (.ix (.call 17 .nil) (.int 3))))
 .nil)))))))))
 (.cons (.ret (.and (.cons (.cmp .eq (.var 2) (.call 17 .nil)) (.cons (.cmp .eq (.ix (.var 2) (.int 3)) (.var 3)) .nil))))
 .nil))))))
noncomputable def d25:FD:=⟨"law",ai 32,["_law_script", "_law_task", "_law_first", "_law_kept", "_law_k", "_law_box_here", "_law_one", "_law_other", "_law_spoilt_here", "_law_found"],1,b25⟩
noncomputable def tab:List FD := [d0,d1,d2,d3,d4,d5,d6,d7,d8,d9,d10,d11,d12,d13,d14,d15,d16,d17,d18,d19,d20,d21,d22,d23,d24,d25]
noncomputable def og:List (Str×D) := [("LONGEST",(.int 81)),("MOST_PRODUCTS",(.int 400)),("SEVEN",(.tup [(.tup [(.tup [(.int 1),(.int 0),(.int 0),(.int 1)]),(.tup [(.int 1),(.int 0),(.int 0),(.int 1)]),(.tup [(.int 1),(.int 0),(.int 0),(.int 1)])]),(.tup [(.tup [(.int 0),(.int 0),(.int 1),(.int 1)]),(.tup [(.int 1),(.int 0),(.int 0),(.int 0)]),(.tup [(.int 0),(.int 0),(.int 1),(.int (-1))])]),(.tup [(.tup [(.int 1),(.int 0),(.int 0),(.int 0)]),(.tup [(.int 0),(.int 1),(.int 0),(.int (-1))]),(.tup [(.int 0),(.int 1),(.int 0),(.int 1)])]),(.tup [(.tup [(.int 0),(.int 0),(.int 0),(.int 1)]),(.tup [(.int (-1)),(.int 0),(.int 1),(.int 0)]),(.tup [(.int 1),(.int 0),(.int 1),(.int 0)])]),(.tup [(.tup [(.int 1),(.int 1),(.int 0),(.int 0)]),(.tup [(.int 0),(.int 0),(.int 0),(.int 1)]),(.tup [(.int (-1)),(.int 1),(.int 0),(.int 0)])]),(.tup [(.tup [(.int (-1)),(.int 0),(.int 1),(.int 0)]),(.tup [(.int 1),(.int 1),(.int 0),(.int 0)]),(.tup [(.int 0),(.int 0),(.int 0),(.int 1)])]),(.tup [(.tup [(.int 0),(.int 1),(.int 0),(.int (-1))]),(.tup [(.int 0),(.int 0),(.int 1),(.int 1)]),(.tup [(.int 1),(.int 0),(.int 0),(.int 0)])])]))]
end K14
end
section
namespace K14
theorem BR:∀ d∈tab,rj (tab.map (·.name)) og d=true:=by decide +kernel
noncomputable abbrev PA (K:Frag) (x:Str) (f:Addr):Prop:=PySem.W.nsIn K mainGlobals x=some (some (.ref f))
noncomputable abbrev PL (K:Frag) (f:Addr) (x:Str) (s:Stmt) (oc:Value) (od:Option Addr) (kV dc pm:Value) (an:Option Addr) (cd ct:Value) (sl:Array (Option Value)):Prop:=K.lookup f=some ⟨oc,od, .func (PySem.W.fnOf x x (cY s) (bF s) (av s) .none kV dc pm an cd ct),sl⟩
noncomputable abbrev PC (K:Frag) (c:Value) (x:Str):Prop:=PySem.W.codeIn K c x=true
noncomputable abbrev PK (K:Frag) (f:Addr):Prop:=PySem.W.keepIn K (.ref f)=true
theorem all_mk {l:PySem.W.OpenLaw} {w:World} {K:Frag} {h:Heap} {mg:Str->Option Value} {fa:Addr} (X:K.In h) (G:h.Ns mainGlobals mg) (hfa:mg "law" = some (.ref fa)) (z:∀ x∈bltNames,PySem.W.nsIn K mainGlobals x=some none)
 (a0:PA K "task_of" f0) (l0:PL K f0 "task_of" (ai 1) oc0 od0 kV0 dc0 pm0 an0 cd0 ct0 sl0) (c0:PC K cd0 "task_of") (k0:PK K f0)
 (a1:PA K "value_of" f1) (l1:PL K f1 "value_of" (ai 2) oc1 od1 kV1 dc1 pm1 an1 cd1 ct1 sl1) (c1:PC K cd1 "value_of") (k1:PK K f1)
 (a2:PA K "table_task" f2) (l2:PL K f2 "table_task" (ai 3) oc2 od2 kV2 dc2 pm2 an2 cd2 ct2 sl2) (c2:PC K cd2 "table_task") (k2:PK K f2)
 (a3:PA K "is_number" f3) (l3:PL K f3 "is_number" (ai 7) oc3 od3 kV3 dc3 pm3 an3 cd3 ct3 sl3) (c3:PC K cd3 "is_number") (k3:PK K f3)
 (a4:PA K "is_length" f4) (l4:PL K f4 "is_length" (ai 8) oc4 od4 kV4 dc4 pm4 an4 cd4 ct4 sl4) (c4:PC K cd4 "is_length") (k4:PK K f4)
 (a5:PA K "is_part" f5) (l5:PL K f5 "is_part" (ai 9) oc5 od5 kV5 dc5 pm5 an5 cd5 ct5 sl5) (c5:PC K cd5 "is_part") (k5:PK K f5)
 (a6:PA K "is_product" f6) (l6:PL K f6 "is_product" (ai 10) oc6 od6 kV6 dc6 pm6 an6 cd6 ct6 sl6) (c6:PC K cd6 "is_product") (k6:PK K f6)
 (a7:PA K "is_scheme" f7) (l7:PL K f7 "is_scheme" (ai 11) oc7 od7 kV7 dc7 pm7 an7 cd7 ct7 sl7) (c7:PC K cd7 "is_scheme") (k7:PK K f7)
 (a8:PA K "part_of_row" f8) (l8:PL K f8 "part_of_row" (ai 12) oc8 od8 kV8 dc8 pm8 an8 cd8 ct8 sl8) (c8:PC K cd8 "part_of_row") (k8:PK K f8)
 (a9:PA K "applied" f9) (l9:PL K f9 "applied" (ai 13) oc9 od9 kV9 dc9 pm9 an9 cd9 ct9 sl9) (c9:PC K cd9 "applied") (k9:PK K f9)
 (a10:PA K "times_in" f10) (l10:PL K f10 "times_in" (ai 14) oc10 od10 kV10 dc10 pm10 an10 cd10 ct10 sl10) (c10:PC K cd10 "times_in") (k10:PK K f10)
 (a11:PA K "filled" f11) (l11:PL K f11 "filled" (ai 15) oc11 od11 kV11 dc11 pm11 an11 cd11 ct11 sl11) (c11:PC K cd11 "filled") (k11:PK K f11)
 (a12:PA K "rows_by_pairs" f12) (l12:PL K f12 "rows_by_pairs" (ai 16) oc12 od12 kV12 dc12 pm12 an12 cd12 ct12 sl12) (c12:PC K cd12 "rows_by_pairs") (k12:PK K f12)
 (a13:PA K "task_by" f13) (l13:PL K f13 "task_by" (ai 17) oc13 od13 kV13 dc13 pm13 an13 cd13 ct13 sl13) (c13:PC K cd13 "task_by") (k13:PK K f13)
 (a14:PA K "does" f14) (l14:PL K f14 "does" (ai 18) oc14 od14 kV14 dc14 pm14 an14 cd14 ct14 sl14) (c14:PC K cd14 "does") (k14:PK K f14)
 (a15:PA K "single_one" f15) (l15:PL K f15 "single_one" (ai 19) oc15 od15 kV15 dc15 pm15 an15 cd15 ct15 sl15) (c15:PC K cd15 "single_one") (k15:PK K f15)
 (a16:PA K "fails_at" f16) (l16:PL K f16 "fails_at" (ai 20) oc16 od16 kV16 dc16 pm16 an16 cd16 ct16 sl16) (c16:PC K cd16 "fails_at") (k16:PK K f16)
 (a17:PA K "seven" f17) (l17:PL K f17 "seven" (ai 23) oc17 od17 kV17 dc17 pm17 an17 cd17 ct17 sl17) (c17:PC K cd17 "seven") (k17:PK K f17)
 (a18:PA K "_law_cell_at" f18) (l18:PL K f18 "_law_cell_at" (ai 25) oc18 od18 kV18 dc18 pm18 an18 cd18 ct18 sl18) (c18:PC K cd18 "_law_cell_at") (k18:PK K f18)
 (a19:PA K "_law_mixed" f19) (l19:PL K f19 "_law_mixed" (ai 26) oc19 od19 kV19 dc19 pm19 an19 cd19 ct19 sl19) (c19:PC K cd19 "_law_mixed") (k19:PK K f19)
 (a20:PA K "_law_box" f20) (l20:PL K f20 "_law_box" (ai 27) oc20 od20 kV20 dc20 pm20 an20 cd20 ct20 sl20) (c20:PC K cd20 "_law_box") (k20:PK K f20)
 (a21:PA K "_law_take" f21) (l21:PL K f21 "_law_take" (ai 28) oc21 od21 kV21 dc21 pm21 an21 cd21 ct21 sl21) (c21:PC K cd21 "_law_take") (k21:PK K f21)
 (a22:PA K "_law_row" f22) (l22:PL K f22 "_law_row" (ai 29) oc22 od22 kV22 dc22 pm22 an22 cd22 ct22 sl22) (c22:PC K cd22 "_law_row") (k22:PK K f22)
 (a23:PA K "_law_product" f23) (l23:PL K f23 "_law_product" (ai 30) oc23 od23 kV23 dc23 pm23 an23 cd23 ct23 sl23) (c23:PC K cd23 "_law_product") (k23:PK K f23)
 (a24:PA K "_law_spoilt" f24) (l24:PL K f24 "_law_spoilt" (ai 31) oc24 od24 kV24 dc24 pm24 an24 cd24 ct24 sl24) (c24:PC K cd24 "_law_spoilt") (k24:PK K f24)
 (a25:PA K "law" f25) (l25:PL K f25 "law" (ai 32) oc25 od25 kV25 dc25 pm25 an25 cd25 ct25 sl25) (c25:PC K cd25 "law") (k25:PK K f25)
 (gcst0:PySem.W.nsIn K mainGlobals "LONGEST" = some (some (.int 81 ut0)))  (gcst1:PySem.W.nsIn K mainGlobals "MOST_PRODUCTS" = some (some (.int 400 ut1)))  (gcst2:PySem.W.nsIn K mainGlobals "SEVEN" = some (some (.ref ua2))) (gu2:K.lookup ua2=some ⟨.type "tuple",uo2, .seq #[(.ref ua3),(.ref ua19),(.ref ua35),(.ref ua51),(.ref ua67),(.ref ua83),(.ref ua99)] un2,us2⟩) (gu3:K.lookup ua3=some ⟨.type "tuple",uo3, .seq #[(.ref ua4),(.ref ua9),(.ref ua14)] un3,us3⟩) (gu4:K.lookup ua4=some ⟨.type "tuple",uo4, .seq #[(.int 1 ut5),(.int 0 ut6),(.int 0 ut7),(.int 1 ut8)] un4,us4⟩) (gu9:K.lookup ua9=some ⟨.type "tuple",uo9, .seq #[(.int 1 ut10),(.int 0 ut11),(.int 0 ut12),(.int 1 ut13)] un9,us9⟩) (gu14:K.lookup ua14=some ⟨.type "tuple",uo14, .seq #[(.int 1 ut15),(.int 0 ut16),(.int 0 ut17),(.int 1 ut18)] un14,us14⟩) (gu19:K.lookup ua19=some ⟨.type "tuple",uo19, .seq #[(.ref ua20),(.ref ua25),(.ref ua30)] un19,us19⟩) (gu20:K.lookup ua20=some ⟨.type "tuple",uo20, .seq #[(.int 0 ut21),(.int 0 ut22),(.int 1 ut23),(.int 1 ut24)] un20,us20⟩) (gu25:K.lookup ua25=some ⟨.type "tuple",uo25, .seq #[(.int 1 ut26),(.int 0 ut27),(.int 0 ut28),(.int 0 ut29)] un25,us25⟩) (gu30:K.lookup ua30=some ⟨.type "tuple",uo30, .seq #[(.int 0 ut31),(.int 0 ut32),(.int 1 ut33),(.int (-1) ut34)] un30,us30⟩) (gu35:K.lookup ua35=some ⟨.type "tuple",uo35, .seq #[(.ref ua36),(.ref ua41),(.ref ua46)] un35,us35⟩) (gu36:K.lookup ua36=some ⟨.type "tuple",uo36, .seq #[(.int 1 ut37),(.int 0 ut38),(.int 0 ut39),(.int 0 ut40)] un36,us36⟩) (gu41:K.lookup ua41=some ⟨.type "tuple",uo41, .seq #[(.int 0 ut42),(.int 1 ut43),(.int 0 ut44),(.int (-1) ut45)] un41,us41⟩) (gu46:K.lookup ua46=some ⟨.type "tuple",uo46, .seq #[(.int 0 ut47),(.int 1 ut48),(.int 0 ut49),(.int 1 ut50)] un46,us46⟩) (gu51:K.lookup ua51=some ⟨.type "tuple",uo51, .seq #[(.ref ua52),(.ref ua57),(.ref ua62)] un51,us51⟩) (gu52:K.lookup ua52=some ⟨.type "tuple",uo52, .seq #[(.int 0 ut53),(.int 0 ut54),(.int 0 ut55),(.int 1 ut56)] un52,us52⟩) (gu57:K.lookup ua57=some ⟨.type "tuple",uo57, .seq #[(.int (-1) ut58),(.int 0 ut59),(.int 1 ut60),(.int 0 ut61)] un57,us57⟩) (gu62:K.lookup ua62=some ⟨.type "tuple",uo62, .seq #[(.int 1 ut63),(.int 0 ut64),(.int 1 ut65),(.int 0 ut66)] un62,us62⟩) (gu67:K.lookup ua67=some ⟨.type "tuple",uo67, .seq #[(.ref ua68),(.ref ua73),(.ref ua78)] un67,us67⟩) (gu68:K.lookup ua68=some ⟨.type "tuple",uo68, .seq #[(.int 1 ut69),(.int 1 ut70),(.int 0 ut71),(.int 0 ut72)] un68,us68⟩) (gu73:K.lookup ua73=some ⟨.type "tuple",uo73, .seq #[(.int 0 ut74),(.int 0 ut75),(.int 0 ut76),(.int 1 ut77)] un73,us73⟩) (gu78:K.lookup ua78=some ⟨.type "tuple",uo78, .seq #[(.int (-1) ut79),(.int 1 ut80),(.int 0 ut81),(.int 0 ut82)] un78,us78⟩) (gu83:K.lookup ua83=some ⟨.type "tuple",uo83, .seq #[(.ref ua84),(.ref ua89),(.ref ua94)] un83,us83⟩) (gu84:K.lookup ua84=some ⟨.type "tuple",uo84, .seq #[(.int (-1) ut85),(.int 0 ut86),(.int 1 ut87),(.int 0 ut88)] un84,us84⟩) (gu89:K.lookup ua89=some ⟨.type "tuple",uo89, .seq #[(.int 1 ut90),(.int 1 ut91),(.int 0 ut92),(.int 0 ut93)] un89,us89⟩) (gu94:K.lookup ua94=some ⟨.type "tuple",uo94, .seq #[(.int 0 ut95),(.int 0 ut96),(.int 0 ut97),(.int 1 ut98)] un94,us94⟩) (gu99:K.lookup ua99=some ⟨.type "tuple",uo99, .seq #[(.ref ua100),(.ref ua105),(.ref ua110)] un99,us99⟩) (gu100:K.lookup ua100=some ⟨.type "tuple",uo100, .seq #[(.int 0 ut101),(.int 1 ut102),(.int 0 ut103),(.int (-1) ut104)] un100,us100⟩) (gu105:K.lookup ua105=some ⟨.type "tuple",uo105, .seq #[(.int 0 ut106),(.int 0 ut107),(.int 1 ut108),(.int 1 ut109)] un105,us105⟩) (gu110:K.lookup ua110=some ⟨.type "tuple",uo110, .seq #[(.int 1 ut111),(.int 0 ut112),(.int 0 ut113),(.int 0 ut114)] un110,us110⟩)
 : ∃ fd:FuncData,(∀ (s:Shared) (v:Value),BindsTo s fd ⟨[v],[]⟩ [("_law_script",v)]) /\ ∀ base:Heap,K.In base->base.Ns mainGlobals mg->dm l.prog w K mg base CX0 40 fa fd ["_law_script"] (lSp K (phi tab 40 25)):=by
 have e:=hfa.symm.trans (PySem.W.mg_of X G a25)
 cases e
 have O:y7 K mg tab og:=by
  refine ⟨fun x hx=>PySem.W.mg_none_of X G (z x hx), ?_,BR, ?_⟩
  ·intro i d hd
   match i,hd with
   | 0,hd=>cases hd;exact ⟨_,_,ah l0 c0 k0,PySem.W.mg_of X G a0,(ah l0 c0 k0).binds fun _ _ _ _ _ _ us hl=>by obtain ⟨u0,u1,u2,u3,rfl⟩:=CK us hl;rfl⟩
   | 1,hd=>cases hd;exact ⟨_,_,ah l1 c1 k1,PySem.W.mg_of X G a1,(ah l1 c1 k1).binds fun _ _ _ _ _ _ us hl=>by obtain ⟨u0,u1,u2,rfl⟩:=ls us hl;rfl⟩
   | 2,hd=>cases hd;exact ⟨_,_,ah l2 c2 k2,PySem.W.mg_of X G a2,(ah l2 c2 k2).binds fun _ _ _ _ _ _ us hl=>by obtain ⟨u0,u1,u2,rfl⟩:=ls us hl;rfl⟩
   | 3,hd=>cases hd;exact ⟨_,_,ah l3 c3 k3,PySem.W.mg_of X G a3,(ah l3 c3 k3).binds fun _ _ _ _ _ _ us hl=>by obtain ⟨u0,rfl⟩:=cW us hl;rfl⟩
   | 4,hd=>cases hd;exact ⟨_,_,ah l4 c4 k4,PySem.W.mg_of X G a4,(ah l4 c4 k4).binds fun _ _ _ _ _ _ us hl=>by obtain ⟨u0,rfl⟩:=cW us hl;rfl⟩
   | 5,hd=>cases hd;exact ⟨_,_,ah l5 c5 k5,PySem.W.mg_of X G a5,(ah l5 c5 k5).binds fun _ _ _ _ _ _ us hl=>by obtain ⟨u0,u1,rfl⟩:=bv us hl;rfl⟩
   | 6,hd=>cases hd;exact ⟨_,_,ah l6 c6 k6,PySem.W.mg_of X G a6,(ah l6 c6 k6).binds fun _ _ _ _ _ _ us hl=>by obtain ⟨u0,u1,rfl⟩:=bv us hl;rfl⟩
   | 7,hd=>cases hd;exact ⟨_,_,ah l7 c7 k7,PySem.W.mg_of X G a7,(ah l7 c7 k7).binds fun _ _ _ _ _ _ us hl=>by obtain ⟨u0,rfl⟩:=cW us hl;rfl⟩
   | 8,hd=>cases hd;exact ⟨_,_,ah l8 c8 k8,PySem.W.mg_of X G a8,(ah l8 c8 k8).binds fun _ _ _ _ _ _ us hl=>by obtain ⟨u0,u1,rfl⟩:=bv us hl;rfl⟩
   | 9,hd=>cases hd;exact ⟨_,_,ah l9 c9 k9,PySem.W.mg_of X G a9,(ah l9 c9 k9).binds fun _ _ _ _ _ _ us hl=>by obtain ⟨u0,u1,u2,rfl⟩:=ls us hl;rfl⟩
   | 10,hd=>cases hd;exact ⟨_,_,ah l10 c10 k10,PySem.W.mg_of X G a10,(ah l10 c10 k10).binds fun _ _ _ _ _ _ us hl=>by obtain ⟨u0,rfl⟩:=cW us hl;rfl⟩
   | 11,hd=>cases hd;exact ⟨_,_,ah l11 c11 k11,PySem.W.mg_of X G a11,(ah l11 c11 k11).binds fun _ _ _ _ _ _ us hl=>by obtain ⟨u0,rfl⟩:=cW us hl;rfl⟩
   | 12,hd=>cases hd;exact ⟨_,_,ah l12 c12 k12,PySem.W.mg_of X G a12,(ah l12 c12 k12).binds fun _ _ _ _ _ _ us hl=>by obtain ⟨u0,rfl⟩:=cW us hl;rfl⟩
   | 13,hd=>cases hd;exact ⟨_,_,ah l13 c13 k13,PySem.W.mg_of X G a13,(ah l13 c13 k13).binds fun _ _ _ _ _ _ us hl=>by obtain ⟨u0,rfl⟩:=cW us hl;rfl⟩
   | 14,hd=>cases hd;exact ⟨_,_,ah l14 c14 k14,PySem.W.mg_of X G a14,(ah l14 c14 k14).binds fun _ _ _ _ _ _ us hl=>by obtain ⟨u0,u1,rfl⟩:=bv us hl;rfl⟩
   | 15,hd=>cases hd;exact ⟨_,_,ah l15 c15 k15,PySem.W.mg_of X G a15,(ah l15 c15 k15).binds fun _ _ _ _ _ _ us hl=>by obtain ⟨u0,u1,rfl⟩:=bv us hl;rfl⟩
   | 16,hd=>cases hd;exact ⟨_,_,ah l16 c16 k16,PySem.W.mg_of X G a16,(ah l16 c16 k16).binds fun _ _ _ _ _ _ us hl=>by obtain ⟨u0,u1,rfl⟩:=bv us hl;rfl⟩
   | 17,hd=>cases hd;exact ⟨_,_,ah l17 c17 k17,PySem.W.mg_of X G a17,(ah l17 c17 k17).binds fun _ _ _ _ _ _ us hl=>by obtain ⟨rfl⟩:=CJ us hl;rfl⟩
   | 18,hd=>cases hd;exact ⟨_,_,ah l18 c18 k18,PySem.W.mg_of X G a18,(ah l18 c18 k18).binds fun _ _ _ _ _ _ us hl=>by obtain ⟨u0,u1,rfl⟩:=bv us hl;rfl⟩
   | 19,hd=>cases hd;exact ⟨_,_,ah l19 c19 k19,PySem.W.mg_of X G a19,(ah l19 c19 k19).binds fun _ _ _ _ _ _ us hl=>by obtain ⟨u0,u1,rfl⟩:=bv us hl;rfl⟩
   | 20,hd=>cases hd;exact ⟨_,_,ah l20 c20 k20,PySem.W.mg_of X G a20,(ah l20 c20 k20).binds fun _ _ _ _ _ _ us hl=>by obtain ⟨u0,u1,rfl⟩:=bv us hl;rfl⟩
   | 21,hd=>cases hd;exact ⟨_,_,ah l21 c21 k21,PySem.W.mg_of X G a21,(ah l21 c21 k21).binds fun _ _ _ _ _ _ us hl=>by obtain ⟨u0,u1,rfl⟩:=bv us hl;rfl⟩
   | 22,hd=>cases hd;exact ⟨_,_,ah l22 c22 k22,PySem.W.mg_of X G a22,(ah l22 c22 k22).binds fun _ _ _ _ _ _ us hl=>by obtain ⟨u0,u1,rfl⟩:=bv us hl;rfl⟩
   | 23,hd=>cases hd;exact ⟨_,_,ah l23 c23 k23,PySem.W.mg_of X G a23,(ah l23 c23 k23).binds fun _ _ _ _ _ _ us hl=>by obtain ⟨u0,u1,rfl⟩:=bv us hl;rfl⟩
   | 24,hd=>cases hd;exact ⟨_,_,ah l24 c24 k24,PySem.W.mg_of X G a24,(ah l24 c24 k24).binds fun _ _ _ _ _ _ us hl=>by obtain ⟨u0,u1,rfl⟩:=bv us hl;rfl⟩
   | 25,hd=>cases hd;exact ⟨_,_,ah l25 c25 k25,PySem.W.mg_of X G a25,(ah l25 c25 k25).binds fun _ _ _ _ _ _ us hl=>by obtain ⟨u0,rfl⟩:=cW us hl;rfl⟩
   | i+26,hd=>simp [tab] at hd
  ·intro x i hx
   simp only [og,List.mem_cons,List.not_mem_nil,or_false,Prod.mk.injEq] at hx
   rcases hx with ⟨rfl,rfl⟩ | ⟨rfl,rfl⟩ | ⟨rfl,rfl⟩
   ·exact ⟨_,PySem.W.mg_of X G gcst0,GV.ints⟩
   ·exact ⟨_,PySem.W.mg_of X G gcst1,GV.ints⟩
   ·exact ⟨_,PySem.W.mg_of X G gcst2,(GV.tups gu2 (by simp) rfl (GVs.cons (GV.tups gu3 (by simp) rfl (GVs.cons (GV.tups gu4 (by simp) rfl (GVs.cons GV.ints (GVs.cons GV.ints (GVs.cons GV.ints (GVs.cons GV.ints GVs.nil))))) (GVs.cons (GV.tups gu9 (by simp) rfl (GVs.cons GV.ints (GVs.cons GV.ints (GVs.cons GV.ints (GVs.cons GV.ints GVs.nil))))) (GVs.cons (GV.tups gu14 (by simp) rfl (GVs.cons GV.ints (GVs.cons GV.ints (GVs.cons GV.ints (GVs.cons GV.ints GVs.nil))))) GVs.nil)))) (GVs.cons (GV.tups gu19 (by simp) rfl (GVs.cons (GV.tups gu20 (by simp) rfl (GVs.cons GV.ints (GVs.cons GV.ints (GVs.cons GV.ints (GVs.cons GV.ints GVs.nil))))) (GVs.cons (GV.tups gu25 (by simp) rfl (GVs.cons GV.ints (GVs.cons GV.ints (GVs.cons GV.ints (GVs.cons GV.ints GVs.nil))))) (GVs.cons (GV.tups gu30 (by simp) rfl (GVs.cons GV.ints (GVs.cons GV.ints (GVs.cons GV.ints (GVs.cons GV.ints GVs.nil))))) GVs.nil)))) (GVs.cons (GV.tups gu35 (by simp) rfl (GVs.cons (GV.tups gu36 (by simp) rfl (GVs.cons GV.ints (GVs.cons GV.ints (GVs.cons GV.ints (GVs.cons GV.ints GVs.nil))))) (GVs.cons (GV.tups gu41 (by simp) rfl (GVs.cons GV.ints (GVs.cons GV.ints (GVs.cons GV.ints (GVs.cons GV.ints GVs.nil))))) (GVs.cons (GV.tups gu46 (by simp) rfl (GVs.cons GV.ints (GVs.cons GV.ints (GVs.cons GV.ints (GVs.cons GV.ints GVs.nil))))) GVs.nil)))) (GVs.cons (GV.tups gu51 (by simp) rfl (GVs.cons (GV.tups gu52 (by simp) rfl (GVs.cons GV.ints (GVs.cons GV.ints (GVs.cons GV.ints (GVs.cons GV.ints GVs.nil))))) (GVs.cons (GV.tups gu57 (by simp) rfl (GVs.cons GV.ints (GVs.cons GV.ints (GVs.cons GV.ints (GVs.cons GV.ints GVs.nil))))) (GVs.cons (GV.tups gu62 (by simp) rfl (GVs.cons GV.ints (GVs.cons GV.ints (GVs.cons GV.ints (GVs.cons GV.ints GVs.nil))))) GVs.nil)))) (GVs.cons (GV.tups gu67 (by simp) rfl (GVs.cons (GV.tups gu68 (by simp) rfl (GVs.cons GV.ints (GVs.cons GV.ints (GVs.cons GV.ints (GVs.cons GV.ints GVs.nil))))) (GVs.cons (GV.tups gu73 (by simp) rfl (GVs.cons GV.ints (GVs.cons GV.ints (GVs.cons GV.ints (GVs.cons GV.ints GVs.nil))))) (GVs.cons (GV.tups gu78 (by simp) rfl (GVs.cons GV.ints (GVs.cons GV.ints (GVs.cons GV.ints (GVs.cons GV.ints GVs.nil))))) GVs.nil)))) (GVs.cons (GV.tups gu83 (by simp) rfl (GVs.cons (GV.tups gu84 (by simp) rfl (GVs.cons GV.ints (GVs.cons GV.ints (GVs.cons GV.ints (GVs.cons GV.ints GVs.nil))))) (GVs.cons (GV.tups gu89 (by simp) rfl (GVs.cons GV.ints (GVs.cons GV.ints (GVs.cons GV.ints (GVs.cons GV.ints GVs.nil))))) (GVs.cons (GV.tups gu94 (by simp) rfl (GVs.cons GV.ints (GVs.cons GV.ints (GVs.cons GV.ints (GVs.cons GV.ints GVs.nil))))) GVs.nil)))) (GVs.cons (GV.tups gu99 (by simp) rfl (GVs.cons (GV.tups gu100 (by simp) rfl (GVs.cons GV.ints (GVs.cons GV.ints (GVs.cons GV.ints (GVs.cons GV.ints GVs.nil))))) (GVs.cons (GV.tups gu105 (by simp) rfl (GVs.cons GV.ints (GVs.cons GV.ints (GVs.cons GV.ints (GVs.cons GV.ints GVs.nil))))) (GVs.cons (GV.tups gu110 (by simp) rfl (GVs.cons GV.ints (GVs.cons GV.ints (GVs.cons GV.ints (GVs.cons GV.ints GVs.nil))))) GVs.nil)))) GVs.nil))))))))⟩
 refine ⟨PySem.W.fnOf "law" "law" (cY (ai 32)) (bF (ai 32)) (av (ai 32)) .none kV25 dc25 pm25 an25 cd25 ct25,fun s v => .of_eq rfl,fun base _ _ => ?_⟩
 exact u8 O 40 25 d25 _ _ rfl (ah l25 c25 k25)
theorem walk {l:PySem.W.OpenLaw} {q:Program} {loose:List Str} {XP:(Str->Option Value)->Heap->Prop} {YP:World->Heap->Prop} {d:DefRec} {K:Params->Frag} (hn:l.most=some 63) (hdf:d.params.defaults=[])
 (hlaw:∀ ns:List Int,ns.length<=63->phi tab 40 25 [.con (ns.map D.int)] (fun _=>none) fun d _=>d = .bl true)
 (hY:∀ (w:World) (h:Heap),YP w h->(K w.params).In h)
 (F:∀ (w:World) (mg:Str->Option Value) (fa:Addr) (h:Heap),(K w.params).In h->h.Ns mainGlobals mg->mg d.name=some (.ref fa) ->
   ∃ fd:FuncData,(∀ (s:Shared) (u:Value),BindsTo s fd ⟨[u],[]⟩ [("_law_script",u)]) /\ ∀ base:Heap,(K w.params).In base->base.Ns mainGlobals mg->dm l.prog w (K w.params) mg base CX0 40 fa fd ["_law_script"] (lSp (K w.params) (phi tab 40 25))) :
 PySem.W.WalkO q loose XP YP l.row.toRowW d [] (fun f vs=>PySem.call f vs) :=
 L2.walk_of (n := 63) (k := 40) (x := "_law_script") (CX:=fun _=>CX0) (sp:=fun w=>lSp (K w.params) (phi tab 40 25)) hn (by decide) hdf ⟨rfl,by decide,by decide⟩ hY F (fun w H a ns hl hO hS=>BB hO hS (hlaw ns hl)) fun _ _ _ _ _ z=>z
end K14
end
section
namespace K14
open PySem PySem.Spec PyProof.Rows L2.Srt
theorem pW {n:Nat} (j : 1<=n):rp tab n 19:=uu (x := "_law_number") (s:=ai 26) rfl j
theorem cB {n:Nat} (j : 2<=n):uo tab n 21:=fun z h1 h2 q=>zQ (s:=ai 28) (fm := 19) rfl (pW (by lia)) j z h1 h2 q
theorem pX {n:Nat} (j : 3<=n):yd tab n 22:=BL (s:=ai 29) (ft := 21) rfl (cB (by lia)) (by lia)
theorem Ac {M M':Mem} {p:Addr} (g:Ge M M') (h:M' p=none):M p=none:=by
 cases hz:M p with
 | none=>rfl
 | some o=>rw [g _ _ hz] at h;cases h
noncomputable def at3 (p:Pr):Nat->List Int
 | 0=>p.1
 | 1=>p.2.1
 | _=>p.2.2
noncomputable def fQ (p:Pr) (l:List Int):Nat->Pr
 | 0=>(l,p.2.1,p.2.2)
 | 1=>(p.1,l,p.2.2)
 | _=>(p.1,p.2.1,l)
noncomputable def BS (p:Pr) (s x:Nat) (d:Int):Pr:=fQ p ((at3 p s).set x ((at3 p s).getD x 0+d)) s
noncomputable def pa (a:Nat):Pr:=seven.getD a ([],[],[])
noncomputable def sp0 (a:Nat):List Pr:=seven.take a++seven.drop (a+1)
noncomputable def sp1 (a s x:Nat) (d:Int):List Pr:=seven.take a++[BS (pa a) s x d]++seven.drop (a+1)
noncomputable def Spo (qs:List Pr):Prop:=(∃ a,a < 7/\qs=sp0 a) ∨ ∃ a s x d,a < 7/\s < 3/\x < 4/\d∈[(1:Int), -1,3]/\qs=sp1 a s x d
noncomputable def prB (p:Pr):Bool:=p.1.length==4&&p.2.1.length==4&&p.2.2.length==4&&p.1.all (fun x=>decide (-4<=x/\x<=4))&&p.2.1.all (fun x=>decide (-4<=x/\x<=4))&&p.2.2.all (fun x=>decide (-4<=x/\x<=4))
noncomputable def BU (qs:List Pr):Bool:=(List.range 4).any fun k=>(List.range 4).any fun i=>(List.range 4).any fun j => !(Tn qs (k:Nat) (i:Nat) (j:Nat)==cf (aK 2 2 2) ((k:Nat),((i:Nat):Int),((j:Nat):Int)))
noncomputable def gD (qs:List Pr):Bool:=decide (qs.length<=7)&&qs.all prB&&BU qs
theorem xA:((List.range 7).all fun a=>gD (sp0 a)&&(List.range 3).all fun s=>(List.range 4).all fun x => [(1:Int), -1,3].all fun d=>gD (sp1 a s x d))=true:=by decide +kernel
theorem Spo.good {qs:List Pr} (h:Spo qs):gD qs=true:=by
 have g:=xA
 rw [List.all_eq_true] at g
 rcases h with ⟨a,j,rfl⟩ | ⟨a,s,x,d,j,hs,hx,hd,rfl⟩
 ·exact (Bool.and_eq_true_iff.mp (g a (List.mem_range.mpr j))).1
 ·have g1:=(Bool.and_eq_true_iff.mp (g a (List.mem_range.mpr j))).2
  rw [List.all_eq_true] at g1
  have g2:=g1 s (List.mem_range.mpr hs)
  rw [List.all_eq_true] at g2
  have g3:=g2 x (List.mem_range.mpr hx)
  rw [List.all_eq_true] at g3
  exact g3 d hd
theorem uM {p:Pr} (h:prB p=true):PrOk 4 4 4 p:=by
 unfold prB at h
 simp only [Bool.and_eq_true,beq_iff_eq,List.all_eq_true,decide_eq_true_eq] at h
 obtain ⟨⟨⟨⟨⟨a,b⟩,c⟩,d⟩,e⟩,f⟩:=h
 exact ⟨a,b,c,fun x hx=>by have:=d x hx;lia,fun x hx=>by have:=e x hx;lia,fun x hx=>by have:=f x hx;lia⟩
theorem bY:∀ p∈seven,PrOk 4 4 4 p:=fun p j=>uM ((by decide:∀ p∈seven,prB p=true) p j)
theorem Spo.len {qs:List Pr} (h:Spo qs):qs.length<=7:=by
 have:=h.good
 unfold gD at this
 simp only [Bool.and_eq_true,decide_eq_true_eq] at this
 exact this.1.1
theorem Spo.ok {qs:List Pr} (h:Spo qs):∀ p∈qs,PrOk 4 4 4 p:=fun p j=>by
 have:=h.good
 unfold gD at this
 simp only [Bool.and_eq_true,List.all_eq_true] at this
 exact uM (this.1.2 p j)
theorem Spo.dif {qs:List Pr} (h:Spo qs):∃ k i j,Tn qs k i j≠cf (aK 2 2 2) (k,i,j):=by
 have:=h.good
 unfold gD BU at this
 simp only [Bool.and_eq_true,List.any_eq_true,Bool.not_eq_true',beq_eq_false_iff_ne] at this
 obtain ⟨_,k,_,i,_,j,_,e⟩:=this
 exact ⟨_,_,_,e⟩
theorem dR {n:Nat} (z : 1<=n) {M:Mem} {Q:QD} (q:∀ p,M p=none->Q (.tup [.int 4, .int 4, .int 4, .ref p]) (af M p (.lst (seven.map prD)))):phi tab n 17 [] M Q:=by
 refine ar (by lia) rfl rfl (ρ := []) rfl ?_
 unfold d17 b17
 walk_at "st"
 refine ⟨_,_,rfl,rfl,fun p j => ?_⟩
 exact ⟨by rw [sizeLine_eq];lia,q p j⟩
theorem jV {L i:Nat} (h:i < L):ixN L (i:Nat)=some i:=by
 unfold ixN;simp;lia
theorem jm {n:Nat} (U : 1<=n) {L i:Nat} (Y:L<=1000) (h1:i < L) {M:Mem} {Q:QD} (q:∀ p M',Ge M M'->M p=none->M' p=some (.lst ((one L (i:Nat)).map .int))->Q (.ref p) M'):phi tab n 15 [.int L, .int (i:Nat)] M Q:=by
 refine ar (by lia) rfl rfl (ρ := [some _,some _,none]) rfl ?_
 unfold d15 b15
 walk_at "st"
 refine ⟨by rw [sizeLine_eq];lia,fun J G => ?_⟩
 have g1:=Ge.new (o := .lst [.int 0]) G
 refine ⟨_,ab,by lia,by lia,by rw [sizeLine_eq];simp;lia,fun p2 F => ?_⟩
 have g2:=g1.trans (Ge.new (o := .lst (List.replicate (L:Int).toNat [D.int 0]).flatten) F)
 have B:M p2=none:=Ac g1 F
 have O:af (af M J (.lst [.int 0])) p2 (.lst (List.replicate (L:Int).toNat [D.int 0]).flatten) p2=some (.lst ((List.replicate L (0:Int)).map .int)):=by
  rw [ab,rq];simp
 generalize af (af M J (.lst [.int 0])) p2 (.lst (List.replicate (L:Int).toNat [D.int 0]).flatten)=M2 at g2 O ⊢
 walk_at "st"
 refine bX O (j:=i) (by rw [List.length_map,List.length_replicate];exact jV h1) ?_
 walk_at "st"
 refine q p2 _ (g2.upd B) B ?_
 rw [ab]
 congr 2
 rw [<- List.map_set (f:=D.int) (a := 1)]
 congr 1
 unfold one
 apply List.ext_getElem?
 intro m
 rw [List.getElem?_set,List.getElem?_map,List.getElem?_replicate]
 by_cases hm:m < L
 ·rw [List.getElem?_range hm]
  by_cases e:m=i
  ·subst e;simp [hm]
  ·rw [if_neg (by simpa using fun z=>e z.symm)]
   simp [hm];lia
 ·rw [List.getElem?_eq_none (by simp;lia)]
  by_cases e:i=m
  ·lia
  ·rw [if_neg e,if_neg hm];rfl
theorem yi {l:List Int} (h:l.length=4):(nz l).length<=4:=by rw [<- h];exact uB
theorem pY {n:Nat} (G : 4<=n) {qs:List Pr} (J:qs.length<=7) (F:∀ p∈qs,PrOk 4 4 4 p) {p:Addr} {M:Mem} {Q:QD} (ep:M p=some (.lst (qs.map prD)))
 (q:∀ (ts rs:List Tm) p' M',IsTask ts rs->(∀ k i j,cf ts (k,i,j)=Tn qs k i j)->Ge M M'->M p'=none->M' p'=some (.lst (rs.map tmD))->Q (.tup [.int 4, .int 4, .int 4, .ref p']) M'):phi tab n 13 [.tup [.int 4, .int 4, .int 4, .ref p]] M Q :=
 oG (L0 := 4) (L1 := 4) (N := 4) (B := 16) (s:=ai 17) (sk:=ai 1) (sf:=ai 15) (sr:=ai 16) rfl rfl rfl rfl (by lia) ep (by lia) (by lia) (by lia) (by lia) (by lia) (fun p z=>by
  obtain ⟨a,b,c,d,e⟩:=(F p z).pf
  exact ⟨a,fP (F p z).s1,b,c,d,e⟩) (fun p z=>Nat.mul_le_mul (yi (F p z).l0) (yi (F p z).l1)) q
theorem BV {a b:Tm}:PyData.eqv (cN a) (cN b)=decide (a=b):=by
 obtain ⟨⟨k,i,j⟩,c⟩:=a
 obtain ⟨⟨k',i',j'⟩,c'⟩:=b
 simp [cN,PyData.eqv,PyData.eqvAll,Prod.ext_iff,Bool.decide_and,Bool.and_assoc]
 rfl
theorem pZ:∀ {a b:List Tm},PyData.eqvAll (a.map cN) (b.map cN)=decide (a=b)
 | [],[] => by simp [PyData.eqvAll]
 | [],_::_=>by simp [PyData.eqvAll]
 | _::_,[] => by simp [PyData.eqvAll]
 | x::a,y::b=>by
   rw [List.map_cons,List.map_cons,PyData.eqvAll,BV,pZ]
   simp [Bool.decide_and]
theorem oh {n:Nat} (L : 5<=n) {qs:List Pr} (G:qs.length<=7) (J:∀ p∈qs,PrOk 4 4 4 p) {rs:List Tm} (B:IsTask (aK 2 2 2) rs) {pp pt:Addr} {M:Mem} {Q:QD} (ep:M pp=some (.lst (qs.map prD))) (et:M pt=some (.lst (rs.map tmD)))
 (q:∀ b M',Ge M M'->(b=true ↔ ∀ k i j,Tn qs k i j=cf (aK 2 2 2) (k,i,j))->Q (.bl b) M'):phi tab n 14 [.tup [.int 4, .int 4, .int 4, .ref pp], .tup [.int 4, .int 4, .int 4, .ref pt]] M Q:=by
 refine ar (by lia) rfl rfl (ρ := [some _,some _]) rfl ?_
 unfold d14 b14
 walk_at "st"
 refine pY (by lia) G J ep fun ts' rs' p' M' F z g' _ e' => ?_
 refine ⟨_,_,pJ e',pJ (g' _ _ et), ?_⟩
 refine q _ _ g' ?_
 rw [show PyData.eqv (.tuple [.int 4, .int 4, .int 4, .list (rs'.map cN)]) (.tuple [.int 4, .int 4, .int 4, .list (rs.map cN)])=decide (rs'=rs) by simp [PyData.eqv,PyData.eqvAll,pZ],decide_eq_true_eq]
 constructor
 ·rintro rfl k i j
  rw [<- z, <- F.cf,B.cf]
 ·intro h
  refine F.uniq B fun k => ?_
  obtain ⟨k,i,j⟩:=k
  rw [z,h]
theorem Ad {k i j:Int} (h:cf (aK 2 2 2) (k,i,j)≠0):(0<=k/\k < 4)/\(0<=i/\i < 4)/\(0<=j/\j < 4):=by
 have d:∀ t∈aK 2 2 2,(0<=t.1.1/\t.1.1 < 4)/\(0<=t.1.2.1/\t.1.2.1 < 4)/\(0<=t.1.2.2/\t.1.2.2 < 4):=by decide
 apply Classical.byContradiction
 intro q
 refine h (gv fun t z e=>q ?_)
 have:=d t z
 rw [e] at this
 exact this
theorem uN:∀ {l m:List K3},l.Nodup->(∀ x∈l,x∈m)->l.length<=m.length
 | [],_,_,_=>by simp
 | x::l,m,h,g=>by
   rw [List.nodup_cons] at h
   have hx:=g x (by simp)
   have ih:=uN (l:=l) (m:=m.erase x) h.2 fun y j=>(List.mem_erase_of_ne (fun e=>h.1 (by rw [<- e];exact j))).mpr (g y (by simp [j]))
   have e:=List.length_erase_of_mem hx
   have:=List.length_pos_of_mem hx
   rw [List.length_cons];lia
noncomputable def xB:List K3:=(List.range 4).flatMap fun k=>(List.range 4).flatMap fun i=>(List.range 4).map fun j=>(((k:Nat):Int),((i:Nat):Int),((j:Nat):Int))
theorem BW {k i j:Int} (h:(0<=k/\k < 4)/\(0<=i/\i < 4)/\(0<=j/\j < 4)):(k,i,j)∈xB:=by
 unfold xB
 simp only [List.mem_flatMap,List.mem_map,List.mem_range]
 exact ⟨k.toNat,by lia,i.toNat,by lia,j.toNat,by lia,by rw [Int.toNat_of_nonneg h.1.1,Int.toNat_of_nonneg h.2.1.1,Int.toNat_of_nonneg h.2.2.1]⟩
theorem uO {qs:List Pr} (q:∀ p∈qs,PrOk 4 4 4 p) {k i j:Int} (h:Tn qs k i j≠0):(0<=k/\k < 4)/\(0<=i/\i < 4)/\(0<=j/\j < 4):=nV (L0 := 4) (L1 := 4) (L2 := 4) (fun u z=>⟨(q u z).l0,(q u z).l1,(q u z).l2⟩) h
theorem xC {qs:List Pr} (G:∀ p∈qs,PrOk 4 4 4 p) {ts rs:List Tm} (q:IsTask ts rs) (z:∀ k i j,cf ts (k,i,j)=Tn qs k i j):rs.length<=64:=by
 have:=uN (m:=xB) q.nodup fun x hx=>by
  obtain ⟨t,B,rfl⟩:=List.mem_map.mp hx
  have F:=q.nz t B
  rw [q.val B,z] at F
  exact BW (uO G F)
 rw [List.length_map] at this
 exact this
theorem uP {n:Nat} (hn : 5<=n) {qs:List Pr} (hl:qs.length<=7) (hq:∀ p∈qs,PrOk 4 4 4 p) (hd:∃ k i j,Tn qs k i j≠cf (aK 2 2 2) (k,i,j)) {rs:List Tm} (ht:IsTask (aK 2 2 2) rs) (DC:rs.length<=1000) {pp pt:Addr} {M:Mem} {Q:QD} (ep:M pp=some (.lst (qs.map prD))) (et:M pt=some (.lst (rs.map tmD)))
 (q:∀ (k i j:Nat) pa pb M',k < 4->i < 4->j < 4->Tn qs (k:Nat) (i:Nat) (j:Nat)≠cf (aK 2 2 2) (((k:Nat):Int),((i:Nat):Int),((j:Nat):Int))->Ge M M'->M' pa=some (.lst ((one 4 (i:Nat)).map .int))->M' pb=some (.lst ((one 4 (j:Nat)).map .int))->Q (.tup [.ref pa, .ref pb]) M') :
 phi tab n 16 [.tup [.int 4, .int 4, .int 4, .ref pp], .tup [.int 4, .int 4, .int 4, .ref pt]] M Q:=by
 refine ar (by lia) rfl rfl (ρ := [some _,some _,none,none,none,none,none,none,none]) rfl ?_
 unfold d16 b16
 walk_at "st"
 walk_at "st"
 refine pY (by lia) hl hq ep fun DD F p1 M1 Y Z g1 DE e1 => ?_
 refine ⟨_,_,rfl,rfl,_,ag (g1 _ _ et), ?_⟩
 have Dy:=g1 _ _ et
 refine aM (f:=tmD) (ys:=rs) (I:=fun l ρ M' acc=>(∃ o0 o1 o2 o3, ρ = [o0,o1,o2,o3])/\M'=M1/\acc=(bp l).map tmD) rfl ⟨⟨_,_,_,_,rfl⟩,rfl,rfl⟩ (fun _ _ _ _ h=>by rw [h.2.1];exact ag Dy) ?_ ?_
 ·rintro l t r ρ M2 acc e ⟨⟨o0,o1,o2,o3,rfl⟩,rfl,rfl⟩
  refine ⟨_,rfl,fun N' U => ?_⟩
  have Dz:=aH e
  walk_at "wp"
  refine ⟨by rw [sizeLine_eq];lia,by unfold bp;rw [List.length_map,List.length_map,sizeLine_eq];lia,U _ _ _ ⟨⟨_,_,_,_,rfl⟩,rfl, ?_⟩⟩
  unfold bp;simp [tmD]
 rintro ρ M2 acc ⟨⟨o0,o1,o2,o3,rfl⟩,rfl,rfl⟩ p2 hp2
 have g2:=Ge.new (o := .lst ((bp rs).map tmD)) hp2
 have DF:=xC hq Y Z
 refine ⟨_,_,g2 _ _ e1,ab,by rw [List.length_map,List.length_map];unfold bp;rw [List.length_map,sizeLine_eq];lia,fun p3 DA => ?_⟩
 have g3:=Ge.new (o := .lst (F.map tmD++(bp rs).map tmD)) DA
 have e3:=ab (M:=af M2 p2 (.lst ((bp rs).map tmD))) (a:=p3) (o := .lst (F.map tmD++(bp rs).map tmD))
 have g3:=g2.trans g3
 generalize af (af M2 p2 (.lst ((bp rs).map tmD))) p3 (.lst (F.map tmD++(bp rs).map tmD))=M3 at g3 e3 ⊢
 rw [<- List.map_append] at e3
 refine jO (s:=ai 1) rfl (by lia) (ts:=F++bp rs) (ag e3) (by unfold bp;rw [List.length_append,List.length_map];lia) fun B p4 M4 G g4 DG e4 => ?_
 refine ⟨_,_,rfl,rfl, ?_⟩
 have J:∀ k i j,cf (F++bp rs) (k,i,j)=Tn qs k i j - cf (aK 2 2 2) (k,i,j):=fun k i j=>by
  rw [bj,uz,Y.cf,Z,ht.cf];lia
 have Dv:B≠[]:=fun z=>by
  obtain ⟨k,i,j,h⟩:=hd
  have:=G.cf (k,i,j)
  rw [z,bO,J] at this
  exact h (by lia)
 have g4:=g1.trans (g3.trans g4)
 have hb:mJ M4 (.ref p4)=some true:=by
  simp only [mJ,e4]
  cases B with
  | nil=>exact absurd rfl Dv
  | cons _ _=>rfl
 have hw:B.length<=1064:=by
  have:=G.len
  unfold bp at this
  rw [List.length_append,List.length_map] at this
  lia
 walk_at "st"
 refine ⟨_,hb, ?_⟩
 rw [if_neg (by decide)]
 walk_at "st"
 refine ⟨_,ag e4, ?_⟩
 refine aM (f:=tmD) (ys:=B) (I:=fun l ρ M' acc=>(∃ o0, ρ = [o0])/\M'=M4/\acc=(l.map fun t => [t.1.2.1,t.1.2.2]).map fun ns => .tup (ns.map .int)) rfl ⟨⟨_,rfl⟩,rfl,rfl⟩ (fun _ _ _ _ h=>by rw [h.2.1];exact ag e4) ?_ ?_
 ·rintro l t r ρ M5 acc e ⟨⟨o0,rfl⟩,rfl,rfl⟩
  refine ⟨_,rfl,fun N' U => ?_⟩
  have Dz:=aH e
  walk_at "wp"
  exact ⟨by rw [List.length_map,List.length_map,sizeLine_eq];lia,U _ _ _ ⟨⟨_,rfl⟩,rfl,by rw [List.map_append,List.map_append];rfl⟩⟩
 rintro ρ M5 acc ⟨⟨o0,rfl⟩,rfl,rfl⟩ p5 hp5
 have g5:=g4.trans (Ge.new (o := .lst ((B.map fun t => [t.1.2.1,t.1.2.2]).map fun ns => .tup (ns.map .int))) hp5)
 refine ⟨p5,B.map fun t => [t.1.2.1,t.1.2.2],rfl,ab,fun z=>Dv (List.map_eq_nil_iff.mp z),fun ns DB => ?_⟩
 obtain ⟨⟨⟨k,i,j⟩,c⟩,Dw,rfl⟩:=List.mem_map.mp DB
 have hz:=G.nz _ Dw
 have hv:=G.val Dw
 dsimp only at hz hv
 rw [J] at hv
 have O:Tn qs k i j≠cf (aK 2 2 2) (k,i,j):=fun z=>hz (by rw [hv,z];lia)
 have Dx:(0<=k/\k < 4)/\(0<=i/\i < 4)/\(0<=j/\j < 4):=by
  by_cases z:Tn qs k i j=0
  ·exact Ad fun y=>O (z.trans y.symm)
  ·exact uO hq z
 obtain ⟨⟨k0,k4⟩,⟨i0,i4⟩,⟨j0,j4⟩⟩:=Dx
 obtain ⟨k,rfl⟩:=Int.eq_ofNat_of_zero_le k0
 obtain ⟨i,rfl⟩:=Int.eq_ofNat_of_zero_le i0
 obtain ⟨j,rfl⟩:=Int.eq_ofNat_of_zero_le j0
 generalize af M5 p5 (.lst ((B.map fun t => [t.1.2.1,t.1.2.2]).map fun ns => .tup (ns.map .int)))=M6 at g5 ⊢
 refine ⟨_,rfl, ?_⟩
 walk_at "st"
 refine jm (L := 4) (by lia) (by lia) (by lia) fun pa M7 g7 _ ea => ?_
 refine jm (L := 4) (by lia) (by lia) (by lia) fun pb M8 g8 _ eb => ?_
 exact ⟨by rw [sizeLine_eq];lia,q k i j pa pb M8 (by lia) (by lia) (by lia) O (g5.trans (g7.trans g8)) (g8 _ _ ea) eb⟩
theorem xD {n:Nat} (J : 1<=n) {a b c d e f g h:Int} (z:Big [a,b,c,d]) (he:Big [e,f,g,h]) {j p2:Addr} {M:Mem} {Q:QD} (B:M j=some (.lst ([a,b,c,d].map .int))) (F:M p2=some (.lst ([e,f,g,h].map .int)))
 (q:∀ p,M p=none->Q (.ref p) (af M p (.lst ([a*e+b*g,a*f+b*h,c*e+d*g,c*f+d*h].map .int)))):phi tab n 23 [.ref j, .ref p2] M Q:=by
 have bg:∀ {x:Int},x∈[a,b,c,d] -> -(2 ^ 64) < x/\x < 2 ^ 64:=fun hx=>by have:=z _ hx;lia
 refine ar (by lia) rfl rfl (ρ := [some _,some _,none,none,none,none,none,none,none,none]) rfl ?_
 unfold d23 b23
 walk_at "st"
 refine ⟨_,B,_,rfl, ?_⟩
 walk_at "st"
 refine ⟨_,F,_,rfl, ?_⟩
 walk_at "st"
 refine ⟨b5 (bg (by simp)),b5 (bg (by simp)),b5 (bg (by simp)),b5 (bg (by simp)),b5 (bg (by simp)),b5 (bg (by simp)),b5 (bg (by simp)),b5 (bg (by simp)),by rw [sizeLine_eq];lia,fun p G=>q p G⟩
theorem oi {xs:List D} {n:Nat} (h:n<=xs.length):cL xs none (some (n:Int))=xs.take n:=by
 unfold cL
 rw [HT.sIx_none,HT.sIx_nat,Nat.min_eq_left h];simp
theorem oj {xs:List D} {n:Nat} (h:n<=xs.length):cL xs (some (n:Int)) none=xs.drop n:=by
 unfold cL
 rw [HT.sIx_none,HT.sIx_nat,Nat.min_eq_left h]
 exact List.take_of_length_le (by simp)
theorem gE {b p:Addr} {M:Mem} (j:Box b M) (q:M p=none):p≠b:=fun z=>by
 obtain ⟨x,y,w,e⟩:=j;rw [<- z,q] at e;cases e
theorem BX:∀ a,a < 7->seven[a]? = some (pa a):=by decide
noncomputable def l3 (p:Pr):List D := [.tup (p.1.map .int), .tup (p.2.1.map .int), .tup (p.2.2.map .int)]
theorem CT {p:Pr} {s:Nat} (h:s < 3):atI (l3 p) (s:Nat)=some (.tup ((at3 p s).map .int)):=by
 match s,h with
 | 0,_=>rfl
 | 1,_=>rfl
 | 2,_=>rfl
theorem BY {p:Pr} {s:Nat} {l:List Int} (h:s < 3):(l3 p).set s (.tup (l.map .int))=l3 (fQ p l s):=by
 match s,h with
 | 0,_=>rfl
 | 1,_=>rfl
 | 2,_=>rfl
theorem BZ:∀ a,a < 7 -> ∀ s,s < 3->(at3 (pa a) s).length=4:=by decide
theorem rH {n:Nat} (hn : 3<=n) {b pk:Addr} {M:Mem} {Q:QD} (hb:Box b M) (L:pk≠b) (ek:M pk=some (.lst (seven.map prD)))
 (q:∀ qs pr M',Spo qs->Bx b M M'->M pr=none->pr≠b->M' pr=some (.lst (qs.map prD))->Q (.ref pr) M'):phi tab n 24 [.ref b, .ref pk] M Q:=by
 refine ar (by lia) rfl rfl (ρ := [some _,some _,none,none,none,none]) rfl ?_
 unfold d24 b24
 walk_at "st"
 refine pH (ag ek) ?_
 walk_at "wp"
 refine cB (by lia) hb (by decide) (by decide) fun a M1 a0 a1 x1 => ?_
 obtain ⟨a,rfl⟩:=Int.eq_ofNat_of_zero_le a0
 have ha:a < 7:=by
  have h7:((seven.map prD).length:Int)=7:=rfl
  rw [h7] at a1;lia
 have l7:(seven.map prD).length=7:=rfl
 have ek:=x1.keep pk _ L ek
 walk_at "st"
 refine cB (by lia) x1.box (by decide) (by decide) fun w M2 _ _ x2 => ?_
 have ek:=x2.keep pk _ L ek
 have x2:=x1.trans x2
 have ez:((a:Int)+1)=((a+1:Nat):Int):=rfl
 walk_at "wp"
 by_cases hw:w=0
 ·rw [if_pos (by simp [hw])]
  walk_at "st"
  refine ⟨_,ek,fun p1 h1 => ?_⟩
  rw [oi (by lia),ez]
  have g1:=Ge.new (o := .lst ((seven.map prD).take a)) h1
  have e1:=ab (M:=M2) (a:=p1) (o := .lst ((seven.map prD).take a))
  generalize af M2 p1 (.lst ((seven.map prD).take a))=M3 at g1 e1 ⊢
  refine ⟨_,g1 _ _ ek,fun p2 h2 => ?_⟩
  rw [oj (by lia)]
  have g2:=Ge.new (o := .lst ((seven.map prD).drop (a+1))) h2
  have e2:=ab (M:=M3) (a:=p2) (o := .lst ((seven.map prD).drop (a+1)))
  generalize af M3 p2 (.lst ((seven.map prD).drop (a+1)))=M4 at g2 e2 ⊢
  have O:=x2.ge (g1.trans g2)
  refine ⟨_,_,g2 _ _ e1,e2,by rw [List.length_take,List.length_drop,l7,sizeLine_eq];lia,fun F U => ?_⟩
  have Y:=gE O.box U
  refine q (sp0 a) F _ (.inl ⟨a,ha,rfl⟩) (O.ge (Ge.new U)) (O.none U Y) Y ?_
  rw [ab];unfold sp0;rw [List.map_append,List.map_take,List.map_drop]
 ·rw [if_neg (by simp [hw])]
  walk_at "st"
  have DE:atI (seven.map prD) (a:Nat)=some (prD (pa a)):=eE (by rw [List.getElem?_map,BX a ha];rfl)
  refine bD ek DE ⟨_,_,rfl,rfl,fun F U => ?_⟩
  have Y:=gE x2.box U
  have DF:pk≠F:=fun z=>by rw [z,U] at ek;cases ek
  have x3:=x2.ge (Ge.new (o := .lst (l3 (pa a))) U)
  have B:af M2 F (.lst (l3 (pa a))) F=_:=ab
  have ek:=(Ge.new (o := .lst (l3 (pa a))) U) _ _ ek
  have DG:M F=none:=x2.none U Y
  show wSs _ _ _ _ (af M2 F (.lst (l3 (pa a))))
  generalize af M2 F (.lst (l3 (pa a)))=M3 at x3 B ek ⊢
  walk_at "st"
  refine cB (by lia) x3.box (by decide) (by decide) fun s M4 s0 s1 O => ?_
  obtain ⟨s,rfl⟩:=Int.eq_ofNat_of_zero_le s0
  have hs:s < 3:=by lia
  have ek:=O.keep pk _ L ek
  have B:=O.keep F _ Y B
  have O:=x3.trans O
  walk_at "st"
  refine bD B (CT hs) ⟨_,_,rfl,rfl,fun G h4 => ?_⟩
  have n4:=gE O.box h4
  have Dx:=ek
  have g5:=Ge.new (o := .lst ((at3 (pa a) s).map .int)) h4
  have x5:=O.ge g5
  have J:af M4 G (.lst ((at3 (pa a) s).map .int)) G=_:=ab
  have ek:=g5 _ _ ek
  have DH:pk≠G:=fun z=>by rw [z,h4] at Dx;cases Dx
  have DI:F≠G:=fun z=>by rw [<- z,B] at h4;cases h4
  have B:=g5 _ _ B
  generalize af M4 G (.lst ((at3 (pa a) s).map .int))=M5 at x5 J ek B ⊢
  walk_at "st"
  refine cB (by lia) x5.box (by decide) (by decide) fun x M6 y0 y1 x6 => ?_
  obtain ⟨x,rfl⟩:=Int.eq_ofNat_of_zero_le y0
  have hx:x < 4:=by lia
  have ek:=x6.keep pk _ L ek
  have B:=x6.keep F _ Y B
  have J:=x6.keep G _ n4 J
  have x6:=x5.trans x6
  have hlen:=BZ a ha s hs
  have DJ:(at3 (pa a) s)[x]? = some ((at3 (pa a) s).getD x 0):=by
   rw [List.getD_eq_getElem?_getD,List.getElem?_eq_getElem (by lia)];rfl
  refine ⟨G,_,_, .int ((at3 (pa a) s).getD x 0),rfl,rfl,J,eE (by rw [List.getElem?_map,DJ];rfl), ?_⟩
  refine ⟨by rw [sizeLine_eq];lia,fun p5 h5 => ?_⟩
  have n5:=gE x6.box h5
  have Z:=Ge.new (o := .lst [.int 1, .int (-1), .int 3]) h5
  have x7:=x6.ge Z
  have e5:af M6 p5 (.lst [.int 1, .int (-1), .int 3]) p5=_:=ab
  have ek:=Z _ _ ek
  have B:=Z _ _ B
  have J:=Z _ _ J
  generalize af M6 p5 (.lst [.int 1, .int (-1), .int 3])=M7 at x7 e5 ek B J ⊢
  refine cB (by lia) x7.box (by decide) (by decide) fun v M8 v0 v1 x8 => ?_
  have ek:=x8.keep pk _ L ek
  have B:=x8.keep F _ Y B
  have J:=x8.keep G _ n4 J
  have e5:=x8.keep p5 _ n5 e5
  have x8:=x7.trans x8
  obtain ⟨d,hd,DK⟩:∃ d,d∈[(1:Int), -1,3]/\atI [D.int 1, .int (-1), .int 3] v=some (.int d):=by
   have:v=0∨v=1∨v=2:=by lia
   rcases this with rfl | rfl | rfl
   ·exact ⟨1,by decide,rfl⟩
   ·exact ⟨-1,by decide,rfl⟩
   ·exact ⟨3,by decide,rfl⟩
  refine bD e5 DK ?_
  walk_at "wp"
  refine bX J (j:=x) (by rw [List.length_map];exact jV (by lia)) ?_
  rw [<- List.map_set]
  have DL:M G=none:=O.none h4 n4
  have J:af M8 G (.lst (((at3 (pa a) s).set x ((at3 (pa a) s).getD x 0+d)).map .int)) G=_:=ab
  have ek:af M8 G (.lst (((at3 (pa a) s).set x ((at3 (pa a) s).getD x 0+d)).map .int)) pk=_:=(aq DH).trans ek
  have B:af M8 G (.lst (((at3 (pa a) s).set x ((at3 (pa a) s).getD x 0+d)).map .int)) F=_:=(aq DI).trans B
  have x9:Bx b M (af M8 G (.lst (((at3 (pa a) s).set x ((at3 (pa a) s).getD x 0+d)).map .int))):=x8.upd DL n4
  generalize af M8 G (.lst (((at3 (pa a) s).set x ((at3 (pa a) s).getD x 0+d)).map .int))=M9 at x9 J ek B ⊢
  walk_at "st"
  refine ⟨_,_,rfl,ag J,bX B (j:=s) (jV hs) ?_⟩
  rw [BY hs]
  have Dv:af M9 F (.lst (l3 (fQ (pa a) ((at3 (pa a) s).set x ((at3 (pa a) s).getD x 0+d)) s))) F=_:=ab
  have ek:af M9 F (.lst (l3 (fQ (pa a) ((at3 (pa a) s).set x ((at3 (pa a) s).getD x 0+d)) s))) pk=_:=(aq DF).trans ek
  have Dy:Bx b M (af M9 F (.lst (l3 (fQ (pa a) ((at3 (pa a) s).set x ((at3 (pa a) s).getD x 0+d)) s)))):=x9.upd DG Y
  generalize af M9 F (.lst (l3 (fQ (pa a) ((at3 (pa a) s).set x ((at3 (pa a) s).getD x 0+d)) s)))=Dz at Dy Dv ek ⊢
  have hq:Spo (sp1 a s x d) := .inr ⟨a,s,x,d,ha,hs,hx,hd,rfl⟩
  have DA:(sp1 a s x d).map prD=(seven.map prD).take a++[.tup (l3 (fQ (pa a) ((at3 (pa a) s).set x ((at3 (pa a) s).getD x 0+d)) s))]++(seven.map prD).drop (a+1):=by
   unfold sp1 BS
   rw [List.map_append,List.map_append,List.map_take,List.map_drop];rfl
  generalize l3 (fQ (pa a) ((at3 (pa a) s).set x ((at3 (pa a) s).getD x 0+d)) s)=ll at Dv DA ⊢
  walk_at "st"
  refine ⟨_,ek,fun p6 h6 => ?_⟩
  rw [oi (by lia),ez]
  have g6:=Ge.new (o := .lst ((seven.map prD).take a)) h6
  have e6:=ab (M:=Dz) (a:=p6) (o := .lst ((seven.map prD).take a))
  generalize af Dz p6 (.lst ((seven.map prD).take a))=DB at g6 e6 ⊢
  refine ⟨_,_,rfl,ag (g6 _ _ Dv),by rw [sizeLine_eq];lia,fun p7 h7 => ?_⟩
  have Z:=Ge.new (o := .lst [.tup ll]) h7
  have e7:=ab (M:=DB) (a:=p7) (o := .lst [.tup ll])
  generalize af DB p7 (.lst [.tup ll])=DC at Z e7 ⊢
  refine ⟨_,_,Z _ _ e6,e7,by rw [List.length_take,l7,sizeLine_eq];simp;lia,fun p8 h8 => ?_⟩
  have g8:=Ge.new (o := .lst ((seven.map prD).take a++[.tup ll])) h8
  have e8:=ab (M:=DC) (a:=p8) (o := .lst ((seven.map prD).take a++[.tup ll]))
  generalize af DC p8 (.lst ((seven.map prD).take a++[.tup ll]))=DD at g8 e8 ⊢
  have g8:=g6.trans (Z.trans g8)
  refine ⟨_,g8 _ _ ek,fun p9 h9 => ?_⟩
  rw [oj (by lia)]
  have g9:=Ge.new (o := .lst ((seven.map prD).drop (a+1))) h9
  have e9:=ab (M:=DD) (a:=p9) (o := .lst ((seven.map prD).drop (a+1)))
  generalize af DD p9 (.lst ((seven.map prD).drop (a+1)))=M14 at g9 e9 ⊢
  have Dw:=Dy.ge (g8.trans g9)
  refine ⟨_,_,g9 _ _ e8,e9,by rw [List.length_append,List.length_take,List.length_drop,l7,sizeLine_eq];simp;lia,fun pz hz => ?_⟩
  have nz:=gE Dw.box hz
  refine q _ pz _ hq (Dw.ge (Ge.new hz)) (Dw.none hz nz) nz ?_
  rw [ab,DA]
theorem rJ {a b c d e f g h:Int}:bM [a,b,c,d] [e,f,g,h] 4 seven=[a*e+b*g,a*f+b*h,c*e+d*g,c*f+d*h]:=by
 rw [<- xw (L0 := 4) (L1 := 4) (rs:=aK 2 2 2) (fun k=>by obtain ⟨k,i,j⟩:=k;rw [A4,nX]) (fun p q=>⟨(bY p q).l0,(bY p q).l1⟩) rfl rfl]
 simp [val,vk,aK,dC,dB,gi,List.range_succ,List.filter]
theorem q0 {l:List Int} {i:Nat} (j:l.length=4) (hi:i < 4):dot l (one 4 (i:Nat))=gz l (i:Nat):=by
 match l,j with
 | [a,b,c,d],_ =>
  have:i=0∨i=1∨i=2∨i=3:=by lia
  rcases this with rfl | rfl | rfl | rfl <;> simp [dot,one,gz,List.range_succ]
theorem xE {qs:List Pr} (q:∀ p∈qs,PrOk 4 4 4 p) {k i j:Nat} (B:k < 4) (hi:i < 4) (F:j < 4):(bM (one 4 (i:Nat)) (one 4 (j:Nat)) 4 qs)[k]? = some (Tn qs (k:Nat) (i:Nat) (j:Nat)):=by
 unfold bM Tn
 rw [List.getElem?_map,List.getElem?_range B]
 rw [Option.map_some]
 congr 1
 show (List.map _ qs).sum=_
 congr 1
 refine List.map_congr_left fun p z => ?_
 unfold ik
 rw [q0 (q p z).l0 hi,q0 (q p z).l1 F, <- pU]
 simp only [Int.mul_comm,Int.mul_left_comm,Int.mul_assoc]
theorem C0:∀ k i j:Fin 4,vk (aK 2 2 2) (one 4 (i.val:Nat)) (one 4 (j.val:Nat)) (k.val:Nat)=cf (aK 2 2 2) (((k.val:Nat):Int),((i.val:Nat):Int),((j.val:Nat):Int)):=by decide +kernel
theorem Ae {rs:List Tm} (z:IsTask (aK 2 2 2) rs) {k i j:Nat} (q:k < 4) (hi:i < 4) (B:j < 4):(val rs (one 4 (i:Nat)) (one 4 (j:Nat)) 4)[k]? = some (cf (aK 2 2 2) (((k:Nat):Int),((i:Nat):Int),((j:Nat):Int))):=by
 rw [gx q,ye z.cf,C0 ⟨k,q⟩ ⟨i,hi⟩ ⟨j,B⟩]
theorem jW {i:Int}:Big (one 4 i):=fun x hx=>by
 unfold one at hx
 obtain ⟨h,_,rfl⟩:=List.mem_map.mp hx
 split <;> lia
theorem lB {M:Mem} {p:Addr} {l:List Int} (h:M p=some (.lst (l.map .int))):rb 16 M (.ref p)=some (.list (l.map .int)):=by rw [jg h,jM];rfl
theorem uQ:∀ {a b:List Int},PyData.eqvAll (a.map .int) (b.map .int)=decide (a=b)
 | [],[] => by simp [PyData.eqvAll]
 | [],_::_=>by simp [PyData.eqvAll]
 | _::_,[] => by simp [PyData.eqvAll]
 | x::a,y::b=>by
   rw [List.map_cons,List.map_cons,PyData.eqvAll,uQ]
   simp [PyData.eqv,Bool.decide_and]
   rfl
structure K3s (pt pf pk:Addr) (rs:List Tm) (M:Mem):Prop where
 t:M pt=some (.lst (rs.map tmD))
 f:M pf=some (.lst (seven.map prD))
 k:M pk=some (.lst (seven.map prD))
theorem K3s.ge {pt pf pk:Addr} {rs:List Tm} {M M':Mem} (h:K3s pt pf pk rs M) (g:Ge M M'):K3s pt pf pk rs M':=⟨g _ _ h.t,g _ _ h.f,g _ _ h.k⟩
theorem K3s.bx {pt pf pk b:Addr} {rs:List Tm} {M j M':Mem} (h:K3s pt pf pk rs M) (x:Bx b M M') (h0:K3s pt pf pk rs j) (n:j b=none):K3s pt pf pk rs M':=by
 have ne:∀ {a:Addr} {u:O},j a=some u->a≠b:=fun e z=>by rw [z,n] at e;cases e
 exact ⟨x.keep _ _ (ne h0.t) h.t,x.keep _ _ (ne h0.f) h.f,x.keep _ _ (ne h0.k) h.k⟩
theorem K3s.upd {pt pf pk x:Addr} {rs:List Tm} {M M':Mem} {o:O} (h:K3s pt pf pk rs M) (h':K3s pt pf pk rs M') (n:M x=none):K3s pt pf pk rs (af M' x o):=by
 have ne:∀ {a:Addr} {u:O},M a=some u->a≠x:=fun e z=>by rw [z,n] at e;cases e
 exact ⟨(aq (ne h.t)).trans h'.t,(aq (ne h.f)).trans h'.f,(aq (ne h.k)).trans h'.k⟩
theorem C1 {ns:List Int} (h:ns.length=4):∃ a b c d,ns=[a,b,c,d]:=by
 match ns,h with
 | [a,b,c,d],_=>exact ⟨a,b,c,d,rfl⟩
theorem Af {rs:List Tm} (q:IsTask (aK 2 2 2) rs):InB rs 4 4 4/\rs.length<=8:=by
 have d:∀ t∈aK 2 2 2,((0<=t.1.1/\t.1.1 < 4)/\(0<=t.1.2.1/\t.1.2.1 < 4)/\(0<=t.1.2.2/\t.1.2.2 < 4))/\t.2=1:=by decide
 have hs:∀ r∈rs,r∈aK 2 2 2:=fun r j=>q.sub uI j
 refine ⟨⟨fun r j=>(d r (hs r j)).1.1,fun r j=>(d r (hs r j)).1.2.1,fun r j=>(d r (hs r j)).1.2.2,fun r j=>by rw [(d r (hs r j)).2];decide⟩, ?_⟩
 have:=q.len
 exact this
theorem uR {n:Nat} (j : 1<=n) {x y z:D} {p:Addr} {M:Mem} {Q:QD} (ep:M p=some (.lst (seven.map prD))) (q:Q (.int 7) M):phi tab n 10 [.tup [x,y,z, .ref p]] M Q:=by
 refine ar (by lia) rfl rfl (ρ := [some _]) rfl ?_
 unfold d10 b10
 walk_at "st"
 exact ⟨_,rfl,pH (ag ep) q⟩
theorem C2 {b:Addr} {M M':Mem} (g:Ge M M') (h:Box b M):Box b M':=by
 obtain ⟨x,y,z,e⟩:=h
 exact ⟨x,y,z,g _ _ e⟩
theorem law_holds (ns:List Int) (hl:ns.length<=63):phi tab 40 25 [.con (ns.map D.int)] (fun _=>none) fun d _=>d = .bl true:=by
 refine ar (by lia) rfl rfl (ρ := [some _,none,none,none,none,none,none,none,none,none]) rfl ?_
 unfold d25 b25
 walk_at "st"
 refine xq (s:=ai 3) (s':=ai 1) (ft := 0) (n := 2) (m := 2) (p := 2) rfl rfl (by lia) (by lia) (by lia) (by lia) fun rs pt M1 ht g1 _ et => ?_
 obtain ⟨hB,DU⟩:=Af ht
 walk_at "st"
 refine dR (by lia) fun pf Dv => ?_
 have g2:=Ge.new (o := .lst (seven.map prD)) Dv
 have ef:=ab (M:=M1) (a:=pf) (o := .lst (seven.map prD))
 generalize af M1 pf (.lst (seven.map prD))=M2 at g2 ef ⊢
 have et:=g2 _ _ et
 walk_at "st"
 refine ⟨_,rfl,_,_,rfl,ag ef,fun pk Dw => ?_⟩
 have g3:=Ge.new (o := .lst (seven.map prD)) Dw
 have h3:K3s pt pf pk rs (af M2 pk (.lst (seven.map prD))):=⟨g3 _ _ et,g3 _ _ ef,ab⟩
 generalize af M2 pk (.lst (seven.map prD))=M3 at g3 h3 ⊢
 clear g1 g2 g3 et ef Dv Dw
 walk_at "st"
 refine Ab (s:=ai 11) (sl:=ai 8) (sq:=ai 10) (sp:=ai 9) (sn:=ai 7) (fl := 4) (fq := 6) (fp := 5) (fn := 3) (L0 := 4) (L1 := 4) (N := 4) rfl rfl rfl rfl rfl (by lia) (by lia) (by lia) (by lia) (by decide) (fun p hp=>⟨(bY p hp).l0,(bY p hp).l1,(bY p hp).l2⟩) h3.f fun M4 g4=>⟨_,rfl,_,rfl, ?_⟩
 rw [if_neg (by decide)]
 have h4:=h3.ge g4
 refine uR (by lia) h4.f ?_
 walk_at "wp"
 rw [if_neg (by decide)]
 refine ⟨by rw [sizeLine_eq];lia,_,_,rfl,rfl, ?_⟩
 refine ⟨false,rfl, ?_⟩
 rw [if_neg (by decide)]
 refine oh (by lia) (by decide) bY ht h4.f h4.t fun b M5 g5 hb => ?_
 have DI:b=true:=hb.mpr fun k i j=>nX
 subst DI
 have h5:=h4.ge g5
 refine ⟨_,rfl,_,rfl, ?_⟩
 rw [if_neg (by decide)]
 walk_at "st"
 rw [List.length_map]
 refine ⟨by split <;> lia,by split <;> lia, ?_⟩
 refine bE (I:=fun l ρ M'=>(∃ o4 o5 o6 o7 o8 o9, ρ = [some (.con (ns.map D.int)),some (.tup [.int 4, .int 4, .int 4, .ref pt]),some (.tup [.int 4, .int 4, .int 4, .ref pf]),some (.ref pk),o4,o5,o6,o7,o8,o9])/\K3s pt pf pk rs M') cX ⟨⟨_,_,_,_,_,_,rfl⟩,h5⟩ (fun _ _ _ _=>trivial) ?_ ?_
 ·rintro l k r ρ M6 e ⟨⟨o4,o5,o6,o7,o8,o9,rfl⟩,U⟩
  refine ⟨_,rfl,fun F hF => ?_⟩
  walk_at "st"
  refine BK (s:=ai 27) (fc := 18) (fm := 19) (sc:=ai 25) rfl rfl (pW (by lia)) (by lia) (by lia) fun bx x y G => ?_
  have Y:=U.ge (Ge.new (o := .lst [.int x, .int y, .int 0]) G)
  have b7:Box bx (af M6 bx (.lst [.int x, .int y, .int 0])):=⟨_,_,_,ab⟩
  generalize af M6 bx (.lst [.int x, .int y, .int 0])=M7 at Y b7 ⊢
  walk_at "st"
  refine pX (L := 4) (by lia) (by lia) b7 fun n1 p1 M8 l1 B1 x8 DJ e1 => ?_
  have h8:=Y.bx x8 U G
  have DK:p1≠bx:=gE b7 DJ
  refine pX (L := 4) (by lia) (by lia) x8.box fun n2 p2 M9 l2 B2 x9 DV e2 => ?_
  have h9:=h8.bx x9 U G
  have e1:=x9.keep p1 _ DK e1
  have x9:=x9.box
  clear x8 h8 Y b7
  obtain ⟨a,b,c,d,rfl⟩:=C1 l1
  obtain ⟨e',f,g,h,rfl⟩:=C1 l2
  walk_at "st"
  refine dR (by lia) fun ps Dx => ?_
  have q:=Ge.new (o := .lst (seven.map prD)) Dx
  have es:=ab (M:=M9) (a:=ps) (o := .lst (seven.map prD))
  generalize af M9 ps (.lst (seven.map prD))=M10 at q es ⊢
  refine pT (s:=ai 13) (s2:=ai 12) (fp := 8) (L0 := 4) (L1 := 4) (L2 := 4) rfl rfl (by lia) (by lia) (by lia) (by lia) bY es (ag (q _ _ e1)) (ag (q _ _ e2)) B1 B2 fun DL pa J npa ea => ?_
  rw [rJ] at ea
  refine xD (by lia) B1 B2 (J _ _ (q _ _ e1)) (J _ _ (q _ _ e2)) fun pb Dy => ?_
  have B:=Ge.new (o := .lst ([a*e'+b*g,a*f+b*h,c*e'+d*g,c*f+d*h].map .int)) Dy
  refine ⟨_,_,lB (B _ _ ea),lB ab, ?_⟩
  generalize af DL pb (.lst ([a*e'+b*g,a*f+b*h,c*e'+d*g,c*f+d*h].map .int))=M12 at B ⊢
  rw [xo]
  refine ⟨_,rfl, ?_⟩
  rw [if_neg (by decide)]
  have B:=q.trans (J.trans B)
  have Dz:=h9.ge B
  have DM:=C2 B x9
  clear q J B h9 ea es e1 e2 Dx Dy npa
  have DN:pk≠bx:=fun z=>by have:=U.k;rw [z,G] at this;cases this
  walk_at "st"
  refine rH (by lia) DM DN Dz.k fun qs pr DO hS DP npr nprb er => ?_
  have DA:=Dz.bx DP U G
  refine ⟨by rw [sizeLine_eq];lia, .inr trivial,by rw [sizeLine_eq];simp [cL,HT.sIx], ?_⟩
  show wSs _ _ _ [_,_,_,_,_,_,_,_,some (.tup [.int 4, .int 4, .int 4, .ref pr]),_] DO
  have DB:=hS.len
  have hok:=hS.ok
  walk_at "st"
  refine uP (by lia) DB hok hS.dif ht (by lia) er DA.t fun k' i j pa pb DW hk hi hj hd DC ea eb => ?_
  have er:=DC _ _ er
  have DD:=DA.ge DC
  walk_at "st"
  refine oh (by lia) DB hok ht er DD.t fun b15 DX O DE => ?_
  have DQ:b15=false:=by
   cases b15 with
   | false=>rfl
   | true=>exact absurd (DE.mp rfl _ _ _) hd
  subst DQ
  have er:=O _ _ er
  have DR:=DD.ge O
  have ea:=O _ _ ea
  have eb:=O _ _ eb
  refine ⟨_,rfl,_,rfl, ?_⟩
  rw [if_neg (by decide)]
  walk_at "wp"
  refine ⟨false,rfl,_,rfl, ?_⟩
  rw [if_neg (by decide)]
  walk_at "st"
  refine ⟨_,rfl,_,rfl, ?_⟩
  refine pT (s:=ai 13) (s2:=ai 12) (fp := 8) (L0 := 4) (L1 := 4) (L2 := 4) rfl rfl (by lia) (by lia) (by lia) (by lia) hok er (ag ea) (ag eb) jW jW fun DY pc Z npc ec => ?_
  have DF:=DR.ge Z
  have ea:=Z _ _ ea
  have eb:=Z _ _ eb
  refine ⟨_,rfl,_,rfl, ?_⟩
  refine xk (s:=ai 2) (N := 4) rfl (by lia) DF.t (ag ea) (ag eb) (by lia) (by rw [pS,pS];exact hB) (fun x hx=>by have:=jW x hx;lia) fun pd DZ DG npd ed => ?_
  have DH:=DF.ge DG
  refine ⟨_,_,lB (DG _ _ ec),lB ed, ?_⟩
  have DS:PyData.eqv (.list ((bM (one 4 (i:Nat)) (one 4 (j:Nat)) 4 qs).map .int)) (.list ((val rs (one 4 (i:Nat)) (one 4 (j:Nat)) 4).map .int))=false:=by
   rw [PyData.eqv,uQ,decide_eq_false_iff_not]
   intro z
   have z1:=xE hok hk hi hj
   rw [z,Ae ht hk hi hj] at z1
   exact hd (Option.some.inj z1).symm
  rw [DS]
  refine ⟨_,rfl, ?_⟩
  rw [if_neg (by decide)]
  walk_at "st"
  refine dR (by lia) fun pz hz => ?_
  refine ⟨_,_,rfl,rfl,⟨_,rfl,_,ab⟩,pz,_,rfl,rfl,ab, ?_⟩
  have DT:=DH.ge (Ge.new (o := .lst (seven.map prD)) hz)
  exact hF _ _ ⟨⟨_,_,_,_,_,_,rfl⟩,DH.upd DT hz⟩
 ·rintro ρ M6 ⟨⟨o4,o5,o6,o7,o8,o9,rfl⟩,U⟩
  dsimp only
  walk_at "st"
  refine dR (by lia) fun pz hz => ?_
  have g7:=Ge.new (o := .lst (seven.map prD)) hz
  have Y:=U.ge g7
  refine ⟨_,_,yh Y.f,yh ab, ?_⟩
  rw [show PyData.eqv (.tuple [.int 4, .int 4, .int 4, .list (seven.map cy)]) (.tuple [.int 4, .int 4, .int 4, .list (seven.map cy)])=true by simp [PyData.eqv,PyData.eqvAll,xz]]
  refine ⟨_,rfl, ?_⟩
  rw [if_pos rfl]
  refine ⟨_,rfl,_,_,yg Y.f,yg Y.k, ?_⟩
  rw [show PyData.eqv (.list (seven.map cy)) (.list (seven.map cy))=true by simp [PyData.eqv,xz]]
end K14
end
end
end Mi
end L2
namespace PySem.W.Fast
theorem tw7386334635089438925:True:=trivial
theorem tw6718494904053534897:True:=trivial
theorem tw3691921975537994925:True:=trivial
theorem tw15505458922085330629:True:=trivial
theorem tw1329025264120255436:True:=trivial
theorem tw16129799423827053357:True:=trivial
theorem tw1561218890097883284:True:=trivial
theorem tw6597979568301397960:True:=trivial
theorem tw10645171621095462390:True:=trivial
theorem tw16473833576897132833:True:=trivial
theorem tw3810011505269859706:True:=trivial
theorem tw11259040580076287641:True:=trivial
theorem tw1137843521123922769:True:=trivial
theorem tw12165994024956281904:True:=trivial
theorem tw18158320412224089833:True:=trivial
theorem tw11474939391708932684:True:=trivial
theorem tw8023182079174835348:True:=trivial
theorem tw14277581509024315055:True:=trivial
theorem tw15967460313758101501:True:=trivial
theorem tw14007047503210915323:True:=trivial
theorem tw16536582203701278345:True:=trivial
theorem tw8618851686847485370:True:=trivial
theorem tw4643896290217450251:True:=trivial
theorem tw14853998457727226807:True:=trivial
theorem tw3992601325828894746:True:=trivial
theorem tw12010412575642868359:True:=trivial
theorem tw14742153239953989872:True:=trivial
theorem tw8818550842153916836:True:=trivial
theorem tw16549401911155750350:True:=trivial
theorem tw2253067664773343779:True:=trivial
theorem tw15568201720195188950:True:=trivial
theorem tw8501540907538648393:True:=trivial
theorem tw8195231737447104674:True:=trivial
theorem tw11035849761812933514:True:=trivial
theorem tw15308250713127885164:True:=trivial
theorem tw10220229906325001221:True:=trivial
theorem tw13976475083265976356:True:=trivial
theorem tw18022747745118364773:True:=trivial
theorem tw6130140095668394763:True:=trivial
theorem tw5914740225670123949:True:=trivial
theorem tw12122693151110349228:True:=trivial
theorem tw582558556012422939:True:=trivial
theorem tw13180849589253744462:True:=trivial
theorem tw18193176044300366790:True:=trivial
theorem tw2221045482813069532:True:=trivial
theorem tw14336659047106006393:True:=trivial
theorem tw4959725809123937623:True:=trivial
theorem tw113789005469715951:True:=trivial
theorem tw352780116382442636:True:=trivial
theorem tw12715787365248435658:True:=trivial
theorem tw15183562537200784769:True:=trivial
theorem tw13792665814030437577:True:=trivial
theorem tw15147051061467162763:True:=trivial
theorem tw2525813584971060774:True:=trivial
theorem tw14456019494881464828:True:=trivial
theorem tw1678171485460970568:True:=trivial
theorem tw590437461816655429:True:=trivial
theorem tw1463172267212527349:True:=trivial
theorem tw4241965255396320856:True:=trivial
theorem tw14414879984376927001:True:=trivial
theorem tw5310884768739623170:True:=trivial
theorem tw2776571349119488513:True:=trivial
theorem tw8205712761966486393:True:=trivial
theorem tw6165467072831650718:True:=trivial
theorem tw3760716772752967553:True:=trivial
theorem tw5097408614112811430:True:=trivial
theorem tw17628229358478393836:True:=trivial
end PySem.W.Fast
open PySem.W in
set_option maxRecDepth 100000 in
set_option maxHeartbeats 0 in
theorem PySem.Challenge.cw_fewtimes_k14_seven_products_holds : PySem.Challenge.rw_fewtimes_k14_seven_products.Holds := by
 w_on;o_law;k_head;(case hw=>w_witness2)
 k_fill
 refine L2.Mi.K14.walk (l:=PySem.Challenge.rw_fewtimes_k14_seven_products) rfl rfl L2.Mi.K14.law_holds (fun w h Y=>PySem.W.kIn_of Y) ?F
 case F =>
  intro w mg fa h KX G hmg
  refine' L2.Mi.K14.all_mk KX G hmg ?z ?_ ?_ ?_ ?_ ?_ ?_ ?_ ?_ ?_ ?_ ?_ ?_ ?_ ?_ ?_ ?_ ?_ ?_ ?_ ?_ ?_ ?_ ?_ ?_ ?_ ?_ ?_ ?_ ?_ ?_ ?_ ?_ ?_ ?_ ?_ ?_ ?_ ?_ ?_ ?_ ?_ ?_ ?_ ?_ ?_ ?_ ?_ ?_ ?_ ?_ ?_ ?_ ?_ ?_ ?_ ?_ ?_ ?_ ?_ ?_ ?_ ?_ ?_ ?_ ?_ ?_ ?_ ?_ ?_ ?_ ?_ ?_ ?_ ?_ ?_ ?_ ?_ ?_ ?_ ?_ ?_ ?_ ?_ ?_ ?_ ?_ ?_ ?_ ?_ ?_ ?_ ?_ ?_ ?_ ?_ ?_ ?_ ?_ ?_ ?_ ?_ ?_ ?_ ?_ ?_ ?_ ?_ ?_ ?_ ?_ ?_ ?_ ?_ ?_ ?_ ?_ ?_ ?_ ?_ ?_ ?_ ?_ ?_ ?_ ?_ ?_ ?_ ?_ ?_ ?_ ?_ ?_ ?_ ?_ ?_ ?_
  case z =>
   intro x hx
   simp only [L2.Mi.bltNames,List.mem_cons,List.not_mem_nil,or_false] at hx
   rcases hx with rfl | rfl | rfl | rfl | rfl | rfl | rfl | rfl | rfl | rfl | rfl | rfl | rfl | rfl | rfl | rfl | rfl | rfl | rfl | rfl <;> k_is
  all_goals try (show _=_;k_is)
